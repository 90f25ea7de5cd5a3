import PyProof.Rows.All
import Wide.All
import OpenK.AllK
import Wide.FinOn
import PyProof.EqAt
import PyProof.EqKinds
import PyProof.TupleCall
import HandS.ForMost
import HandS.ForExc
import HandS.Conv
import HandS.IsInst
import HandS.MakeKwOnly
import HandS.TupMul
import HandS.TupAny
import HandS.Wide
import HandS.ExcInit
import HandS.ExcField
import HandS.ExcIs
import HandS.Evl
import HandS.OwnIter
import HandS.ExcCtx
import HandS.HotCalls
import HandS.ExcInitHot
import HandS.RevRange
import HandS.Style
import PyProof.ListRange
import KE.DataMinMax
import HandS.SortKw
import HandS.ExcValue
import HandS.SetFor
import HandS.Strs
import HandS.Deep
import PyProof.Rows.SetFrom
import KE.GoesMore
import PyProof.EnumMake
import PyProof.Draws
import HandS.Head0
import HandS.Head1
import HandS.Head2
import HandS.HeadEnd
import HandS.HeadHook1
import HandS.HeadHook2
import PySem.Challenge.RW_retinue_k26_whole_outcomes
set_option Elab.async false
set_option linter.all false
set_option maxRecDepth 100000
set_option maxHeartbeats 4000000
/-! Rules of our own, for every law of this program: len of an instance by its own __len__; a def of the top known by its promise. -/
namespace Rt
open PySem PySem.Spec PyProof.Rows L2

/-! ### a def of the top, known by its promise -/
structure DefOk (P : Program) (w : World) (K : PySem.W.Frag) (mg : Str → Option Value) (base : Heap) (CX : CXT) (k : Nat) (x : Str) (ps : List Str) (sp : Sp) : Prop where
  ex : ∃ (f : Addr) (fd : FuncData), mg x = some (.ref f) ∧ PySem.W.keepIn K (.ref f) = true ∧ FnOk P w K mg base CX k f fd ps sp ∧ Binds K fd ps []
section
variable {X : Cx} {CX : CXT} {k j : Nat} {x : Str} {ps : List Str} {sp : Sp} {E : XK} {p pos : Pos} {e : Expr} {es : List Expr} {t : TA}
theorem DefOk.mono {P : Program} {w : World} {K : PySem.W.Frag} {mg : Str → Option Value} {base : Heap} (D : DefOk P w K mg base CX j x ps sp) (h : j ≤ k) : DefOk P w K mg base CX k x ps sp := by
  obtain ⟨f, fd, a, b, c, d⟩ := D.ex
  exact ⟨f, fd, a, b, c.mono h, d⟩
theorem pe_callD (D : DefOk X.prog X.w X.K X.mg X.base CX k x ps sp) (hr : Room k X.A) (hx : Passes CX X E) (ha : PA X (e :: es) t) (hg : Gl X x := by rfl) (hdb : (x == ("__debug__" : Str)) = false := by decide)
    (he : starEach (e :: es) X.env = (false, eval e X.env) :: starEach es X.env := by rfl) (hpl : (backTo pos (starEach es X.env)).any (·.1) = false := by rfl) : PE X (.Call (.Name x p) (e :: es) [] pos) (tCall sp [] E t) := by
  obtain ⟨f, fd, a, b, c, d⟩ := D.ex
  exact pe_call c hr hg a b d .nil hx ha hdb he hpl
theorem pe_callDS {E : L2.St → XK} (D : DefOk X.prog X.w X.K X.mg X.base CX k x ps sp) (hr : Room k X.A) (hx : ∀ σ : L2.St, PassesAt CX X σ (E σ)) (ha : PA X (e :: es) t) (hg : Gl X x := by rfl) (hdb : (x == ("__debug__" : Str)) = false := by decide)
    (he : starEach (e :: es) X.env = (false, eval e X.env) :: starEach es X.env := by rfl) (hpl : (backTo pos (starEach es X.env)).any (·.1) = false := by rfl) : PE X (.Call (.Name x p) (e :: es) [] pos) (tCallS sp E t) := by
  obtain ⟨f, fd, a, b, c, d⟩ := D.ex
  exact pe_callS c hr hg a b d hx ha hdb he hpl
end

/-! ### len of an instance whose class has __len__ -/
/-- the def at f is the __len__ of the class at C -/
structure LenC (K : PySem.W.Frag) (C f : Addr) : Prop where
  ln : PySem.W.findIn K (.ref C) "__len__" = some (some (.ref f))
  lnF : PySem.W.isFn K (.ref f) = true
section
variable {X : Cx} {CX : CXT} {k : Nat} {f C : Addr} {fd : FuncData} {ps : List Str} {sp : Sp} {E : XK}
theorem run_fn' {pins : List (Addr × Obj)} {σ : L2.St} {H : Hp} {s : Shared} {Q : VK} {us : List Value} {vs : List V} {A1 : Around} (F : FnOk X.prog X.w X.K X.mg X.base CX k f fd ps sp) (hr : Room k A1) (hA : A1.frames = X.A.frames) (hb : Binds X.K fd ps []) (hx : Passes CX X E)
    (I : Inv X pins σ H s) (r : Vals vs us) (h : sp vs H Q E) : wpAny (model X.prog X.w) A1 (call (.ref f) us) (EP X pins σ Q) X.xe s := by
  have hl : us.length = ps.length := by rw [← r.length]; exact F.len _ _ _ _ h
  have e0 : Env0 X.prog X.w X.K X.mg X.base A1 X.stack s H := by
    have e := I.env0
    exact ⟨by rw [hA]; exact e.frames, e.mod, e.bs, e.bsz, e.funs, e.frf, e.hok, e.bare⟩
  refine wpAny_call (codeAny_mono (F.run A1 X.stack s H ⟨us, []⟩ us vs Q E hr e0 (by have := hb s us I.kIn (by simpa using hl); simpa using this) r h) fun r s' hq => ?_)
  cases r with
  | error e => exact hx pins σ H s e s' I hq
  | ok fl =>
    cases fl with
    | ret u => exact I.after hq
    | next => exact False.elim hq
    | brk => exact False.elim hq
    | cont => exact False.elim hq
def rLenO (C : Addr) (sp : Sp) (E : XK) : List V → Hp → VK → Prop := fun xs H Q => ∃ (a dx : Addr) (fs : List (Str × V)), xs = [.ref a] ∧ H a = some (.ins C dx fs) ∧ sp [.ref a] H (fun v H' => ∃ n : Int, v = .int n ∧ 0 ≤ n ∧ n < 2 ^ 63 ∧ Q (.int n) H') E
theorem call_lenO (c : LenC X.K C f) (F : FnOk X.prog X.w X.K X.mg X.base CX k f fd ps sp) (hr : Room (k + 1) X.A) (hb : Binds X.K fd ps []) (hx : Passes CX X E) : CallR X (.builtin "len") (rLenO C sp E) := by
  intro pins s σ H xs us Q I r h
  obtain ⟨a, dx, fs, rfl, ha, hsp⟩ := h
  obtain ⟨u, rfl, rx⟩ := vals1 r
  cases rx
  obtain ⟨mA, J, _⟩ := ins_get I.hok ha
  obtain ⟨od, J, _⟩ := J.look
  have hK := I.kIn
  refine Calls.call_function_entry PySem.kind_len PySem.plain_len PySem.entry_len (PySem.args_len1 _) ?_
  unfold Builtin.«len»
  refine wpAny_bind (m := oneArg "len" _) (wpAny_pure ?_)
  have fin : wpAny (model X.prog X.w) X.A.in1 (call (.ref f) [.ref a]) (EP X pins σ (fun v H' => ∃ n : Int, v = .int n ∧ 0 ≤ n ∧ n < 2 ^ 63 ∧ Q (.int n) H')) X.xe s := run_fn' F hr.in1 rfl hb hx I (us := [.ref a]) (vs := [V.ref a]) (.cons rfl .nil) hsp
  refine wpAny_bind (m := callSpecial? (.ref a) (Str.ofString "__len__")) ?_
  unfold callSpecial?
  refine wpAny_bind (wpAny_bind (J.type.here ((PySem.W.looks_findIn hK c.ln).here ?_)))
  refine wpAny_holding (wpAny_bind ((PySem.W.bind_fn hK _ (beq_iff_eq.mp c.lnF)).here ?_))
  refine wpAny_bind (wpAny_mono fin (fun v s' hv => ?_) fun _ _ z => z)
  obtain ⟨y, H', I', rv, n, rfl, h0, h1, q⟩ := hv
  obtain ⟨t, rfl⟩ := rv
  refine wpAny_pure ?_
  refine wpAny_bind (wpAny_holding (wpAny_pure ?_))
  refine wpAny_bind (wpAny_letGo ?_)
  show wpAny _ _ (if n < 0 then _ else _) _ _ _
  rw [if_neg (by omega)]
  refine wpAny_bind (wpAny_pure ?_)
  show wpAny _ _ (if n ≥ 2 ^ 63 then _ else _) _ _ _
  rw [if_neg (by omega)]
  refine wpAny_bind (wpAny_mkInt (wpAny_pure ⟨_, rfl, V.int n, H', I'.tok _, ⟨_, rfl⟩, ?_⟩))
  exact q
end

/-! ### C(e, ..) of an own exception class, raised where nothing is handled: its context is None -/
/-- the heap with the arguments' tuple and the bare exception of class C behind it -/
def born (hp : Heap) (C : Addr) (us : List Value) : Heap := (hp.push (PySem.W.kdv_tup us)).push (PySem.HandSPX.excO C hp.objs.size)
/-- where that exception stands -/
def bornAt (hp : Heap) : Addr := hp.objs.size + 1
theorem born_old {hp : Heap} {C : Addr} {us : List Value} {b : Addr} {o : Obj} (h : hp.get? b = some o) : (born hp C us).get? b = some o := by
  unfold born; exact Heap.get?_push_of_some _ (Heap.get?_push_of_some _ h)
theorem born_new {hp : Heap} {C : Addr} {us : List Value} : (born hp C us).get? (bornAt hp) = some (PySem.HandSPX.excO C hp.objs.size) := by
  unfold born bornAt; heap_get
section
variable {X : Cx} {pins : List (Addr × Obj)} {σ : L2.St} {H : Hp} {hp : Heap} {g : Array GenState} {dr : Drawn} {tk : Nat} {os : OsState} {C : Addr} {us : List Value}
theorem born_free (I : L2.Inv X pins σ H ⟨hp, g, dr, tk, os⟩) : H (bornAt hp) = none := I.hok.fresh (Nat.le_succ _)
theorem born_inv (I : L2.Inv X pins σ H ⟨hp, g, dr, tk, os⟩) : L2.Inv X pins σ (upd H (bornAt hp) (exo (bornAt hp) C none)) ⟨born hp C us, g, dr, tk, os⟩ := by
  refine I.laid (a := bornAt hp) (o := exo (bornAt hp) C none) (t' := tk) (h' := born hp C us) ?_ ?_ ?_
  · intro b o h; exact born_old h
  · exact Nat.le_succ _
  · exact exo_ok born_new
end
section
variable {X : Cx} {x : Str} {e : Expr} {es : List Expr} {ta : TA} {p pos : Pos} {C fI : Addr} {k : Nat} {fd : FuncData} {ps : List Str} {sp : Sp} {CX : CXT}
/-- calling the class with values us: the exception is made by its own __init__ -/
theorem oexN_call (T : OexC X.K C) (iC : PySem.W.findIn X.K (.ref C) "__init__" = some (some (.ref fI))) (tI : PySem.W.typeIn X.K (.ref fI) = some (.type "function")) (FI : FnOk X.prog X.w X.K X.mg X.base CX k fI fd ps sp) (room : Room (k + 1) X.A) (bI : L2.Binds X.K fd ps [])
    (px : L2.Passes CX X (fun _ _ _ => False)) {pins : List (Addr × Obj)} {σ : L2.St} {H : Hp} {s : Shared} {us : List Value} {vs : List V} {Q : XK} (I : L2.Inv X pins σ H s) (rv : L2.Vals vs us) (few : vs.length ≤ 1000)
    (want : ∀ a, H a = none → sp (.ref a :: vs) (upd H a (exo a C none))
      (fun v G => v = .non ∧ ∃ (d : Addr) (fs : List (Str × V)), G a = some (exo a C (some d)) ∧ G d = some (exd d fs) ∧ H d = none ∧ Q (.ref C) (some d) (upd (del G a) d (.xd fs))) (fun _ _ _ => False)) :
    wpAny (model X.prog X.w) X.A (call (.ref C) us) (L2N.MkP X pins σ Q) X.xe s := by
  cases s with
  | mk hp g dr tk os =>
  have here := want (bornAt hp) (born_free I)
  have J : L2.Inv X pins σ (upd H (bornAt hp) (exo (bornAt hp) C none)) ⟨born hp C us, g, dr, tk, os⟩ := born_inv I
  have rv1 : L2.Vals (V.ref (bornAt hp) :: vs) (Value.ref (bornAt hp) :: us) := .cons rfl rv
  have nargs : (Value.ref (bornAt hp) :: us).length = ps.length := rv1.length.symm.trans (FI.len _ _ _ _ here)
  have nus : us.length ≤ sizeLine := by have z := rv.length; have y := sizeLine_eq; omega
  have bnd := bI ⟨born hp C us, g, dr, tk, os⟩ (Value.ref (bornAt hp) :: us) J.kIn (by simpa using nargs)
  simp only [List.append_nil] at bnd
  obtain ⟨_, _, _, _, bm, _, _, _, _, _, _, _, _, _, _, atC, bases⟩ := T.cls
  have init := FI.run (X.A.under (.builtin "type.__call__" ⟨.ref C :: us, []⟩)) X.stack _ _ ⟨Value.ref (bornAt hp) :: us, []⟩ _ _ _ (fun _ _ _ => False) (room.make C us []) (J.env0.make C us []) bnd rv1 here
  refine wpAny_call (PySem.HandSPX.call_own F.excBase_ValueError (fun Y => PySem.HandSPX.refsVE_contains Y bm bases) (I.kIn _ _ atC) (PySem.W.looks_findIn I.kIn iC) (fun self => PySem.W.bind_fn I.kIn self tI) nus (codeAny_mono init ?_))
  intro res s2 got
  match res, got with
  | .error er, got => exact px pins σ _ _ er s2 J got
  | .ok (.ret u), got =>
    obtain ⟨v, G, osG, bareG, unG, hokG, ru, isN, d, fs, atE, atD, dNew, fin⟩ := got
    subst isN
    cases s2 with
    | mk h2 g2 d2 t2 o2 =>
    obtain ⟨_, B, K2, keepB, goneB, objE, noE⟩ := mk_end0 (d2 := d2) (t2 := t2) I (Nat.le_succ _) (fun b o h => born_old h) unG hokG osG bareG atE atD dNew
    refine ⟨ru, bornAt hp, _, _, ⟨B, g2, d2, t2, o2⟩, _, .ref C, some d, rfl, K2, keepB, goneB, objE, ⟨rfl, rfl, ?_⟩, rfl, rfl, noE, rfl, bareG, raises_own T.exC T.tyC, fin⟩
    intro fields is
    cases is; rfl
  | .ok .next, got => exact got.elim
  | .ok .brk, got => exact got.elim
  | .ok .cont, got => exact got.elim
theorem pmk_oexN (T : OexC X.K C) (iC : PySem.W.findIn X.K (.ref C) "__init__" = some (some (.ref fI))) (tI : PySem.W.typeIn X.K (.ref fI) = some (.type "function")) (FI : FnOk X.prog X.w X.K X.mg X.base CX k fI fd ps sp) (room : Room (k + 1) X.A) (bI : L2.Binds X.K fd ps [])
    (px : L2.Passes CX X (fun _ _ _ => False)) (hg : Gl X x) (hm : X.mg x = some (.ref C)) (ha : PA X (e :: es) ta) (hdb : (x == ("__debug__" : Str)) = false := by decide)
    (st : starEach (e :: es) X.env = (false, eval e X.env) :: starEach es X.env := by rfl) (pl : (backTo pos (starEach es X.env)).any (·.1) = false := by rfl) : L2N.PMk X (.Call (.Name x p) (e :: es) [] pos) (tMkO C sp [] ta) := by
  intro pins s σ H Q I h
  have step := ha.run pos pins s σ H _ I h
  refine wpAny_Call_Name_kw (ld_glob I hg hm (PySem.W.callWith_K (h₀ := X.base) I.ok.mod.kin T.kC (thn step fun us s1 got => ?_) st pl) hdb)
  obtain ⟨vs, H1, I1, rv, few, want⟩ := got
  simp only [List.append_nil] at want
  exact ⟨I1.kIn, oexN_call T iC tI FI room bI px I1 rv few want⟩
end
end Rt
set_option Elab.async false
set_option linter.all false
set_option maxRecDepth 100000
set_option maxHeartbeats 4000000
/-! Readings step by step: one lemma a construct, its conclusion the construct's reading. -/
namespace Rt
open PySem PySem.Spec L2
open PyProof.Rows (envOfC)
abbrev St0 := L2.St

/-! ### heaps that grow -/
theorem _root_.L2.Same.new {H : Hp} {p : Addr} {o : HO} (h : H p = none) : Same H (upd H p o) := fun a u e => by
  rw [upd_ne (ne_of_none e h)]; exact e
theorem _root_.L2.Same.newS {H H' : Hp} {p : Addr} {o : HO} (s : Same H H') (h : H' p = none) : Same H (upd H' p o) := s.trans (Same.new h)
theorem _root_.L2.Same.mut {H H' : Hp} {p : Addr} {o : HO} (s : Same H H') (h : H p = none) : Same H (upd H' p o) := fun a u e => by
  rw [upd_ne (ne_of_none e h)]; exact s a u e
theorem _root_.L2.Same.tup {K : PySem.W.Frag} {H H' : Hp} {a : Addr} {xs : List V} (e : Same H H') (h : SqT K H a xs) : SqT K H' a xs := by
  rcases h with (h | ⟨o, h⟩) | h
  · exact .inl (.inl (e _ _ h))
  · exact .inl (.inr ⟨o, e _ _ h⟩)
  · exact .inr h

section
variable {σ : L2.St} {H : Hp} {D : Ends} {Q : VK} {QT : Bool → Hp → Prop} {QA : List V → Hp → Prop} {QS : L2.St → Hp → Prop} {ta tb tc te : TE} {t u : TS} {tt uu : TT} {QO : Option Int → Hp → Prop} {v x y : V} {r r' : R2} {i : Nat} {K : PySem.W.Frag} {aa : TA}
theorem g_seq (h : t { D with nx := u D } σ H) : tSeq t u D σ H := h
theorem g_next (h : D.nx σ H) : tNext D σ H := h
theorem g_asg {g : TG} (h : te σ H fun x H1 => g x σ H1 D.nx) : tAsg te g D σ H := h
theorem g_name (h : QS (σ.set i (some v)) H) : gName i v σ H QS := h
theorem g_drop (h : te σ H fun _ H1 => D.nx σ H1) : tDrop te D σ H := h
theorem g_ret (h : te σ H D.rt) : tRet te D σ H := h
theorem g_retN (h : D.rt .non H) : tRetN D σ H := h
theorem g_brk (h : D.bk σ H) : tBreak D σ H := h
theorem g_ct (h : D.ct σ H) : tCont D σ H := h
theorem g_if (h : tt σ H fun b H1 => if b = true then t D σ H1 else u D σ H1) : tIfS tt t u D σ H := h
theorem g_var (e : σ[i]? = some (some v)) (h : Q v H) : tVar i σ H Q := ⟨v, e, h⟩
theorem g_c (h : Q v H) : tC v σ H Q := h
theorem g_op (h : ta σ H fun x H1 => tb σ H1 fun y H2 => r x y H2 Q) : tOp r ta tb σ H Q := h
theorem g_un {f : V → Hp → VK → Prop} (h : ta σ H fun x H1 => f x H1 Q) : tUn f ta σ H Q := h
theorem g_I0 {g : Int → Int → V} {a b : Int} (h : Q (g a b) H) : rI0 g (.int a) (.int b) H Q := ⟨a, b, rfl, rfl, h⟩
theorem g_I {C : Int → Int → Prop} {g : Int → Int → V} {a b : Int} (c : C a b) (h : Q (g a b) H) : rI C g (.int a) (.int b) H Q := ⟨a, b, rfl, rfl, c, h⟩
theorem g_U {g : Int → V} {a : Int} (h : Q (g a) H) : rU g (.int a) H Q := ⟨a, rfl, h⟩
theorem dec_I {a b : Int} : decide (V.int a = V.int b) = decide (a = b) := by
  by_cases h : a = b
  · subst h; rw [decide_eq_true rfl, decide_eq_true rfl]
  · rw [decide_eq_false h, decide_eq_false (fun z => h (by injection z))]
theorem dec_B {a b : Bool} : decide (V.bl a = V.bl b) = decide (a = b) := by
  by_cases h : a = b
  · subst h; rw [decide_eq_true rfl, decide_eq_true rfl]
  · rw [decide_eq_false h, decide_eq_false (fun z => h (by injection z))]
theorem g_eqI {a b : Int} (h : Q (.bl (decide (a = b))) H) : rEq (.int a) (.int b) H Q := ⟨rfl, by rw [dec_I]; exact h⟩
theorem g_neI {a b : Int} (h : Q (.bl (!decide (a = b))) H) : rNe (.int a) (.int b) H Q := ⟨rfl, by rw [dec_I]; exact h⟩
theorem g_eqB {a b : Bool} (h : Q (.bl (decide (a = b))) H) : rEq (.bl a) (.bl b) H Q := ⟨rfl, by rw [dec_B]; exact h⟩
theorem g_neB {a b : Bool} (h : Q (.bl (!decide (a = b))) H) : rNe (.bl a) (.bl b) H Q := ⟨rfl, by rw [dec_B]; exact h⟩
theorem g_test (h : te σ H fun x H' => ∃ k, x = .bl k ∧ QT k H') : tTest te σ H QT := h
theorem g_tB (h : te σ H fun x H' => ∃ k, x = .bl k ∧ QT k H') : tB te σ H QT := h
theorem g_bl {b : Bool} {R : Bool → Prop} (h : R b) : ∃ k, V.bl b = .bl k ∧ R k := ⟨b, rfl, h⟩
theorem g_and (h : tt σ H fun c H1 => if c = true then uu σ H1 QT else QT false H1) : tAnd tt uu σ H QT := h
theorem g_or (h : tt σ H fun c H1 => if c = true then QT true H1 else uu σ H1 QT) : tOr tt uu σ H QT := h
theorem g_not (h : tt σ H fun c H1 => QT (!c) H1) : tNot tt σ H QT := h
theorem g_andV (h : ta σ H fun x H1 => ∃ c, x = .bl c ∧ if c = true then tb σ H1 Q else Q (.bl false) H1) : tAndV ta tb σ H Q := h
theorem g_orV (h : ta σ H fun x H1 => ∃ c, x = .bl c ∧ if c = true then Q (.bl true) H1 else tb σ H1 Q) : tOrV ta tb σ H Q := h
theorem g_notV (h : ta σ H fun x H1 => ∃ c, x = .bl c ∧ Q (.bl (!c)) H1) : tNotV ta σ H Q := h
theorem g_ifE (h : tt σ H fun c H1 => if c = true then ta σ H1 Q else tb σ H1 Q) : tIf tt ta tb σ H Q := h
theorem g_nil (h : QA [] H) : tNil σ H QA := h
theorem g_cons (h : te σ H fun x H1 => aa σ H1 fun xs H2 => QA (x :: xs) H2) : tCons te aa σ H QA := h
def NewL (xs : List V) (H : Hp) (Q : VK) : Prop := xs.length ≤ sizeLine ∧ ∀ p, H p = none → Q (.ref p) (upd H p (.lst xs))
def NewT (xs : List V) (H : Hp) (Q : VK) : Prop := xs.length ≤ sizeLine ∧ ∀ p, H p = none → Q (.ref p) (upd H p (.tup xs))
theorem g_lst (h : aa σ H fun xs H1 => NewL xs H1 Q) : tLst aa σ H Q := h
theorem g_tup (h : aa σ H fun xs H1 => NewT xs H1 Q) : tTup aa σ H Q := h
theorem newL {xs : List V} (h : ∀ p H', H p = none → Same H H' → H' p = some (.lst xs) → Q (.ref p) H') (sz : xs.length ≤ sizeLine := by first | decide | (simp only [List.length_cons, List.length_nil]; decide)) : NewL xs H Q := ⟨sz, fun p np => h p _ np (Same.new np) upd_same⟩
theorem newT {xs : List V} (h : ∀ p H', H p = none → Same H H' → H' p = some (.tup xs) → Q (.ref p) H') (sz : xs.length ≤ sizeLine := by first | decide | (simp only [List.length_cons, List.length_nil]; decide)) : NewT xs H Q := ⟨sz, fun p np => h p _ np (Same.new np) upd_same⟩
theorem g_part (h : te σ H fun x H1 => ∃ i, x = .int i ∧ QO (some i) H1) : tPart te σ H QO := h
theorem g_nopart (h : QO none H) : tNoPart σ H QO := h
theorem g_cb {f : List V → Hp → VK → Prop} (h : aa σ H fun vs H1 => f vs H1 Q) : tCB f aa σ H Q := h
theorem g_call {sp : Sp} {E : XK} (h : aa σ H fun vs H1 => sp vs H1 Q E) : tCall sp [] E aa σ H Q := by
  have e : (fun vs H1 => sp (vs ++ []) H1 Q E) = fun vs H1 => sp vs H1 Q E := by funext vs H1; rw [List.append_nil]
  show aa σ H fun vs H1 => sp (vs ++ []) H1 Q E
  rw [e]; exact h
theorem g_callS {sp : Sp} {E : L2.St → XK} (h : aa σ H fun vs H1 => sp vs H1 Q (E σ)) : tCallS sp E aa σ H Q := h
theorem g_fld {f : Str} (h : ta σ H fun x H1 => ∃ a C dx fs v, x = .ref a ∧ H1 a = some (.ins C dx fs) ∧ Cls K C ∧ NoAttr K C f ∧ fs.lookup f = some v ∧ Q v H1) : tFld K ta f σ H Q := h
theorem g_bm {T : String} {f : V → List V → Hp → VK → Prop} (h : ta σ H fun x H1 => tyV K T x H1 ∧ aa σ H1 fun xs H2 => f x xs H2 Q) : tBM K T f ta aa σ H Q := h
theorem g_isN (h : Q (.bl (decide (x = .non))) H) : (fun x y H Q => y = .non ∧ Q (.bl (decide (x = .non))) H : R2) x .non H Q := ⟨rfl, h⟩
theorem g_rng1 {a b : Nat} {R : It → Hp → Prop} {n : Int} (h1 : -(2 ^ 62) ≤ n) (h2 : n < 2 ^ 62) (h : R (Itr 0 n.toNat) H) : ∃ j : Int, [V.int n] = [V.int j] ∧ -(2 ^ 62) ≤ j ∧ j < 2 ^ 62 ∧ R (Itr 0 j.toNat) H := ⟨n, rfl, h1, h2, h⟩
theorem g_chain {r r' : R2} (h : ta σ H fun x H1 => tb σ H1 fun y H2 => r x y H2 fun z H3 => ∃ k, z = .bl k ∧ (if k = true then tc σ H3 fun w' H4 => r' y w' H4 Q else Q (.bl false) H3)) : tChain r r' ta tb tc σ H Q := h
theorem g_int {n : Int} {R : Int → Prop} {S : Bool → Prop} (h : R n) : (∃ i, [V.int n] = [V.int i] ∧ R i) ∨ ∃ k, [V.int n] = [V.bl k] ∧ S k := .inl ⟨n, rfl, h⟩
theorem g_itt {c : Bool} {A B : Prop} (e : c = true) (h : A) : if c = true then A else B := by rw [if_pos e]; exact h
theorem g_iff {c : Bool} {A B : Prop} (e : c = false) (h : B) : if c = true then A else B := by rw [e]; exact h
theorem g_ite {c : Bool} {A B : Prop} (h1 : c = true → A) (h2 : c = false → B) : if c = true then A else B := by
  cases e : c with
  | true => exact h1 e
  | false => exact h2 e
theorem g_isi {t n : String} {b : Bool} (ty : TyX K H x (.type t)) (kb : kitB t n = some b) (h : Q (.bl b) H) : rIsi K [x, .ty n] H Q := ⟨x, .ty n, _, _, b, rfl, .ty n, ty, kit_ty kb, h⟩
theorem g_len {ys : List V} {a : Addr} {R : Int → Prop} {G : Addr → List V → Prop} (hs : G a ys) (h : R (ys.length : Int)) : ∃ p zs, [V.ref a] = [V.ref p] ∧ G p zs ∧ R (zs.length : Int) := ⟨a, ys, rfl, hs, h⟩
theorem g_aug {ti : TIp} {z : V} (e : σ[i]? = some (some z)) (h : te σ H fun y H1 => ti z y H1 fun z H2 => D.nx (σ.set i (some z)) H2) : tAug i te ti D σ H := ⟨z, e, h⟩
theorem g_ipI {f : Int → Int → Int} {a b : Int} (h : Q (.int (f a b)) H) : ipI f (.int a) (.int b) H Q := ⟨a, b, rfl, rfl, h⟩
theorem g_sl {f : V → Option Int → Option Int → Hp → VK → Prop} {tl th : TO} (h : te σ H fun x H1 => tl σ H1 fun l H2 => th σ H2 fun u H3 => f x l u H3 Q) : tSl f te tl th σ H Q := h
end
theorem g_for {σ : L2.St} {H : Hp} {D : Ends} {wi : TI} {g : TG} {tb : TS} (h : wi σ H fun J H1 => ∃ W : Nat → Nat → L2.St → Hp → Prop, (∃ m, W 0 m σ H1) ∧ ∀ i m σ H, W i m σ H →
    (J.stop i H ∧ D.nx σ H) ∨ (J.go i H ∧ ∃ N : L2.St → Hp → Prop, (∀ σ' H', N σ' H' → ∃ m', m' < m ∧ W (i + 1) m' σ' H') ∧ ∀ x H', J.yld i H x H' → g x σ H' fun σ2 H2 => tb { D with nx := N, ct := N, bk := D.nx } σ2 H2)) : tFor wi g tb D σ H := h
theorem g_rg1 {σ : L2.St} {H : Hp} {aa : TA} {R : It → Hp → Prop} (h : aa σ H fun vs H1 => ∃ j : Int, vs = [.int j] ∧ -(2 ^ 62) ≤ j ∧ j < 2 ^ 62 ∧ R (Itr 0 j.toNat) H1) : iRng1 aa σ H R := h
theorem g_rg2 {σ : L2.St} {H : Hp} {aa : TA} {R : It → Hp → Prop} (h : aa σ H fun vs H1 => ∃ i j : Int, vs = [.int i, .int j] ∧ (-(2 ^ 62) ≤ i ∧ i < 2 ^ 62 ∧ -(2 ^ 62) ≤ j ∧ j < 2 ^ 62) ∧ R (Itr i (j - i).toNat) H1) : iRng2 aa σ H R := h
theorem g_il {σ : L2.St} {H : Hp} {K : PySem.W.Frag} {tl : TE} {R : It → Hp → Prop} (h : tl σ H fun x H1 => ∃ a, x = .ref a ∧ (∃ xs, SqL K H1 a xs) ∧ R (Itl K a) H1) : iList K tl σ H R := h
theorem g_it {σ : L2.St} {H : Hp} {K : PySem.W.Frag} {tl : TE} {R : It → Hp → Prop} (h : tl σ H fun x H1 => ∃ a, x = .ref a ∧ (∃ xs, SqT K H1 a xs) ∧ R (Itt K a) H1) : iTup K tl σ H R := h
theorem g_lc {σ : L2.St} {H : Hp} {wi : TI} {g : TG} {tt : TT} {te : TE} {vs : List Nat} {Q : VK} (h : wi σ H fun J H1 => ∀ D, H1 D = none → ∃ W : Nat → Nat → Hp → Prop, (∃ m, W 0 m (upd H1 D (.lst []))) ∧ ∀ i m H, W i m H →
    (J.stop i H ∧ Q (.ref D) H) ∨ (J.go i H ∧ ∃ Nx : Hp → Prop, (∀ H', Nx H' → ∃ m', m' < m ∧ W (i + 1) m' H') ∧ ∀ x H', J.yld i H x H' → g x (wipe σ vs) H' fun σ2 H2 => wipe σ2 vs = wipe σ vs ∧ tt σ2 H2 fun b H3 =>
      if b = true then te σ2 H3 fun y H4 => ∃ acc, H4 D = some (.lst acc) ∧ acc.length < sizeLine ∧ Nx (upd H4 D (.lst (acc ++ [y]))) else Nx H3)) : tLc wi g tt te vs σ H Q := h
theorem g_yes {σ : L2.St} {H : Hp} {QT : Bool → Hp → Prop} (h : QT true H) : tYes σ H QT := h
theorem g_ixL {K : PySem.W.Frag} {H : Hp} {p : Addr} {xs : List V} {i : Int} {v : V} {Q : VK} (hs : SqL K H p xs) (ha : atI xs i = some v) (h : Q v H) : rIxL K (.ref p) (.int i) H Q := ⟨p, xs, i, v, rfl, rfl, hs, ha, h⟩
theorem g_ixT {K : PySem.W.Frag} {H : Hp} {p : Addr} {xs : List V} {i : Int} {v : V} {Q : VK} (hs : SqT K H p xs) (ha : atI xs i = some v) (h : Q v H) : rIxT K (.ref p) (.int i) H Q := ⟨p, xs, i, v, rfl, rfl, hs, ha, h⟩
theorem g_app {H : Hp} {l : Addr} {xs : List V} {y : V} {Q : VK} (h : H l = some (.lst xs)) (sz : xs.length < sizeLine) (q : Q .non (upd H l (.lst (xs ++ [y])))) : rAppend (.ref l) [y] H Q := ⟨l, xs, y, rfl, rfl, h, sz, q⟩
theorem ty_l {K : PySem.W.Frag} {H : Hp} {l : Addr} {xs : List V} (h : H l = some (.lst xs)) : tyV K "list" (.ref l) H := .inl ⟨rfl, _, SqL.of h⟩
theorem map_app {ds : List Int} {d : Int} : ds.map V.int ++ [V.int d] = (ds ++ [d]).map V.int := by rw [List.map_append]; rfl
theorem g_nn {R : Prop} (h : R) : V.non = V.non ∧ R := ⟨rfl, h⟩
theorem g_ifset {D : Ends} {σ : L2.St} {H : Hp} {te : TE} {i : Nat} {b : Bool} (x old : V) (ho : σ[i]? = some (some old)) (ht : ∀ Q : VK, Q x H → te σ H Q) (h : D.nx (σ.set i (some (if b = true then x else old))) H) : if b = true then tAsg te (gName i) D σ H else tNext D σ H := by
  cases b with
  | true => rw [if_pos rfl]; exact ht _ h
  | false =>
    rw [if_neg Bool.false_ne_true]
    rw [if_neg Bool.false_ne_true] at h
    have e : σ.set i (some old) = σ := by
      obtain ⟨hi, e⟩ := List.getElem?_eq_some_iff.mp ho
      rw [← e]; exact List.set_getElem_self hi
    rw [e] at h; exact h
theorem ite_int {b : Bool} {m n : Int} : (if b = true then V.int m else V.int n) = V.int (if b = true then m else n) := by cases b <;> rfl
theorem g_oi {n : Int} {R : Int → Prop} (h : R n) : ∃ i, V.int n = .int i ∧ R i := ⟨n, rfl, h⟩
theorem g_cat {H : Hp} {Q : VK} {l b : Addr} {xs zs : List Int} (h1 : H l = some (.lst (xs.map V.int))) (h2 : H b = some (.lst (zs.map V.int))) (sz : xs.length + zs.length ≤ 100000)
    (h : ∀ p H', H p = none → Same H H' → H' p = some (.lst ((xs ++ zs).map V.int)) → Q (.ref p) H') : rCat (.ref l) (.ref b) H Q :=
  ⟨l, b, _, _, rfl, rfl, h1, h2, by rw [List.length_map, List.length_map]; rw [sizeLine_eq]; omega, fun p np => h p _ np (L2.Same.new np) (by rw [upd_same, List.map_append])⟩
/-! ### items -/
theorem at_int {ss : List Int} {o : Nat} (h : o < ss.length) : atI (ss.map V.int) (o : Int) = some (.int (ss.getD o 0)) := by
  refine atI_nat ?_
  rw [List.getElem?_map, List.getElem?_eq_getElem h, List.getD_eq_getElem?_getD, List.getElem?_eq_getElem h]; rfl

theorem getD_app {l : List Int} {v : Int} {i : Nat} : (l ++ [v]).getD i 0 = if i < l.length then l.getD i 0 else if i = l.length then v else 0 := by
  rw [List.getD_eq_getElem?_getD]
  by_cases h : i < l.length
  · rw [List.getElem?_append_left h, if_pos h, List.getD_eq_getElem?_getD]
  · rw [if_neg h, List.getElem?_append_right (by omega)]
    by_cases h2 : i = l.length
    · subst h2; simp
    · rw [if_neg h2, List.getElem?_eq_none (by simp; omega)]; rfl
theorem sl1000 {n : Nat} (h : n ≤ 100000) : n ≤ sizeLine := by rw [sizeLine_eq]; omega
theorem slt1000 {n : Nat} (h : n ≤ 100000) : n < sizeLine := by rw [sizeLine_eq]; omega
/-! ### exceptions whose context is None, short -/
theorem takes_ofN {X : Cx} {E : XK} (hs : X.stack = X.env :: X.outer) (hf : X.env.frame = some X.env.locals) (hex : X.ex = []) {E₁ : Value → Shared → Prop}
    (hx : X.xe = fun e s' => wpAny (model X.prog X.w) X.A (leaving X.env e) (fun _ s'' => L2N.CX X.prog X.w X.outer X.H_0 X.s_0 E e s'') E₁ s') : L2N.Takes X (fun cls d _ H => E cls d H) := L2N.takes_of hs hf hex hx
theorem passes_callN {X : Cx} {E : XK} (tk : L2N.Takes X (fun cls d _ H => E cls d H)) : L2.Passes (L2N.CX X.prog X.w) X E := L2N.passes_call tk (fun _ _ _ _ h => h)
theorem passN {X : Cx} : L2.Passes (L2N.CX X.prog X.w) X E0 := fun _ _ _ _ _ _ _ h => by
  obtain ⟨_, _, _, _, _, _, _, _, _, _, _, _, z⟩ := h
  exact z.elim
theorem takes0N {X : Cx} : L2N.Takes X (fun _ _ _ _ => False) := fun _ _ x => by
  obtain ⟨_, _, _, _, _, _, _, _, _, _, _, _, _, _, _, _, z⟩ := x
  exact z.elim
theorem pass0S {X : Cx} {σ : L2.St} {E : XK} : PassesAt CX0 X σ E := fun _ _ _ _ _ _ h => h.elim
theorem passes_ofN {X : Cx} {K : Value → Shared → Prop} {E₁ : Value → Shared → Prop} (hx : X.xe = fun e s' => wpAny (model X.prog X.w) X.A (leaving X.env e) (fun _ s'' => K e s'') E₁ s') : PassesOwn (model X.prog X.w) X.A X.env X.xe := passes_of hx
/-- as Fun.ok, for a def that may raise; the context of what is raised is None -/
theorem okN {P : Program} {w : World} {K : PySem.W.Frag} {mg : Str → Option Value} {base : Heap} {x qual : Str} {st : Stmt} {f : Addr} {fd : FuncData} {N ps : List Str} {k : Nat} {sp : Sp} (F : Fun K x qual st f fd) (S : FnScope N ps (defScope st)) (len : ∀ vs H Q E, sp vs H Q E → vs.length = ps.length)
    (hbody : ∀ (cdv : Value) (A : Around) (outer : List Env) (s : Shared) (H : Hp) (vs : List V) (Q : VK) (E : XK), Room k (A.deeper (envOfC qual (defScope st) s.heap.objs.size f cdv)) → sp vs H Q E →
      ∃ t, PSs (cxOf (L2N.CX P w) P w K mg base N qual (defScope st) f cdv A outer s H E) (defBody st) t ∧ t { nx := fun _ H' => Q .non H', rt := Q } (L2.start N vs) H) : FnOk P w K mg base (L2N.CX P w) (k + 1) f fd ps sp := by
  obtain ⟨oc, od, kV, doc, pm, an, cdv, ct, osl, rfl, lk, hcd⟩ := F.ex
  exact fn_of lk hcd S len fun A outer s H vs Q E hr hsp => hbody cdv A outer s H vs Q E hr hsp
/-- .. called within an except suite; nothing leaves it -/
theorem okH {P : Program} {w : World} {K : PySem.W.Frag} {mg : Str → Option Value} {base : Heap} {x qual : Str} {st : Stmt} {f : Addr} {fd : FuncData} {N ps : List Str} {k : Nat} {sp : Sp} (F : Fun K x qual st f fd) (S : FnScope N ps (defScope st)) (len : ∀ vs H Q E, sp vs H Q E → vs.length = ps.length)
    (hbody : ∀ (cdv : Value) (A : Around) (outer : List Env) (s : Shared) (H : Hp) (vs : List V) (Q : VK) (E : XK) (p : Addr × Obj), L2H.Hot1 A p → L2H.RoomH k (A.deeper (envOfC qual (defScope st) s.heap.objs.size f cdv)) → sp vs H Q E →
      ∃ t, PSs (L2H.cxH CX0 P w K mg base N qual (defScope st) f cdv A outer s H E p) (defBody st) t ∧ t { nx := fun _ H' => Q .non H', rt := Q } (L2.start N vs) H) : L2H.FnH P w K mg base CX0 (k + 1) f fd ps sp := by
  obtain ⟨oc, od, kV, doc, pm, an, cdv, ct, osl, rfl, lk, hcd⟩ := F.ex
  exact L2H.fn_ofH lk hcd S len fun A outer s H vs Q E p hot hr hsp => hbody cdv A outer s H vs Q E p hot hr hsp
structure DefOkH (P : Program) (w : World) (K : PySem.W.Frag) (mg : Str → Option Value) (base : Heap) (CX : CXT) (k : Nat) (x : Str) (ps : List Str) (sp : Sp) : Prop where
  ex : ∃ (f : Addr) (fd : FuncData), mg x = some (.ref f) ∧ PySem.W.keepIn K (.ref f) = true ∧ L2H.FnH P w K mg base CX k f fd ps sp ∧ L2.Binds K fd ps []
theorem pe_callHD {X : Cx} {CX : CXT} {k : Nat} {x : Str} {ps : List Str} {sp : Sp} {E : L2.St → XK} {p pos : Pos} {e : Expr} {es : List Expr} {t : TA} (D : DefOkH X.prog X.w X.K X.mg X.base CX k x ps sp) (hr : L2H.RoomH k X.A) (hc : L2H.HotC X) (hx : ∀ σ : L2.St, PassesAt CX X σ (E σ)) (ha : PA X (e :: es) t) (hg : Gl X x := by rfl) (hdb : (x == ("__debug__" : Str)) = false := by decide)
    (he : starEach (e :: es) X.env = (false, eval e X.env) :: starEach es X.env := by rfl) (hpl : (backTo pos (starEach es X.env)).any (·.1) = false := by rfl) : PE X (.Call (.Name x p) (e :: es) [] pos) (tCallS sp E t) := by
  obtain ⟨f, fd, a, b, c, d⟩ := D.ex
  exact L2H.pe_callH c hr hc hg a b d hx ha hdb he hpl
theorem hotC_of {X : Cx} {a : Addr} {oe : Obj} {cls : Value} {d : Option Addr} {pn : List (Addr × Obj)} (hz : L2N.Zn cls d oe) (hf : ∃ vs, oe.data = .fields vs) : L2H.HotC (X.suite a ((a, oe) :: pn)) := by
  obtain ⟨vs, e⟩ := hf
  exact ⟨(a, oe), ⟨rfl, vs, e, hz.2.2 vs e⟩, List.mem_cons_self⟩

/-! ### own exceptions with one field; len, making of an instance: by what is known of the def -/
def spExc1 (K : PySem.W.Frag) (C : Addr) (fld : Str) : Sp := fun vs H Q _ => ∃ (a : Addr) (v : V), vs = [.ref a, v] ∧ H a = some (exo a C none) ∧ OexC K C ∧ PySem.W.findIn K (.ref C) fld = some none ∧
  ∀ dx : Addr, H dx = none → dx ≠ a → Q .non (upd (upd H dx (exd dx [(fld, v)])) a (exo a C (some dx)))
structure ExcDef (P : Program) (w : World) (K : PySem.W.Frag) (mg : Str → Option Value) (base : Heap) (x : Str) (C : Addr) (fld : Str) : Prop where
  ex : ∃ (fI : Addr) (fd : FuncData), OexC K C ∧ PySem.W.findIn K (.ref C) "__init__" = some (some (.ref fI)) ∧ PySem.W.typeIn K (.ref fI) = some (.type "function") ∧ FnOk P w K mg base CX0 1 fI fd ["self", fld] (spExc1 K C fld) ∧ L2.Binds K fd ["self", fld] [] ∧ mg x = some (.ref C) ∧ PySem.W.findIn K (.ref C) fld = some none
theorem pmk_D {X : Cx} {x : Str} {e : Expr} {es : List Expr} {ta : TA} {p pos : Pos} {C : Addr} {fld : Str} (D : ExcDef X.prog X.w X.K X.mg X.base x C fld) (hr : Room 2 X.A) (ha : PA X (e :: es) ta) (hg : Gl X x := by rfl)
    (hdb : (x == ("__debug__" : Str)) = false := by decide) (he : starEach (e :: es) X.env = (false, eval e X.env) :: starEach es X.env := by rfl) (hpl : (backTo pos (starEach es X.env)).any (·.1) = false := by rfl) :
    L2N.PMk X (.Call (.Name x p) (e :: es) [] pos) (tMkO C (spExc1 X.K C fld) [] ta) := by
  obtain ⟨fI, fd, T, iC, tI, F, b, m, no⟩ := D.ex
  exact pmk_oexN T iC tI F hr b pass0 hg m ha hdb he hpl
def MkO (C : Addr) (sp : Sp) (vs : List V) (H1 : Hp) (Q : XK) : Prop := vs.length ≤ 1000 ∧ ∀ a, H1 a = none → sp (.ref a :: (vs ++ [])) (upd H1 a (exo a C none))
  (fun v H2 => v = .non ∧ ∃ (d : Addr) (fs : List (Str × V)), H2 a = some (exo a C (some d)) ∧ H2 d = some (exd d fs) ∧ H1 d = none ∧ Q (.ref C) (some d) (upd (del H2 a) d (.xd fs))) (fun _ _ _ => False)
theorem g_mko {C : Addr} {sp : Sp} {aa : TA} {σ : L2.St} {H : Hp} {Q : XK} (h : aa σ H fun vs H1 => MkO C sp vs H1 Q) : tMkO C sp [] aa σ H Q := h
theorem mk1 {K : PySem.W.Frag} {C : Addr} {fld : Str} {v : V} {H : Hp} {Q : XK} (T : OexC K C) (no : PySem.W.findIn K (.ref C) fld = some none)
    (h : ∀ d H', H d = none → Same H H' → H' d = some (.xd [(fld, v)]) → Q (.ref C) (some d) H') : MkO C (spExc1 K C fld) [v] H Q := by
  refine ⟨by simp, fun a na => ⟨a, v, rfl, upd_same, T, no, fun dx hdx ne => ⟨rfl, dx, [(fld, v)], upd_same, ?_, ?_, ?_⟩⟩⟩
  · rw [upd_ne ne, upd_same]
  · rw [upd_ne ne] at hdx; exact hdx
  · rw [upd_ne ne] at hdx
    refine h dx _ hdx (fun b o hb => ?_) upd_same
    have nb : b ≠ dx := ne_of_none hb hdx
    have na' : b ≠ a := ne_of_none hb na
    rw [upd_ne nb, del_ne na', upd_ne na', upd_ne nb, upd_ne na']
    exact hb
structure LenD (P : Program) (w : World) (K : PySem.W.Frag) (mg : Str → Option Value) (base : Heap) (C : Addr) (sp : Sp) : Prop where
  ex : ∃ (f : Addr) (fd : FuncData), LenC K C f ∧ FnOk P w K mg base CX0 1 f fd ["self"] sp ∧ L2.Binds K fd ["self"] []
theorem call_lenD {X : Cx} {C : Addr} {sp : Sp} (D : LenD X.prog X.w X.K X.mg X.base C sp) (hr : Room 2 X.A) : CallR X (.builtin "len") (rLenO C sp E0) := by
  obtain ⟨f, fd, a, b, c⟩ := D.ex
  exact call_lenO a b hr c pass0
structure CtorD (P : Program) (w : World) (K : PySem.W.Frag) (mg : Str → Option Value) (base : Heap) (CX : CXT) (k : Nat) (x : Str) (C : Addr) (n : Nat) (ks : List Str) (gV : List V → List V → List V) (sp : Sp) : Prop where
  ex : ∃ (f : Addr) (fd : FuncData) (ps : List Str) (g : List Value → List Value → List Value), mg x = some (.ref C) ∧ Mk K C f ∧ FnOk P w K mg base CX k f fd ps sp ∧ KBn K fd ps (n + 1) ks g gV
theorem pe_makeD {X : Cx} {CX : CXT} {k n : Nat} {C : Addr} {ks : List Str} {sp : Sp} {E : XK} {x : Str} {p pos : Pos} {e : Expr} {es : List Expr} {kws : List Keyword} {t tk : TA} {gV : List V → List V → List V}
    (D : CtorD X.prog X.w X.K X.mg X.base CX k x C n ks gV sp) (hr : Room (k + 1) X.A) (hx : L2.Passes CX X E) (ha : PA X (e :: es) t) (hkw : PK X kws tk) (hg : Gl X x := by rfl)
    (hall : (backToKw pos (keywordEach kws X.env)).all (·.1.isSome) = true := by rfl) (hks : (backToKw pos (keywordEach kws X.env)).filterMap (·.1) = ks := by rfl) (hdb : (x == ("__debug__" : Str)) = false := by decide)
    (he : starEach (e :: es) X.env = (false, eval e X.env) :: starEach es X.env := by rfl) (hpl : ((backTo pos (starEach (e :: es) X.env)).any (·.1) || (backToKw pos (keywordEach kws X.env)).any (·.1.isNone)) = false := by rfl) :
    PE X (.Call (.Name x p) (e :: es) kws pos) (tMakeK C n ks.length sp gV E t tk) := by
  obtain ⟨f, fd, ps, g, m, M, F, b⟩ := D.ex
  exact pe_makeK M F hr hg m b hx ha hkw hall hks hdb he hpl
def NewRg (a b : Int) (H : Hp) (Q : VK) : Prop := RgOk a b ∧ ∀ q, H q = none → Q (.ref q) (upd H q (.lst (rgV a b)))
theorem g_lrg {te : L2.St → Hp → (Int → Int → Hp → Prop) → Prop} {σ : L2.St} {H : Hp} {Q : VK} (h : te σ H fun a b H1 => NewRg a b H1 Q) : tLstRg te σ H Q := h
theorem g_tr1 {ta : TE} {σ : L2.St} {H : Hp} {Q : Int → Int → Hp → Prop} (h : ta σ H fun x H1 => ∃ n, x = .int n ∧ Q 0 n H1) : tRg1 ta σ H Q := h
theorem g_tr2 {ta tb : TE} {σ : L2.St} {H : Hp} {Q : Int → Int → Hp → Prop} (h : ta σ H fun x H1 => tb σ H1 fun y H2 => ∃ i j, x = .int i ∧ y = .int j ∧ Q i j H2) : tRg2 ta tb σ H Q := h
theorem g_oi2 {n m : Int} {R : Int → Int → Prop} (h : R n m) : ∃ i j, V.int n = .int i ∧ V.int m = .int j ∧ R i j := ⟨n, m, rfl, rfl, h⟩
theorem newRg {a b : Nat} {H : Hp} {Q : VK} (h0 : a ≤ 100000) (h1 : b ≤ 100000) (h : ∀ p H', H p = none → Same H H' → H' p = some (.lst ((List.range (b - a)).map fun i => V.int ((a + i : Nat) : Int))) → Q (.ref p) H') : NewRg (a : Int) (b : Int) H Q := by
  refine ⟨RgOk.of_le (by omega) (by omega) (by omega) (by omega), fun q nq => h q _ nq (L2.Same.new nq) ?_⟩
  rw [upd_same]
  unfold rgV
  rw [show ((b : Int) - (a : Int)).toNat = b - a by omega]
  have e : (fun i : Nat => V.int ((a : Int) + (i : Int))) = fun i : Nat => V.int ((a + i : Nat) : Int) := by funext i; rw [Int.natCast_add]
  rw [e]
def MakeK (C : Addr) (sp : Sp) (n m : Nat) (gV : List V → List V → List V) (E : XK) (vs zs : List V) (H2 : Hp) (Q : VK) : Prop := vs.length = n ∧ zs.length = m ∧ ∀ x dx, H2 x = none → H2 dx = none → dx ≠ x →
  sp (gV (.ref x :: vs) zs) (upd (upd H2 dx (.own x)) x (.ins C dx [])) (fun v H3 => v = .non ∧ Q (.ref x) H3) E
theorem g_mk {C : Addr} {n m : Nat} {sp : Sp} {gV : List V → List V → List V} {E : XK} {t tk : TA} {σ : L2.St} {H : Hp} {Q : VK} (h : t σ H fun vs H1 => tk σ H1 fun zs H2 => MakeK C sp n m gV E vs zs H2 Q) : tMakeK C n m sp gV E t tk σ H Q := h
theorem pmk_u {t : L2.St → Hp → XK → Prop} {W : WX} {D : Ends} {σ : L2.St} {H : Hp} (h : t σ H fun cls d H' => W cls d σ H') : (fun (_ : Ends) σ H => t σ H fun cls d H' => W cls d σ H') D σ H := h
theorem g_sfld {K : PySem.W.Frag} {ta tv : TE} {f : Str} {D : Ends} {σ : L2.St} {H : Hp} (h : tv σ H fun y H1 => ta σ H1 fun x H2 => ∃ a C dx fs, x = .ref a ∧ H2 a = some (.ins C dx fs) ∧ Cls K C ∧ NoAttr K C f ∧ fs.length < 1000 ∧ D.nx σ (upd H2 a (.ins C dx (putF f y fs)))) : sFld K ta tv f D σ H := h
theorem g_ost {K : PySem.W.Frag} {f : Str} {to te : TE} {D : Ends} {σ : L2.St} {H : Hp} (h : te σ H fun y H1 => to σ H1 fun x H2 => ∃ a C : Addr, x = .ref a ∧ OexC K C ∧ PySem.W.findIn K (.ref C) f = some none ∧
  ((H2 a = some (exo a C none) ∧ ∀ dx, H2 dx = none → dx ≠ a → D.nx σ (upd (upd H2 dx (exd dx [(f, y)])) a (exo a C (some dx)))) ∨
    ∃ (dx : Addr) (fs : List (Str × V)), H2 a = some (exo a C (some dx)) ∧ H2 dx = some (exd dx fs) ∧ fs.length ≤ 900 ∧ D.nx σ (upd H2 dx (exd dx ((f, y) :: fs))))) : tOst K f to te D σ H := h

/-! ### the rules with the written part named (within a comprehension it must not hang on the block) -/
section
variable {X : Cx} (K : PySem.W.Frag)
theorem ix_tupK (h : X.K = K := by rfl) : IxR X (rIxT K) := by subst h; exact ix_tup
theorem ix_listK (h : X.K = K := by rfl) : IxR X (rIxL K) := by subst h; exact ix_list
theorem ix_seqK (h : X.K = K := by rfl) : IxR X (rIx K) := by subst h; exact ix_seq
theorem sl_listK (h : X.K = K := by rfl) : SlR X (rSlL K) := by subst h; exact sl_list
theorem sl_tupK (h : X.K = K := by rfl) : SlR X (rSlA K) := by subst h; exact sl_tupA
theorem cr_sumK (hc : X.calm = true) (h : X.K = K := by rfl) : CallR X (.builtin "sum") (rSum K) := by subst h; exact cr_sum hc
theorem call_isiQ (h : X.K = K := by rfl) : CallR X (.builtin "isinstance") (rIsi K) := by subst h; exact call_isi
def rLenQ (K : PySem.W.Frag) : List V → Hp → VK → Prop := fun xs H Q => ∃ p ys, xs = [.ref p] ∧ (SqL K H p ys ∨ SqT K H p ys) ∧ Q (.int ys.length) H
def rListO (K : PySem.W.Frag) : List V → Hp → VK → Prop := fun xs H Q => ∃ p ys, xs = [.ref p] ∧ (SqL K H p ys ∨ SqT K H p ys) ∧ ∀ l, H l = none → Q (.ref l) (upd H l (.lst ys))
def rTupO (K : PySem.W.Frag) : List V → Hp → VK → Prop := fun xs H Q => ∃ p ys, xs = [.ref p] ∧ ((SqL K H p ys ∧ ∀ l, H l = none → Q (.ref l) (upd H l (.tup ys))) ∨ (SqT K H p ys ∧ Q (.ref p) H))
theorem call_lenK (h : X.K = K := by rfl) : CallR X (.builtin "len") (rLenQ K) := by subst h; exact call_len_seq
theorem call_listK (h : X.K = K := by rfl) : CallR X (.type "list") (rListO K) := by subst h; exact call_list_of
theorem call_tupleK (h : X.K = K := by rfl) : CallR X (.type "tuple") (rTupO K) := by subst h; exact call_tuple_of
theorem op_repTK (h : X.K = K := by rfl) : OpR X (binaryOp .Mult) (rRepT K) := by subst h; exact op_repT
theorem op_catTK (h : X.K = K := by rfl) : OpR X (binaryOp .Add) (rCatT K) := by subst h; exact op_catT
theorem op_eqDK (hu : X.A.units + 64 < cLine) (h : X.K = K := by rfl) : OpR X (compareOp .Eq) (rEqD K) := by subst h; exact op_eqD hu
theorem op_neDK (hu : X.A.units + 64 < cLine) (h : X.K = K := by rfl) : OpR X (compareOp .NotEq) (rNeD K) := by subst h; exact op_neD hu
variable {e o l : Expr} {te ta tv tl : TE} {f : Str} {pos pos' apos cpos : Pos} {tg : Expr} {es : List Expr} {t : TA} {T id : String} {r : V → List V → Hp → VK → Prop} {name : Str} {value : Expr}
theorem pe_fldK (he : PE X e ta) (hb : attributeBase e f X.env (eval e X.env) = eval e X.env) (h : X.K = K := by rfl) : PE X (.Attribute e f pos) (tFld K ta f) := by subst h; exact pe_fld he hb
theorem pi_listK (hl : PE X l tl) (h : X.K = K := by rfl) : PI X tg l (iList K tl) := by subst h; exact pi_list hl
theorem pi_tupK (hl : PE X l tl) (h : X.K = K := by rfl) : PI X tg l (iTup K tl) := by subst h; exact pi_tup hl
theorem ps_fldK (ha : PE X o ta) (hv : PE X value tv) (hs : swapsWith value (some (.Attribute o f pos')) pos.line X.env = pure false) (h : X.K = K := by rfl) : PS X (.Assign [.Attribute o f pos'] value pos) (sFld K ta tv f) := by subst h; exact ps_fld ha hv hs
theorem ps_ostK (ho : PE X o ta) (he : PE X e te) (hs : swapsWith e (some (.Attribute o f pos')) pos.line X.env = pure false := by rfl) (h : X.K = K := by rfl) : PS X (.Assign [.Attribute o f pos'] e pos) (tOst K f ta te) := by subst h; exact ps_ost ho he hs
theorem pe_appK {e : Expr} (ho : PE X o ta) (ha : PA X (e :: es) t) (h : X.K = K := by rfl)
    (hbase : attributeBase o "append" X.env (eval o X.env) = eval o X.env := by rfl)
    (hfew : ((backTo cpos (starEach (e :: es) X.env)).all (fun x => !x.1) && (backToKw cpos (keywordEach [] X.env)).all (fun x => x.1.isSome)
      && decide ((e :: es).length + ([] : List Keyword).length + (if ([] : List Keyword).isEmpty then 0 else 1) < 30)) = true := by rfl)
    (hline : (apos.endLine == cpos.line) = true := by rfl) (hs : starEach (e :: es) X.env = (false, eval e X.env) :: starEach es X.env := by rfl) (hplain : (backTo cpos (starEach es X.env)).any (·.1) = false := by rfl) :
    PE X (.Call (.Attribute o "append" apos) (e :: es) [] cpos) (tBM K "list" rAppend ta t) := by
  subst h; exact pe_bm PySem.F.plainAttrs_list PySem.F.slot_list_append PySem.F.type_list_append mt_append ho ha hbase hfew hline hs hplain
end
theorem g_xf {a : Addr} {cls : Value} {d : Option Addr} {C : Addr} {f : Str} {te : TE} {σ : L2.St} {H : Hp} {Q : VK} (h : te σ H fun x H1 => x = .ref a ∧ cls = .ref C ∧ ∃ (dd : Addr) (fs : List (Str × V)) (v : V), d = some dd ∧ H1 dd = some (.xd fs) ∧ fs.lookup f = some v ∧ Q v H1) : tXf a cls d C f te σ H Q := h
theorem g_lo {K : PySem.W.Frag} {H : Hp} {p : Addr} {ys : List V} {Q : VK} (hs : SqL K H p ys ∨ SqT K H p ys) (h : ∀ l H', H l = none → Same H H' → H' l = some (.lst ys) → Q (.ref l) H') : rListO K [.ref p] H Q := ⟨p, ys, rfl, hs, fun l nl => h l _ nl (L2.Same.new nl) upd_same⟩
theorem g_tt {A B : Prop} (h : A) : if true = true then A else B := by rw [if_pos rfl]; exact h
theorem g_ff {A B : Prop} (h : B) : if false = true then A else B := by rw [if_neg Bool.false_ne_true]; exact h
theorem g_nt {A B : Prop} (h : B) : if (!true) = true then A else B := g_ff h
theorem g_nf {A B : Prop} (h : A) : if (!false) = true then A else B := g_tt h
theorem g_drn {a : Addr} {A B : Prop} (h : B) : if decide (V.ref a = V.non) = true then A else B := g_ff h
theorem g_din {a : Int} {A B : Prop} (h : B) : if decide (V.int a = V.non) = true then A else B := g_ff h
theorem g_dnn {A B : Prop} (h : A) : if decide (V.non = V.non) = true then A else B := g_tt h
theorem g_nrn {a : Addr} {A B : Prop} (h : A) : if (!decide (V.ref a = V.non)) = true then A else B := g_tt h
theorem g_nin {a : Int} {A B : Prop} (h : A) : if (!decide (V.int a = V.non)) = true then A else B := g_tt h
theorem g_nnn {A B : Prop} (h : B) : if (!decide (V.non = V.non)) = true then A else B := g_ff h
end Rt
set_option Elab.async false
set_option linter.all false
set_option maxRecDepth 100000
set_option maxHeartbeats 4000000
/-! The mathematics: runs, trains, reaches over plain lists. -/
namespace Rt
open PySem PySem.Spec L2
theorem tw_all {α : Type} {q : α → Bool} : ∀ {l : List α}, (∀ x ∈ l, q x = true) → l.takeWhile q = l
  | [], _ => rfl
  | a :: l, h => by
    rw [List.takeWhile_cons, if_pos (h a List.mem_cons_self), tw_all fun x hx => h x (List.mem_cons_of_mem _ hx)]
theorem tw_stop {α : Type} {q : α → Bool} : ∀ {l : List α} {i : Nat} {x : α}, (∀ y ∈ l.take i, q y = true) → l[i]? = some x → q x = false → l.takeWhile q = l.take i
  | [], i, x, _, h, _ => by simp at h
  | a :: l, 0, x, _, h, hq => by
    have e : a = x := Option.some.inj h
    subst e
    rw [List.takeWhile_cons, if_neg (by rw [hq]; exact Bool.false_ne_true)]; rfl
  | a :: l, i + 1, x, ha, h, hq => by
    rw [List.takeWhile_cons, if_pos (ha a (by rw [List.take_succ_cons]; exact List.mem_cons_self)), List.take_succ_cons,
      tw_stop (l := l) (i := i) (x := x) (fun y hy => ha y (by rw [List.take_succ_cons]; exact List.mem_cons_of_mem _ hy)) h hq]
theorem take_more {α : Type} : ∀ {l : List α} {i : Nat} {x : α}, l[i]? = some x → l.take (i + 1) = l.take i ++ [x]
  | [], i, x, h => by simp at h
  | a :: l, 0, x, h => by
    have e : a = x := Option.some.inj h
    subst e
    rfl
  | a :: l, i + 1, x, h => by
    have ih := take_more (l := l) (i := i) (x := x) h
    show a :: l.take (i + 1) = a :: l.take i ++ [x]
    rw [ih]; rfl
/-- the run after the place p, among n places -/
def run (r : Bool) (n p : Nat) : List Nat := (List.range (n - (p + 1))).map (fun i => p + 1 + i) ++ (if r = true then List.range p else [])
theorem run_at {r : Bool} {n p i : Nat} (hp : p < n) (hi : i + 1 < n) : (run r n p)[i]? = if p + 1 + i < n then some (p + 1 + i) else if r = true then some (p + 1 + i - n) else none := by
  unfold run
  by_cases h : p + 1 + i < n
  · rw [if_pos h, List.getElem?_append_left (by rw [List.length_map, List.length_range]; omega), List.getElem?_map, List.getElem?_range (by omega)]; rfl
  · rw [if_neg h, List.getElem?_append_right (by rw [List.length_map, List.length_range]; omega), List.length_map, List.length_range]
    cases r with
    | true =>
      rw [if_pos rfl, if_pos rfl, List.getElem?_range (by omega)]
      congr 1; omega
    | false => simp
theorem run_len {r : Bool} {n p : Nat} (hp : p < n) : (run r n p).length = if r = true then n - 1 else n - (p + 1) := by
  unfold run
  cases r with
  | true => rw [if_pos rfl, if_pos rfl, List.length_append, List.length_map, List.length_range, List.length_range]; omega
  | false => simp
theorem run_lt {r : Bool} {n p : Nat} (hp : p < n) : ∀ o ∈ run r n p, o < n := by
  intro o ho
  unfold run at ho
  rcases List.mem_append.mp ho with h | h
  · obtain ⟨i, hi, rfl⟩ := List.mem_map.mp h
    have := List.mem_range.mp hi; omega
  · cases r with
    | true => rw [if_pos rfl] at h; have := List.mem_range.mp h; omega
    | false => simp at h
abbrev nI (l : List Nat) : List V := l.map fun (k : Nat) => V.int (k : Int)
abbrev iI (l : List Nat) : List Int := l.map fun (k : Nat) => (k : Int)
theorem nI_eq (l : List Nat) : nI l = (iI l).map V.int := by unfold nI iI; rw [List.map_map]; rfl
def wk (ss : List Int) (p : Nat) : Nat → Bool := fun o => decide (ss.getD o 0 < ss.getD p 0)
/-- the train of the bead at p -/
def trn (r : Bool) (ss : List Int) (p : Nat) : List Nat := (run r ss.length p).takeWhile (wk ss p)
def stp (r : Bool) (ss : List Int) (p : Nat) : Option Nat := (run r ss.length p)[(trn r ss p).length]?
def oV : Option Nat → V
  | none => .non
  | some o => .int (o : Int)
def rch (r : Bool) (ss ls : List Int) (p : Nat) : Int := ls.getD p 0 + ((trn r ss p).map fun o => ls.getD o 0).sum
theorem trn_lt {r : Bool} {ss : List Int} {p : Nat} (hp : p < ss.length) : ∀ o ∈ trn r ss p, o < ss.length := fun o ho => run_lt hp o ((List.takeWhile_sublist _).subset ho)
theorem trn_len {r : Bool} {ss : List Int} {p : Nat} : (trn r ss p).length ≤ (run r ss.length p).length := (List.takeWhile_sublist _).length_le
theorem run_le {r : Bool} {n p : Nat} (hp : p < n) : (run r n p).length < n := by
  rw [run_len hp]; split <;> omega
theorem sum_app (l : List Int) (x : Int) : (l ++ [x]).sum = l.sum + x := by
  rw [List.sum_append, List.sum_cons, List.sum_nil]; omega
theorem sum_le {l : List Int} {b : Int} (h : ∀ x ∈ l, x ≤ b) : l.sum ≤ b * l.length := by
  induction l with
  | nil => simp
  | cons a l ih =>
    have h1 := h a List.mem_cons_self
    have h2 := ih fun x hx => h x (List.mem_cons_of_mem _ hx)
    rw [List.sum_cons, List.length_cons, Int.natCast_add, Int.mul_add]
    omega
theorem sum_ge {l : List Int} (h : ∀ x ∈ l, 0 ≤ x) : 0 ≤ l.sum := by
  induction l with
  | nil => simp
  | cons a l ih =>
    have h1 := h a List.mem_cons_self
    have h2 := ih fun x hx => h x (List.mem_cons_of_mem _ hx)
    rw [List.sum_cons]; omega
theorem getD_mem {l : List Int} {i : Nat} (h : i < l.length) : l.getD i 0 ∈ l := by
  rw [List.getD_eq_getElem?_getD, List.getElem?_eq_getElem h]
  exact List.getElem_mem h
theorem ext_getD {l m : List Int} (hl : l.length = m.length) (h : ∀ i, i < l.length → l.getD i 0 = m.getD i 0) : l = m := by
  refine List.ext_getElem hl fun i h1 h2 => ?_
  have := h i h1
  rw [List.getD_eq_getElem?_getD, List.getD_eq_getElem?_getD, List.getElem?_eq_getElem h1, List.getElem?_eq_getElem h2] at this
  exact this

/-! ### the walk of a law along a run -/
structure Wkd (r : Bool) (ss : List Int) (p i : Nat) : Prop where
  all : ∀ y ∈ (run r ss.length p).take i, wk ss p y = true
  le : i ≤ (run r ss.length p).length
theorem Wkd.zero {r : Bool} {ss : List Int} {p : Nat} : Wkd r ss p 0 := ⟨fun y h => by simp at h, Nat.zero_le _⟩
theorem Wkd.more {r : Bool} {ss : List Int} {p i o : Nat} (w : Wkd r ss p i) (ho : (run r ss.length p)[i]? = some o) (hw : wk ss p o = true) : Wkd r ss p (i + 1) := by
  refine ⟨fun y h => ?_, (List.getElem?_eq_some_iff.mp ho).1⟩
  rw [take_more ho] at h
  rcases List.mem_append.mp h with z | z
  · exact w.all y z
  · have e : y = o := by simpa using z
    subst e; exact hw
theorem Wkd.full {r : Bool} {ss : List Int} {p i : Nat} (w : Wkd r ss p i) (h : (run r ss.length p).length ≤ i) : trn r ss p = (run r ss.length p).take i ∧ stp r ss p = none := by
  have e : (run r ss.length p).take i = run r ss.length p := List.take_of_length_le h
  have t : trn r ss p = run r ss.length p := tw_all fun x hx => w.all x (by rw [e]; exact hx)
  refine ⟨t.trans e.symm, ?_⟩
  unfold stp
  rw [t, List.getElem?_eq_none (Nat.le_refl _)]
theorem Wkd.stop {r : Bool} {ss : List Int} {p i o : Nat} (w : Wkd r ss p i) (ho : (run r ss.length p)[i]? = some o) (hw : wk ss p o = false) : trn r ss p = (run r ss.length p).take i ∧ stp r ss p = some o := by
  have t : trn r ss p = (run r ss.length p).take i := tw_stop w.all ho hw
  refine ⟨t, ?_⟩
  unfold stp
  rw [t, List.length_take, Nat.min_eq_left w.le, ho]
theorem sum_more {r : Bool} {n p i o : Nat} {ls : List Int} (ho : (run r n p)[i]? = some o) : (((run r n p).take (i + 1)).map fun o => ls.getD o 0).sum = (((run r n p).take i).map fun o => ls.getD o 0).sum + ls.getD o 0 := by
  rw [take_more ho, List.map_append]
  exact sum_app _ _
theorem wk_eq {ss : List Int} {p o : Nat} : wk ss p o = decide (ss.getD o 0 < ss.getD p 0) := rfl
theorem wk_f {ss : List Int} {p o : Nat} (h : decide (ss.getD p 0 ≤ ss.getD o 0) = true) : wk ss p o = false := by
  have := of_decide_eq_true h; rw [wk_eq]; exact decide_eq_false (by omega)
theorem wk_t {ss : List Int} {p o : Nat} (h : decide (ss.getD p 0 ≤ ss.getD o 0) = false) : wk ss p o = true := by
  have := of_decide_eq_false h; rw [wk_eq]; exact decide_eq_true (by omega)
/-! ### lists of ints -/
theorem at_toNat {zs : List Int} {f : Int} (h0 : 0 ≤ f) (h1 : f < (zs.length : Int)) : atI (zs.map V.int) f = some (.int (zs.getD f.toNat 0)) := by
  have e : f = ((f.toNat : Nat) : Int) := by omega
  rw [e]
  have := at_int (ss := zs) (o := f.toNat) (by omega)
  rw [Int.toNat_natCast]
  exact this
theorem rep_flat {α : Type} (x : α) : ∀ k : Nat, (List.replicate k [x]).flatten = List.replicate k x
  | 0 => rfl
  | k + 1 => by rw [List.replicate_succ, List.flatten_cons, rep_flat x k, List.replicate_succ]; rfl
theorem cut1 (xs : List V) (h : 0 < xs.length) : cutV xs (some 1) none = xs.drop 1 := by
  unfold cutV
  have e1 : HT.sIx xs.length 0 (some 1) = 1 := by
    unfold HT.sIx; simp; omega
  have e2 : HT.sIx xs.length xs.length none = xs.length := by
    unfold HT.sIx; rfl
  rw [e1, e2]
  exact List.take_of_length_le (by rw [List.length_drop]; omega)
structure Dr (ns ds : List Int) : Prop where
  len : ds.length = ns.length
  at_ : ∀ i, i < ns.length → 0 ≤ ds.getD i 0 ∧ ds.getD i 0 < ns.getD i 0
theorem getD_drop1 (ds : List Int) (i : Nat) : (ds.drop 1).getD i 0 = ds.getD (i + 1) 0 := by
  rw [List.getD_eq_getElem?_getD, List.getD_eq_getElem?_getD, List.getElem?_drop, Nat.add_comm]
theorem Dr.tail {m : Int} {ms ds : List Int} (h : Dr (m :: ms) ds) : Dr ms (ds.drop 1) := by
  refine ⟨by rw [List.length_drop, h.len]; rfl, fun i hi => ?_⟩
  rw [getD_drop1]
  have := h.at_ (i + 1) (by rw [List.length_cons]; omega)
  exact this
theorem getD_map {l : List Int} {g : Int → Int} {i : Nat} (h : i < l.length) : (l.map g).getD i 0 = g (l.getD i 0) := by
  rw [List.getD_eq_getElem?_getD, List.getElem?_map, List.getElem?_eq_getElem h, List.getD_eq_getElem?_getD, List.getElem?_eq_getElem h]; rfl
theorem getD_rep {n : Nat} {x : Int} {i : Nat} (h : i < n) : (List.replicate n x).getD i 0 = x := by
  rw [List.getD_eq_getElem?_getD, List.getElem?_replicate, if_pos h]; rfl
theorem mem_getD {l : List Int} {x : Int} (h : x ∈ l) : ∃ i, i < l.length ∧ l.getD i 0 = x := by
  obtain ⟨i, hi, e⟩ := List.mem_iff_getElem.mp h
  exact ⟨i, hi, by rw [List.getD_eq_getElem?_getD, List.getElem?_eq_getElem hi]; exact e⟩

theorem g_rep1 {H : Hp} {Q : VK} {l : Addr} {x : Int} {k : Nat} (h1 : H l = some (.lst [V.int x])) (sz : k ≤ 100000)
    (h : ∀ p H', H p = none → Same H H' → H' p = some (.lst ((List.replicate k x).map V.int)) → Q (.ref p) H') : rRep (.ref l) (.int (k : Int)) H Q :=
  ⟨l, (k : Int), [V.int x], rfl, rfl, h1, by omega, by omega, by rw [Int.toNat_natCast, sizeLine_eq, List.length_singleton]; omega, fun p np => h p _ np (L2.Same.new np) (by rw [upd_same, Int.toNat_natCast, rep_flat, List.map_replicate])⟩
theorem g_sl1 {K : PySem.W.Frag} {H : Hp} {Q : VK} {l : Addr} {xs : List Int} (h1 : SqL K H l (xs.map V.int)) (h0 : 0 < xs.length)
    (h : ∀ p H', H p = none → Same H H' → H' p = some (.lst ((xs.drop 1).map V.int)) → Q (.ref p) H') : rSlL K (.ref l) (some 1) none H Q :=
  ⟨l, _, rfl, h1, fun p np => h p _ np (L2.Same.new np) (by rw [upd_same, cut1 _ (by rw [List.length_map]; exact h0), List.map_drop])⟩
/-! ### comprehensions over ints -/
theorem lc_ints {K : PySem.W.Frag} {a : Addr} {xs : List Int} {g : TG} {te : TE} {vs : List Nat} {σ : L2.St} {H1 : Hp} {D : Addr} {Qd : Hp → Prop} (f : Int → Int) (hs : SqL K H1 a (xs.map V.int)) (hD : H1 D = none) (sz : xs.length ≤ 100000)
    (turn : ∀ (i : Nat) (x : Int) (H' : Hp), xs[i]? = some x → Same H1 H' → ∀ Q : VK, (∀ H2, Same H' H2 → Q (.int (f x)) H2) → g (.int x) (wipe σ vs) H' fun σ2 H2 => wipe σ2 vs = wipe σ vs ∧ te σ2 H2 Q)
    (done : ∀ H', Same H1 H' → H' D = some (.lst ((xs.map f).map V.int)) → Qd H') :
    ∃ W : Nat → Nat → Hp → Prop, (∃ m, W 0 m (upd H1 D (.lst []))) ∧ ∀ i m H, W i m H →
      ((Itl K a).stop i H ∧ Qd H) ∨ ((Itl K a).go i H ∧ ∃ Nx : Hp → Prop, (∀ H', Nx H' → ∃ m', m' < m ∧ W (i + 1) m' H') ∧ ∀ x H', (Itl K a).yld i H x H' → g x (wipe σ vs) H' fun σ2 H2 => wipe σ2 vs = wipe σ vs ∧ tYes σ2 H2 fun b H3 =>
        if b = true then te σ2 H3 fun y H4 => ∃ acc, H4 D = some (.lst acc) ∧ acc.length < sizeLine ∧ Nx (upd H4 D (.lst (acc ++ [y]))) else Nx H3) := by
  refine lc_list (xs := xs.map V.int) (fun i H' => Same H1 H' ∧ H' D = some (.lst (((xs.take i).map f).map V.int))) ⟨Same.new hD, upd_same⟩ (fun i H' _ h => h.1.seq hs) ?_ ?_
  · rintro i y H' hi ⟨S1, hd⟩
    obtain ⟨x, hx, rfl⟩ : ∃ x, xs[i]? = some x ∧ y = V.int x := by
      rw [List.getElem?_map] at hi
      cases e : xs[i]? with
      | none => rw [e] at hi; cases hi
      | some x => rw [e] at hi; exact ⟨x, rfl, (Option.some.inj hi).symm⟩
    have hil : i < xs.length := (List.getElem?_eq_some_iff.mp hx).1
    refine turn i x H' hx S1 _ fun H2 S2 => ⟨_, S2 _ _ hd, ?_, (S1.trans S2).mut hD, ?_⟩
    · rw [List.length_map, List.length_map, List.length_take]; exact slt1000 (by omega)
    · rw [upd_same, take_more hx, List.map_append, List.map_append]; rfl
  · rintro H' ⟨S1, hd⟩
    rw [List.length_map, List.take_length] at hd
    exact done H' S1 hd
theorem lc_rangeI {lo : Int} {n : Nat} {g : TG} {te : TE} {vs : List Nat} {σ : L2.St} {H1 : Hp} {D : Addr} {Qd : Hp → Prop} (f : Nat → Int) (hD : H1 D = none) (sz : n ≤ 100000)
    (turn : ∀ (i : Nat) (H' : Hp), i < n → Same H1 H' → ∀ Q : VK, (∀ H2, Same H' H2 → Q (.int (f i)) H2) → g (.int (lo + i)) (wipe σ vs) H' fun σ2 H2 => wipe σ2 vs = wipe σ vs ∧ te σ2 H2 Q)
    (done : ∀ H', Same H1 H' → H' D = some (.lst (((List.range n).map f).map V.int)) → Qd H') :
    ∃ W : Nat → Nat → Hp → Prop, (∃ m, W 0 m (upd H1 D (.lst []))) ∧ ∀ i m H, W i m H →
      ((Itr lo n).stop i H ∧ Qd H) ∨ ((Itr lo n).go i H ∧ ∃ Nx : Hp → Prop, (∀ H', Nx H' → ∃ m', m' < m ∧ W (i + 1) m' H') ∧ ∀ x H', (Itr lo n).yld i H x H' → g x (wipe σ vs) H' fun σ2 H2 => wipe σ2 vs = wipe σ vs ∧ tYes σ2 H2 fun b H3 =>
        if b = true then te σ2 H3 fun y H4 => ∃ acc, H4 D = some (.lst acc) ∧ acc.length < sizeLine ∧ Nx (upd H4 D (.lst (acc ++ [y]))) else Nx H3) := by
  refine lc_range (fun i H' => Same H1 H' ∧ H' D = some (.lst (((List.range i).map f).map V.int))) ⟨Same.new hD, upd_same⟩ ?_ ?_
  · rintro i H' hi ⟨S1, hd⟩
    refine turn i H' hi S1 _ fun H2 S2 => ⟨_, S2 _ _ hd, ?_, (S1.trans S2).mut hD, ?_⟩
    · rw [List.length_map, List.length_map, List.length_range]; exact slt1000 (by omega)
    · rw [upd_same, List.range_succ, List.map_append, List.map_append]; rfl
  · rintro H' ⟨S1, hd⟩
    exact done H' S1 hd
/-! ### data -/
theorem canI : ∀ xs : List Int, PyData.canLayAll0 (xs.map PyData.int) = true
  | [] => rfl
  | x :: xs => by simp [PyData.canLayAll0, PyData.canLay0, canI xs]
theorem depI : ∀ xs : List Int, PyData.depthAll (xs.map PyData.int) = 0
  | [] => rfl
  | x :: xs => by simp [PyData.depthAll, PyData.depth, depI xs]
theorem dpI {K : PySem.W.Frag} {H : Hp} : ∀ xs : List Int, DpAll K H (xs.map V.int) (xs.map PyData.int)
  | [] => .nil
  | x :: xs => .cons (.int x) (dpI xs)
/-- [xs, ys] == [xs, ys] -/
theorem g_eq2 {K : PySem.W.Frag} {H : Hp} {Q : VK} {a b a1 a2 b1 b2 : Addr} {xs ys : List Int} (ha : SqL K H a [.ref a1, .ref a2]) (hb : SqL K H b [.ref b1, .ref b2]) (h1 : SqL K H a1 (xs.map V.int)) (h2 : SqL K H a2 (ys.map V.int)) (h3 : SqL K H b1 (xs.map V.int)) (h4 : SqL K H b2 (ys.map V.int))
    (q : Q (.bl true) H) : rEqD K (.ref a) (.ref b) H Q := by
  have can : PyData.canLay0 (.list [.list (xs.map PyData.int), .list (ys.map PyData.int)]) = true := by simp [PyData.canLay0, PyData.canLayAll0, canI]
  have sh : SeqAt.shaped (.list [.list (xs.map PyData.int), .list (ys.map PyData.int)]) = true := by
    unfold SeqAt.shaped
    rw [can]
    simp [PyData.depth, PyData.depthAll, depI]
  exact ⟨_, _, .lst ha (.cons (.lst h1 (dpI xs)) (.cons (.lst h2 (dpI ys)) .nil)), .lst hb (.cons (.lst h3 (dpI xs)) (.cons (.lst h4 (dpI ys)) .nil)), sh, sh, by rw [SeqAt.eqv_refl _ can]; exact q⟩
end Rt
set_option Elab.async false
set_option linter.all false
set_option maxRecDepth 100000
set_option maxHeartbeats 4000000
/-! The mathematics of sweeping a row: one bead woken until it is still, from the last place to the first. -/
namespace Rt
open PySem PySem.Spec L2
theorem tw_congr {α : Type} {q r : α → Bool} : ∀ {l : List α}, (∀ x ∈ l, q x = r x) → l.takeWhile q = l.takeWhile r
  | [], _ => rfl
  | a :: l, h => by
    rw [List.takeWhile_cons, List.takeWhile_cons, h a List.mem_cons_self, tw_congr fun x hx => h x (List.mem_cons_of_mem _ hx)]
theorem tw_mono {α : Type} {q r : α → Bool} : ∀ {l : List α}, (∀ x ∈ l, q x = true → r x = true) → (l.takeWhile q).length ≤ (l.takeWhile r).length
  | [], _ => Nat.le_refl _
  | a :: l, h => by
    rw [List.takeWhile_cons, List.takeWhile_cons]
    by_cases c : q a = true
    · rw [if_pos c, if_pos (h a List.mem_cons_self c), List.length_cons, List.length_cons]
      exact Nat.succ_le_succ (tw_mono fun x hx => h x (List.mem_cons_of_mem _ hx))
    · rw [if_neg c]; exact Nat.zero_le _
theorem tw_take {α : Type} {q : α → Bool} : ∀ {l : List α}, l.takeWhile q = l.take (l.takeWhile q).length
  | [] => rfl
  | a :: l => by
    rw [List.takeWhile_cons]
    by_cases c : q a = true
    · rw [if_pos c, List.length_cons, List.take_succ_cons, ← tw_take]
    · rw [if_neg c]; rfl
theorem tw_ge {α : Type} {q : α → Bool} : ∀ {l : List α} {k : Nat}, k ≤ l.length → (∀ x ∈ l.take k, q x = true) → k ≤ (l.takeWhile q).length
  | _, 0, _, _ => Nat.zero_le _
  | [], k + 1, h, _ => by simp at h
  | a :: l, k + 1, h, ha => by
    rw [List.takeWhile_cons, if_pos (ha a (by rw [List.take_succ_cons]; exact List.mem_cons_self)), List.length_cons]
    exact Nat.succ_le_succ (tw_ge (by simpa using h) fun x hx => ha x (by rw [List.take_succ_cons]; exact List.mem_cons_of_mem _ hx))
/-- where the longest beginning ends, the test fails -/
theorem tw_next {α : Type} {q : α → Bool} : ∀ {l : List α} {x : α}, l[(l.takeWhile q).length]? = some x → q x = false
  | [], x, h => by simp at h
  | a :: l, x, h => by
    rw [List.takeWhile_cons] at h
    by_cases c : q a = true
    · rw [if_pos c, List.length_cons, List.getElem?_cons_succ] at h
      exact tw_next h
    · rw [if_neg c] at h
      have e : a = x := Option.some.inj h
      subst e
      cases e2 : q a with
      | true => exact absurd e2 c
      | false => rfl
theorem tw_mem {α : Type} {q : α → Bool} : ∀ {l : List α} {x : α}, x ∈ l.takeWhile q → q x = true
  | [], x, h => by cases h
  | a :: l, x, h => by
    rw [List.takeWhile_cons] at h
    by_cases c : q a = true
    · rw [if_pos c] at h
      rcases List.mem_cons.mp h with z | z
      · rw [z]; exact c
      · exact tw_mem z
    · rw [if_neg c] at h; cases h
def sm (ls : List Int) (l : List Nat) : Int := (l.map fun o => ls.getD o 0).sum
theorem sm_app (ls : List Int) (a b : List Nat) : sm ls (a ++ b) = sm ls a + sm ls b := by unfold sm; rw [List.map_append, List.sum_append]
theorem sm_cons (ls : List Int) (a : Nat) (b : List Nat) : sm ls (a :: b) = ls.getD a 0 + sm ls b := by unfold sm; rw [List.map_cons, List.sum_cons]
theorem sm_nn {ls : List Int} {n : Nat} (hp : ∀ o, o < n → 1 ≤ ls.getD o 0) : ∀ l : List Nat, (∀ o ∈ l, o < n) → 0 ≤ sm ls l
  | [], _ => by unfold sm; simp
  | a :: l, h => by
    rw [sm_cons]
    have h1 := hp a (h a List.mem_cons_self)
    have h2 := sm_nn hp l fun o ho => h o (List.mem_cons_of_mem _ ho)
    omega
theorem sm_pos {ls : List Int} {n : Nat} (hp : ∀ o, o < n → 1 ≤ ls.getD o 0) : ∀ l : List Nat, (∀ o ∈ l, o < n) → l ≠ [] → 1 ≤ sm ls l
  | [], _, h => absurd rfl h
  | a :: l, h, _ => by
    rw [sm_cons]
    have h1 := hp a (h a List.mem_cons_self)
    have h2 := sm_nn hp l fun o ho => h o (List.mem_cons_of_mem _ ho)
    omega
theorem take_split {α : Type} {l : List α} {k m : Nat} (h : k ≤ m) : l.take m = l.take k ++ (l.drop k).take (m - k) := by
  rw [← List.take_append_drop k (l.take m), List.take_take, Nat.min_eq_left h, List.drop_take]
/-- the run of a row, short -/
abbrev rn (n p : Nat) : List Nat := run false n p
theorem rn_at {n p i : Nat} (h : p + 1 + i < n) : (rn n p)[i]? = some (p + 1 + i) := by
  have := run_at (r := false) (n := n) (p := p) (i := i) (by omega) (by omega)
  rw [if_pos h] at this; exact this
theorem rn_len {n p : Nat} (h : p < n) : (rn n p).length = n - (p + 1) := by
  have := run_len (r := false) h; rw [if_neg Bool.false_ne_true] at this; exact this
theorem rn_ge {n p : Nat} : ∀ o ∈ rn n p, p < o := by
  intro o ho
  unfold rn run at ho
  rw [if_neg Bool.false_ne_true, List.append_nil] at ho
  obtain ⟨i, _, rfl⟩ := List.mem_map.mp ho
  omega
theorem rn_drop {n p i : Nat} (h : p + 1 + i < n) : (rn n p).drop (i + 1) = rn n (p + 1 + i) := by
  refine List.ext_getElem? fun k => ?_
  rw [List.getElem?_drop]
  by_cases c : p + 1 + i + 1 + k < n
  · rw [rn_at (show p + 1 + (i + 1 + k) < n by omega), rn_at c]; congr 1; omega
  · rw [List.getElem?_eq_none (by rw [rn_len (by omega)]; omega), List.getElem?_eq_none (by rw [rn_len h]; omega)]
theorem getD_set {l : List Int} {p o : Nat} {v : Int} (hp : p < l.length) : (l.set p v).getD o 0 = if o = p then v else l.getD o 0 := by
  rw [List.getD_eq_getElem?_getD, List.getElem?_set]
  by_cases h : p = o
  · subst h; rw [if_pos rfl, if_pos hp, if_pos rfl]; rfl
  · rw [if_neg h, if_neg (fun z => h z.symm), List.getD_eq_getElem?_getD]
/-- the train of the bead at p, were its strength s -/
def tk (ss : List Int) (p : Nat) (s : Int) : List Nat := (rn ss.length p).takeWhile fun o => decide (ss.getD o 0 < s)
theorem tk_self (ss : List Int) (p : Nat) : trn false ss p = tk ss p (ss.getD p 0) := rfl
theorem tk_set {ss : List Int} {p : Nat} {v s : Int} (hp : p < ss.length) : tk (ss.set p v) p s = tk ss p s := by
  unfold tk
  rw [List.length_set]
  refine tw_congr fun o ho => ?_
  have := rn_ge o ho
  rw [getD_set hp, if_neg (by omega)]
def W (ss ls : List Int) (p : Nat) (s : Int) : Int := ls.getD p 0 + sm ls (tk ss p s)
theorem W_self (ss ls : List Int) (p : Nat) : rch false ss ls p = W ss ls p (ss.getD p 0) := rfl
theorem W_set {ss ls : List Int} {p : Nat} {v s : Int} (hp : p < ss.length) : W (ss.set p v) ls p s = W ss ls p s := by unfold W; rw [tk_set hp]
theorem W_new {ss ls : List Int} {p : Nat} {v : Int} (hp : p < ss.length) : rch false (ss.set p v) ls p = W ss ls p v := by
  rw [W_self, W_set hp, getD_set hp, if_pos rfl]
theorem tk_take (ss : List Int) (p : Nat) (s : Int) : tk ss p s = (rn ss.length p).take (tk ss p s).length := tw_take
theorem tk_le (ss : List Int) (p : Nat) (s : Int) : (tk ss p s).length ≤ (rn ss.length p).length := (List.takeWhile_sublist _).length_le
theorem tk_mono {ss : List Int} {p : Nat} {s s' : Int} (h : s ≤ s') : (tk ss p s).length ≤ (tk ss p s').length := by
  refine tw_mono fun x _ hx => ?_
  have := of_decide_eq_true hx
  exact decide_eq_true (by omega)
theorem tk_same {ss : List Int} {p : Nat} {s s' : Int} (h : (tk ss p s).length = (tk ss p s').length) : tk ss p s = tk ss p s' := by
  rw [tk_take ss p s, tk_take ss p s', h]
structure Pos' (ss ls : List Int) : Prop where
  len : ls.length = ss.length
  pos : ∀ o, o < ss.length → 1 ≤ ls.getD o 0
theorem Pos'.set {ss ls : List Int} {p : Nat} {v : Int} (h : Pos' ss ls) : Pos' (ss.set p v) ls := ⟨by rw [List.length_set]; exact h.len, by rw [List.length_set]; exact h.pos⟩
theorem W_pos {ss ls : List Int} (h : Pos' ss ls) {p : Nat} (hp : p < ss.length) (s : Int) : 1 ≤ W ss ls p s := by
  have h1 := h.pos p hp
  have h2 := sm_nn (n := ss.length) h.pos (tk ss p s) fun o ho => run_lt hp o ((List.takeWhile_sublist _).subset ho)
  unfold W; omega
def Rest (ss ls : List Int) (p : Nat) : Prop := ∀ o, p ≤ o → o < ss.length → rch false ss ls o = ss.getD o 0
/-- what lies before p makes no difference to the reach of p -/
theorem rch_local {ss ss' ls : List Int} {p : Nat} (hl : ss.length = ss'.length) (h : ∀ o, p ≤ o → ss.getD o 0 = ss'.getD o 0) : rch false ss ls p = rch false ss' ls p := by
  rw [W_self, W_self]
  unfold W tk
  rw [hl, h p (Nat.le_refl _)]
  congr 2
  refine tw_congr fun o ho => ?_
  rw [h o (Nat.le_of_lt (rn_ge o ho))]
theorem Rest.set {ss ls : List Int} {p q : Nat} {v : Int} (h : Rest ss ls p) (hq : q < p) (hp : q < ss.length) : Rest (ss.set q v) ls p := by
  intro o ho hol
  rw [List.length_set] at hol
  rw [getD_set hp, if_neg (by omega), ← h o ho hol]
  refine rch_local (by rw [List.length_set]) fun z hz => ?_
  rw [getD_set hp, if_neg (by omega)]
/-- lowered beside beads at rest: its train stays -/
theorem lowered {ss ls : List Int} {p : Nat} (P : Pos' ss ls) (hp : p < ss.length) (R : Rest ss ls (p + 1)) (hlow : rch false ss ls p < ss.getD p 0) : tk ss p (rch false ss ls p) = tk ss p (ss.getD p 0) := by
  refine tk_same (Nat.le_antisymm (tk_mono (by omega)) ?_)
  refine tw_ge (tk_le _ _ _) fun o ho => ?_
  rw [← tk_take] at ho
  obtain ⟨i, hi, ei⟩ := List.mem_iff_getElem.mp ho
  have hil := tk_le ss p (ss.getD p 0)
  rw [rn_len hp] at hil
  have hin : p + 1 + i < ss.length := by omega
  have eo : o = p + 1 + i := by
    have h1 : (tk ss p (ss.getD p 0))[i]? = some o := by rw [List.getElem?_eq_getElem hi, ei]
    rw [tk_take, List.getElem?_take_of_lt hi, rn_at hin] at h1
    exact (Option.some.inj h1).symm
  subst eo
  have hw : ss.getD (p + 1 + i) 0 < ss.getD p 0 := by
    have := tw_mem ho
    exact of_decide_eq_true this
  -- the retinue of that bead lies within the train
  have hk : (trn false ss (p + 1 + i)).length ≤ (tk ss p (ss.getD p 0)).length - (i + 1) := by
    rcases Nat.lt_or_ge ((tk ss p (ss.getD p 0)).length - (i + 1)) (trn false ss (p + 1 + i)).length with c | c
    · exfalso
      have hlt : (tk ss p (ss.getD p 0)).length - (i + 1) < (rn ss.length (p + 1 + i)).length := Nat.lt_of_lt_of_le c (List.takeWhile_sublist _).length_le
      obtain ⟨x, hget⟩ : ∃ x, (rn ss.length (p + 1 + i))[(tk ss p (ss.getD p 0)).length - (i + 1)]? = some x := ⟨_, List.getElem?_eq_getElem hlt⟩
      have h2 : (rn ss.length p)[(tk ss p (ss.getD p 0)).length]? = some x := by
        have := hget
        rw [← rn_drop hin, List.getElem?_drop, show i + 1 + ((tk ss p (ss.getD p 0)).length - (i + 1)) = (tk ss p (ss.getD p 0)).length by omega] at this
        exact this
      have h3 := tw_next (q := fun o => decide (ss.getD o 0 < ss.getD p 0)) h2
      have h4 : (trn false ss (p + 1 + i))[(tk ss p (ss.getD p 0)).length - (i + 1)]? = some x := by
        have e := tk_self ss (p + 1 + i)
        rw [e, tk_take, List.getElem?_take_of_lt (by rw [← e]; exact c)]
        exact hget
      have h5 := tw_mem (List.mem_of_getElem? h4)
      have h6 := of_decide_eq_false h3
      have h7 := of_decide_eq_true h5
      omega
    · exact c
  have hs : ss.getD (p + 1 + i) 0 ≤ sm ls (tk ss p (ss.getD p 0)) := by
    have e1 := R (p + 1 + i) (by omega) hin
    rw [← e1]
    have e2 : rch false ss ls (p + 1 + i) = sm ls ((p + 1 + i) :: trn false ss (p + 1 + i)) := by rw [sm_cons]; rfl
    rw [e2]
    have e3 : tk ss p (ss.getD p 0) = (rn ss.length p).take i ++ ((p + 1 + i) :: ((rn ss.length (p + 1 + i)).take ((tk ss p (ss.getD p 0)).length - (i + 1)))) := by
      conv => lhs; rw [tk_take]
      rw [take_split (show i + 1 ≤ (tk ss p (ss.getD p 0)).length from hi), rn_drop hin, take_more (rn_at hin), List.append_assoc]; rfl
    rw [e3, sm_app, sm_cons, sm_cons]
    have e4 : (rn ss.length (p + 1 + i)).take ((tk ss p (ss.getD p 0)).length - (i + 1)) = trn false ss (p + 1 + i) ++ ((rn ss.length (p + 1 + i)).drop (trn false ss (p + 1 + i)).length).take ((tk ss p (ss.getD p 0)).length - (i + 1) - (trn false ss (p + 1 + i)).length) := by
      rw [take_split hk]
      congr 1
      rw [tk_self, ← tk_take]
    rw [e4, sm_app]
    have n1 := sm_nn (n := ss.length) P.pos ((rn ss.length p).take i) fun o ho => run_lt hp o (List.mem_of_mem_take ho)
    have n2 := sm_nn (n := ss.length) P.pos (((rn ss.length (p + 1 + i)).drop (trn false ss (p + 1 + i)).length).take ((tk ss p (ss.getD p 0)).length - (i + 1) - (trn false ss (p + 1 + i)).length)) fun o ho => run_lt hin o (List.mem_of_mem_drop (List.mem_of_mem_take ho))
    omega
  have hpp := P.pos p hp
  have : rch false ss ls p = ls.getD p 0 + sm ls (tk ss p (ss.getD p 0)) := rfl
  exact decide_eq_true (by omega)
def settle : Nat → List Int → List Int → Nat → List Int × Nat
  | 0, ss, _, _ => (ss, 0)
  | k + 1, ss, ls, p => if rch false ss ls p = ss.getD p 0 then (ss, 0) else ((settle k (ss.set p (rch false ss ls p)) ls p).1, (settle k (ss.set p (rch false ss ls p)) ls p).2 + 1)
theorem settle_still {ss ls : List Int} {p : Nat} (h : rch false ss ls p = ss.getD p 0) : ∀ k, settle k ss ls p = (ss, 0)
  | 0 => rfl
  | k + 1 => by unfold settle; rw [if_pos h]
theorem settle_more {ss ls : List Int} {p : Nat} (h : rch false ss ls p ≠ ss.getD p 0) (k : Nat) : settle (k + 1) ss ls p = ((settle k (ss.set p (rch false ss ls p)) ls p).1, (settle k (ss.set p (rch false ss ls p)) ls p).2 + 1) := by
  conv => lhs; unfold settle
  rw [if_neg h]
theorem settle_low {ss ls : List Int} {p : Nat} (P : Pos' ss ls) (hp : p < ss.length) (R : Rest ss ls (p + 1)) (hlow : rch false ss ls p < ss.getD p 0) (k : Nat) : settle (k + 1) ss ls p = (ss.set p (rch false ss ls p), 1) := by
  have h : rch false (ss.set p (rch false ss ls p)) ls p = (ss.set p (rch false ss ls p)).getD p 0 := by
    rw [W_new hp, getD_set hp, if_pos rfl]
    unfold W
    rw [lowered P hp R hlow]
    rfl
  unfold settle
  rw [if_neg (by omega), settle_still h]
theorem settle_len : ∀ (k : Nat) (ss ls : List Int) (p : Nat), (settle k ss ls p).1.length = ss.length
  | 0, _, _, _ => rfl
  | k + 1, ss, ls, p => by
    unfold settle
    split
    · rfl
    · rw [settle_len k, List.length_set]
theorem settle_cnt : ∀ (k : Nat) (ss ls : List Int) (p : Nat), (settle k ss ls p).2 ≤ k
  | 0, _, _, _ => Nat.le_refl _
  | k + 1, ss, ls, p => by
    unfold settle
    split
    · exact Nat.zero_le _
    · exact Nat.succ_le_succ (settle_cnt k _ _ _)
theorem settle_other : ∀ (k : Nat) (ss ls : List Int) (p o : Nat), p < ss.length → o ≠ p → (settle k ss ls p).1.getD o 0 = ss.getD o 0
  | 0, _, _, _, _, _, _ => rfl
  | k + 1, ss, ls, p, o, hp, ho => by
    unfold settle
    split
    · rfl
    · rw [settle_other k _ _ _ _ (by rw [List.length_set]; exact hp) ho, getD_set hp, if_neg ho]
theorem settle_nn : ∀ (k : Nat) (ss ls : List Int) (p : Nat), Pos' ss ls → p < ss.length → (∀ x ∈ ss, 0 ≤ x) → ∀ x ∈ (settle k ss ls p).1, 0 ≤ x
  | 0, _, _, _, _, _, h => h
  | k + 1, ss, ls, p, P, hp, h => by
    unfold settle
    split
    · exact h
    · refine settle_nn k _ _ _ P.set (by rw [List.length_set]; exact hp) fun x hx => ?_
      rcases List.mem_or_eq_of_mem_set hx with z | z
      · exact h x z
      · have := W_pos P hp (ss.getD p 0)
        rw [← W_self] at this
        omega
theorem settles : ∀ (k : Nat) (ss ls : List Int) (p : Nat), Pos' ss ls → p < ss.length → Rest ss ls (p + 1) → (rn ss.length p).length - (tk ss p (ss.getD p 0)).length + 1 ≤ k →
    rch false (settle k ss ls p).1 ls p = (settle k ss ls p).1.getD p 0
  | 0, _, _, _, _, _, _, h => by omega
  | k + 1, ss, ls, p, P, hp, R, h => by
    by_cases c : rch false ss ls p = ss.getD p 0
    · rw [settle_still c]; exact c
    · rcases Int.lt_or_gt_of_ne c with d | d
      · rw [settle_low P hp R d]
        show rch false (ss.set p (rch false ss ls p)) ls p = (ss.set p (rch false ss ls p)).getD p 0
        rw [W_new hp, getD_set hp, if_pos rfl]
        unfold W
        rw [lowered P hp R d]; rfl
      · have hm := tk_mono (ss := ss) (p := p) (s := ss.getD p 0) (s' := rch false ss ls p) (by omega)
        have hl := tk_le ss p (rch false ss ls p)
        have e1 : (ss.set p (rch false ss ls p)).getD p 0 = rch false ss ls p := by rw [getD_set hp, if_pos rfl]
        have e2 : settle (k + 1) ss ls p = ((settle k (ss.set p (rch false ss ls p)) ls p).1, (settle k (ss.set p (rch false ss ls p)) ls p).2 + 1) := by
          conv => lhs; unfold settle
          rw [if_neg c]
        rw [e2]
        by_cases e : (tk ss p (ss.getD p 0)).length = (tk ss p (rch false ss ls p)).length
        · have st : rch false (ss.set p (rch false ss ls p)) ls p = (ss.set p (rch false ss ls p)).getD p 0 := by
            rw [W_new hp, e1]; unfold W; rw [← tk_same e]; rfl
          rw [settle_still st]; exact st
        · refine settles k _ _ _ P.set (by rw [List.length_set]; exact hp) (R.set (by omega) hp) ?_
          rw [e1, tk_set hp, List.length_set]
          omega
/-- a place that a further waking of one bead keeps: still, or its train grows -/
theorem settle_step {ss ls : List Int} {p f : Nat} (P : Pos' ss ls) (hp : p < ss.length) (R : Rest ss ls (p + 1)) (c : rch false ss ls p ≠ ss.getD p 0) (h : (rn ss.length p).length - (tk ss p (ss.getD p 0)).length ≤ f) :
    rch false (ss.set p (rch false ss ls p)) ls p = (ss.set p (rch false ss ls p)).getD p 0 ∨ (1 ≤ f ∧ (rn (ss.set p (rch false ss ls p)).length p).length - (tk (ss.set p (rch false ss ls p)) p ((ss.set p (rch false ss ls p)).getD p 0)).length ≤ f - 1) := by
  have e1 : (ss.set p (rch false ss ls p)).getD p 0 = rch false ss ls p := by rw [getD_set hp, if_pos rfl]
  rcases Int.lt_or_gt_of_ne c with d | d
  · refine Or.inl ?_
    rw [W_new hp, e1]
    unfold W
    rw [lowered P hp R d]; rfl
  · have hm := tk_mono (ss := ss) (p := p) (s := ss.getD p 0) (s' := rch false ss ls p) (by omega)
    have hl := tk_le ss p (rch false ss ls p)
    by_cases e : (tk ss p (ss.getD p 0)).length = (tk ss p (rch false ss ls p)).length
    · refine Or.inl ?_
      rw [W_new hp, e1]; unfold W; rw [← tk_same e]; rfl
    · refine Or.inr ?_
      rw [e1, tk_set hp, List.length_set]
      omega
structure Sw where
  now : List Int
  ord : List Nat
  low : List Nat
def sw (ls : List Int) : Nat → List Int → Sw
  | 0, ss => ⟨ss, [], []⟩
  | i + 1, ss => ⟨(settle (ss.length + 2) (sw ls i ss).now ls (ss.length - 1 - i)).1, (sw ls i ss).ord ++ List.replicate (settle (ss.length + 2) (sw ls i ss).now ls (ss.length - 1 - i)).2 (ss.length - 1 - i),
      if rch false (sw ls i ss).now ls (ss.length - 1 - i) < (sw ls i ss).now.getD (ss.length - 1 - i) 0 then (sw ls i ss).low ++ [ss.length - 1 - i] else (sw ls i ss).low⟩
structure SwOk (ss ls : List Int) (i : Nat) : Prop where
  len : (sw ls i ss).now.length = ss.length
  rest : Rest (sw ls i ss).now ls (ss.length - i)
  nn : ∀ x ∈ (sw ls i ss).now, 0 ≤ x
  ordge : ∀ o ∈ (sw ls i ss).ord, ss.length - i ≤ o ∧ o < ss.length
  lowge : ∀ o ∈ (sw ls i ss).low, ss.length - i ≤ o ∧ o < ss.length
  once : ∀ p ∈ (sw ls i ss).low, ((sw ls i ss).ord.filter fun o => o == p).length = 1
  few : (sw ls i ss).ord.length ≤ i * (ss.length + 2)
  fewl : (sw ls i ss).low.length ≤ i
theorem sw_ok {ss ls : List Int} (P : Pos' ss ls) (h0 : ∀ x ∈ ss, 0 ≤ x) : ∀ i, i ≤ ss.length → SwOk ss ls i
  | 0, _ => by
    refine ⟨rfl, ?_, h0, ?_, ?_, ?_, ?_, ?_⟩
    · intro o ho hol
      have h1 : o < ss.length := hol
      have h2 : ss.length - 0 ≤ o := ho
      omega
    · intro o ho; exact absurd ho List.not_mem_nil
    · intro o ho; exact absurd ho List.not_mem_nil
    · intro o ho; exact absurd ho List.not_mem_nil
    · exact Nat.zero_le _
    · exact Nat.zero_le _
  | i + 1, hi => by
    have O := sw_ok P h0 i (by omega)
    have hp : ss.length - 1 - i < (sw ls i ss).now.length := by rw [O.len]; omega
    have P' : Pos' (sw ls i ss).now ls := ⟨by rw [O.len]; exact P.len, by rw [O.len]; exact P.pos⟩
    have R' : Rest (sw ls i ss).now ls (ss.length - 1 - i + 1) := by
      have e : ss.length - 1 - i + 1 = ss.length - i := by omega
      rw [e]; exact O.rest
    have S := settles (ss.length + 2) (sw ls i ss).now ls (ss.length - 1 - i) P' hp R' (by rw [rn_len hp, O.len]; omega)
    have cnt := settle_cnt (ss.length + 2) (sw ls i ss).now ls (ss.length - 1 - i)
    have notin : ∀ p, p = ss.length - 1 - i → ((sw ls i ss).ord.filter fun o => o == p) = [] := fun p e => by
      refine List.filter_eq_nil_iff.mpr fun o ho => ?_
      have := O.ordge o ho
      simp; omega
    refine ⟨?_, ?_, ?_, ?_, ?_, ?_, ?_, ?_⟩
    · show (settle _ _ _ _).1.length = _
      rw [settle_len, O.len]
    · intro o ho hol
      show rch false (settle (ss.length + 2) (sw ls i ss).now ls (ss.length - 1 - i)).1 ls o = _
      have hol' : o < (sw ls i ss).now.length := by
        have : o < (settle (ss.length + 2) (sw ls i ss).now ls (ss.length - 1 - i)).1.length := hol
        rw [settle_len] at this; exact this
      by_cases c : o = ss.length - 1 - i
      · rw [c]; exact S
      · have e1 := settle_other (ss.length + 2) (sw ls i ss).now ls (ss.length - 1 - i) o hp c
        have e2 : rch false (settle (ss.length + 2) (sw ls i ss).now ls (ss.length - 1 - i)).1 ls o = rch false (sw ls i ss).now ls o := by
          refine rch_local (by rw [settle_len]) fun z hz => ?_
          exact settle_other _ _ _ _ _ hp (by omega)
        rw [e2, O.rest o (by omega) hol']
        exact e1.symm
    · exact settle_nn _ _ _ _ P' hp O.nn
    · intro o ho
      rcases List.mem_append.mp ho with z | z
      · have := O.ordge o z; omega
      · have := List.eq_of_mem_replicate z; omega
    · intro o ho
      have ho' : o ∈ if rch false (sw ls i ss).now ls (ss.length - 1 - i) < (sw ls i ss).now.getD (ss.length - 1 - i) 0 then (sw ls i ss).low ++ [ss.length - 1 - i] else (sw ls i ss).low := ho
      split at ho'
      · rcases List.mem_append.mp ho' with z | z
        · have := O.lowge o z; omega
        · have : o = ss.length - 1 - i := by simpa using z
          omega
      · have := O.lowge o ho'; omega
    · intro p hpm
      show (((sw ls i ss).ord ++ List.replicate _ _).filter _).length = 1
      rw [List.filter_append, List.length_append]
      have hp' : p ∈ if rch false (sw ls i ss).now ls (ss.length - 1 - i) < (sw ls i ss).now.getD (ss.length - 1 - i) 0 then (sw ls i ss).low ++ [ss.length - 1 - i] else (sw ls i ss).low := hpm
      by_cases c : p = ss.length - 1 - i
      · split at hp'
        · rename_i hlow
          rw [notin p c, settle_low P' hp R' hlow, c]
          simp
        · have := O.lowge p hp'; omega
      · have hin : p ∈ (sw ls i ss).low := by
          split at hp'
          · rcases List.mem_append.mp hp' with z | z
            · exact z
            · exact absurd (by simpa using z) c
          · exact hp'
        have e : ((List.replicate (settle (ss.length + 2) (sw ls i ss).now ls (ss.length - 1 - i)).2 (ss.length - 1 - i)).filter fun o => o == p) = [] := by
          refine List.filter_eq_nil_iff.mpr fun o ho => ?_
          have := List.eq_of_mem_replicate ho
          simp; omega
        rw [O.once p hin, e]; rfl
    · show ((sw ls i ss).ord ++ List.replicate _ _).length ≤ _
      rw [List.length_append, List.length_replicate, Nat.succ_mul]
      have := O.few
      omega
    · show (if rch false (sw ls i ss).now ls (ss.length - 1 - i) < (sw ls i ss).now.getD (ss.length - 1 - i) 0 then (sw ls i ss).low ++ [ss.length - 1 - i] else (sw ls i ss).low).length ≤ _
      have := O.fewl
      split
      · rw [List.length_append]; simp; omega
      · omega
/-- a row at rest is left as it is -/
theorem sw_rest {ss ls : List Int} (R : Rest ss ls 0) : ∀ i, i ≤ ss.length → sw ls i ss = ⟨ss, [], []⟩
  | 0, _ => rfl
  | i + 1, hi => by
    have e := sw_rest R i (by omega)
    have st := R (ss.length - 1 - i) (by omega) (by omega)
    unfold sw
    rw [e]
    show (⟨(settle _ ss ls _).1, [] ++ List.replicate (settle _ ss ls _).2 _, if rch false ss ls _ < ss.getD _ 0 then _ else _⟩ : Sw) = _
    rw [settle_still st, if_neg (by omega)]
    rfl
end Rt
set_option Elab.async false
set_option linter.all false
set_option maxRecDepth 100000
set_option maxHeartbeats 4000000
/-! More rules of our own: methods known by their promise, unpacking, reversed ranges, tuples joined and cut. -/
namespace Rt
open PySem PySem.Spec L2
theorem FnOk.or {P : Program} {w : World} {K : PySem.W.Frag} {mg : Str → Option Value} {base : Heap} {CX : CXT} {k : Nat} {f : Addr} {fd : FuncData} {ps : List Str} {sp sp' : Sp} (F : FnOk P w K mg base CX k f fd ps sp) (G : FnOk P w K mg base CX k f fd ps sp') :
    FnOk P w K mg base CX k f fd ps (fun vs H Q E => sp vs H Q E ∨ sp' vs H Q E) :=
  ⟨fun vs H Q E z => z.elim (F.len vs H Q E) (G.len vs H Q E), fun A outer s H args us vs Q E hr he hb hv z => z.elim (F.run A outer s H args us vs Q E hr he hb hv) (G.run A outer s H args us vs Q E hr he hb hv)⟩
structure MethD (P : Program) (w : World) (K : PySem.W.Frag) (mg : Str → Option Value) (base : Heap) (CX : CXT) (k : Nat) (C : Addr) (m : Str) (ps : List Str) (sp : Sp) : Prop where
  cl : Cls K C
  ex : ∃ (f : Addr) (fd : FuncData), Meth K C m f ∧ FnOk P w K mg base CX k f fd ps sp ∧ L2.Binds K fd ps []
theorem pe_methD {X : Cx} {CX : CXT} {k : Nat} {C : Addr} {m : Str} {ps : List Str} {sp : Sp} {E : XK} {o e : Expr} {es : List Expr} {ta : TE} {t : TA} {apos pos : Pos} {pl : Sem Bool} (D : MethD X.prog X.w X.K X.mg X.base CX k C m ps sp) (hr : Room k X.A) (hx : L2.Passes CX X E) (he : PE X o ta) (ha : PA X (e :: es) t)
    (hst : starEach (e :: es) X.env = (false, eval e X.env) :: starEach es X.env := by rfl) (hpl : (backTo pos (starEach es X.env)).any (·.1) = false := by rfl)
    (ht : eval (.Call (.Attribute o m apos) (e :: es) [] pos) X.env = (do
      let ov ← eval o X.env
      standAt apos.atName
      let (f, first) ← holding [ov] (getMethod ov m pl)
      callWith pos f first (backTo pos (starEach (e :: es) X.env)) (backToKw pos (keywordEach [] X.env))) := by rfl) :
    PE X (.Call (.Attribute o m apos) (e :: es) [] pos) (tMeth C m sp [] E ta t) := by
  obtain ⟨f, fd, a, b, c⟩ := D.ex
  exact pe_meth he D.cl a b hr c .nil hx ha hst hpl ht
theorem g_meth {C : Addr} {m : Str} {sp : Sp} {E : XK} {ta : TE} {t : TA} {σ : L2.St} {H : Hp} {Q : VK} (h : ta σ H fun x H1 => ∃ a dx fs, x = .ref a ∧ H1 a = some (.ins C dx fs) ∧ fs.lookup m = none ∧ t σ H1 fun vs H2 => sp (x :: vs) H2 Q E) : tMeth C m sp [] E ta t σ H Q := by
  have e : (fun x H1 => ∃ a dx fs, x = V.ref a ∧ H1 a = some (.ins C dx fs) ∧ fs.lookup m = none ∧ t σ H1 fun vs H2 => sp (x :: (vs ++ [])) H2 Q E) = fun x H1 => ∃ a dx fs, x = V.ref a ∧ H1 a = some (.ins C dx fs) ∧ fs.lookup m = none ∧ t σ H1 fun vs H2 => sp (x :: vs) H2 Q E := by
    funext x H1; simp only [List.append_nil]
  show ta σ H fun x H1 => ∃ a dx fs, x = V.ref a ∧ H1 a = some (.ins C dx fs) ∧ fs.lookup m = none ∧ t σ H1 fun vs H2 => sp (x :: (vs ++ [])) H2 Q E
  rw [e]; exact h
theorem g_gtup {K : PySem.W.Frag} {t : TGs} {a : Addr} {xs : List V} {n : Nat} {σ : L2.St} {H : Hp} {QS : L2.St → Hp → Prop} (hs : SqT K H a xs) (hn : xs.length = n) (h : t xs σ H QS) : gTup K n t (.ref a) σ H QS := ⟨a, xs, rfl, hs, hn, h⟩
theorem g_gcons {t : TG} {u : TGs} {v : V} {r : List V} {σ : L2.St} {H : Hp} {QS : L2.St → Hp → Prop} (h : t v σ H fun σ' H' => u r σ' H' QS) : gCons t u (v :: r) σ H QS := ⟨v, r, rfl, h⟩
theorem g_gnil {σ : L2.St} {H : Hp} {QS : L2.St → Hp → Prop} (h : QS σ H) : gNil [] σ H QS := ⟨rfl, h⟩
def RevOk (a b : Int) (R : It → Hp → Prop) (H1 : Hp) : Prop := -(2 ^ 62) ≤ a ∧ a < 2 ^ 62 ∧ -(2 ^ 62) ≤ b ∧ b < 2 ^ 62 ∧ R (Itc (a + (((b - a).toNat : Nat) : Int) - 1) (-1) (b - a).toNat) H1
theorem g_rev {tr : L2.St → Hp → (Int → Int → Hp → Prop) → Prop} {σ : L2.St} {H : Hp} {R : It → Hp → Prop} (h : tr σ H fun a b H1 => RevOk a b R H1) : iRevR tr σ H R := h
/-- counting down: what holds before each turn -/
theorem for_down {lo c : Int} {n : Nat} {g : TG} {tb : TS} {D : Ends} {σ0 : L2.St} {H0 : Hp} (Pv : Nat → L2.St → Hp → Prop) (first : Pv 0 σ0 H0)
    (step : ∀ i σ H, i < n → Pv i σ H → g (.int (lo + i * c)) σ H fun σ2 H2 => tb { D with nx := Pv (i + 1), ct := Pv (i + 1), bk := D.nx } σ2 H2) (last : ∀ σ H, Pv n σ H → D.nx σ H) :
    ∃ W : Nat → Nat → L2.St → Hp → Prop, (∃ m, W 0 m σ0 H0) ∧ ∀ i m σ H, W i m σ H →
      ((Itc lo c n).stop i H ∧ D.nx σ H) ∨ ((Itc lo c n).go i H ∧ ∃ N : L2.St → Hp → Prop, (∀ σ' H', N σ' H' → ∃ m', m' < m ∧ W (i + 1) m' σ' H') ∧ ∀ x H', (Itc lo c n).yld i H x H' → g x σ H' fun σ2 H2 => tb { D with nx := N, ct := N, bk := D.nx } σ2 H2) := by
  refine ⟨fun i m σ H => i + m = n ∧ Pv i σ H, ⟨n, Nat.zero_add n, first⟩, fun i m σ H w => ?_⟩
  cases m with
  | zero =>
    have e : i = n := w.1
    rw [e] at w ⊢
    exact Or.inl ⟨Nat.le_refl n, last σ H w.2⟩
  | succ m =>
    have lt : i < n := by have := w.1; omega
    refine Or.inr ⟨lt, Pv (i + 1), fun σ' H' q => ⟨m, Nat.lt_succ_self m, by have := w.1; omega, q⟩, fun x H' y => ?_⟩
    have e1 : H' = H := y.1
    have e2 : x = V.int (lo + i * c) := y.2
    rw [e1, e2]
    exact step i σ H lt w.2
/-! ### tuples of ints -/
theorem cut_to {xs : List V} {p : Nat} (h : p < xs.length) : cutV xs none (some (p : Int)) = xs.take p := by
  unfold cutV
  rw [HT.sIx_none, HT.sIx_nat, Nat.min_eq_left (Nat.le_of_lt h), List.drop_zero, Nat.sub_zero]
theorem cut_from {xs : List V} {p : Nat} (h : p < xs.length) : cutV xs (some ((p : Int) + 1)) none = xs.drop (p + 1) := by
  unfold cutV
  rw [show ((p : Int) + 1) = ((p + 1 : Nat) : Int) by omega, HT.sIx_none, HT.sIx_nat, Nat.min_eq_left h]
  exact List.take_of_length_le (by rw [List.length_drop]; omega)
theorem g_tto {K : PySem.W.Frag} {H : Hp} {Q : VK} {a : Addr} {xs : List Int} {p : Nat} (h1 : SqT K H a (xs.map V.int)) (hp : p < xs.length)
    (h : ∀ q H', H q = none → Same H H' → H' q = some (.tup ((xs.take p).map V.int)) → Q (.ref q) H') : rSlA K (.ref a) none (some (p : Int)) H Q := by
  have hl : p < (xs.map V.int).length := by rw [List.length_map]; exact hp
  refine ⟨a, _, rfl, h1, fun z => ?_, fun _ q nq => h q _ nq (L2.Same.new nq) (by rw [upd_same, cut_to hl, List.map_take])⟩
  have := z.2
  rw [HT.sIx_nat] at this
  omega
theorem g_tfrom {K : PySem.W.Frag} {H : Hp} {Q : VK} {a : Addr} {xs : List Int} {p : Nat} (h1 : SqT K H a (xs.map V.int)) (hp : p < xs.length)
    (h : ∀ q H', H q = none → Same H H' → H' q = some (.tup ((xs.drop (p + 1)).map V.int)) → Q (.ref q) H') : rSlA K (.ref a) (some ((p : Int) + 1)) none H Q := by
  have hl : p < (xs.map V.int).length := by rw [List.length_map]; exact hp
  refine ⟨a, _, rfl, h1, fun z => ?_, fun _ q nq => h q _ nq (L2.Same.new nq) (by rw [upd_same, cut_from hl, List.map_drop])⟩
  have := z.1
  rw [show ((p : Int) + 1) = ((p + 1 : Nat) : Int) by omega, HT.sIx_nat] at this
  omega
theorem g_tcat {K : PySem.W.Frag} {H : Hp} {Q : VK} {a b : Addr} {xs zs : List Int} (h1 : H a = some (.tup (xs.map V.int))) (h2 : H b = some (.tup (zs.map V.int))) (sz : xs.length + zs.length ≤ 100000)
    (h : ∀ p H', Same H H' → H' p = some (.tup ((xs ++ zs).map V.int)) → Q (.ref p) H') : rCatA K (.ref a) (.ref b) H Q := by
  refine ⟨a, b, _, _, rfl, rfl, SqT.of h1, SqT.of h2, by rw [List.length_map, List.length_map]; exact sl1000 sz, fun e => ?_, fun _ e => ?_, fun _ _ p np => h p _ (L2.Same.new np) (by rw [upd_same, List.map_append])⟩
  · have e' : xs = [] := List.map_eq_nil_iff.mp e
    exact h b H (Same.refl _) (by rw [e', List.nil_append]; exact h2)
  · have e' : zs = [] := List.map_eq_nil_iff.mp e
    exact h a H (Same.refl _) (by rw [e', List.append_nil]; exact h1)
theorem take_set_drop : ∀ {l : List Int} {p : Nat} {v : Int}, p < l.length → l.take p ++ [v] ++ l.drop (p + 1) = l.set p v
  | [], _, _, h => absurd h (Nat.not_lt_zero _)
  | a :: l, 0, v, _ => rfl
  | a :: l, p + 1, v, h => by
    have := take_set_drop (l := l) (p := p) (v := v) (by simpa using h)
    rw [List.take_succ_cons, List.drop_succ_cons, List.set_cons_succ, ← this]; rfl
section
variable {X : Cx} (K : PySem.W.Frag)
theorem op_catAK (h : X.K = K := by rfl) : OpR X (binaryOp .Add) (rCatA K) := by subst h; exact op_catA
variable {o : Expr} {ta : TE} {t : TA} {apos cpos : Pos} {es : List Expr}
theorem pe_extK {e : Expr} (ho : PE X o ta) (ha : PA X (e :: es) t) (h : X.K = K := by rfl)
    (hbase : attributeBase o "extend" X.env (eval o X.env) = eval o X.env := by rfl)
    (hfew : ((backTo cpos (starEach (e :: es) X.env)).all (fun x => !x.1) && (backToKw cpos (keywordEach [] X.env)).all (fun x => x.1.isSome)
      && decide ((e :: es).length + ([] : List Keyword).length + (if ([] : List Keyword).isEmpty then 0 else 1) < 30)) = true := by rfl)
    (hline : (apos.endLine == cpos.line) = true := by rfl) (hs : starEach (e :: es) X.env = (false, eval e X.env) :: starEach es X.env := by rfl) (hplain : (backTo cpos (starEach es X.env)).any (·.1) = false := by rfl) :
    PE X (.Call (.Attribute o "extend" apos) (e :: es) [] cpos) (tBM K "list" rExtend ta t) := by
  subst h; exact pe_bm PySem.F.plainAttrs_list PySem.F.slot_list_extend PySem.F.type_list_extend mt_extend ho ha hbase hfew hline hs hplain
end
theorem g_ext {H : Hp} {l b : Addr} {xs zs : List V} {Q : VK} (h : H l = some (.lst xs)) (h2 : H b = some (.lst zs)) (sz : xs.length + zs.length ≤ 100000) (q : Q .non (upd H l (.lst (xs ++ zs)))) : rExtend (.ref l) [.ref b] H Q := ⟨l, b, xs, zs, rfl, rfl, h, h2, sl1000 sz, q⟩
theorem g_rept {H : Hp} {Q : VK} {l : Addr} {x : V} {k : Nat} (h1 : H l = some (.lst [x])) (sz : k ≤ 100000)
    (h : ∀ p H', H p = none → Same H H' → H' p = some (.lst (List.replicate k x)) → Q (.ref p) H') : rRep (.ref l) (.int (k : Int)) H Q :=
  ⟨l, (k : Int), [x], rfl, rfl, h1, by omega, by omega, by rw [Int.toNat_natCast, sizeLine_eq, List.length_singleton]; omega, fun p np => h p _ np (L2.Same.new np) (by rw [upd_same, Int.toNat_natCast, rep_flat])⟩
theorem g_isB' {a b : Bool} {H : Hp} {Q : VK} (h : Q (.bl (decide (a = b))) H) : rIsB (.bl a) (.bl b) H Q := ⟨a, b, rfl, rfl, h⟩
/-- an item of a list is replaced -/
theorem g_set {H : Hp} {l : Addr} {xs : List Int} {i : Nat} {v : Int} {R : Hp → Prop} (h : H l = some (.lst (xs.map V.int))) (hi : i < xs.length) (q : R (upd H l (.lst ((xs.set i v).map V.int)))) : rSetL (.ref l) (.int (i : Int)) (.int v) H R := by
  refine ⟨l, _, (i : Int), i, rfl, rfl, h, ?_, by rw [← List.map_set]; exact q⟩
  rw [List.length_map]
  unfold ixN
  simp; omega
theorem g_gsub {to ti : TE} {t : TSet} {v : V} {σ : L2.St} {H : Hp} {QS : L2.St → Hp → Prop} (h : to σ H fun o H1 => ti σ H1 fun i H2 => t o i v H2 fun H3 => QS σ H3) : gSub to ti t v σ H QS := h
/-! ### an order of wakings: tuples of one place each -/
def Ord (H : Hp) (xs : List V) (os : List Nat) : Prop := xs.length = os.length ∧ ∀ (j o : Nat), os[j]? = some o → ∃ t : Addr, xs[j]? = some (V.ref t) ∧ H t = some (.tup [V.int (o : Int)])
theorem Ord.nil {H : Hp} : Ord H [] [] := ⟨rfl, fun j o h => by simp at h⟩
theorem Ord.mono {H H' : Hp} {xs : List V} {os : List Nat} (h : Ord H xs os) (S : ∀ t ys, H t = some (.tup ys) → H' t = some (.tup ys)) : Ord H' xs os :=
  ⟨h.1, fun j o e => let ⟨t, a, b⟩ := h.2 j o e; ⟨t, a, S _ _ b⟩⟩
theorem Ord.more {H : Hp} {xs : List V} {os : List Nat} {t : Addr} {o : Nat} (h : Ord H xs os) (ht : H t = some (.tup [V.int (o : Int)])) : ∀ k : Nat, Ord H (xs ++ List.replicate k (V.ref t)) (os ++ List.replicate k o) := fun k => by
  refine ⟨by rw [List.length_append, List.length_append, List.length_replicate, List.length_replicate, h.1], fun j o' e => ?_⟩
  by_cases c : j < os.length
  · rw [List.getElem?_append_left c] at e
    obtain ⟨t', a, b⟩ := h.2 j o' e
    exact ⟨t', by rw [List.getElem?_append_left (by rw [h.1]; exact c)]; exact a, b⟩
  · rw [List.getElem?_append_right (by omega), List.getElem?_replicate] at e
    split at e
    · rename_i c2
      have e' : o = o' := Option.some.inj e
      subst e'
      refine ⟨t, ?_, ht⟩
      rw [List.getElem?_append_right (by rw [h.1]; omega), List.getElem?_replicate, h.1, if_pos c2]
    · cases e
end Rt
set_option Elab.async false
set_option linter.all false
set_option maxRecDepth 100000
set_option maxHeartbeats 4000000
/-! list(reversed(range(..))). -/
namespace Rt
open PySem PySem.Spec L2 PyProof.Rows
theorem rit_nolen : typeLookup (.type "range_iterator") "__len__" = pure none := by
  first | kernel_rfl | (rw [typeLookup_fast]; kernel_rfl)
section
variable {prog : Program} {w : World} {A : Around} {E : Value → Shared → Prop} {s : Shared}
theorem rit_left {it : Addr} {a n c : Int} {Q : Value → Shared → Prop} (ho : IsRangeIter s.heap it a n c) (h : ∀ t, Q (.int n t) { s with toks := s.toks + 1 }) : wpAny (model prog w) A (call (.builtin "range_iterator.__length_hint__") [.ref it]) Q E s := by
  have ty : s.TypeIs (.ref it) "range_iterator" := ⟨_, ho, rfl⟩
  refine wpAny_call_entry F.slot_range_iterator_length_hint ty F.entry_range_iterator_length_hint ?_ (F.args_range_iterator_length_hint_1 _)
  obtain ⟨hp, g, d, tk, os⟩ := s
  wp_walk using AutoSeq1.wpAny_loadPart' ho
  exact ⟨_, rfl, h _⟩
theorem rit_hint {it : Addr} {a n c : Int} {Q : Bool → Shared → Prop} (ho : IsRangeIter s.heap it a n c) (h0 : 0 ≤ n) (h1 : n ≤ 2 ^ 24) (h : ∀ t, Q false { s with toks := t }) : wpAny (model prog w) A (Builtin.List.listLengthHint (.ref it)) Q E s := by
  have ty : s.TypeIs (.ref it) "range_iterator" := ⟨_, ho, rfl⟩
  unfold Builtin.List.listLengthHint
  refine wpAny_bind (wpAny_specialOf ty rit_nolen ?_)
  refine wpAny_ite_split (fun z => absurd z (by decide +kernel)) (fun _ => ?_)
  refine wpAny_ite_split (fun z => absurd z (by decide)) (fun _ => ?_)
  refine wpAny_bind (wpAny_specialOf ty PySem.F.slot_range_iterator_length_hint.lookup ?_)
  generalize hid : ("range_iterator.__length_hint__" : String) = id0
  wp_delta
  rw [show splitId id0 = some ("range_iterator", "__length_hint__") from by subst hid; decide +kernel]
  subst hid
  refine wpAny_bind (wpAny_isInstance (T := "range_iterator") (b := true) ty (by rw [isSubtype_type]; kernel_rfl) ?_)
  refine wpAny_ite_split (fun z => absurd z (by decide)) (fun _ => ?_)
  refine wpAny_ite_split (fun _ => ?_) (fun z => absurd (by decide +kernel) z)
  refine wpAny_ite_split (fun _ => ?_) (fun z => absurd (by decide +kernel) z)
  refine wpAny_bind (rit_left ho fun t => ?_)
  refine wpAny_bind (m := asInt? _) (wpAny_pure ?_)
  have tl : Builtin.List.listTooLong n.toNat = false := by simp [Builtin.List.listTooLong, sizeLine]; omega
  exact wpAny_ite_split (fun z => absurd z (by rw [tl]; decide)) (fun _ => wpAny_pure (h _))
/-- what such an iterator gives, put behind an empty list -/
theorem rit_into {R : Result → Shared → Prop} {it S : Addr} {a c : Int} {n k0 : Nat} (hh : A.handled = none) (ho : IsRangeIter s.heap it a n c) (small : n ≤ 2 ^ 24) (hS : s.heap.get? S = some { cls := .type "list", data := .seq #[] k0 }) (ne : S ≠ it)
    (fin : ∀ (h' : Heap) (tk : Nat) (acc : Array Value) (k : Nat), (∀ b o, b ≠ S → b ≠ it → s.heap.get? b = some o → h'.get? b = some o) → h'.get? S = some { cls := .type "list", dict := none, data := .seq acc k, slots := #[] } →
      ItemsOf (fun i v => ∃ t, v = .int (a + i * c) t) acc n → R (.ok (.ret .none)) { s with heap := h', toks := tk }) :
    wpAny (model prog w) A.in1 (Builtin.List.listExtendWith (.ref S) (.ref it) .none)
      (fun r s' => match r with | .done f => R (.ok f) s' | .again c' => c'.quiet = true ∧ codeAny (model prog w) A c' R s') (fun e s' => R (.error e) s') s := by
  have ty : s.TypeIs (.ref it) "range_iterator" := ⟨_, ho, rfl⟩
  have loop : ∀ (s1 : Shared), s1.gens = s.gens → s1.drawn = s.drawn → s1.os = s.os → (∀ b o, s.heap.get? b = some o → b ≠ S → s1.heap.get? b = some o) → (∃ k, s1.heap.get? S = some { cls := .type "list", data := .seq #[] k }) → codeAny (model prog w) A (.builtin "list.extend.loop" ⟨[.ref S, .ref it, .none], []⟩) R s1 := by
    rintro s1 eg ed eo keep ⟨k, hS1⟩
    have st : IsRangeIter s1.heap it (a + ((0 : Nat) : Int) * c) ((n : Int) - ((0 : Nat) : Int)) c := by
      have := keep it _ ho ne.symm
      simpa using this
    refine codeAny_extend_loopS (Walks.range (prog := prog) (w := w) (A := A.in1) hh it a c n).toS (by rw [sizeLine_eq]; omega) S (by simpa using ne) .none n 0 s1 #[] k rfl (Nat.zero_le _) st hS1 (ItemsOf.nil _) fun s' acc k' mv hS' items => ?_
    have e := mv.eq_with
    have e2 : s' = { s with heap := s'.heap, toks := s'.toks } := by
      rw [e]
      obtain ⟨q1, q2, q3, q4, q5⟩ := s1
      simp only at eg ed eo
      subst eg ed eo
      rfl
    rw [e2]
    refine fin s'.heap s'.toks acc k' (fun b o n1 n2 hb => mv.heap b o (fun m => ?_) (keep b o hb n1)) hS' items
    rcases List.mem_cons.mp m with z | z
    · exact n1 z
    · exact n2 (List.mem_singleton.mp z)
  unfold Builtin.List.listExtendWith
  refine wpAny_bind (wpAny_typeOf ty ?_)
  have n1 : Builtin.List.listSameRef (.ref S) (.ref it) = false := by simp [Builtin.List.listSameRef, ne]
  have n2 : (Value.type "range_iterator" == Value.type "list") = false := by decide
  have n3 : (Value.type "range_iterator" == Value.type "tuple") = false := by decide
  simp only [n1, n2, n3, Bool.or_false, Bool.false_eq_true, if_false]
  refine wpAny_bind (wpAny_pyIter_rangeiter ho ?_)
  refine wpAny_bind (wpAny_holding (rit_hint ho (by omega) (by omega) fun t => ?_))
  refine wpAny_ite_split (fun z => absurd z (by decide)) (fun _ => wpAny_pure ⟨plainId_quiet F.plain_extend_loop _, ?_⟩)
  exact loop { s with toks := t } rfl rfl rfl (fun b o hb _ => hb) ⟨k0, hS⟩
theorem rit_list {Q : Value → Shared → Prop} {it : Addr} {a c : Int} {n : Nat} (hh : A.handled = none) (ho : IsRangeIter s.heap it a n c) (small : n ≤ 2 ^ 24)
    (fin : ∀ (h' : Heap) (tk : Nat) (acc : Array Value) (k : Nat), (∀ b o, b ≠ it → s.heap.get? b = some o → h'.get? b = some o) → h'.get? s.heap.objs.size = some { cls := .type "list", dict := none, data := .seq acc k, slots := #[] } →
      ItemsOf (fun i v => ∃ t, v = .int (a + i * c) t) acc n → Q (.ref s.heap.objs.size) { s with heap := h', toks := tk }) :
    wpAny (model prog w) A (call (.type "list") [.ref it]) Q E s := by
  have lt : it < s.heap.objs.size := Heap.lt_size ho
  refine callType_codes (Q₁ := fun obj s₁ => obj = .ref s.heap.objs.size ∧ s₁ = { s with heap := s.heap.push { cls := .type "list", data := .seq #[] } }) F.called_list (F.typeCall_list_1 _) F.entry_list_init
    (code_list_new _ ⟨rfl, rfl⟩) fun obj s₁ made => ?_
  obtain ⟨rfl, rfl⟩ := made
  have hS : (s.heap.push { cls := .type "list", data := .seq #[] }).get? s.heap.objs.size = some { cls := .type "list", data := .seq #[] } := Heap.get?_push_size _ rfl
  refine ⟨⟨_, hS, rfl⟩, F.args_list_init_2 _ _, ?_⟩
  show wpAny _ _ (do let old ← Builtin.List.listItems (.ref s.heap.objs.size); Builtin.List.listUpdate (.ref s.heap.objs.size) (fun _ => #[]); letGo old.toList.reverse; Builtin.List.listExtendWith (.ref s.heap.objs.size) (.ref it) .none) _ _ _
  refine wpAny_bind ?_
  unfold Builtin.List.listItems
  refine wpAny_bind (wpAny_seqItems hS rfl (wpAny_pure ?_))
  show wpAny _ _ (updateSeq s.heap.objs.size (fun _ => #[]) >>= fun _ => letGo (#[] : Array Value).toList.reverse >>= fun _ => Builtin.List.listExtendWith (.ref s.heap.objs.size) (.ref it) .none) _ _ _
  refine wpAny_bind (wpAny_updateSeq hS rfl ?_)
  have other : ∀ b o, b ≠ s.heap.objs.size → s.heap.get? b = some o → ((s.heap.push { cls := .type "list", data := .seq #[] }).update s.heap.objs.size (Obj.mapSeq (fun _ => (#[] : Array Value)))).get? b = some o :=
    fun b o nb hb => (Heap.get?_update_other _ _ (Ne.symm nb)).trans (Heap.get?_push_of_some _ hb)
  refine wpAny_bind (wpAny_letGo ?_)
  refine rit_into (A := A.in1) hh (other it _ (Nat.ne_of_lt lt) ho) small (Heap.get?_update_self (Obj.mapSeq (fun _ => (#[] : Array Value))) hS rfl) (Nat.ne_of_gt lt) fun h' tk acc k keep hS' items => ?_
  exact ⟨rfl, fin h' tk acc k (fun b o nb hb => keep b o (Nat.ne_of_lt (Heap.lt_size hb)) nb (other b o (Nat.ne_of_lt (Heap.lt_size hb)) hb)) hS' items⟩
end
/-! ### the rule -/
def dnV (a b : Int) : List V := (List.range (b - a).toNat).map fun i => V.int (b - 1 - (i : Nat))
theorem vals_dn {a b : Int} {acc : Array Value} (h : ItemsOf (fun i v => ∃ t, v = .int (a + (((b - a).toNat : Nat) : Int) - 1 + i * (-1)) t) acc (b - a).toNat) : Vals (dnV a b) acc.toList := by
  have hn : (b - a).toNat = acc.toList.length := by rw [Array.length_toList]; exact h.1.symm
  unfold dnV
  rw [hn]
  refine vals_of_get acc.toList _ fun j u hj => ?_
  have hlt : j < acc.toList.length := (List.getElem?_eq_some_iff.mp hj).1
  obtain ⟨t, e⟩ := h.2 j u (by rw [← hj, Array.getElem?_toList])
  refine ⟨t, ?_⟩
  rw [e]
  congr 1
  omega
def LRevOk (a b : Int) (H1 : Hp) (Q : VK) : Prop := RgOk a b ∧ ∀ q, H1 q = none → Q (.ref q) (upd H1 q (.lst (dnV a b)))
def tLstRev (tr : L2.St → Hp → (Int → Int → Hp → Prop) → Prop) : TE := fun σ H Q => tr σ H fun a b H1 => LRevOk a b H1 Q
theorem pe_listRevR {X : Cx} {e : Expr} {tr : L2.St → Hp → (Int → Int → Hp → Prop) → Prop} {p p2 pos pos2 : Pos} (hc : X.calm = true) (hg : Gl X "list") (hm : X.mg "list" = none) (hg2 : Gl X "reversed") (hm2 : X.mg "reversed" = none) (he : PRg X e tr)
    (hs : starEach [e] X.env = (false, eval e X.env) :: starEach [] X.env := by rfl)
    (hs2 : starEach [.Call (.Name "reversed" p2) [e] [] pos2] X.env = (false, eval (.Call (.Name "reversed" p2) [e] [] pos2) X.env) :: starEach [] X.env := by rfl) :
    PE X (.Call (.Name "list" p) [.Call (.Name "reversed" p2) [e] [] pos2] [] pos) (tLstRev tr) := by
  refine ⟨fun pins s σ H Q I h => ?_⟩
  refine Call_ (ld_blt I hg hm PyProof.Rows.boot_list (PyProof.Rows.callWith_type1 (args_cons (Call_ (ld_blt I hg2 hm2 PyProof.Rows.boot_reversed (PyProof.Rows.callWith_type1 (args_cons (thn (he pins s σ H _ I h) fun u s1 hx => args_nil ?_) hs) hs rfl))) hs2) hs2 rfl))
  obtain ⟨r, a, b, t, w1, v, H1, eu, hr, I1, ok, q⟩ := hx
  subst eu
  obtain ⟨b1, b2, b3, b4, b5⟩ := ok
  have hn : Builtin.Range.rangeSize a b 1 = (((b - a).toNat : Nat) : Int) := rangeSize_nat a b
  refine call_reversed_range hr (smallRev_one b1 b2 b3 b4) (args_nil ?_)
  have I2 : L2.Inv X pins σ H1 { s1 with heap := s1.heap.push (rngRevObj a b 1) } := I1.kept (t' := s1.toks) fun b o z => Heap.get?_push_of_some _ z
  have fp : L2.FpOk X pins H1 s1.heap.objs.size := I1.fpOk (Nat.le_refl _) (I1.hok.fresh (Nat.le_refl _))
  have at_ : IsRangeIter (s1.heap.push (rngRevObj a b 1)) s1.heap.objs.size (a + (((b - a).toNat : Nat) : Int) - 1) (((b - a).toNat : Nat) : Int) (-1) := by
    have z : (s1.heap.push (rngRevObj a b 1)).get? s1.heap.objs.size = some (rngRevObj a b 1) := Heap.get?_push_size _ rfl
    have e1 : a + ((((b - a).toNat : Nat) : Int) - 1) * 1 = a + (((b - a).toNat : Nat) : Int) - 1 := by omega
    have eo : rngRevObj a b 1 = { cls := .type "range_iterator", dict := none, data := .fields #[rawInt (a + (((b - a).toNat : Nat) : Int) - 1), rawInt (((b - a).toNat : Nat) : Int), rawInt (-1)], slots := #[] } := by
      unfold rngRevObj
      rw [hn, e1]
    exact z.trans (congrArg some eo)
  refine rit_list (s := { s1 with heap := s1.heap.push (rngRevObj a b 1) }) (n := (b - a).toNat) (I2.ok.hd hc) at_ b5 fun h' tk acc k keep hS items => ?_
  refine ⟨.ref (s1.heap.push (rngRevObj a b 1)).objs.size, upd H1 (s1.heap.push (rngRevObj a b 1)).objs.size (.lst (dnV a b)), I2.turnedNew (t' := tk) (ch := [s1.heap.objs.size]) (fun x o hx ho => keep x o (fun z => hx (by rw [z]; exact List.mem_singleton.mpr rfl)) ho) (fun x hx => by rw [List.mem_singleton.mp hx]; exact fp) (Nat.le_refl _)
    (show ObjOk X.prog X.w _ _ _ (.lst (dnV a b)) from ⟨?_, acc.toList, k, vals_dn items, ?_⟩), rfl, q _ (I2.hok.fresh (Nat.le_refl _))⟩
  · unfold dnV; rw [List.length_map, List.length_range, sizeLine_eq]; omega
  · rw [Array.toArray_toList]; exact hS
theorem g_lrev {tr : L2.St → Hp → (Int → Int → Hp → Prop) → Prop} {σ : L2.St} {H : Hp} {Q : VK} (h : tr σ H fun a b H1 => LRevOk a b H1 Q) : tLstRev tr σ H Q := h
/-- a list of the places a .. b - 1, from the last -/
theorem newDn {a b : Nat} {H : Hp} {Q : VK} (h0 : a ≤ 100000) (h1 : b ≤ 100000) (h : ∀ p H', H p = none → Same H H' → H' p = some (.lst (nI ((List.range (b - a)).map fun i => a + i).reverse)) → Q (.ref p) H') : LRevOk (a : Int) (b : Int) H Q := by
  refine ⟨RgOk.of_le (by omega) (by omega) (by omega) (by omega), fun q nq => h q _ nq (L2.Same.new nq) ?_⟩
  rw [upd_same]
  unfold dnV nI
  rw [show ((b : Int) - (a : Int)).toNat = b - a by omega]
  congr 2
  refine List.ext_getElem? fun j => ?_
  by_cases c : j < b - a
  · rw [List.getElem?_map, List.getElem?_range c, List.getElem?_map, List.getElem?_reverse (by simpa using c), List.length_map, List.length_range, List.getElem?_map, List.getElem?_range (by omega)]
    show some (V.int ((b : Int) - 1 - (j : Int))) = some (V.int ((a + (b - a - 1 - j) : Nat) : Int))
    congr 2
    omega
  · rw [List.getElem?_eq_none (by simp; omega), List.getElem?_eq_none (by simp; omega)]
end Rt
set_option Elab.async false
set_option linter.all false
set_option maxRecDepth 100000
set_option maxHeartbeats 4000000
/-! The mathematics of retinues that nest, of lords and of leaders. -/
namespace Rt
open PySem PySem.Spec L2
theorem tw_at {α : Type} {q : α → Bool} : ∀ {l : List α} {x : α}, x ∈ l.takeWhile q ↔ ∃ k : Nat, l[k]? = some x ∧ ∀ k' : Nat, k' ≤ k → ∀ y, l[k']? = some y → q y = true
  | [], x => by simp
  | a :: l, x => by
    rw [List.takeWhile_cons]
    by_cases c : q a = true
    · rw [if_pos c]
      constructor
      · intro h
        rcases List.mem_cons.mp h with e | h
        · subst e
          refine ⟨0, rfl, fun k' hk y hy => ?_⟩
          have e0 : k' = 0 := by omega
          subst e0
          have e1 : x = y := Option.some.inj hy
          rw [← e1]; exact c
        · obtain ⟨k, h1, h2⟩ := tw_at.mp h
          refine ⟨k + 1, h1, fun k' hk y hy => ?_⟩
          cases k' with
          | zero =>
            have e1 : a = y := Option.some.inj hy
            rw [← e1]; exact c
          | succ k' => exact h2 k' (by omega) y hy
      · rintro ⟨k, h1, h2⟩
        cases k with
        | zero =>
          have e1 : a = x := Option.some.inj h1
          rw [← e1]; exact List.mem_cons_self
        | succ k => exact List.mem_cons_of_mem _ (tw_at.mpr ⟨k, h1, fun k' hk y hy => h2 (k' + 1) (by omega) y hy⟩)
    · rw [if_neg c]
      constructor
      · intro h; cases h
      · rintro ⟨k, h1, h2⟩
        exact absurd (h2 0 (Nat.zero_le _) a rfl) c
/-- q is in the train of p: so many beads on, and all on the way weaker -/
theorem mem_trn {r : Bool} {ss : List Int} {p q : Nat} : q ∈ trn r ss p ↔ ∃ k : Nat, (run r ss.length p)[k]? = some q ∧ ∀ k' : Nat, k' ≤ k → ∀ o, (run r ss.length p)[k']? = some o → ss.getD o 0 < ss.getD p 0 := by
  unfold trn
  rw [tw_at]
  constructor
  · rintro ⟨k, h1, h2⟩
    exact ⟨k, h1, fun k' hk o ho => by have := h2 k' hk o ho; rw [wk_eq] at this; exact of_decide_eq_true this⟩
  · rintro ⟨k, h1, h2⟩
    exact ⟨k, h1, fun k' hk o ho => by rw [wk_eq]; exact decide_eq_true (h2 k' hk o ho)⟩
theorem run_idx {r : Bool} {n p k o : Nat} (hp : p < n) (h : (run r n p)[k]? = some o) : k + 1 < n ∧ ((p + 1 + k < n ∧ o = p + 1 + k) ∨ (r = true ∧ n ≤ p + 1 + k ∧ o + n = p + 1 + k)) := by
  have h1 : k < (run r n p).length := (List.getElem?_eq_some_iff.mp h).1
  have h2 := run_le (r := r) hp
  have hk : k + 1 < n := by omega
  rw [run_at hp hk] at h
  refine ⟨hk, ?_⟩
  by_cases c : p + 1 + k < n
  · rw [if_pos c] at h
    exact Or.inl ⟨c, (Option.some.inj h).symm⟩
  · rw [if_neg c] at h
    by_cases d : r = true
    · rw [if_pos d] at h
      have := Option.some.inj h
      exact Or.inr ⟨d, by omega, by omega⟩
    · rw [if_neg d] at h; cases h
theorem run_get {r : Bool} {n p k o : Nat} (hp : p < n) (hk : k + 1 < n) (h : (p + 1 + k < n ∧ o = p + 1 + k) ∨ (r = true ∧ n ≤ p + 1 + k ∧ o + n = p + 1 + k)) : (run r n p)[k]? = some o := by
  rw [run_at hp hk]
  rcases h with ⟨c, e⟩ | ⟨d, c, e⟩
  · rw [if_pos c, e]
  · rw [if_neg (by omega), if_pos d]; congr 1; omega
/-- the retinue of a bead of the train lies within the train -/
theorem trn_sub {r : Bool} {ss : List Int} {p q x : Nat} (hp : p < ss.length) (hq : q ∈ trn r ss p) (hx : x ∈ trn r ss q) : x ∈ trn r ss p := by
  obtain ⟨i, i1, i2⟩ := mem_trn.mp hq
  obtain ⟨k, k1, k2⟩ := mem_trn.mp hx
  have hql := trn_lt hp q hq
  have wq := i2 i (Nat.le_refl _) q i1
  obtain ⟨a1, a2⟩ := run_idx hp i1
  obtain ⟨b1, b2⟩ := run_idx hql k1
  -- the way round does not reach p
  have short : i + 1 + k + 1 < ss.length := by
    refine Nat.lt_of_not_le fun c => ?_
    have e : (run r ss.length q)[ss.length - 2 - i]? = some p := by
      refine run_get hql (by omega) ?_
      rcases a2 with ⟨c1, c2⟩ | ⟨d, c1, c2⟩
      · refine Or.inr ⟨?_, by omega, by omega⟩
        rcases b2 with ⟨e1, _⟩ | ⟨e1, _⟩
        · omega
        · exact e1
      · exact Or.inl ⟨by omega, by omega⟩
    have := k2 (ss.length - 2 - i) (by omega) p e
    omega
  have comb : ∀ j o, (run r ss.length q)[j]? = some o → j ≤ k → (run r ss.length p)[i + 1 + j]? = some o := by
    intro j o hj hjk
    obtain ⟨d1, d2⟩ := run_idx hql hj
    refine run_get hp (by omega) ?_
    rcases a2 with ⟨c1, c2⟩ | ⟨d, c1, c2⟩ <;> rcases d2 with ⟨e1, e2⟩ | ⟨e0, e1, e2⟩
    · exact Or.inl ⟨by omega, by omega⟩
    · exact Or.inr ⟨e0, by omega, by omega⟩
    · exact Or.inr ⟨d, by omega, by omega⟩
    · omega
  refine mem_trn.mpr ⟨i + 1 + k, comb k x k1 (Nat.le_refl _), fun k' hk' o ho => ?_⟩
  by_cases c : k' ≤ i
  · exact i2 k' c o ho
  · obtain ⟨j, rfl⟩ : ∃ j, k' = i + 1 + j := ⟨k' - (i + 1), by omega⟩
    have hjl : j < (run r ss.length q).length := by
      have := (List.getElem?_eq_some_iff.mp k1).1
      omega
    have hj := List.getElem?_eq_getElem hjl
    have e := comb j _ hj (by omega)
    rw [e] at ho
    have := k2 j (by omega) o (by rw [hj]; exact ho)
    omega
/-- two retinues that meet nest -/
theorem trn_meet {r : Bool} {ss : List Int} {p q x : Nat} (hp : p < ss.length) (hq : q < ss.length) (ne : p ≠ q) (h1 : x ∈ trn r ss p) (h2 : x ∈ trn r ss q) : p ∈ trn r ss q ∨ q ∈ trn r ss p := by
  have half : ∀ {p q : Nat}, p < ss.length → q < ss.length → ∀ {i j : Nat}, (run r ss.length p)[i]? = some x → (∀ k' : Nat, k' ≤ i → ∀ o, (run r ss.length p)[k']? = some o → ss.getD o 0 < ss.getD p 0) → (run r ss.length q)[j]? = some x → j < i → q ∈ trn r ss p := by
    intro p q hp hq i j i1 i2 j1 hlt
    obtain ⟨a1, a2⟩ := run_idx hp i1
    obtain ⟨b1, b2⟩ := run_idx hq j1
    refine mem_trn.mpr ⟨i - j - 1, run_get hp (by omega) ?_, fun k' hk' o ho => i2 k' (by omega) o ho⟩
    rcases a2 with ⟨c1, c2⟩ | ⟨d, c1, c2⟩ <;> rcases b2 with ⟨e1, e2⟩ | ⟨e0, e1, e2⟩
    · exact Or.inl ⟨by omega, by omega⟩
    · omega
    · by_cases c : p + 1 + (i - j - 1) < ss.length
      · exact Or.inl ⟨c, by omega⟩
      · exact Or.inr ⟨d, by omega, by omega⟩
    · exact Or.inl ⟨by omega, by omega⟩
  obtain ⟨i, i1, i2⟩ := mem_trn.mp h1
  obtain ⟨j, j1, j2⟩ := mem_trn.mp h2
  rcases Nat.lt_trichotomy i j with c | c | c
  · exact Or.inl (half hq hp j1 j2 i1 c)
  · subst c
    obtain ⟨a1, a2⟩ := run_idx hp i1
    obtain ⟨b1, b2⟩ := run_idx hq j1
    exact absurd (by omega) ne
  · exact Or.inr (half hp hq i1 i2 j1 c)
theorem trn_self {r : Bool} {ss : List Int} {p : Nat} (hp : p < ss.length) : p ∉ trn r ss p := fun h => by
  obtain ⟨k, h1, h2⟩ := mem_trn.mp h
  have := h2 k (Nat.le_refl _) p h1
  omega
/-- what lies before a place, the nearest first -/
def bef (r : Bool) (n p : Nat) : List Nat := (List.range p).reverse ++ (if r = true then ((List.range (n - (p + 1))).map fun i => p + 1 + i).reverse else [])
theorem rev_at {n i : Nat} (h : i < n) : (List.range n).reverse[i]? = some (n - 1 - i) := by
  rw [List.getElem?_reverse (by simpa using h), List.length_range, List.getElem?_range (by omega)]
theorem bef_at {r : Bool} {n p i : Nat} (hp : p < n) (hi : i + 1 < n) : (bef r n p)[i]? = if i < p then some (p - 1 - i) else if r = true then some (p + n - 1 - i) else none := by
  unfold bef
  by_cases c : i < p
  · rw [if_pos c, List.getElem?_append_left (by simpa using c), rev_at c]
  · rw [if_neg c, List.getElem?_append_right (by simp; omega), List.length_reverse, List.length_range]
    by_cases d : r = true
    · rw [if_pos d, if_pos d, List.getElem?_reverse (by simp; omega), List.length_map, List.length_range, List.getElem?_map, List.getElem?_range (by omega)]
      show some (p + 1 + _) = _
      congr 1; omega
    · rw [if_neg d, if_neg d]; rfl
theorem bef_len {r : Bool} {n p : Nat} (hp : p < n) : (bef r n p).length = if r = true then n - 1 else p := by
  unfold bef
  rw [List.length_append, List.length_reverse, List.length_range]
  by_cases d : r = true
  · rw [if_pos d, if_pos d, List.length_reverse, List.length_map, List.length_range]; omega
  · rw [if_neg d, if_neg d]; rfl
theorem bef_lt {r : Bool} {n p i o : Nat} (hp : p < n) (h : (bef r n p)[i]? = some o) : i + 1 < n ∧ o < n := by
  have h1 := (List.getElem?_eq_some_iff.mp h).1
  rw [bef_len hp] at h1
  have hi : i + 1 < n := by split at h1 <;> omega
  rw [bef_at hp hi] at h
  refine ⟨hi, ?_⟩
  split at h
  · have := Option.some.inj h; omega
  · split at h
    · have := Option.some.inj h; omega
    · cases h
/-- the nearest stronger one before: the nearest whose train holds the place -/
theorem lord_step {r : Bool} {ss : List Int} {p i o : Nat} (hp : p < ss.length) (h : (bef r ss.length p)[i]? = some o) (weak : ∀ j : Nat, j < i → ∀ y, (bef r ss.length p)[j]? = some y → ss.getD y 0 ≤ ss.getD p 0) :
    p ∈ trn r ss o ↔ ss.getD p 0 < ss.getD o 0 := by
  obtain ⟨hi, ho⟩ := bef_lt hp h
  have hb := h
  rw [bef_at hp hi] at hb
  have back : ∀ k, k < i → ∀ y, (run r ss.length o)[k]? = some y → (bef r ss.length p)[i - 1 - k]? = some y := by
    intro k hk y hy
    obtain ⟨k1, k2⟩ := run_idx ho hy
    rw [bef_at hp (by omega)]
    split at hb
    · have e := Option.some.inj hb
      rw [if_pos (by omega)]
      congr 1
      rcases k2 with ⟨_, e2⟩ | ⟨_, e1, _⟩ <;> omega
    · split at hb
      · rename_i c1 c2
        have e := Option.some.inj hb
        by_cases c : i - 1 - k < p
        · rw [if_pos c]
          congr 1
          rcases k2 with ⟨e1, e2⟩ | ⟨_, e1, e2⟩ <;> omega
        · rw [if_neg c, if_pos c2]
          congr 1
          rcases k2 with ⟨e1, e2⟩ | ⟨_, e1, e2⟩ <;> omega
      · cases hb
  have fwd : (run r ss.length o)[i]? = some p := by
    refine run_get ho hi ?_
    split at hb
    · have e := Option.some.inj hb
      exact Or.inl ⟨by omega, by omega⟩
    · split at hb
      · rename_i c1 c2
        have e := Option.some.inj hb
        exact Or.inr ⟨c2, by omega, by omega⟩
      · cases hb
  constructor
  · intro hm
    exact of_decide_eq_true (tw_mem (q := wk ss o) hm)
  · intro hs
    refine mem_trn.mpr ⟨i, fwd, fun k' hk' y hy => ?_⟩
    by_cases c : k' < i
    · have := weak (i - 1 - k') (by omega) y (back k' c y hy)
      omega
    · have e : k' = i := by omega
      subst e
      rw [fwd] at hy
      have := Option.some.inj hy
      subst this; exact hs
def lrd (r : Bool) (ss : List Int) (p : Nat) : Option Nat := (bef r ss.length p).find? fun o => decide (ss.getD p 0 < ss.getD o 0)
theorem find_at {α : Type} {q : α → Bool} : ∀ {l : List α} {i : Nat} {x : α}, l[i]? = some x → q x = true → (∀ j : Nat, j < i → ∀ y, l[j]? = some y → q y = false) → l.find? q = some x
  | [], i, x, h, _, _ => by simp at h
  | a :: l, 0, x, h, hx, _ => by
    have e : a = x := Option.some.inj h
    subst e
    rw [List.find?_cons, hx]
  | a :: l, i + 1, x, h, hx, hb => by
    rw [List.find?_cons, hb 0 (Nat.zero_lt_succ _) a rfl]
    exact find_at (l := l) (i := i) h hx fun j hj y hy => hb (j + 1) (by omega) y hy
theorem find_no {α : Type} {q : α → Bool} {l : List α} (h : ∀ j : Nat, j < l.length → ∀ y, l[j]? = some y → q y = false) : l.find? q = none := by
  rw [List.find?_eq_none]
  intro x hx
  obtain ⟨i, hi, e⟩ := List.mem_iff_getElem.mp hx
  have := h i hi x (by rw [List.getElem?_eq_getElem hi, e])
  rw [this]; decide
theorem lrd_some {r : Bool} {ss : List Int} {p o : Nat} (hp : p < ss.length) (h : lrd r ss p = some o) : o < ss.length ∧ ss.getD p 0 < ss.getD o 0 := by
  have h1 := List.find?_some h
  have h2 := List.mem_of_find?_eq_some h
  obtain ⟨i, hi, e⟩ := List.mem_iff_getElem.mp h2
  exact ⟨(bef_lt hp (i := i) (by rw [List.getElem?_eq_getElem hi, e])).2, of_decide_eq_true h1⟩
theorem lrd_none_ring {ss : List Int} {p o : Nat} (hp : p < ss.length) (h : lrd true ss p = none) (ho : o < ss.length) : ss.getD o 0 ≤ ss.getD p 0 := by
  by_cases e : o = p
  · rw [e]; exact Int.le_refl _
  · unfold lrd at h
    rw [List.find?_eq_none] at h
    have hm : o ∈ bef true ss.length p := by
      unfold bef
      rw [if_pos rfl]
      refine List.mem_append.mpr ?_
      by_cases c : o < p
      · exact Or.inl (List.mem_reverse.mpr (List.mem_range.mpr c))
      · refine Or.inr (List.mem_reverse.mpr (List.mem_map.mpr ⟨o - (p + 1), List.mem_range.mpr (by omega), by omega⟩))
    have := h o hm
    simp at this
    exact this
/-- how many are stronger -/
def up (ss : List Int) (p : Nat) : Nat := ((List.range ss.length).filter fun o => decide (ss.getD p 0 < ss.getD o 0)).length
theorem filter_lt {α : Type} {q s : α → Bool} : ∀ {l : List α} {x : α}, (∀ y ∈ l, q y = true → s y = true) → x ∈ l → s x = true → q x = false → (l.filter q).length < (l.filter s).length
  | [], x, _, hx, _, _ => by cases hx
  | a :: l, x, h, hx, h1, h2 => by
    have mono : ∀ (m : List α), (∀ y ∈ m, q y = true → s y = true) → (m.filter q).length ≤ (m.filter s).length := by
      intro m
      induction m with
      | nil => intro _; exact Nat.le_refl _
      | cons b m ih =>
        intro hm
        have := ih fun y hy => hm y (List.mem_cons_of_mem _ hy)
        rw [List.filter_cons, List.filter_cons]
        by_cases c : q b = true
        · rw [if_pos c, if_pos (hm b List.mem_cons_self c), List.length_cons, List.length_cons]; omega
        · rw [if_neg c]
          split
          · rw [List.length_cons]; omega
          · exact this
    have hl : ∀ y ∈ l, q y = true → s y = true := fun y hy => h y (List.mem_cons_of_mem _ hy)
    rcases List.mem_cons.mp hx with e | e
    · subst e
      rw [List.filter_cons, List.filter_cons, h2, h1, if_neg Bool.false_ne_true, if_pos rfl, List.length_cons]
      have := mono l hl
      omega
    · have := filter_lt hl e h1 h2
      rw [List.filter_cons, List.filter_cons]
      by_cases c : q a = true
      · rw [if_pos c, if_pos (h a List.mem_cons_self c), List.length_cons, List.length_cons]; omega
      · rw [if_neg c]
        split
        · rw [List.length_cons]; omega
        · exact this
theorem up_lt {ss : List Int} {p o : Nat} (ho : o < ss.length) (h : ss.getD p 0 < ss.getD o 0) : up ss o < up ss p := by
  unfold up
  refine filter_lt (x := o) (fun y _ hy => ?_) (List.mem_range.mpr ho) (decide_eq_true h) (decide_eq_false (by omega))
  have := of_decide_eq_true hy
  exact decide_eq_true (by omega)
theorem up_le {ss : List Int} {p : Nat} (hp : p < ss.length) : up ss p + 1 ≤ ss.length := by
  have h := filter_lt (q := fun o => decide (ss.getD p 0 < ss.getD o 0)) (s := fun _ => true) (l := List.range ss.length) (x := p) (fun _ _ _ => rfl) (List.mem_range.mpr hp) rfl (decide_eq_false (by omega))
  rw [List.filter_eq_self.mpr (fun _ _ => rfl), List.length_range] at h
  exact h
end Rt
set_option Elab.async false
set_option linter.all false
set_option maxRecDepth 100000
set_option maxHeartbeats 4000000
/-! Lists of any values built over a range or an enumeration; in, max, enumerate with the written part named. -/
namespace Rt
open PySem PySem.Spec L2
theorem lc_rangeV {lo : Int} {n : Nat} {g : TG} {te : TE} {vs : List Nat} {σ : L2.St} {H1 : Hp} {D : Addr} {Qd : Hp → Prop} (f : Nat → V) (hD : H1 D = none) (sz : n ≤ 100000)
    (turn : ∀ (i : Nat) (H' : Hp), i < n → Same H1 H' → ∀ Q : VK, (∀ H2, Same H' H2 → Q (f i) H2) → g (.int (lo + i)) (wipe σ vs) H' fun σ2 H2 => wipe σ2 vs = wipe σ vs ∧ te σ2 H2 Q)
    (done : ∀ H', Same H1 H' → H' D = some (.lst ((List.range n).map f)) → Qd H') :
    ∃ W : Nat → Nat → Hp → Prop, (∃ m, W 0 m (upd H1 D (.lst []))) ∧ ∀ i m H, W i m H →
      ((Itr lo n).stop i H ∧ Qd H) ∨ ((Itr lo n).go i H ∧ ∃ Nx : Hp → Prop, (∀ H', Nx H' → ∃ m', m' < m ∧ W (i + 1) m' H') ∧ ∀ x H', (Itr lo n).yld i H x H' → g x (wipe σ vs) H' fun σ2 H2 => wipe σ2 vs = wipe σ vs ∧ tYes σ2 H2 fun b H3 =>
        if b = true then te σ2 H3 fun y H4 => ∃ acc, H4 D = some (.lst acc) ∧ acc.length < sizeLine ∧ Nx (upd H4 D (.lst (acc ++ [y]))) else Nx H3) := by
  refine lc_range (fun i H' => Same H1 H' ∧ H' D = some (.lst ((List.range i).map f))) ⟨Same.new hD, upd_same⟩ ?_ ?_
  · rintro i H' hi ⟨S1, hd⟩
    refine turn i H' hi S1 _ fun H2 S2 => ⟨_, S2 _ _ hd, ?_, (S1.trans S2).mut hD, ?_⟩
    · rw [List.length_map, List.length_range]; exact slt1000 (by omega)
    · rw [upd_same, List.range_succ, List.map_append]; rfl
  · rintro H' ⟨S1, hd⟩
    exact done H' S1 hd
theorem lc_enum {K : PySem.W.Frag} {a : Addr} {xs : List V} {g : TG} {tt : TT} {te : TE} {vs : List Nat} {σ : L2.St} {H1 : Hp} {D : Addr} {Qd : Hp → Prop} (Pv : Nat → Hp → Prop) (h0 : Pv 0 (upd H1 D (.lst []))) (hl : ∀ i H, Pv i H → SqL K H a xs)
    (turn : ∀ (i : Nat) (x : V) (T : Addr) (H : Hp), xs[i]? = some x → Pv i H → H T = none → g (.ref T) (wipe σ vs) (upd H T (.tup [.int (i : Nat), x])) fun σ2 H2 => wipe σ2 vs = wipe σ vs ∧ tt σ2 H2 fun b H3 =>
      if b = true then te σ2 H3 fun y H4 => ∃ acc, H4 D = some (.lst acc) ∧ acc.length < sizeLine ∧ Pv (i + 1) (upd H4 D (.lst (acc ++ [y]))) else Pv (i + 1) H3) (done : ∀ H, Pv xs.length H → Qd H) :
    ∃ W : Nat → Nat → Hp → Prop, (∃ m, W 0 m (upd H1 D (.lst []))) ∧ ∀ i m H, W i m H →
      ((Ite K a).stop i H ∧ Qd H) ∨ ((Ite K a).go i H ∧ ∃ Nx : Hp → Prop, (∀ H', Nx H' → ∃ m', m' < m ∧ W (i + 1) m' H') ∧ ∀ x H', (Ite K a).yld i H x H' → g x (wipe σ vs) H' fun σ2 H2 => wipe σ2 vs = wipe σ vs ∧ tt σ2 H2 fun b H3 =>
        if b = true then te σ2 H3 fun y H4 => ∃ acc, H4 D = some (.lst acc) ∧ acc.length < sizeLine ∧ Nx (upd H4 D (.lst (acc ++ [y]))) else Nx H3) := by
  refine ⟨fun i m H => i + m = xs.length ∧ Pv i H, ⟨xs.length, Nat.zero_add _, h0⟩, fun i m H w => ?_⟩
  have sq := hl i H w.2
  cases m with
  | zero =>
    have e : i = xs.length := w.1
    exact Or.inl ⟨⟨xs, sq, by omega⟩, done H (by rw [← e]; exact w.2)⟩
  | succ m =>
    have lt : i < xs.length := by have := w.1; omega
    refine Or.inr ⟨⟨xs, xs[i], sq, List.getElem?_eq_getElem lt⟩, Pv (i + 1), fun H' z => ⟨m, Nat.lt_succ_self m, by have := w.1; omega, z⟩, fun x H' y => ?_⟩
    obtain ⟨T, v, e1, e2, e3, e4⟩ := y
    rw [e1, e3]
    exact turn i v T H (e4 xs sq) w.2 e2
theorem g_enum {σ : L2.St} {H : Hp} {K : PySem.W.Frag} {ta : TA} {R : It → Hp → Prop} (h : ta σ H fun vs H1 => ∃ a xs, vs = [.ref a] ∧ SqL K H1 a xs ∧ R (Ite K a) H1) : iEnum K ta σ H R := h
section
variable {X : Cx} (K : PySem.W.Frag)
theorem op_inK (h : X.K = K := by rfl) : OpR X (compareOp .In) (rIn K false) := by subst h; exact op_in_seq
theorem cr_maxK (hc : X.calm = true) (h : X.K = K := by rfl) : CallR X (.builtin "max") (rMax K) := by subst h; exact cr_max hc
theorem pi_enumK {e : Expr} {ta : TA} {p pos tpos : Pos} {elts : List Expr} {kk : Nat} (hg : Gl X "enumerate") (hm : X.mg "enumerate" = none) (ha : PA X [e] ta) (hs : starEach [e] X.env = [(false, eval e X.env)] := by rfl) (h : X.K = K := by rfl) :
    PI X (.Tuple elts kk tpos) (.Call (.Name "enumerate" p) [e] [] pos) (iEnum K ta) := by subst h; exact pi_enum hg hm ha hs
end
theorem all_flat : ∀ os : List Nat, (nI os).all flatV = true
  | [] => rfl
  | o :: os => by
    show (flatV (V.int (o : Int)) && (nI os).all flatV) = true
    rw [all_flat os]; rfl
theorem inV_nI {q : Nat} : ∀ os : List Nat, inV (V.int (q : Int)) (nI os) = decide (q ∈ os)
  | [] => rfl
  | o :: os => by
    have ih := inV_nI (q := q) os
    unfold inV nI at ih ⊢
    rw [List.map_cons, List.any_cons, ih]
    show (((o : Int) == (q : Int)) || decide (q ∈ os)) = decide (q ∈ o :: os)
    by_cases c : o = q
    · subst c; simp
    · have c2 : ¬ (o : Int) = (q : Int) := by omega
      have c3 : ((o : Int) == (q : Int)) = false := by simpa using c2
      rw [c3, Bool.false_or]
      have c4 : ¬ q = o := fun z => c z.symm
      simp [c4]
theorem g_inI {K : PySem.W.Frag} {H : Hp} {Q : VK} {a : Addr} {os : List Nat} {q : Nat} (h : H a = some (.lst (nI os))) (hq : Q (.bl (decide (q ∈ os))) H) : rIn K false (.int (q : Int)) (.ref a) H Q :=
  ⟨a, _, rfl, .inl (SqL.of h), rfl, all_flat os, by rw [inV_nI]; exact hq⟩
theorem nI_at {os : List Nat} {i : Nat} {x : V} (h : (nI os)[i]? = some x) : ∃ o : Nat, os[i]? = some o ∧ x = V.int (o : Int) := by
  unfold nI at h
  rw [List.getElem?_map] at h
  cases e : os[i]? with
  | none => rw [e] at h; cases h
  | some o => rw [e] at h; exact ⟨o, rfl, (Option.some.inj h).symm⟩
theorem oV_non {x : Option Nat} : decide (oV x = V.non) = x.isNone := by
  cases x with
  | none => exact decide_eq_true rfl
  | some o => exact decide_eq_false (fun z => by cases z)
theorem g_and2 {c d : Bool} {uu : TT} {σ : L2.St} {H : Hp} {QT : Bool → Hp → Prop} (hu : ∀ Q : Bool → Hp → Prop, Q d H → uu σ H Q) (h : QT (c && d) H) : if c = true then uu σ H QT else QT false H := by
  cases c with
  | true => exact hu QT h
  | false => exact h
theorem g_or2 {c d : Bool} {tb : TE} {σ : L2.St} {H : Hp} {Q : VK} (hu : ∀ Q : VK, Q (.bl d) H → tb σ H Q) (h : Q (.bl (c || d)) H) : if c = true then Q (.bl true) H else tb σ H Q := by
  cases c with
  | true => exact h
  | false => exact hu Q h
theorem ite_blV {b m n : Bool} : (if b = true then V.bl m else V.bl n) = V.bl (if b = true then m else n) := by cases b <;> rfl
def flV (r : Bool) (ss : List Int) (i : Nat) : List V := (List.range ss.length).map fun at' => V.bl (decide (at' ∈ trn r ss i))
theorem flV_at {r : Bool} {ss : List Int} {i x : Nat} (hx : x < ss.length) : (flV r ss i)[x]? = some (.bl (decide (x ∈ trn r ss i))) := by
  unfold flV; rw [List.getElem?_map, List.getElem?_range hx]; rfl
def FlP (H : Hp) (r : Bool) (ss : List Int) (fa : Addr) (xs : List V) (i : Nat) : Prop := xs.length = i ∧ ∀ j : Nat, j < i → ∃ t : Addr, xs[j]? = some (V.ref t) ∧ t ≠ fa ∧ H t = some (.lst (flV r ss j))
theorem FlP.mono {H H' : Hp} {r : Bool} {ss : List Int} {fa : Addr} {xs : List V} {i : Nat} (h : FlP H r ss fa xs i) (S : Same H H') : FlP H' r ss fa xs i := ⟨h.1, fun j hj => let ⟨t, a, n, b⟩ := h.2 j hj; ⟨t, a, n, S _ _ b⟩⟩
theorem FlP.upd {H : Hp} {r : Bool} {ss : List Int} {fa : Addr} {xs : List V} {i : Nat} {o : HO} (h : FlP H r ss fa xs i) : FlP (upd H fa o) r ss fa xs i := ⟨h.1, fun j hj => let ⟨t, a, n, b⟩ := h.2 j hj; ⟨t, a, n, by rw [upd_ne n]; exact b⟩⟩
theorem FlP.more {H : Hp} {r : Bool} {ss : List Int} {fa : Addr} {xs : List V} {i : Nat} {t : Addr} (h : FlP H r ss fa xs i) (n : t ≠ fa) (ht : H t = some (.lst (flV r ss i))) : FlP H r ss fa (xs ++ [V.ref t]) (i + 1) := by
  refine ⟨by rw [List.length_append, h.1]; rfl, fun j hj => ?_⟩
  by_cases c : j < i
  · obtain ⟨u, a, m, b⟩ := h.2 j c
    exact ⟨u, by rw [List.getElem?_append_left (by rw [h.1]; exact c)]; exact a, m, b⟩
  · have e : j = i := by omega
    subst e
    exact ⟨t, by rw [List.getElem?_append_right (by rw [h.1]; exact Nat.le_refl _), h.1, Nat.sub_self]; rfl, n, ht⟩
end Rt
set_option Elab.async false
set_option linter.all false
set_option maxRecDepth 100000
set_option maxHeartbeats 4000000
/-! The mathematics of what a bead could have been before its last waking (k29). -/
namespace Rt
open PySem PySem.Spec L2
/-- the train of the bead at p, were its strength c, ring or row -/
def tkr (r : Bool) (ss : List Int) (p : Nat) (c : Int) : List Nat := (run r ss.length p).takeWhile fun o => decide (ss.getD o 0 < c)
def wr (r : Bool) (ss ls : List Int) (p : Nat) (c : Int) : Int := ls.getD p 0 + sm ls (tkr r ss p c)
theorem trn_set {r : Bool} {ss : List Int} {p : Nat} {c : Int} (hp : p < ss.length) : trn r (ss.set p c) p = tkr r ss p c := by
  unfold trn tkr
  rw [List.length_set]
  refine tw_congr fun o ho => ?_
  have ne : o ≠ p := fun e => by
    obtain ⟨i, hi, e2⟩ := List.mem_iff_getElem.mp ho
    have := run_idx hp (k := i) (o := o) (by rw [List.getElem?_eq_getElem hi, e2])
    omega
  rw [wk_eq, getD_set hp, getD_set hp, if_neg ne, if_pos rfl]
theorem rch_set {r : Bool} {ss ls : List Int} {p : Nat} {c : Int} (hp : p < ss.length) : rch r (ss.set p c) ls p = wr r ss ls p c := by
  unfold rch wr
  rw [trn_set hp]; rfl
/-- lengths are positive: a greater beginning has a greater sum -/
theorem sm_take_lt {ls : List Int} {l : List Nat} (h : ∀ o ∈ l, 1 ≤ ls.getD o 0) {i j : Nat} (hij : i < j) (hj : j ≤ l.length) : sm ls (l.take i) < sm ls (l.take j) := by
  induction j with
  | zero => omega
  | succ j ih =>
    have hjl : j < l.length := by omega
    have e : l.take (j + 1) = l.take j ++ [l[j]] := take_more (List.getElem?_eq_getElem hjl)
    have p1 := h _ (List.getElem_mem hjl)
    rw [e, sm_app]
    have e2 : sm ls [l[j]] = ls.getD l[j] 0 := by rw [sm_cons]; unfold sm; simp
    rw [e2]
    by_cases c : i = j
    · subst c; omega
    · have := ih (by omega) (by omega)
      omega
/-- the reach is so much exactly if the train has so many beads -/
theorem wr_iff {r : Bool} {ss ls : List Int} {p k : Nat} {c f : Int} (pos : ∀ o ∈ run r ss.length p, 1 ≤ ls.getD o 0) (hk : k ≤ (run r ss.length p).length) (hf : f = ls.getD p 0 + sm ls ((run r ss.length p).take k)) : wr r ss ls p c = f ↔ (tkr r ss p c).length = k := by
  have ht : tkr r ss p c = (run r ss.length p).take (tkr r ss p c).length := tw_take
  have hl : (tkr r ss p c).length ≤ (run r ss.length p).length := (List.takeWhile_sublist _).length_le
  unfold wr
  rw [hf]
  constructor
  · intro h
    rcases Nat.lt_trichotomy (tkr r ss p c).length k with d | d | d
    · have := sm_take_lt pos d hk
      rw [← ht] at this; omega
    · exact d
    · have := sm_take_lt pos d hl
      rw [← ht] at this; omega
  · intro h
    rw [← h, ← ht]
/-- the train has so many beads exactly if the first so many are weaker, and the next one is not -/
theorem tkr_iff {r : Bool} {ss : List Int} {p k : Nat} {c : Int} (hk : k ≤ (run r ss.length p).length) : (tkr r ss p c).length = k ↔ (∀ o ∈ (run r ss.length p).take k, ss.getD o 0 < c) ∧ ∀ o, (run r ss.length p)[k]? = some o → c ≤ ss.getD o 0 := by
  constructor
  · intro h
    refine ⟨fun o ho => ?_, fun o ho => ?_⟩
    · have e : (run r ss.length p).take k = tkr r ss p c := by rw [← h]; exact tw_take.symm
      rw [e] at ho
      exact of_decide_eq_true (tw_mem (q := fun o => decide (ss.getD o 0 < c)) ho)
    · rw [← h] at ho
      have := of_decide_eq_false (tw_next (q := fun o => decide (ss.getD o 0 < c)) ho)
      omega
  · rintro ⟨h1, h2⟩
    have ge := tw_ge (q := fun o => decide (ss.getD o 0 < c)) hk fun o ho => decide_eq_true (h1 o ho)
    refine Nat.le_antisymm (Nat.le_of_not_lt fun d => ?_) ge
    have hd : k < (run r ss.length p).length := Nat.lt_of_lt_of_le d (List.takeWhile_sublist _).length_le
    have e := List.getElem?_eq_getElem hd
    have m : (run r ss.length p)[k] ∈ tkr r ss p c := by
      have ht : tkr r ss p c = (run r ss.length p).take (tkr r ss p c).length := tw_take
      rw [ht]
      exact List.mem_iff_getElem?.mpr ⟨k, by rw [List.getElem?_take_of_lt d, e]⟩
    have a := of_decide_eq_true (tw_mem (q := fun o => decide (ss.getD o 0 < c)) m)
    have b := h2 _ e
    omega
end Rt
set_option Elab.async false
set_option linter.all false
set_option maxRecDepth 100000
set_option maxHeartbeats 4000000
/-! The mathematics of rounds: no strength falls after round 1, changes have no gaps, all ends after as many rounds as there are beads. -/
namespace Rt
open PySem PySem.Spec L2
variable {r : Bool} {ss ls : List Int} {p q : Nat}
def rnd (r : Bool) (ls ss : List Int) : List Int := (List.range ss.length).map fun p => rch r ss ls p
theorem rnd_len : (rnd r ls ss).length = ss.length := by unfold rnd; rw [List.length_map, List.length_range]
theorem rnd_at (hp : p < ss.length) : (rnd r ls ss).getD p 0 = rch r ss ls p := by
  unfold rnd
  rw [List.getD_eq_getElem?_getD, List.getElem?_map, List.getElem?_range hp]; rfl
def row (r : Bool) (ls ss : List Int) : Nat → List Int
  | 0 => ss
  | k + 1 => rnd r ls (row r ls ss k)
theorem row_len : ∀ k : Nat, (row r ls ss k).length = ss.length
  | 0 => rfl
  | k + 1 => by
    show (rnd r ls (row r ls ss k)).length = _
    rw [rnd_len, row_len k]
theorem run_nd {n : Nat} (hp : p < n) : (run r n p).Nodup := by
  unfold run
  refine List.nodup_append.mpr ⟨List.pairwise_map.mpr (List.nodup_range.imp fun {a b} h z => h (by omega)), ?_, fun a ha b hb => ?_⟩
  · cases r
    · exact List.nodup_nil
    · exact List.nodup_range
  · obtain ⟨i, hi, rfl⟩ := List.mem_map.mp ha
    cases r
    · cases hb
    · have := List.mem_range.mp hb
      omega
theorem trn_nd (hp : p < ss.length) : (trn r ss p).Nodup := (run_nd hp).sublist (List.takeWhile_sublist _)
theorem sm_perm {a b : List Nat} (h : a.Perm b) : sm ls a = sm ls b := by
  induction h with
  | nil => rfl
  | cons x _ ih => rw [sm_cons, sm_cons, ih]
  | swap x y l => rw [sm_cons, sm_cons, sm_cons, sm_cons]; omega
  | trans _ _ i1 i2 => exact i1.trans i2
theorem sm_ge0 : ∀ b : List Nat, (∀ x ∈ b, 0 ≤ ls.getD x 0) → 0 ≤ sm ls b
  | [], _ => by unfold sm; simp
  | x :: b, h => by
    rw [sm_cons]
    have := sm_ge0 b fun y hy => h y (List.mem_cons_of_mem _ hy)
    have := h x List.mem_cons_self
    omega
theorem sm_sub : ∀ (a b : List Nat), a.Nodup → (∀ x ∈ a, x ∈ b) → (∀ x ∈ b, 0 ≤ ls.getD x 0) → sm ls a ≤ sm ls b
  | [], b, _, _, h => by
    have := sm_ge0 (ls := ls) b h
    show (([] : List Nat).map fun o => ls.getD o 0).sum ≤ _
    simpa using this
  | x :: a, b, nd, sub, h => by
    have hx := sub x List.mem_cons_self
    have nd' := List.nodup_cons.mp nd
    rw [sm_perm (List.perm_cons_erase hx), sm_cons, sm_cons]
    have := sm_sub a (b.erase x) nd'.2 (fun y hy => (List.mem_erase_of_ne (fun z => nd'.1 (by rw [← z]; exact hy))).mpr (sub y (List.mem_cons_of_mem _ hy))) (fun y hy => h y (List.mem_of_mem_erase hy))
    omega
theorem rch_eq : rch r ss ls p = ls.getD p 0 + sm ls (trn r ss p) := rfl
/-- a bead of the train has less, by the length of the bead -/
theorem rch_in (P : Pos' ss ls) (hp : p < ss.length) (h : q ∈ trn r ss p) : rch r ss ls q + ls.getD p 0 ≤ rch r ss ls p := by
  have hq := trn_lt hp q h
  have := sm_sub (ls := ls) (q :: trn r ss q) (trn r ss p) (List.nodup_cons.mpr ⟨trn_self hq, trn_nd hq⟩) (fun x hx => by
    rcases List.mem_cons.mp hx with z | z
    · rw [z]; exact h
    · exact trn_sub hp h z) (fun x hx => by have := P.pos x (trn_lt hp x hx); omega)
  rw [sm_cons] at this
  rw [rch_eq, rch_eq]
  omega
/-- how many beads the train has -/
def tl (r : Bool) (ss : List Int) (p : Nat) : Nat := (trn r ss p).length
/-- the length of a bead and the first k of its run -/
def sk (r : Bool) (ls : List Int) (n p k : Nat) : Int := ls.getD p 0 + sm ls ((run r n p).take k)
theorem trn_tk : trn r ss p = (run r ss.length p).take (tl r ss p) := tw_take
theorem rch_sk : rch r ss ls p = sk r ls ss.length p (tl r ss p) := by
  rw [rch_eq]
  unfold sk
  rw [← trn_tk]
theorem tl_le : tl r ss p ≤ (run r ss.length p).length := trn_len
theorem sk_lt (P : Pos' ss ls) (hp : p < ss.length) {i j : Nat} (h : i < j) (hj : j ≤ (run r ss.length p).length) : sk r ls ss.length p i < sk r ls ss.length p j := by
  unfold sk
  have := sm_take_lt (ls := ls) (l := run r ss.length p) (fun o ho => P.pos o (run_lt hp o ho)) h hj
  omega
theorem Pos'.rnd {ss ls : List Int} (r : Bool) (P : Pos' ss ls) : Pos' (rnd r ls ss) ls := ⟨by rw [rnd_len]; exact P.len, by rw [rnd_len]; exact P.pos⟩
theorem Pos'.row {ss ls : List Int} (r : Bool) (P : Pos' ss ls) (k : Nat) : Pos' (row r ls ss k) ls := ⟨by rw [row_len]; exact P.len, by rw [row_len]; exact P.pos⟩
theorem rnd_in (P : Pos' ss ls) (hp : p < ss.length) (h : q ∈ trn r ss p) : (rnd r ls ss).getD q 0 < (rnd r ls ss).getD p 0 := by
  have hq := trn_lt hp q h
  rw [rnd_at hq, rnd_at hp]
  have := rch_in P hp h
  have := P.pos p hp
  omega
/-- after a round no train is shorter -/
theorem tl_up (P : Pos' ss ls) (hp : p < ss.length) : tl r ss p ≤ tl r (rnd r ls ss) p := by
  have e : trn r (rnd r ls ss) p = (run r ss.length p).takeWhile (wk (rnd r ls ss) p) := by unfold trn; rw [rnd_len]
  unfold tl
  rw [e]
  refine tw_ge trn_len fun x hx => ?_
  have e2 : (run r ss.length p).take (trn r ss p).length = trn r ss p := trn_tk.symm
  rw [e2] at hx
  exact decide_eq_true (rnd_in P hp hx)
theorem tl_row (P : Pos' ss ls) (hp : p < ss.length) (k : Nat) : tl r (row r ls ss k) p ≤ tl r (row r ls ss (k + 1)) p := tl_up (P.row r k) (by rw [row_len]; exact hp)
theorem row_at (hp : p < ss.length) (k : Nat) : (row r ls ss (k + 1)).getD p 0 = sk r ls ss.length p (tl r (row r ls ss k) p) := by
  show (rnd r ls (row r ls ss k)).getD p 0 = _
  rw [rnd_at (by rw [row_len]; exact hp), rch_sk, row_len]
/-- no strength falls after round 1 -/
theorem row_le (P : Pos' ss ls) (hp : p < ss.length) (k : Nat) : (row r ls ss (k + 1)).getD p 0 ≤ (row r ls ss (k + 2)).getD p 0 := by
  rw [row_at hp, row_at hp]
  rcases Nat.lt_or_eq_of_le (tl_row (r := r) P hp k) with h | h
  · have := sk_lt (r := r) P hp h (by have := tl_le (r := r) (ss := row r ls ss (k + 1)) (p := p); rw [row_len] at this; exact this)
    omega
  · rw [h]; exact Int.le_refl _
theorem row_ne (P : Pos' ss ls) (hp : p < ss.length) (k : Nat) : (row r ls ss (k + 2)).getD p 0 ≠ (row r ls ss (k + 1)).getD p 0 ↔ tl r (row r ls ss k) p < tl r (row r ls ss (k + 1)) p := by
  rw [row_at hp, row_at hp]
  constructor
  · intro h
    rcases Nat.lt_or_eq_of_le (tl_row (r := r) P hp k) with z | z
    · exact z
    · rw [z] at h; exact absurd rfl h
  · intro h
    have := sk_lt (r := r) P hp h (by have := tl_le (r := r) (ss := row r ls ss (k + 1)) (p := p); rw [row_len] at this; exact this)
    omega
/-- a bead that changes in round k + 3 changes in round k + 2; its stopper before is no stronger than what it gains -/
theorem chg_stp (P : Pos' ss ls) (hp : p < ss.length) (k : Nat) (h : tl r (row r ls ss k) p < tl r (row r ls ss (k + 1)) p) :
    ∃ q, (run r ss.length p)[tl r (row r ls ss k) p]? = some q ∧ (row r ls ss k).getD p 0 ≤ (row r ls ss k).getD q 0 ∧ (row r ls ss (k + 1)).getD q 0 < (row r ls ss (k + 1)).getD p 0 := by
  have l1 := tl_le (r := r) (ss := row r ls ss (k + 1)) (p := p)
  rw [row_len] at l1
  have hk : tl r (row r ls ss k) p < (run r ss.length p).length := by omega
  refine ⟨_, List.getElem?_eq_getElem hk, ?_, ?_⟩
  · have e : (run r (row r ls ss k).length p)[((run r (row r ls ss k).length p).takeWhile (wk (row r ls ss k) p)).length]? = some ((run r ss.length p)[tl r (row r ls ss k) p]) := by
      show (run r (row r ls ss k).length p)[tl r (row r ls ss k) p]? = _
      rw [row_len]
      exact List.getElem?_eq_getElem hk
    have := of_decide_eq_false (tw_next (q := wk (row r ls ss k) p) e)
    omega
  · have m : (run r ss.length p)[tl r (row r ls ss k) p] ∈ trn r (row r ls ss (k + 1)) p := by
      rw [trn_tk, row_len]
      exact List.mem_iff_getElem?.mpr ⟨_, by rw [List.getElem?_take_of_lt h]; exact List.getElem?_eq_getElem hk⟩
    exact of_decide_eq_true (tw_mem (q := wk (row r ls ss (k + 1)) p) m)
theorem chg_back (P : Pos' ss ls) (hp : p < ss.length) (k : Nat) (h : tl r (row r ls ss (k + 1)) p < tl r (row r ls ss (k + 2)) p) : tl r (row r ls ss k) p < tl r (row r ls ss (k + 1)) p := by
  obtain ⟨q, e, a, b⟩ := chg_stp P hp (k + 1) h
  have hq := run_lt hp q (List.mem_of_getElem? e)
  have c := row_le (r := r) P hq k
  have ne : (row r ls ss (k + 2)).getD p 0 ≠ (row r ls ss (k + 1)).getD p 0 := by
    have b' : (row r ls ss (k + 2)).getD q 0 < (row r ls ss (k + 2)).getD p 0 := b
    omega
  exact (row_ne P hp k).mp ne
theorem tl_grow (P : Pos' ss ls) (hp : p < ss.length) : ∀ k, tl r (row r ls ss k) p < tl r (row r ls ss (k + 1)) p → k + 1 ≤ tl r (row r ls ss (k + 1)) p
  | 0, h => by omega
  | k + 1, h => by
    have := tl_grow P hp k (chg_back P hp k h)
    omega
theorem row_end (P : Pos' ss ls) (h0 : 0 < ss.length) : row r ls ss (ss.length + 1) = row r ls ss ss.length := by
  obtain ⟨m, hm⟩ : ∃ m, ss.length = m + 1 := ⟨ss.length - 1, by omega⟩
  have key : row r ls ss (m + 2) = row r ls ss (m + 1) := by
    refine ext_getD (by rw [row_len, row_len]) fun p hp => ?_
    rw [row_len] at hp
    refine Decidable.byContradiction fun ne => ?_
    have g := tl_grow P hp m ((row_ne P hp m).mp ne)
    have l1 := tl_le (r := r) (ss := row r ls ss (m + 1)) (p := p)
    rw [row_len] at l1
    have := run_le (r := r) hp
    omega
  rw [hm]; exact key
/-- after N rounds nothing changes any more, and not before -/
structure Stop (r : Bool) (ls ss : List Int) (N : Nat) : Prop where
  fix : row r ls ss (N + 1) = row r ls ss N
  mov : ∀ k, k < N → row r ls ss (k + 1) ≠ row r ls ss k
theorem stops (P : Pos' ss ls) (h0 : 0 < ss.length) : ∃ N, N ≤ ss.length ∧ Stop r ls ss N := by
  have key : ∀ m : Nat, (∀ k, k < m → row r ls ss (k + 1) ≠ row r ls ss k) ∨ ∃ N, N < m ∧ Stop r ls ss N := by
    intro m
    induction m with
    | zero => exact .inl fun k h => absurd h (Nat.not_lt_zero _)
    | succ m ih =>
      rcases ih with h | ⟨N, a, b⟩
      · by_cases c : row r ls ss (m + 1) = row r ls ss m
        · exact .inr ⟨m, Nat.lt_succ_self _, c, h⟩
        · refine .inl fun k hk => ?_
          rcases Nat.lt_succ_iff_lt_or_eq.mp hk with z | z
          · exact h k z
          · rw [z]; exact c
      · exact .inr ⟨N, by omega, b⟩
  rcases key (ss.length + 1) with h | ⟨N, a, b⟩
  · exact absurd (row_end P h0) (h _ (Nat.lt_succ_self _))
  · exact ⟨N, by omega, b⟩
theorem Stop.uniq {N M : Nat} (a : Stop r ls ss N) (b : Stop r ls ss M) : N = M := by
  rcases Nat.lt_trichotomy N M with h | h | h
  · exact absurd a.fix (b.mov N h)
  · exact h
  · exact absurd b.fix (a.mov M h)
theorem Stop.stay {N : Nat} (a : Stop r ls ss N) : ∀ k, row r ls ss (N + k) = row r ls ss N
  | 0 => rfl
  | k + 1 => by
    have ih := a.stay k
    show rnd r ls (row r ls ss (N + k)) = _
    rw [ih]
    exact a.fix
/-- once at rest, at rest: rows that begin at the end -/
theorem Stop.last {N : Nat} (a : Stop r ls ss N) : Stop r ls (row r ls ss N) 0 := ⟨a.fix, fun k h => absurd h (Nat.not_lt_zero _)⟩
/-- the last number at which f changes, up to N -/
def lstc (f : Nat → Int) : Nat → Nat
  | 0 => 0
  | k + 1 => if f (k + 1) ≠ f k then k + 1 else lstc f k
theorem lstc_le (f : Nat → Int) : ∀ N, lstc f N ≤ N
  | 0 => Nat.le_refl _
  | k + 1 => by
    unfold lstc
    have := lstc_le f k
    split <;> omega
theorem lstc_chg (f : Nat → Int) : ∀ N, 0 < lstc f N → f (lstc f N) ≠ f (lstc f N - 1)
  | 0, h => absurd h (Nat.lt_irrefl _)
  | k + 1, h => by
    unfold lstc at h ⊢
    split
    · rename_i c
      exact c
    · rename_i c
      rw [if_neg c] at h
      exact lstc_chg f k h
theorem lstc_max (f : Nat → Int) : ∀ N k, lstc f N < k → k ≤ N → f k = f (k - 1)
  | 0, k, h, h2 => by omega
  | N + 1, k, h, h2 => by
    unfold lstc at h
    split at h
    · omega
    · rename_i c
      have c' : f (N + 1) = f N := Decidable.byContradiction fun z => c z
      by_cases e : k = N + 1
      · rw [e]; exact c'
      · exact lstc_max f N k h (by omega)
/-- the changes of a bead have no gap: its strengths rise up to the last one -/
theorem row_asc (P : Pos' ss ls) (hp : p < ss.length) : ∀ (j i : Nat), tl r (row r ls ss j) p < tl r (row r ls ss (j + 1)) p → i ≤ j → (row r ls ss (i + 1)).getD p 0 < (row r ls ss (i + 2)).getD p 0
  | 0, i, h, hi => by
    have e : i = 0 := by omega
    subst e
    have a := row_le (r := r) P hp 0
    have b := (row_ne P hp 0).mpr h
    omega
  | j + 1, i, h, hi => by
    by_cases e : i = j + 1
    · subst e
      have a := row_le (r := r) P hp (j + 1)
      have b := (row_ne P hp (j + 1)).mpr h
      omega
    · exact row_asc P hp j i (chg_back P hp j h) (by omega)
/-- the book of a bead -/
def book (r : Bool) (ls ss : List Int) (N p : Nat) : List Int := (List.range (max 1 (lstc (fun k => (row r ls ss k).getD p 0) N))).map fun i => (row r ls ss (min (i + 1) N)).getD p 0
theorem book_len {N : Nat} : (book r ls ss N p).length = max 1 (lstc (fun k => (row r ls ss k).getD p 0) N) := by unfold book; rw [List.length_map, List.length_range]
theorem book_at {N i : Nat} (h : i < (book r ls ss N p).length) : (book r ls ss N p).getD i 0 = (row r ls ss (min (i + 1) N)).getD p 0 := by
  rw [book_len] at h
  unfold book
  rw [List.getD_eq_getElem?_getD, List.getElem?_map, List.getElem?_range h]; rfl
theorem book_asc (P : Pos' ss ls) (hp : p < ss.length) {N k : Nat} (h1 : 1 ≤ k) (h2 : k < (book r ls ss N p).length) : (book r ls ss N p).getD (k - 1) 0 < (book r ls ss N p).getD k 0 := by
  have hl := book_len (r := r) (ls := ls) (ss := ss) (p := p) (N := N)
  rw [book_at (by omega), book_at h2]
  have le := lstc_le (fun k => (row r ls ss k).getD p 0) N
  have hk : k + 1 ≤ lstc (fun k => (row r ls ss k).getD p 0) N := by omega
  have ch := lstc_chg (fun k => (row r ls ss k).getD p 0) N (by omega)
  generalize lstc (fun k => (row r ls ss k).getD p 0) N = L at ch le hk
  obtain ⟨j, rfl⟩ : ∃ j, L = j + 2 := ⟨L - 2, by omega⟩
  have t := (row_ne P hp j).mp ch
  have := row_asc P hp j (k - 1) t (by omega)
  rw [show min (k - 1 + 1) N = k - 1 + 1 by omega, show min (k + 1) N = k - 1 + 2 by omega]
  exact this
end Rt
set_option Elab.async false
set_option linter.all false
set_option maxRecDepth 100000
set_option maxHeartbeats 4000000
/-! What a bead could have been before its last waking: the bounds, and what lies within. -/
namespace Rt
open PySem PySem.Spec L2
variable {r : Bool} {ss ls : List Int} {p q : Nat}
/-- how many of its run the span of the bead has -/
def kOf (r : Bool) (ss ls : List Int) (p : Nat) : Option Nat := (List.range ((run r ss.length p).length + 1)).find? fun k => decide (ss.getD p 0 = sk r ls ss.length p k)
theorem kOf_some {k : Nat} (h : kOf r ss ls p = some k) : k ≤ (run r ss.length p).length ∧ ss.getD p 0 = sk r ls ss.length p k := by
  have a := List.mem_of_find?_eq_some h
  have b := List.find?_some h
  have := List.mem_range.mp a
  exact ⟨by omega, of_decide_eq_true b⟩
theorem kOf_none (h : kOf r ss ls p = none) : ∀ k, k ≤ (run r ss.length p).length → ss.getD p 0 ≠ sk r ls ss.length p k := fun k hk e => by
  have := List.find?_eq_none.mp h k (List.mem_range.mpr (by omega))
  exact this (decide_eq_true e)
theorem kOf_of (P : Pos' ss ls) (hp : p < ss.length) {k : Nat} (hk : k ≤ (run r ss.length p).length) (e : ss.getD p 0 = sk r ls ss.length p k) : kOf r ss ls p = some k := by
  cases h : kOf r ss ls p with
  | none => exact absurd e (kOf_none h k hk)
  | some j =>
    obtain ⟨hj, ej⟩ := kOf_some h
    rcases Nat.lt_trichotomy j k with d | d | d
    · have := sk_lt (r := r) P hp d hk; omega
    · rw [d]
    · have := sk_lt (r := r) P hp d hj; omega
/-- the greatest of them, or -1 -/
def mx (ns : List Int) : Int := ns.foldl max (-1)
theorem fold_mx : ∀ (ns : List Int) (n : Int), (ns.foldl max n = n ∨ ns.foldl max n ∈ ns) ∧ n ≤ ns.foldl max n ∧ ∀ y ∈ ns, y ≤ ns.foldl max n
  | [], n => ⟨.inl rfl, Int.le_refl _, fun y h => by cases h⟩
  | a :: ns, n => by
    obtain ⟨i1, i2, i3⟩ := fold_mx ns (max n a)
    have e : (a :: ns).foldl max n = ns.foldl max (max n a) := rfl
    rw [e]
    refine ⟨?_, by omega, fun y hy => ?_⟩
    · rcases i1 with z | z
      · rcases Int.le_total n a with d | d
        · exact .inr (by rw [z, Int.max_eq_right d]; exact List.mem_cons_self)
        · exact .inl (by rw [z, Int.max_eq_left d])
      · exact .inr (List.mem_cons_of_mem _ z)
    · rcases List.mem_cons.mp hy with z | z
      · subst z; omega
      · exact i3 y z
theorem mx_of {ns : List Int} {m : Int} (h : m ∈ ns) (g : ∀ y ∈ ns, y ≤ m) (h0 : 0 ≤ m) : mx ns = m := by
  obtain ⟨a, b, c⟩ := fold_mx ns (-1)
  have := c m h
  unfold mx
  rcases a with z | z
  · omega
  · have := g _ z; omega
theorem mx_lt {ns : List Int} {c : Int} (h0 : 0 ≤ c) : mx ns < c ↔ ∀ y ∈ ns, y < c := by
  obtain ⟨a, b, d⟩ := fold_mx ns (-1)
  unfold mx
  constructor
  · intro h y hy
    have := d y hy; omega
  · intro h
    rcases a with z | z
    · omega
    · exact h _ z
theorem mx_ge {ns : List Int} : -1 ≤ mx ns := (fold_mx ns (-1)).2.1
/-- the bounds -/
def bnd (r : Bool) (ss ls : List Int) (p : Nat) : Option (Int × Option Int) := match kOf r ss ls p with
  | none => none
  | some k => match (run r ss.length p)[k]? with
    | none => some (1 + mx (((run r ss.length p).take k).map fun o => ss.getD o 0), none)
    | some o => if 1 + mx (((run r ss.length p).take k).map fun o => ss.getD o 0) ≤ ss.getD o 0 then some (1 + mx (((run r ss.length p).take k).map fun o => ss.getD o 0), some (ss.getD o 0)) else none
/-- c lies within -/
def inB (b : Option (Int × Option Int)) (c : Int) : Bool := match b with
  | none => false
  | some (lo, none) => decide (lo ≤ c)
  | some (lo, some hi) => decide (lo ≤ c) && decide (c ≤ hi)
theorem bnd_ok {b : Option (Int × Option Int)} (h : bnd r ss ls p = b) : (∀ lo hi, b = some (lo, hi) → 0 ≤ lo ∧ ∀ h, hi = some h → lo ≤ h) := by
  rintro lo hi rfl
  unfold bnd at h
  cases e : kOf r ss ls p with
  | none => rw [e] at h; cases h
  | some k =>
    rw [e] at h
    simp only at h
    have g := mx_ge (ns := ((run r ss.length p).take k).map fun o => ss.getD o 0)
    split at h
    · cases h
      exact ⟨by omega, fun h z => by cases z⟩
    · split at h
      · cases h
        rename_i c
        exact ⟨by omega, fun h z => by cases z; exact c⟩
      · cases h
theorem fits_iff (P : Pos' ss ls) (hp : p < ss.length) {c : Int} (h0 : 0 ≤ c) : (wr r ss ls p c = ss.getD p 0) ↔ inB (bnd r ss ls p) c = true := by
  have pos : ∀ o ∈ run r ss.length p, 1 ≤ ls.getD o 0 := fun o ho => P.pos o (run_lt hp o ho)
  unfold bnd
  cases e : kOf r ss ls p with
  | none =>
    constructor
    · intro h
      have ht : tkr r ss p c = (run r ss.length p).take (tkr r ss p c).length := tw_take
      have hl : (tkr r ss p c).length ≤ (run r ss.length p).length := (List.takeWhile_sublist _).length_le
      refine absurd ?_ (kOf_none e _ hl)
      rw [← h]
      unfold wr sk
      rw [← ht]
    · intro h; cases h
  | some k =>
    obtain ⟨hk, ek⟩ := kOf_some e
    rw [wr_iff (ss := ss) (c := c) pos hk (show ss.getD p 0 = ls.getD p 0 + sm ls ((run r ss.length p).take k) from ek), tkr_iff hk]
    have m := mx_lt (ns := ((run r ss.length p).take k).map fun o => ss.getD o 0) h0
    have m' : (∀ o ∈ (run r ss.length p).take k, ss.getD o 0 < c) ↔ mx (((run r ss.length p).take k).map fun o => ss.getD o 0) < c := by
      rw [m]
      constructor
      · rintro h y hy
        obtain ⟨o, ho, rfl⟩ := List.mem_map.mp hy
        exact h o ho
      · intro h o ho
        exact h _ (List.mem_map.mpr ⟨o, ho, rfl⟩)
    rw [m']
    simp only
    cases e2 : (run r ss.length p)[k]? with
    | none =>
      simp only [inB, decide_eq_true_eq, reduceCtorEq, false_implies, implies_true, and_true]
      omega
    | some o =>
      simp only [Option.some.injEq, forall_eq']
      split
      · simp only [inB, Bool.and_eq_true, decide_eq_true_eq]
        omega
      · simp only [inB, Bool.false_eq_true, iff_false]
        omega
/-- the bounds leave more than the strength that the bead has -/
def mvB (b : Option (Int × Option Int)) (s : Int) : Bool := decide (b ≠ none) && decide (b ≠ some (s, some s))
theorem mv_of {b : Option (Int × Option Int)} {s c : Int} (h : inB b c = true) (ne : c ≠ s) : mvB b s = true := by
  unfold mvB
  rw [Bool.and_eq_true]
  refine ⟨decide_eq_true fun z => ?_, decide_eq_true fun z => ?_⟩
  · rw [z] at h; cases h
  · rw [z] at h
    simp only [inB, Bool.and_eq_true, decide_eq_true_eq] at h
    omega
theorem mv_has {b : Option (Int × Option Int)} {s m : Int} (h : mvB b s = true) (ok : ∀ lo hi, b = some (lo, hi) → 0 ≤ lo ∧ ∀ h, hi = some h → lo ≤ h) (hm : s < m) {ns : List Int} (h1 : m ∈ ns) (h2 : ∀ lo hi, b = some (lo, hi) → lo ∈ ns ∧ ∀ h, hi = some h → h ∈ ns) : ∃ c ∈ ns, inB b c = true ∧ c ≠ s := by
  unfold mvB at h
  rw [Bool.and_eq_true] at h
  obtain ⟨a1, a2⟩ := h
  have a1 := of_decide_eq_true a1
  have a2 := of_decide_eq_true a2
  cases b with
  | none => exact absurd rfl a1
  | some z =>
    obtain ⟨lo, hi⟩ := z
    obtain ⟨m1, m2⟩ := h2 lo hi rfl
    obtain ⟨k1, k2⟩ := ok lo hi rfl
    cases hi with
    | none =>
      by_cases c : lo = s
      · exact ⟨m, h1, decide_eq_true (by omega), by omega⟩
      · exact ⟨lo, m1, decide_eq_true (Int.le_refl _), c⟩
    | some hi =>
      have le := k2 hi rfl
      by_cases c : lo = s
      · have ne : hi ≠ s := fun z => a2 (by rw [c, z])
        exact ⟨hi, m2 hi rfl, by simp only [inB, Bool.and_eq_true, decide_eq_true_eq]; omega, ne⟩
      · exact ⟨lo, m1, by simp only [inB, Bool.and_eq_true, decide_eq_true_eq]; omega, c⟩
end Rt
set_option Elab.async false
set_option linter.all false
set_option maxRecDepth 100000
set_option maxHeartbeats 4000000
/-! Outcomes: spans that nest, depths, the origin (k26). -/
namespace Rt
open PySem PySem.Spec L2
variable {r : Bool} {ss ls : List Int} {n : Nat} {kf : Nat → Nat} {p q o : Nat}
/-- the spans nest: what is in a span ends in it -/
def Nest (r : Bool) (n : Nat) (kf : Nat → Nat) : Prop := ∀ p, p < n → ∀ i q, i < kf p → (run r n p)[i]? = some q → i + 1 + kf q ≤ kf p
def Fit (r : Bool) (n : Nat) (kf : Nat → Nat) : Prop := ∀ p, p < n → kf p ≤ (run r n p).length
/-- the others in the span of p -/
def inn (r : Bool) (n : Nat) (kf : Nat → Nat) (p : Nat) : List Nat := (run r n p).take (kf p)
theorem mem_inn : o ∈ inn r n kf p ↔ ∃ i, i < kf p ∧ (run r n p)[i]? = some o := by
  unfold inn
  constructor
  · intro h
    obtain ⟨i, hi⟩ := List.mem_iff_getElem?.mp h
    have hl := (List.getElem?_eq_some_iff.mp hi).1
    rw [List.length_take] at hl
    rw [List.getElem?_take_of_lt (by omega)] at hi
    exact ⟨i, by omega, hi⟩
  · rintro ⟨i, h1, h2⟩
    exact List.mem_iff_getElem?.mpr ⟨i, by rw [List.getElem?_take_of_lt h1]; exact h2⟩
/-- where o stands in the run of p -/
theorem run_ix (hp : p < n) {i : Nat} (h : (run r n p)[i]? = some o) : (o = p + 1 + i ∧ o < n) ∨ (r = true ∧ n ≤ p + 1 + i ∧ o + n = p + 1 + i ∧ o < p) := by
  have il := (List.getElem?_eq_some_iff.mp h).1
  have lr := run_le (r := r) hp
  rw [run_at hp (by omega)] at h
  split at h
  · cases h
    exact .inl ⟨rfl, by assumption⟩
  · split at h
    · cases h
      have l2 := run_len (r := r) hp
      rename_i c d
      rw [if_pos d] at l2
      exact .inr ⟨d, by omega, by omega, by omega⟩
    · cases h
theorem ix_run (hp : p < n) {i : Nat} (h : (o = p + 1 + i ∧ o < n) ∨ (r = true ∧ o + n = p + 1 + i ∧ o < p)) : (run r n p)[i]? = some o := by
  rcases h with ⟨a, b⟩ | ⟨a, b, c⟩
  · rw [run_at hp (by omega), if_pos (by omega), a]
  · rw [run_at hp (by omega), if_neg (by omega), if_pos a]
    congr 1; omega
theorem fit_le (F : Fit r n kf) (hp : p < n) : kf p + 1 ≤ n := by have := F p hp; have := run_le (r := r) hp; omega
/-- what is in the span of p is in each span that p is in -/
theorem inn_trans (F : Fit r n kf) (N : Nest r n kf) {x : Nat} (hx : x < n) (hp : p < n) (h1 : p ∈ inn r n kf x) (h2 : o ∈ inn r n kf p) : o ∈ inn r n kf x := by
  obtain ⟨i, hi, ei⟩ := mem_inn.mp h1
  obtain ⟨j, hj, ej⟩ := mem_inn.mp h2
  have nx := N x hx i p hi ei
  have fx := fit_le F hx
  refine mem_inn.mpr ⟨i + 1 + j, by omega, ix_run hx ?_⟩
  rcases run_ix hx ei with ⟨a, b⟩ | ⟨a, b, c, d⟩ <;> rcases run_ix hp ej with ⟨a', b'⟩ | ⟨a', b', c', d'⟩
  · exact .inl ⟨by omega, b'⟩
  · exact .inr ⟨a', by omega, by omega⟩
  · exact .inr ⟨a, by omega, by omega⟩
  · omega
theorem inn_self (hp : p < n) : p ∉ inn r n kf p := fun h => by
  obtain ⟨i, _, e⟩ := mem_inn.mp h
  rcases run_ix hp e with ⟨a, _⟩ | ⟨_, _, _, d⟩ <;> omega
/-- a span that holds the bead after the span of p holds p -/
theorem inn_next (F : Fit r n kf) (N : Nest r n kf) {x : Nat} (hx : x < n) (hp : p < n) (ho : (run r n p)[kf p]? = some o) (h : o ∈ inn r n kf x) : p ∈ inn r n kf x := by
  obtain ⟨j, hj, ej⟩ := mem_inn.mp h
  have fx := fit_le F hx
  have fp := fit_le F hp
  have rp := run_ix hp ho
  have rx := run_ix hx ej
  have bad : ∀ m, m < kf p → (run r n p)[m]? = some x → m + 1 + j = kf p → False := fun m h1 h2 h3 => by
    have := N p hp m x h1 h2
    omega
  rcases Nat.lt_trichotomy x p with c | c | c
  · by_cases d : p - x - 1 < j
    · exact mem_inn.mpr ⟨p - x - 1, by omega, ix_run hx (.inl ⟨by omega, hp⟩)⟩
    · exfalso
      rcases rp with ⟨a, b⟩ | ⟨a, b, e, f⟩ <;> rcases rx with ⟨a', b'⟩ | ⟨a', b', e', f'⟩
      · omega
      · omega
      · exact bad (n - p - 1 + x) (by omega) (ix_run hp (.inr ⟨a, by omega, c⟩)) (by omega)
      · omega
  · exfalso
    subst c
    rcases rp with ⟨a, b⟩ | ⟨a, b, e, f⟩ <;> rcases rx with ⟨a', b'⟩ | ⟨a', b', e', f'⟩ <;> omega
  · by_cases d : x - p - 1 < kf p
    · exfalso
      rcases rp with ⟨a, b⟩ | ⟨a, b, e, f⟩ <;> rcases rx with ⟨a', b'⟩ | ⟨a', b', e', f'⟩
      · exact bad (x - p - 1) d (ix_run hp (.inl ⟨by omega, hx⟩)) (by omega)
      · omega
      · omega
      · exact bad (x - p - 1) d (ix_run hp (.inl ⟨by omega, hx⟩)) (by omega)
    · rcases rp with ⟨a, b⟩ | ⟨a, b, e, f⟩ <;> rcases rx with ⟨a', b'⟩ | ⟨a', b', e', f'⟩
      · omega
      · exact mem_inn.mpr ⟨n - x - 1 + p, by omega, ix_run hx (.inr ⟨a', by omega, c⟩)⟩
      · omega
      · exact mem_inn.mpr ⟨n - x - 1 + p, by omega, ix_run hx (.inr ⟨a', by omega, c⟩)⟩
/-- in how many other spans -/
def dpt (r : Bool) (n : Nat) (kf : Nat → Nat) (q : Nat) : Nat := ((List.range n).filter fun p => decide (q ∈ inn r n kf p)).length
theorem flen_le {α : Type} {f g : α → Bool} : ∀ {l : List α}, (∀ x ∈ l, f x = true → g x = true) → (l.filter f).length ≤ (l.filter g).length
  | [], _ => Nat.le_refl _
  | a :: l, h => by
    have ih := flen_le (l := l) fun x hx => h x (List.mem_cons_of_mem _ hx)
    rw [List.filter_cons, List.filter_cons]
    cases ea : f a with
    | true =>
      rw [if_pos rfl, if_pos (h a List.mem_cons_self ea)]
      simpa using ih
    | false =>
      rw [if_neg (by decide)]
      split
      · rw [List.length_cons]; omega
      · exact ih
theorem flen_lt {α : Type} {f g : α → Bool} {y : α} : ∀ {l : List α}, (∀ x ∈ l, f x = true → g x = true) → y ∈ l → f y = false → g y = true → (l.filter f).length < (l.filter g).length
  | [], _, h, _, _ => by cases h
  | a :: l, h, hy, f0, g1 => by
    have hl : ∀ x ∈ l, f x = true → g x = true := fun x hx => h x (List.mem_cons_of_mem _ hx)
    rw [List.filter_cons, List.filter_cons]
    rcases List.mem_cons.mp hy with z | z
    · subst z
      rw [f0, g1, if_neg (by decide), if_pos rfl, List.length_cons]
      have := flen_le hl
      omega
    · have ih := flen_lt hl z f0 g1
      cases ea : f a with
      | true =>
        rw [if_pos rfl, if_pos (h a List.mem_cons_self ea)]
        simpa using ih
      | false =>
        rw [if_neg (by decide)]
        split
        · rw [List.length_cons]; omega
        · exact ih
theorem dpt_in (F : Fit r n kf) (N : Nest r n kf) (hp : p < n) (h : o ∈ inn r n kf p) : dpt r n kf p < dpt r n kf o :=
  flen_lt (y := p) (fun x hx e => decide_eq_true (inn_trans F N (List.mem_range.mp hx) hp (of_decide_eq_true e) h)) (List.mem_range.mpr hp) (decide_eq_false (inn_self hp)) (decide_eq_true h)
theorem dpt_next (F : Fit r n kf) (N : Nest r n kf) (hp : p < n) (h : (run r n p)[kf p]? = some o) : dpt r n kf o ≤ dpt r n kf p :=
  flen_le fun x hx e => decide_eq_true (inn_next F N (List.mem_range.mp hx) hp h (of_decide_eq_true e))
/-- the origin's trains are the spans -/
theorem org_trn (F : Fit r n kf) (N : Nest r n kf) {gs : List Int} {D : Int} (hl : gs.length = n) (hg : ∀ q, q < n → gs.getD q 0 = D - (dpt r n kf q : Int)) (hp : p < n) : trn r gs p = inn r n kf p := by
  have wkt : ∀ y ∈ (run r n p).take (kf p), wk gs p y = true := fun y hy => by
    have hy' : y ∈ inn r n kf p := hy
    have yl : y < n := run_lt hp y (List.mem_of_mem_take hy)
    have := dpt_in F N hp hy'
    exact decide_eq_true (by rw [hg y yl, hg p hp]; omega)
  unfold trn
  rw [hl]
  have fl := F p hp
  by_cases c : kf p < (run r n p).length
  · have e : (run r n p)[kf p]? = some (run r n p)[kf p] := List.getElem?_eq_getElem c
    have yl := run_lt hp _ (List.getElem_mem c)
    have := dpt_next F N hp e
    exact tw_stop wkt e (decide_eq_false (by rw [hg _ yl, hg p hp]; omega))
  · have e : (run r n p).take (kf p) = run r n p := List.take_of_length_le (by omega)
    rw [e] at wkt
    unfold inn
    rw [e]
    exact tw_all wkt
/-- after a round the spans are the trains, and they nest -/
theorem nest_tl : Nest r ss.length (fun p => tl r ss p) := fun p hp i q hi e => by
  have hq := run_lt hp q (List.mem_of_getElem? e)
  have e' : (run r ss.length p)[i]? = some q := e
  have lp := tl_le (r := r) (ss := ss) (p := p)
  have lq := tl_le (r := r) (ss := ss) (p := q)
  have rp := run_len (r := r) hp
  have rq := run_len (r := r) hq
  have qin : q ∈ trn r ss p := by
    rw [trn_tk]
    exact List.mem_iff_getElem?.mpr ⟨i, by rw [List.getElem?_take_of_lt hi]; exact e'⟩
  have wq : ss.getD q 0 < ss.getD p 0 := of_decide_eq_true (tw_mem (q := wk ss p) qin)
  refine Nat.le_of_not_lt fun lt => ?_
  have lt' : tl r ss p < i + 1 + tl r ss q := lt
  have hi' : i < tl r ss p := hi
  have inq : ∀ m x, m < tl r ss q → (run r ss.length q)[m]? = some x → ss.getD x 0 < ss.getD q 0 := fun m x h1 h2 => by
    have : x ∈ trn r ss q := by
      rw [trn_tk]
      exact List.mem_iff_getElem?.mpr ⟨m, by rw [List.getElem?_take_of_lt h1]; exact h2⟩
    exact of_decide_eq_true (tw_mem (q := wk ss q) this)
  by_cases c : tl r ss p < (run r ss.length p).length
  · have es : (run r ss.length p)[tl r ss p]? = some (run r ss.length p)[tl r ss p] := List.getElem?_eq_getElem c
    have stop : ¬ ss.getD (run r ss.length p)[tl r ss p] 0 < ss.getD p 0 := of_decide_eq_false (tw_next (q := wk ss p) es)
    generalize (run r ss.length p)[tl r ss p] = x at es stop
    have := inq (tl r ss p - i - 1) x (by omega) (by
      refine ix_run hq ?_
      rcases run_ix hp e' with ⟨a, b⟩ | ⟨a, b, d, f⟩ <;> rcases run_ix hp es with ⟨a', b'⟩ | ⟨a', b', d', f'⟩
      · exact .inl ⟨by omega, b'⟩
      · exact .inr ⟨a', by omega, by omega⟩
      · omega
      · exact .inl ⟨by omega, by omega⟩)
    omega
  · cases r
    · simp only [Bool.false_eq_true, if_false] at rp rq
      rcases run_ix hp e' with ⟨a, b⟩ | ⟨a, _⟩
      · omega
      · cases a
    · simp only [if_true] at rp rq
      have := inq (ss.length - 2 - i) p (by omega) (by
        refine ix_run hq ?_
        rcases run_ix hp e' with ⟨a, b⟩ | ⟨a, b, d, f⟩
        · exact .inr ⟨rfl, by omega, by omega⟩
        · exact .inl ⟨by omega, hp⟩)
      omega
end Rt
set_option Elab.async false
set_option linter.all false
set_option maxRecDepth 100000
set_option maxHeartbeats 4000000
/-! max with a default, max and min of two, slices of lists, comparing lists and tuples of ints, lists of rows. -/
namespace Rt
open PySem PySem.Spec L2 PyProof.Rows
theorem reads_ints {h : Heap} : ∀ {us : List Value} {ns : List Int}, IntsAre us ns → ReadsAll h us (ns.map PyData.int) []
  | _, _, .nil => .nil
  | _, _, .cons n t r => ReadsAll.cons (as := []) (bs := []) (Reads.int n t) (reads_ints r)
theorem fold_max : ∀ (ns : List Int) (n : Int), (ns.foldl max n = n ∨ ns.foldl max n ∈ ns) ∧ n ≤ ns.foldl max n ∧ ∀ y ∈ ns, y ≤ ns.foldl max n
  | [], n => ⟨.inl rfl, Int.le_refl _, fun y hy => absurd hy (by simp)⟩
  | k :: ns, n => by
    obtain ⟨a, b, c⟩ := fold_max ns (max n k)
    rw [List.foldl_cons]
    refine ⟨?_, by omega, fun y hy => ?_⟩
    · rcases a with a | a
      · by_cases h : n ≤ k
        · exact .inr (by rw [a]; have : max n k = k := by omega
                         rw [this]; exact List.mem_cons_self)
        · exact .inl (by rw [a]; omega)
      · exact .inr (List.mem_cons_of_mem _ a)
    · rcases List.mem_cons.mp hy with z | z
      · omega
      · exact c y z
def rMaxDf (K : PySem.W.Frag) : List V → List V → Hp → VK → Prop := fun vs zs H Q => ∃ (a : Addr) (ns : List Int) (d : Int), vs = [.ref a] ∧ zs = [.int d] ∧ SqL K H a (ns.map V.int) ∧ (ns = [] → Q (.int d) H) ∧ ∀ m, m ∈ ns → (∀ y ∈ ns, y ≤ m) → Q (.int m) H
section
variable {X : Cx} (K : PySem.W.Frag)
theorem cr_maxDf (hc : X.calm = true) (hu : X.A.units + 64 < cLine) (hK : X.K = K := by rfl) : CallRK X (.builtin "max") [Str.ofString "default"] (rMaxDf K) := by
  subst hK
  intro pins s σ H vs zs us ws Q I rv rz h
  obtain ⟨a, ns, d, rfl, rfl, hs, q0, q⟩ := h
  obtain ⟨its, ri, hl, hz⟩ := I.list hs
  rw [Vals.ref1 rv]
  obtain ⟨w1, rfl, e1⟩ := vals1 rz
  obtain ⟨t, e2⟩ := (show ∃ t, w1 = Value.int d t from e1)
  subst e2
  refine PySem.W.max_list_default (xs := ns.map PyData.int) (I.ok.hd hc) hl.isList (reads_ints (by simpa using ri.ints)) ⟨?_, ?_⟩ (by rw [depI]; omega) (fun e h' tk k => ?_) (fun y ys i v h' tk bs e hv hr k => ?_)
  · intro x hx y hy
    obtain ⟨i, _, rfl⟩ := List.mem_map.mp hx
    obtain ⟨j, _, rfl⟩ := List.mem_map.mp hy
    rfl
  · intro x hx z
    obtain ⟨i, _, rfl⟩ := List.mem_map.mp hx
    cases z
  · exact ⟨.int d, H, I.kept k, ⟨t, rfl⟩, q0 (List.map_eq_nil_iff.mp e)⟩
  · cases ns with
    | nil => cases e
    | cons n ns =>
      rw [List.map_cons] at e
      cases e
      rw [PySem.W.maxD_ints] at hr
      obtain ⟨t2, e3⟩ : ∃ t2, v = Value.int (ns.foldl max n) t2 := by
        cases hr
        exact ⟨_, rfl⟩
      subst e3
      obtain ⟨a1, a2, a3⟩ := fold_max ns n
      refine ⟨.int (ns.foldl max n), H, I.kept k, ⟨t2, rfl⟩, q _ ?_ fun y hy => ?_⟩
      · rcases a1 with z | z
        · rw [z]; exact List.mem_cons_self
        · exact List.mem_cons_of_mem _ z
      · rcases List.mem_cons.mp hy with z | z
        · rw [z]; exact a2
        · exact a3 y z
def rMax2 : List V → Hp → VK → Prop := fun xs H Q => ∃ i j : Int, xs = [.int i, .int j] ∧ Q (.int (max i j)) H
def rMin2 : List V → Hp → VK → Prop := fun xs H Q => ∃ i j : Int, xs = [.int i, .int j] ∧ Q (.int (min i j)) H
theorem cr_max2 (hc : X.calm = true) : CallR X (.builtin "max") rMax2 := by
  intro pins s σ H vs us Q I r h
  obtain ⟨i, j, e, q⟩ := h
  refine call_max2 hc pins s σ H vs us Q I r ⟨i, j, e, ?_⟩
  have : (if j > i then j else i) = max i j := by split <;> omega
  rw [this]; exact q
theorem cr_min2 (hc : X.calm = true) : CallR X (.builtin "min") rMin2 := by
  intro pins s σ H vs us Q I r h
  obtain ⟨i, j, e, q⟩ := h
  refine call_min2 hc pins s σ H vs us Q I r ⟨i, j, e, ?_⟩
  have : (if j < i then j else i) = min i j := by split <;> omega
  rw [this]; exact q
end
theorem g_max2 {i j : Int} {H : Hp} {Q : VK} (h : Q (.int (max i j)) H) : rMax2 [.int i, .int j] H Q := ⟨i, j, rfl, h⟩
theorem g_min2 {i j : Int} {H : Hp} {Q : VK} (h : Q (.int (min i j)) H) : rMin2 [.int i, .int j] H Q := ⟨i, j, rfl, h⟩
theorem g_ckw {r : List V → List V → Hp → VK → Prop} {t tk : TA} {σ : L2.St} {H : Hp} {Q : VK} (h : t σ H fun vs H1 => tk σ H1 fun zs H2 => r vs zs H2 Q) : tCKw r t tk σ H Q := h
/-! ### slices of lists -/
theorem g_cut {K : PySem.W.Frag} {H : Hp} {Q : VK} {a : Addr} {xs : List V} {lo hi : Option Int} (hs : SqL K H a xs) (h : ∀ p H', H p = none → Same H H' → H' p = some (.lst (cutV xs lo hi)) → Q (.ref p) H') : rSlL K (.ref a) lo hi H Q :=
  ⟨a, xs, rfl, hs, fun p np => h p _ np (L2.Same.new np) upd_same⟩
theorem cut_lo {xs : List V} {k : Nat} (h : k ≤ xs.length) : cutV xs (some (k : Int)) none = xs.drop k := by
  unfold cutV
  rw [HT.sIx_none, HT.sIx_nat, Nat.min_eq_left h, List.take_of_length_le (by rw [List.length_drop]; omega)]
theorem cut_hi {xs : List V} {k : Nat} (h : k ≤ xs.length) : cutV xs none (some (k : Int)) = xs.take k := by
  unfold cutV
  rw [HT.sIx_none, HT.sIx_nat, Nat.min_eq_left h, List.drop_zero, Nat.sub_zero]
theorem cut_end {xs : List V} (h : 0 < xs.length) : cutV xs (some (-1)) none = xs.drop (xs.length - 1) := by
  unfold cutV
  rw [HT.sIx_none]
  have e : HT.sIx xs.length 0 (some (-1)) = xs.length - 1 := by
    unfold HT.sIx
    simp only [show ((-1 : Int) < 0) from by decide, if_true]
    omega
  rw [e, List.take_of_length_le (by rw [List.length_drop]; omega)]
theorem at_last {α : Type} {xs : List α} {v : α} (h : xs[xs.length - 1]? = some v) : atI xs (-1) = some v := by
  have hl : xs.length - 1 < xs.length := (List.getElem?_eq_some_iff.mp h).1
  unfold atI ixN
  rw [if_neg (by decide), if_pos (by omega)]
  show xs[((-1 : Int) + (xs.length : Int)).toNat]? = _
  rw [show ((-1 : Int) + (xs.length : Int)).toNat = xs.length - 1 by omega]
  exact h
/-! ### comparing -/
theorem eqvI : ∀ xs ys : List Int, PyData.eqvAll (xs.map PyData.int) (ys.map PyData.int) = decide (xs = ys)
  | [], [] => by simp [PyData.eqvAll]
  | [], y :: ys => by simp [PyData.eqvAll]
  | x :: xs, [] => by simp [PyData.eqvAll]
  | x :: xs, y :: ys => by
    rw [List.map_cons, List.map_cons, PyData.eqvAll, eqvI xs ys, PyData.eqv]
    by_cases a : x = y
    · by_cases b : xs = ys <;> simp [a, b]
    · have : (x == y) = false := by simpa using a
      rw [this, Bool.false_and]
      exact (decide_eq_false fun z => a (by injection z)).symm
theorem shI (xs : List Int) : SeqAt.shaped (.list (xs.map PyData.int)) = true ∧ SeqAt.shaped (.tuple (xs.map PyData.int)) = true := by
  have c1 : PyData.canLay0 (.list (xs.map PyData.int)) = true := by simp [PyData.canLay0, canI]
  have c2 : PyData.canLay0 (.tuple (xs.map PyData.int)) = true := by simp [PyData.canLay0, canI]
  constructor
  · unfold SeqAt.shaped; rw [c1]; simp [PyData.depth, depI]
  · unfold SeqAt.shaped; rw [c2]; simp [PyData.depth, depI]
theorem g_neT {K : PySem.W.Frag} {H : Hp} {Q : VK} {a b : Addr} {xs ys : List Int} (ha : H a = some (.tup (xs.map V.int))) (hb : H b = some (.tup (ys.map V.int))) (h : Q (.bl (!decide (xs = ys))) H) : rNeD K (.ref a) (.ref b) H Q :=
  ⟨_, _, .tup (SqT.of ha) (dpI xs), .tup (SqT.of hb) (dpI ys), (shI xs).2, (shI ys).2, by rw [PyData.eqv, eqvI]; exact h⟩
theorem g_eqL {K : PySem.W.Frag} {H : Hp} {Q : VK} {a b : Addr} {xs ys : List Int} (ha : SqL K H a (xs.map V.int)) (hb : SqL K H b (ys.map V.int)) (h : Q (.bl (decide (xs = ys))) H) : rEqD K (.ref a) (.ref b) H Q :=
  ⟨_, _, .lst ha (dpI xs), .lst hb (dpI ys), (shI xs).1, (shI ys).1, by rw [PyData.eqv, eqvI]; exact h⟩
/-! ### lists of rows -/
/-- the items are lists (b: tuples) of the ints f 0 .. f (n - 1), at addresses with N -/
def RA (N : Addr → Prop) (b : Bool) (H : Hp) (xs : List V) (n : Nat) (f : Nat → List Int) : Prop :=
  xs.length = n ∧ ∀ k : Nat, k < n → ∃ t : Addr, xs[k]? = some (V.ref t) ∧ N t ∧ H t = some (if b = true then .tup ((f k).map V.int) else .lst ((f k).map V.int))
section
variable {N M : Addr → Prop} {b : Bool} {H H' : Hp} {xs : List V} {n : Nat} {f g : Nat → List Int}
theorem RA.nil : RA N b H [] 0 f := ⟨rfl, fun k h => absurd h (Nat.not_lt_zero _)⟩
theorem RA.mono (h : RA N b H xs n f) (S : Same H H') : RA N b H' xs n f := ⟨h.1, fun k hk => let ⟨t, a, c, d⟩ := h.2 k hk; ⟨t, a, c, S _ _ d⟩⟩
theorem RA.weak (h : RA N b H xs n f) (w : ∀ t, N t → M t) : RA M b H xs n f := ⟨h.1, fun k hk => let ⟨t, a, c, d⟩ := h.2 k hk; ⟨t, a, w _ c, d⟩⟩
theorem RA.congr (h : RA N b H xs n f) (e : ∀ k, k < n → f k = g k) : RA N b H xs n g := ⟨h.1, fun k hk => let ⟨t, a, c, d⟩ := h.2 k hk; ⟨t, a, c, by rw [← e k hk]; exact d⟩⟩
theorem RA.upd {l : Addr} {o : HO} (h : RA N b H xs n f) (w : ∀ t, N t → t ≠ l) : RA N b (upd H l o) xs n f := ⟨h.1, fun k hk => let ⟨t, a, c, d⟩ := h.2 k hk; ⟨t, a, c, by rw [upd_ne (w t c)]; exact d⟩⟩
theorem RA.more {t : Addr} (h : RA N b H xs n f) (c : N t) (ht : H t = some (if b = true then .tup ((f n).map V.int) else .lst ((f n).map V.int))) : RA N b H (xs ++ [V.ref t]) (n + 1) f := by
  refine ⟨by rw [List.length_append, h.1]; rfl, fun k hk => ?_⟩
  by_cases e : k < n
  · obtain ⟨u, a, d, m⟩ := h.2 k e
    exact ⟨u, by rw [List.getElem?_append_left (by rw [h.1]; exact e)]; exact a, d, m⟩
  · have e2 : k = n := by omega
    subst e2
    exact ⟨t, by rw [List.getElem?_append_right (by rw [h.1]; exact Nat.le_refl _), h.1, Nat.sub_self]; rfl, c, ht⟩
theorem RA.drop (h : RA N b H xs n f) {j : Nat} (hj : j ≤ n) : RA N b H (xs.drop j) (n - j) (fun k => f (j + k)) :=
  ⟨by rw [List.length_drop, h.1], fun k hk => let ⟨t, a, c, d⟩ := h.2 (j + k) (by omega); ⟨t, by rw [List.getElem?_drop]; exact a, c, d⟩⟩
theorem RA.take (h : RA N b H xs n f) {j : Nat} (hj : j ≤ n) : RA N b H (xs.take j) j f :=
  ⟨by rw [List.length_take, h.1]; omega, fun k hk => let ⟨t, a, c, d⟩ := h.2 k (by omega); ⟨t, by rw [List.getElem?_take_of_lt hk]; exact a, c, d⟩⟩
end
/-- a list comprehension over a range that makes rows -/
theorem lc_rows {lo : Int} {n : Nat} {g : TG} {te : TE} {vs : List Nat} {σ : L2.St} {H1 : Hp} {D : Addr} {Qd : Hp → Prop} (f : Nat → List Int) (hD : H1 D = none) (sz : n ≤ 100000)
    (turn : ∀ (i : Nat) (H' : Hp), i < n → Same H1 H' → ∀ Q : VK, (∀ (t : Addr) (H2 : Hp), H' t = none → Same H' H2 → H2 t = some (.lst ((f i).map V.int)) → Q (.ref t) H2) → g (.int (lo + i)) (wipe σ vs) H' fun σ2 H2 => wipe σ2 vs = wipe σ vs ∧ te σ2 H2 Q)
    (done : ∀ H' xs, Same H1 H' → H' D = some (.lst xs) → RA (fun t => H1 t = none ∧ t ≠ D) false H' xs n f → Qd H') :
    ∃ W : Nat → Nat → Hp → Prop, (∃ m, W 0 m (upd H1 D (.lst []))) ∧ ∀ i m H, W i m H →
      ((Itr lo n).stop i H ∧ Qd H) ∨ ((Itr lo n).go i H ∧ ∃ Nx : Hp → Prop, (∀ H', Nx H' → ∃ m', m' < m ∧ W (i + 1) m' H') ∧ ∀ x H', (Itr lo n).yld i H x H' → g x (wipe σ vs) H' fun σ2 H2 => wipe σ2 vs = wipe σ vs ∧ tYes σ2 H2 fun b H3 =>
        if b = true then te σ2 H3 fun y H4 => ∃ acc, H4 D = some (.lst acc) ∧ acc.length < sizeLine ∧ Nx (upd H4 D (.lst (acc ++ [y]))) else Nx H3) := by
  refine lc_range (fun i H' => ∃ xs, Same H1 H' ∧ H' D = some (.lst xs) ∧ RA (fun t => H1 t = none ∧ t ≠ D) false H' xs i f) ⟨[], Same.new hD, upd_same, RA.nil⟩ ?_ ?_
  · rintro i H' hi ⟨xs, S1, hd, hR⟩
    refine turn i H' hi S1 _ fun t H2 nt S2 ht => ⟨xs, S2 _ _ hd, ?_, xs ++ [V.ref t], (S1.trans S2).mut hD, upd_same, ?_⟩
    · rw [hR.1]; exact slt1000 (by omega)
    · have ne : t ≠ D := fun z => by rw [z, hd] at nt; cases nt
      exact ((hR.mono S2).more ⟨S1.free nt, ne⟩ ht).upd fun t c => c.2
  · rintro H' ⟨xs, S1, hd, hR⟩
    exact done H' xs S1 hd hR
end Rt
set_option Elab.async false
set_option linter.all false
set_option maxRecDepth 100000
set_option maxHeartbeats 4000000
/-! isinstance(e, C) in an except suite, e an instance of an own exception class that has a dict. -/
namespace Rt
open PySem PySem.Spec L2 PyProof.Rows
open PySem.W (Frag findIn subIn InstAt)
section
variable {prog : Program} {w : World} {A : Around} {E : Value → Shared → Prop} {s : Shared} {K : Frag} {x D : Addr} {ox : Obj} {od : Obj}
theorem exd_class {Q : Option Value → Shared → Prop} (C : ExcC K D) (X : K.In s.heap) (I : InstAt s.heap x ox D (some od)) (h : Q (some (.ref D)) { s with toks := s.toks + 1 }) : wpAny (model prog w) A (getAttr? (.ref x) "__class__") Q E s := by
  have found : PySem.W.findObj K D (some od) "__class__" = some (.bind (.builtin "getset_descriptor.__get__") (.builtin "object.__class__")) :=
    PySem.W.findObj_data (by obtain ⟨cd, hc, _⟩ := PySem.W.any_some C.hd; rw [hc]; rfl) C.ha C.hn C.ht
  obtain ⟨hp, g, d, t, os⟩ := s
  have l0 := I.type (M := model prog w); have l1 := PySem.W.looks_findIn (M := model prog w) X C.hg
  have l2 := PySem.W.looks_findIn (M := model prog w) X C.hk; have l3 := PySem.W.looks_find (M := model prog w) X I found
  have below : PySem.W.Looks (model prog w) hp (isInstance (.ref x) (.type "BaseException")) true := l0.andThen (PySem.W.looks_subIn X C.hs)
  have z2 : (Value.builtin "BaseException.__getattribute__" == Value.builtin "object.__getattribute__") = false := by decide +kernel
  have z1 : (onTheHeap (Value.ref D) && Value.builtin "BaseException.__getattribute__" == Value.builtin "object.__getattribute__") = false := by rw [z2]; rfl
  unfold getAttr? getAttrBy? getAttrBy; refine wpAny_bind (wpAny_mkText (wpAny_bind (wpAny_attempt (wpAny_holding (wpAny_bind (l0.at (wpAny_bind (l1.at ?_))))))))
  show wpAny _ _ (if (onTheHeap (Value.ref D) && Value.builtin "BaseException.__getattribute__" == Value.builtin "object.__getattribute__") = true then _ else _) _ _ _; rw [z1, if_neg Bool.false_ne_true]
  unfold getAttrByItsOwn hookBefore; refine wpAny_bind ?_
  rw [if_pos (show onTheHeap (Value.ref D) = true from rfl)]; refine l2.at ?_
  refine wpAny_bind (wpAny_attempt (wpAny_holding ?_)); unfold callGetattribute
  rw [show (false && onTheHeap (Value.builtin "BaseException.__getattribute__")) = false from rfl, if_neg Bool.false_ne_true]; unfold boundAndCalled
  rw [PySem.F.excAttr_ValueError.ga.bind (.ref x)]; refine wpAny_bind (wpAny_pure ?_)
  show wpAny _ _ (call (.builtin "BaseException.__getattribute__") [.ref x, .str "__class__" t]) _ _ _; refine wpAny_call (codeAny_call_builtin PySem.F.excAttr_ValueError.ga.plain PySem.F.entry_bexc_ga ?_)
  refine @PySem.W.check_slot (model prog w) _ _ ⟨hp, g, d, t + 1, os⟩ "BaseException.__getattribute__" "BaseException" "__getattribute__" (.ref x) [.str "__class__" t] [] _ (by decide +kernel) (by decide +kernel) below (PySem.F.args_bexc_ga (.ref x) (.str "__class__" t)) ?_
  unfold Builtin.«object.__getattribute__»; refine wpAny_bind (wpAny_of_eq (a := ((Value.ref x : Value), [Value.str "__class__" t])) (by first | rfl | (simp only [slotArgs]; rfl)) ?_)
  refine wpAny_bind (wpAny_pure (wpAny_bind (l0.at (wpAny_bind (l3.at ?_)))))
  show wpAny _ _ (holding [Value.builtin "object.__class__"] (call (.builtin "getset_descriptor.__get__") [.builtin "object.__class__", .ref x, .ref D]) >>= ret) _ _ _; refine wpAny_bind (wpAny_holding (wpAny_call (PySem.W.class_get (s := ⟨hp, g, d, t + 1, os⟩) (ox := ox) (od := some od) X I C.hm ?_)))
  refine wpAny_pure ?_; show wpAny _ _ (handedOut (.ref D)) _ _ _
  rw [PySem.W.handedOut_of (v := .ref D) rfl]
  first | exact wpAny_pure (wpAny_pure h) | exact wpAny_pure h | exact wpAny_pure (wpAny_bind (wpAny_pure (wpAny_pure h)))
theorem exd_kit (C : ExcC K D) : PySem.W.KitX K (.ref x) (.ref D) (fun h => InstAt h x ox D (some od)) where
  ty := fun _ _ _ I => I.type
  it := fun _ _ X _ => by
    obtain ⟨cdD, e, _⟩ := PySem.W.any_some C.hd
    unfold PySem.W.clsIn at e; split at e
    · rename_i c1 d1 cd1 sl1 at1
      intro A' Q' E' s' k q; unfold isType loadHead
      exact wpAny_bind (wpAny_loadPart (k _ _ (X _ _ at1)) (wpAny_pure q))
    · cases e
  ne := fun h tp dd its n sl X at2 => by
    obtain ⟨cdD, e, _⟩ := PySem.W.any_some C.hd
    refine Bool.eq_false_iff.mpr fun q => ?_
    have same : D = tp := Value.ref.inj (beq_iff_eq.mp q)
    subst same; unfold PySem.W.clsIn at e
    split at e
    · rename_i c1 d1 cd1 sl1 at1
      exact absurd ((X _ _ at1).symm.trans at2) (by intro z; cases z)
    · cases e
  ca := fun X I k => exd_class C X I k
end
/-- isinstance(e, c), e the exception of the suite, its class D, its dict at dd -/
def rIsX (K : Frag) (a : Addr) (cls : Value) (d : Option Addr) : List V → Hp → VK → Prop := fun xs H Q => ∃ (D dd : Addr) (fs : List (Str × V)) (c : V) (cv : Value) (b : Bool), xs = [.ref a, c] ∧ cls = .ref D ∧ d = some dd ∧ H dd = some (.xd fs) ∧ ExcC K D ∧ (∀ u, RelV c u → u = cv) ∧ PySem.W.kitOne K (.ref D) cv = some b ∧ Q (.bl b) H
theorem call_isX {X : Cx} {a : Addr} {oe : Obj} {cls : Value} {d : Option Addr} {pn : List (Addr × Obj)} (K : Frag) (hz : Zc cls d oe) (hf : ∃ vs, oe.data = .fields vs) (hK : X.K = K := by rfl) : CallR (X.suite a ((a, oe) :: pn)) (.builtin "isinstance") (rIsX K a cls d) := by
  subst hK
  intro pins s σ H xs us Q I r h
  obtain ⟨D, dd, fs, c, cv, b, rfl, rfl, rfl, hdd, C, hcv, e, q⟩ := h
  cases r with
  | cons rx rr =>
    cases rr with
    | cons rt rr =>
      cases rr
      obtain rfl : _ = Value.ref a := rx
      have ec := hcv _ rt
      subst ec
      obtain ⟨here, _⟩ := I.pin (a, oe) (List.mem_append_left _ List.mem_cons_self)
      obtain ⟨vs, hd⟩ := hf
      have ok : ObjOk X.prog X.w H s.heap dd (.xd fs) := I.hok dd _ hdd
      obtain ⟨mA, hns, _⟩ := ok
      obtain ⟨od, ho, _⟩ := lookIn_ns hns
      have J : InstAt s.heap a oe D (some od) := ⟨here, hz.1, by unfold PySem.W.notCls; rw [hd] <;> rfl, by rw [hz.2]; exact ho⟩
      exact PySem.W.kia_one (exd_kit C) I.kIn J e (fun z => nomatch z) fun tk => ⟨.bl b, H, I.kept (t' := tk) fun _ _ z => z, rfl, q⟩
/-- the facts of a class, in one Bool -/
def isxB (K : Frag) (D : Addr) : Bool := decide (findIn K (.ref D) "__getattribute__" = some (some (.builtin "BaseException.__getattribute__"))) && (decide (findIn K (.ref D) "__getattr__" = some none) && (decide (subIn K (.ref D) (.type "BaseException") = some true) && (PySem.W.hasDictIn K D &&
  (decide (findIn K (.ref D) "__class__" = some (some (.builtin "object.__class__"))) && (decide (PySem.W.specialIn K (.builtin "object.__class__") "__get__" = some (some (.builtin "getset_descriptor.__get__"))) && (decide (PySem.W.takesIn K (.builtin "object.__class__") = some true) && decide (PySem.W.mroIn K D (.type "object") = some true)))))))
theorem isxB_ok {K : Frag} {D : Addr} (h : isxB K D = true) : ExcC K D := by
  unfold isxB at h
  simp only [Bool.and_eq_true, decide_eq_true_eq] at h
  obtain ⟨h1, h2, h3, h4, h5, h6, h7, h8⟩ := h
  exact ⟨h1, h2, h3, h4, h5, h6, h7, h8⟩
theorem g_isX {K : Frag} {a D dd : Addr} {fs : List (Str × V)} {c : Addr} {b : Bool} {H : Hp} {Q : VK} (hd : H dd = some (.xd fs)) (C : ExcC K D) (e : PySem.W.kitOne K (.ref D) (.ref c) = some b) (q : Q (.bl b) H) : rIsX K a (.ref D) (some dd) [.ref a, .ref c] H Q :=
  ⟨D, dd, fs, .ref c, .ref c, b, rfl, rfl, rfl, hd, C, fun u hu => hu, e, q⟩
theorem g_isXT {K : Frag} {a D dd : Addr} {fs : List (Str × V)} {n : String} {b : Bool} {H : Hp} {Q : VK} (hd : H dd = some (.xd fs)) (C : ExcC K D) (e : PySem.W.kitOne K (.ref D) (.type n) = some b) (q : Q (.bl b) H) : rIsX K a (.ref D) (some dd) [.ref a, .ty n] H Q :=
  ⟨D, dd, fs, .ty n, .type n, b, rfl, rfl, rfl, hd, C, fun u hu => hu, e, q⟩
end Rt
namespace Rt
open PySem PySem.Spec L2 PyProof.Rows
/-! ### xs[i], by values; an item of a list is replaced; lists of ints compared -/
def rGetL (K : PySem.W.Frag) : V → V → Hp → VK → Prop := fun o i H Q => ∃ (p : Addr) (xs : List V) (k : Nat) (v : V), o = .ref p ∧ i = .int (k : Int) ∧ SqL K H p xs ∧ xs[k]? = some v ∧ Q v H
theorem pget_ixK {X : Cx} (K : PySem.W.Frag) (h : X.K = K := by rfl) : PGet X (rGetL K) := by
  subst h
  intro pins s σ H o i ov iv Q I ro ri h
  obtain ⟨p, xs, k, v, rfl, rfl, hs, hk, q⟩ := h
  obtain rfl : ov = Value.ref p := ro
  obtain ⟨t, rfl⟩ := ri
  obtain ⟨its, r, pl, hz⟩ := I.list hs
  obtain ⟨w, ew, rw'⟩ := r.get hk
  have hl := r.length
  have hn := line63
  have lt := (List.getElem?_eq_some_iff.mp hk).1
  exact wpAny_getItem_list pl.isList (by omega) (by omega) (by simpa using ew) ⟨v, H, I, rw', q⟩
theorem g_setV {H : Hp} {l : Addr} {xs : List V} {i : Nat} {v : V} {R : Hp → Prop} (h : H l = some (.lst xs)) (hi : i < xs.length) (q : R (upd H l (.lst (xs.set i v)))) : rSetL (.ref l) (.int (i : Int)) v H R := by
  refine ⟨l, _, (i : Int), i, rfl, rfl, h, ?_, q⟩
  unfold ixN
  simp; omega
theorem g_augS {to ti te : TE} {tget : V → V → Hp → VK → Prop} {tip : TIp} {tset : TSet} {D : Ends} {σ : L2.St} {H : Hp} (h : to σ H fun o H1 => ti σ H1 fun i H2 => tget o i H2 fun x H3 => te σ H3 fun y H4 => tip x y H4 fun z H5 => tset o i z H5 fun H6 => D.nx σ H6) : tAugS to ti te tget tip tset D σ H := h
theorem g_neL {K : PySem.W.Frag} {H : Hp} {Q : VK} {a b : Addr} {xs ys : List Int} (ha : SqL K H a (xs.map V.int)) (hb : SqL K H b (ys.map V.int)) (h : Q (.bl (!decide (xs = ys))) H) : rNeD K (.ref a) (.ref b) H Q :=
  ⟨_, _, .lst ha (dpI xs), .lst hb (dpI ys), (shI xs).1, (shI ys).1, by rw [PyData.eqv, eqvI]; exact h⟩
end Rt
namespace Rt
open PySem PySem.Spec L2 PyProof.Rows
/-! ### e.f in an except suite, the class told by the reading -/
def tXfG (K : PySem.W.Frag) (a : Addr) (cls : Value) (d : Option Addr) (f : Str) (te : TE) : TE := fun σ H Q => te σ H fun x H1 => x = .ref a ∧ ∃ (C dd : Addr) (fs : List (Str × V)) (v : V), cls = .ref C ∧ XfC K C ∧ PySem.W.findIn K (.ref C) f = some none ∧ d = some dd ∧ H1 dd = some (.xd fs) ∧ fs.lookup f = some v ∧ Q v H1
theorem pe_xfG {X : Cx} {a : Addr} {oe : Obj} {cls : Value} {d : Option Addr} {pn : List (Addr × Obj)} {e : Expr} {te : TE} {pos : Pos} {n : Str} (K : PySem.W.Frag) (hz : Zc cls d oe) (hf : ∃ vs, oe.data = .fields vs) (he : PE (X.suite a ((a, oe) :: pn)) e te) (hb : attributeBase e n X.env (eval e X.env) = eval e X.env := by rfl) (hK : X.K = K := by rfl) :
    PE (X.suite a ((a, oe) :: pn)) (.Attribute e n pos) (tXfG K a cls d n te) := by
  subst hK
  refine ⟨fun pins s σ H Q I h => attr_of hb (thn (he.run pins s σ H _ I h) fun u s1 got => ?_)⟩
  obtain ⟨x, H1, I1, rx, ex, C, dd, fs, v, ec, xc, no, ed, ea, l, q⟩ := got
  subst ex ec ed
  obtain rfl : u = Value.ref a := rx
  obtain ⟨here, _⟩ := I1.pin (a, oe) (List.mem_append_left _ List.mem_cons_self); obtain ⟨vs, hd⟩ := hf
  have ok : ObjOk X.prog X.w H1 s1.heap dd (.xd fs) := I1.hok dd _ ea
  obtain ⟨mA, hns, hr⟩ := ok; obtain ⟨od, ho, hl⟩ := lookIn_ns hns
  obtain ⟨u, hu, ru⟩ := RelO.some_of (v := v) (o := mA n) (by rw [← l]; exact hr n)
  have at_ : PySem.W.InstAt s1.heap a oe C (some od) := ⟨here, hz.1, by unfold PySem.W.notCls; rw [hd] <;> rfl, by rw [hz.2]; exact ho⟩
  exact HandSPX.exc_get I1.kIn at_ xc.ga xc.gg xc.exC (PySem.W.findObj_own xc.hdC no rfl (by rw [hl, hu])) (handed_of ru) ⟨v, H1, I1.tok _, ru, q⟩
theorem g_xfG {K : PySem.W.Frag} {a C dd : Addr} {f : Str} {te : TE} {σ : L2.St} {H : Hp} {Q : VK} (h : te σ H fun x H1 => x = .ref a ∧ ∃ (C' dd' : Addr) (fs : List (Str × V)) (v : V), (Value.ref C : Value) = .ref C' ∧ XfC K C' ∧ PySem.W.findIn K (.ref C') f = some none ∧ (some dd : Option Addr) = some dd' ∧ H1 dd' = some (.xd fs) ∧ fs.lookup f = some v ∧ Q v H1) : tXfG K a (.ref C) (some dd) f te σ H Q := h
end Rt
set_option Elab.async false
set_option linter.all false
set_option maxRecDepth 100000
set_option maxHeartbeats 4000000
/-! An own exception, with its attributes, held as a value: made, read, asked for its kind. -/
namespace Rt
open PySem PySem.Spec L2 PyProof.Rows
open PySem.W (Frag findIn subIn InstAt)
/-- an exception of the class C at a, its dict at d -/
def ExD (C : Addr) (d : Option Addr) (a : Addr) : HO := .ext fun h => ∃ (oe : Obj) (vs : Array Value), h.get? a = some oe ∧ Zc (.ref C) d oe ∧ oe.data = .fields vs
theorem exD_ok {P : Program} {w : World} {H : Hp} {h : Heap} {a C : Addr} {d : Option Addr} {oe : Obj} {vs : Array Value} (e : h.get? a = some oe) (z : Zc (.ref C) d oe) (dd : oe.data = .fields vs) : ObjOk P w H h a (ExD C d a) :=
  ⟨⟨oe, vs, e, z, dd⟩, ⟨oe, e⟩, fun _ _ ⟨o, v, q, r⟩ k => ⟨o, v, k o q, r⟩⟩
section
variable {X : Cx}
/-- what makes an exception gives it as a value -/
def tExV (t : L2.St → Hp → XK → Prop) : TE := fun σ H Q => t σ H fun cls d H' => ∃ C : Addr, cls = .ref C ∧ ∀ a, H' a = none → Q (.ref a) (upd H' a (ExD C d a))
theorem pe_exV {e : Expr} {t : L2.St → Hp → XK → Prop} (he : L2N.PMk X e t) : PE X e (tExV t) := by
  refine ⟨fun pins s σ H Q I h => thn (he pins s σ H _ I h) fun u s1 hu => ?_⟩
  obtain ⟨a, oe, vs, sI, H', cls, d, rfl, J, k, hne, ha, hz, hd, h1, na, os, ag, r, C, rfl, q⟩ := hu
  have new : ObjOk X.prog X.w (upd H' a (ExD C d a)) s1.heap a (ExD C d a) := exD_ok ha hz.zc hd
  exact ⟨.ref a, _, J.call' (ch := []) os (Un.laidN k hne na) (J.hok.laidN k na new) ag (fun _ z => nomatch z), rfl, q a na⟩
/-- e.f, e such a value -/
def tXv (K : Frag) (f : Str) (te : TE) : TE := fun σ H Q => te σ H fun x H1 => ∃ (a C dd : Addr) (fs : List (Str × V)) (v : V), x = .ref a ∧ H1 a = some (ExD C (some dd) a) ∧ XfC K C ∧ findIn K (.ref C) f = some none ∧ H1 dd = some (.xd fs) ∧ fs.lookup f = some v ∧ Q v H1
theorem pe_xv {e : Expr} {te : TE} {pos : Pos} {n : Str} (K : Frag) (he : PE X e te) (hb : attributeBase e n X.env (eval e X.env) = eval e X.env := by rfl) (hK : X.K = K := by rfl) : PE X (.Attribute e n pos) (tXv K n te) := by
  subst hK
  refine ⟨fun pins s σ H Q I h => attr_of hb (thn (he.run pins s σ H _ I h) fun u s1 got => ?_)⟩
  obtain ⟨x, H1, I1, rx, a, C, dd, fs, v, ex, ha, xc, no, ea, l, q⟩ := got
  subst ex
  obtain rfl : u = Value.ref a := rx
  obtain ⟨⟨oe, vs, here, hz, hd⟩, _, _⟩ := I1.hok a _ ha
  have ok : ObjOk X.prog X.w H1 s1.heap dd (.xd fs) := I1.hok dd _ ea
  obtain ⟨mA, hns, hr⟩ := ok; obtain ⟨od, ho, hl⟩ := lookIn_ns hns
  obtain ⟨u, hu, ru⟩ := RelO.some_of (v := v) (o := mA n) (by rw [← l]; exact hr n)
  have at_ : InstAt s1.heap a oe C (some od) := ⟨here, hz.1, by unfold PySem.W.notCls; rw [hd] <;> rfl, by rw [hz.2]; exact ho⟩
  exact HandSPX.exc_get I1.kIn at_ xc.ga xc.gg xc.exC (PySem.W.findObj_own xc.hdC no rfl (by rw [hl, hu])) (handed_of ru) ⟨v, H1, I1.tok _, ru, q⟩
/-- isinstance(e, c), e such a value -/
def rIsV (K : Frag) : List V → Hp → VK → Prop := fun xs H Q => ∃ (a D dd : Addr) (fs : List (Str × V)) (c : V) (cv : Value) (b : Bool), xs = [.ref a, c] ∧ H a = some (ExD D (some dd) a) ∧ H dd = some (.xd fs) ∧ ExcC K D ∧ (∀ u, RelV c u → u = cv) ∧ PySem.W.kitOne K (.ref D) cv = some b ∧ Q (.bl b) H
theorem call_isV (K : Frag) (hK : X.K = K := by rfl) : CallR X (.builtin "isinstance") (rIsV K) := by
  subst hK
  intro pins s σ H xs us Q I r h
  obtain ⟨a, D, dd, fs, c, cv, b, rfl, ha, hdd, C, hcv, e, q⟩ := h
  cases r with
  | cons rx rr =>
    cases rr with
    | cons rt rr =>
      cases rr
      obtain rfl : _ = Value.ref a := rx
      have ec := hcv _ rt
      subst ec
      obtain ⟨⟨oe, vs, here, hz, hd⟩, _, _⟩ := I.hok a _ ha
      have ok : ObjOk X.prog X.w H s.heap dd (.xd fs) := I.hok dd _ hdd
      obtain ⟨mA, hns, _⟩ := ok
      obtain ⟨od, ho, _⟩ := lookIn_ns hns
      have J : InstAt s.heap a oe D (some od) := ⟨here, hz.1, by unfold PySem.W.notCls; rw [hd] <;> rfl, by rw [hz.2]; exact ho⟩
      exact PySem.W.kia_one (exd_kit C) I.kIn J e (fun z => nomatch z) fun tk => ⟨.bl b, H, I.kept (t' := tk) fun _ _ z => z, rfl, q⟩
end
end Rt
set_option Elab.async false
set_option linter.all false
set_option maxRecDepth 100000
set_option maxHeartbeats 4000000
/-! The mathematics of heads: the beads in no train, and which of them stay heads in the next round. -/
namespace Rt
open PySem PySem.Spec L2
variable {r : Bool} {ss ls : List Int} {p q : Nat}
/-- the places in no train -/
def hdT (r : Bool) (ss : List Int) : List Nat := (List.range ss.length).filter fun q => decide (∀ p, p < ss.length → q ∉ trn r ss p)
theorem mem_hdT : q ∈ hdT r ss ↔ q < ss.length ∧ ∀ p, p < ss.length → q ∉ trn r ss p := by
  unfold hdT
  rw [List.mem_filter, List.mem_range, decide_eq_true_eq]
theorem hdT_asc : (hdT r ss).Pairwise (· < ·) := List.Pairwise.filter _ List.pairwise_lt_range
theorem asc_ext : ∀ {l m : List Nat}, l.Pairwise (· < ·) → m.Pairwise (· < ·) → (∀ x, x ∈ l ↔ x ∈ m) → l = m
  | [], [], _, _, _ => rfl
  | [], b :: m, _, _, h => absurd ((h b).mpr List.mem_cons_self) (by simp)
  | a :: l, [], _, _, h => absurd ((h a).mp List.mem_cons_self) (by simp)
  | a :: l, b :: m, hl, hm, h => by
    obtain ⟨l1, l2⟩ := List.pairwise_cons.mp hl
    obtain ⟨m1, m2⟩ := List.pairwise_cons.mp hm
    have e : a = b := by
      rcases List.mem_cons.mp ((h a).mp List.mem_cons_self) with z | z
      · exact z
      · rcases List.mem_cons.mp ((h b).mpr List.mem_cons_self) with y | y
        · exact y.symm
        · have := m1 a z; have := l1 b y; omega
    subst e
    rw [asc_ext l2 m2 fun x => ?_]
    constructor
    · intro hx
      rcases List.mem_cons.mp ((h x).mp (List.mem_cons_of_mem _ hx)) with z | z
      · have := l1 x hx; omega
      · exact z
    · intro hx
      rcases List.mem_cons.mp ((h x).mpr (List.mem_cons_of_mem _ hx)) with z | z
      · have := m1 x hx; omega
      · exact z
theorem trn_wk (h : q ∈ trn r ss p) : ss.getD q 0 < ss.getD p 0 := of_decide_eq_true (tw_mem (q := wk ss p) h)
theorem trn_fwd (h : q ∈ trn false ss p) : p < q := rn_ge q ((List.takeWhile_sublist _).subset h)
/-- something stronger before: in some train -/
theorem covered {x o : Nat} (hx : x < ss.length) (ho : o < ss.length) (hb : r = true ∨ o < x) (hs : ss.getD x 0 < ss.getD o 0) : ∃ p, p < ss.length ∧ x ∈ trn r ss p := by
  have hm : o ∈ bef r ss.length x := by
    unfold bef
    refine List.mem_append.mpr ?_
    by_cases c : o < x
    · exact Or.inl (List.mem_reverse.mpr (List.mem_range.mpr c))
    · have hr : r = true := hb.resolve_right c
      have ne : o ≠ x := fun z => by rw [z] at hs; omega
      rw [if_pos hr]
      exact Or.inr (List.mem_reverse.mpr (List.mem_map.mpr ⟨o - (x + 1), List.mem_range.mpr (by omega), by omega⟩))
  obtain ⟨i, hi, e⟩ := List.mem_iff_getElem.mp hm
  have key : ∀ m : Nat, (∀ j, j < m → ∀ y, (bef r ss.length x)[j]? = some y → ss.getD y 0 ≤ ss.getD x 0) ∨ ∃ p, p < ss.length ∧ x ∈ trn r ss p := by
    intro m
    induction m with
    | zero => exact .inl fun j h => absurd h (Nat.not_lt_zero _)
    | succ m ih =>
      rcases ih with h | h
      · by_cases c : ∀ y, (bef r ss.length x)[m]? = some y → ss.getD y 0 ≤ ss.getD x 0
        · refine .inl fun j hj y hy => ?_
          rcases Nat.lt_succ_iff_lt_or_eq.mp hj with z | z
          · exact h j z y hy
          · rw [z] at hy; exact c y hy
        · have ⟨y, hy, hys⟩ : ∃ y, (bef r ss.length x)[m]? = some y ∧ ¬ ss.getD y 0 ≤ ss.getD x 0 := by
            refine Decidable.byContradiction fun z => c fun y hy => Decidable.byContradiction fun w => z ⟨y, hy, w⟩
          exact .inr ⟨y, (bef_lt hx hy).2, (lord_step hx hy h).mpr (by omega)⟩
      · exact .inr h
  rcases key (i + 1) with h | h
  · have := h i (Nat.lt_succ_self _) o (by rw [List.getElem?_eq_getElem hi, e])
    omega
  · exact h
/-- each bead is a head or in the train of a head -/
theorem top_head : ∀ (m p : Nat), up ss p ≤ m → p < ss.length → p ∈ hdT r ss ∨ ∃ h, h ∈ hdT r ss ∧ p ∈ trn r ss h
  | 0, p, hu, hp => by
    refine .inl (mem_hdT.mpr ⟨hp, fun p1 h1 hm => ?_⟩)
    have := up_lt h1 (trn_wk hm)
    omega
  | m + 1, p, hu, hp => by
    by_cases c : ∀ p1, p1 < ss.length → p ∉ trn r ss p1
    · exact .inl (mem_hdT.mpr ⟨hp, c⟩)
    · have ⟨p1, h1, hm⟩ : ∃ p1, p1 < ss.length ∧ p ∈ trn r ss p1 := by
        refine Decidable.byContradiction fun z => c fun p1 h1 hm => z ⟨p1, h1, hm⟩
      have lt := up_lt h1 (trn_wk hm)
      rcases top_head m p1 (by omega) h1 with h | ⟨h, hh, h2⟩
      · exact .inr ⟨p1, h, hm⟩
      · exact .inr ⟨h, hh, trn_sub (mem_hdT.mp hh).1 h2 hm⟩
theorem trn_grow (P : Pos' ss ls) (hp : p < ss.length) (h : q ∈ trn r ss p) : q ∈ trn r (rnd r ls ss) p := by
  have up := tl_up (r := r) P hp
  have e1 := trn_tk (r := r) (ss := ss) (p := p)
  have e2 := trn_tk (r := r) (ss := rnd r ls ss) (p := p)
  rw [rnd_len] at e2
  rw [e1] at h
  rw [e2]
  have : (run r ss.length p).take (tl r ss p) = ((run r ss.length p).take (tl r (rnd r ls ss) p)).take (tl r ss p) := by rw [List.take_take, Nat.min_eq_left up]
  rw [this] at h
  exact List.mem_of_mem_take h
theorem next_head (P : Pos' ss ls) : q ∈ hdT r (rnd r ls ss) ↔ q ∈ hdT r ss ∧ ∀ o, o ∈ hdT r ss → (r = true ∨ o < q) → (rnd r ls ss).getD o 0 ≤ (rnd r ls ss).getD q 0 := by
  constructor
  · intro h
    obtain ⟨hq, hn⟩ := mem_hdT.mp h
    rw [rnd_len] at hq hn
    refine ⟨mem_hdT.mpr ⟨hq, fun p hp hm => hn p hp (trn_grow P hp hm)⟩, fun o ho hb => ?_⟩
    refine Decidable.byContradiction fun z => ?_
    obtain ⟨p, hp, hm⟩ := covered (r := r) (ss := rnd r ls ss) (x := q) (o := o) (by rw [rnd_len]; exact hq) (by rw [rnd_len]; exact (mem_hdT.mp ho).1) hb (by omega)
    rw [rnd_len] at hp
    exact hn p hp hm
  · rintro ⟨h, hk⟩
    obtain ⟨hq, hn⟩ := mem_hdT.mp h
    refine mem_hdT.mpr ⟨by rw [rnd_len]; exact hq, fun p hp hm => ?_⟩
    rw [rnd_len] at hp
    have s1 := trn_wk hm
    have f1 : r = true ∨ p < q := by
      cases r
      · exact .inr (trn_fwd hm)
      · exact .inl rfl
    rcases top_head (r := r) (ss := ss) (up ss p) p (Nat.le_refl _) hp with hd | ⟨h0, hd, h2⟩
    · have := hk p hd f1
      omega
    · have s2 := rnd_in P (mem_hdT.mp hd).1 h2
      have f2 : r = true ∨ h0 < q := by
        cases r
        · have := trn_fwd h2
          rcases f1 with z | z
          · cases z
          · exact .inr (by omega)
        · exact .inl rfl
      have := hk h0 hd f2
      omega
/-- which heads stay, by their places in the list of heads -/
def kept (r : Bool) (H : List Nat) (s : List Int) : List Nat := ((List.range H.length).filter fun k => decide (∀ j, j < H.length → (r = true ∨ j < k) → s.getD (H.getD j 0) 0 ≤ s.getD (H.getD k 0) 0)).map fun k => H.getD k 0
theorem asc_lt {H : List Nat} (h : H.Pairwise (· < ·)) {i j : Nat} (hij : i < j) (hj : j < H.length) : H.getD i 0 < H.getD j 0 := by
  rw [List.getD_eq_getElem?_getD, List.getD_eq_getElem?_getD, List.getElem?_eq_getElem (by omega), List.getElem?_eq_getElem hj]
  exact List.pairwise_iff_getElem.mp h i j (by omega) hj hij
theorem mem_at {H : List Nat} {x : Nat} : x ∈ H ↔ ∃ k, k < H.length ∧ H.getD k 0 = x := by
  constructor
  · intro h
    obtain ⟨k, hk, e⟩ := List.mem_iff_getElem.mp h
    exact ⟨k, hk, by rw [List.getD_eq_getElem?_getD, List.getElem?_eq_getElem hk]; exact e⟩
  · rintro ⟨k, hk, rfl⟩
    rw [List.getD_eq_getElem?_getD, List.getElem?_eq_getElem hk]
    exact List.getElem_mem hk
theorem kept_heads (P : Pos' ss ls) : kept r (hdT r ss) (rnd r ls ss) = hdT r (rnd r ls ss) := by
  refine asc_ext ?_ hdT_asc fun x => ?_
  · unfold kept
    rw [List.pairwise_map]
    have pw : ((List.range (hdT r ss).length).filter fun k => decide (∀ j, j < (hdT r ss).length → (r = true ∨ j < k) → (rnd r ls ss).getD ((hdT r ss).getD j 0) 0 ≤ (rnd r ls ss).getD ((hdT r ss).getD k 0) 0)).Pairwise (· < ·) := List.Pairwise.filter _ List.pairwise_lt_range
    refine pw.imp_of_mem fun {a b} _ hb hab => asc_lt hdT_asc hab ?_
    exact List.mem_range.mp (List.mem_filter.mp hb).1
  · rw [next_head P]
    unfold kept
    rw [List.mem_map]
    constructor
    · rintro ⟨k, hk, rfl⟩
      obtain ⟨k1, k2⟩ := List.mem_filter.mp hk
      have k1 := List.mem_range.mp k1
      have k2 := of_decide_eq_true k2
      refine ⟨mem_at.mpr ⟨k, k1, rfl⟩, fun o ho hb => ?_⟩
      obtain ⟨j, hj, rfl⟩ := mem_at.mp ho
      refine k2 j hj ?_
      rcases hb with z | z
      · exact .inl z
      · refine .inr (Nat.lt_of_not_le fun w => ?_)
        rcases Nat.lt_or_eq_of_le w with y | y
        · have := asc_lt (hdT_asc (r := r) (ss := ss)) y hj; omega
        · rw [y] at z; omega
    · rintro ⟨hx, hk⟩
      obtain ⟨k, k1, rfl⟩ := mem_at.mp hx
      refine ⟨k, List.mem_filter.mpr ⟨List.mem_range.mpr k1, decide_eq_true fun j hj hb => hk _ (mem_at.mpr ⟨j, hj, rfl⟩) ?_⟩, rfl⟩
      rcases hb with z | z
      · exact .inl z
      · exact .inr (asc_lt hdT_asc z k1)
/-- at the end the heads stay -/
theorem hdT_fix (P : Pos' ss ls) (e : rnd r ls (rnd r ls ss) = rnd r ls ss) : hdT r (rnd r ls ss) = hdT r ss := by
  have same : ∀ p, p < ss.length → trn r (rnd r ls ss) p = trn r ss p := fun p hp => by
    have a := rnd_at (r := r) (ls := ls) (ss := rnd r ls ss) (p := p) (by rw [rnd_len]; exact hp)
    rw [e, rnd_at hp, rch_sk, rch_sk, rnd_len] at a
    have tle : tl r (rnd r ls ss) p = tl r ss p := by
      have up := tl_up (r := r) P hp
      rcases Nat.lt_or_eq_of_le up with z | z
      · have l1 := tl_le (r := r) (ss := rnd r ls ss) (p := p)
        rw [rnd_len] at l1
        have := sk_lt (r := r) P hp z l1
        omega
      · exact z.symm
    rw [trn_tk, trn_tk, tle, rnd_len]
  unfold hdT
  rw [rnd_len]
  refine List.filter_congr fun x hx => ?_
  refine decide_eq_decide.mpr ⟨fun h p hp => by rw [← same p hp]; exact h p hp, fun h p hp => by rw [same p hp]; exact h p hp⟩
end Rt
set_option Elab.async false
set_option linter.all false
set_option maxRecDepth 100000
set_option maxHeartbeats 4000000
/-! The mathematics of opened rings and of the ends of rows: their books are those of the whole. -/
namespace Rt
open PySem PySem.Spec L2
variable {r : Bool} {ss ls : List Int} {p q h n : Nat}
theorem tw_map {α β : Type} {f : α → β} {q : β → Bool} : ∀ {l : List α}, (l.map f).takeWhile q = (l.takeWhile fun x => q (f x)).map f
  | [] => rfl
  | a :: l => by
    rw [List.map_cons, List.takeWhile_cons, List.takeWhile_cons, tw_map]
    cases q (f a) <;> rfl
theorem tw_pre {α : Type} {q : α → Bool} : ∀ {l : List α} {m : Nat}, (l.takeWhile q).length ≤ m → l.takeWhile q = (l.take m).takeWhile q
  | [], m, _ => by simp
  | a :: l, 0, hm => by
    have : (a :: l).takeWhile q = [] := List.eq_nil_of_length_eq_zero (by omega)
    rw [this]; rfl
  | a :: l, m + 1, hm => by
    rw [List.take_succ_cons, List.takeWhile_cons, List.takeWhile_cons]
    cases e : q a with
    | false => rfl
    | true =>
      rw [List.takeWhile_cons, e] at hm
      rw [if_pos rfl, if_pos rfl, tw_pre (l := l) (m := m) (by simpa using hm)]
/-- the place behind h by i, around -/
def cyc (n h i : Nat) : Nat := if h + i < n then h + i else h + i - n
theorem cyc_lt (hh : h < n) {i : Nat} (hi : i < n) : cyc n h i < n := by unfold cyc; split <;> omega
def rot (h : Nat) (l : List Int) : List Int := l.drop h ++ l.take h
theorem rot_len {l : List Int} : (rot h l).length = l.length := by unfold rot; rw [List.length_append, List.length_drop, List.length_take]; omega
theorem rot_at {l : List Int} {i : Nat} (hh : h ≤ l.length) (hi : i < l.length) : (rot h l).getD i 0 = l.getD (cyc l.length h i) 0 := by
  unfold rot cyc
  rw [List.getD_eq_getElem?_getD, List.getD_eq_getElem?_getD]
  by_cases c : h + i < l.length
  · rw [if_pos c, List.getElem?_append_left (by rw [List.length_drop]; omega), List.getElem?_drop]
  · rw [if_neg c, List.getElem?_append_right (by rw [List.length_drop]; omega), List.length_drop, List.getElem?_take_of_lt (by omega), show i - (l.length - h) = h + i - l.length by omega]
/-- a train carried over: the reach is the same -/
theorem rch_carry {s s' l l' : List Int} {r r' : Bool} {f : Nat → Nat} {i : Nat} (hl : l'.getD i 0 = l.getD (f i) 0) (ht : trn r s (f i) = (trn r' s' i).map f) (hf : ∀ j, j ∈ trn r' s' i → l'.getD j 0 = l.getD (f j) 0) : rch r' s' l' i = rch r s l (f i) := by
  rw [rch_eq, rch_eq, ht, hl]
  congr 1
  unfold sm
  rw [List.map_map]
  congr 1
  exact List.map_congr_left fun j hj => hf j hj
/-! ### a ring opened at a head -/
theorem trn_open (hh : h < ss.length) {i : Nat} (hi : i < ss.length) (no : h ∉ trn true ss (cyc ss.length h i)) : trn true ss (cyc ss.length h i) = (trn false (rot h ss) i).map (cyc ss.length h) := by
  have hp := cyc_lt hh hi
  have rl := run_len (r := true) hp
  rw [if_pos rfl] at rl
  have fl := run_len (r := false) (n := ss.length) hi
  rw [if_neg Bool.false_ne_true] at fl
  have at_ : ∀ k, k < ss.length - (i + 1) → (run true ss.length (cyc ss.length h i))[k]? = some (cyc ss.length h (i + 1 + k)) := fun k hk => by
    rw [run_at hp (by omega)]
    by_cases c1 : h + i < ss.length
    · rw [show cyc ss.length h i = h + i from if_pos c1]
      by_cases c2 : h + (i + 1 + k) < ss.length
      · rw [show cyc ss.length h (i + 1 + k) = _ from if_pos c2, if_pos (by omega)]; congr 1; omega
      · rw [show cyc ss.length h (i + 1 + k) = _ from if_neg c2, if_neg (by omega), if_pos rfl]; congr 1; omega
    · rw [show cyc ss.length h i = h + i - ss.length from if_neg c1, show cyc ss.length h (i + 1 + k) = _ from if_neg (show ¬ h + (i + 1 + k) < ss.length by omega), if_pos (by omega)]; congr 1; omega
  have pre : (run true ss.length (cyc ss.length h i)).take (ss.length - (i + 1)) = (run false ss.length i).map (cyc ss.length h) := by
    refine List.ext_getElem? fun k => ?_
    by_cases c : k < ss.length - (i + 1)
    · rw [List.getElem?_take_of_lt c, at_ k c, List.getElem?_map, run_at hi (by omega), if_pos (by omega)]; rfl
    · rw [List.getElem?_eq_none (by rw [List.length_take]; omega), List.getElem?_eq_none (by rw [List.length_map]; omega)]
  have few : tl true ss (cyc ss.length h i) ≤ ss.length - (i + 1) := by
    refine Nat.le_of_not_lt fun z => no ?_
    have t1 := tl_le (r := true) (ss := ss) (p := cyc ss.length h i)
    have hm : (run true ss.length (cyc ss.length h i))[ss.length - (i + 1)]? = some h := by
      rw [run_at hp (by omega)]
      by_cases c1 : h + i < ss.length
      · rw [show cyc ss.length h i = h + i from if_pos c1, if_neg (by omega), if_pos rfl]; congr 1; omega
      · rw [show cyc ss.length h i = h + i - ss.length from if_neg c1, if_pos (by omega)]; congr 1; omega
    rw [trn_tk]
    exact List.mem_iff_getElem?.mpr ⟨_, by rw [List.getElem?_take_of_lt z]; exact hm⟩
  have e1 : trn true ss (cyc ss.length h i) = ((run true ss.length (cyc ss.length h i)).take (ss.length - (i + 1))).takeWhile (wk ss (cyc ss.length h i)) := tw_pre few
  rw [e1, pre, tw_map]
  unfold trn
  rw [rot_len]
  congr 1
  refine tw_congr fun j hj => ?_
  have jl := run_lt hi j hj
  rw [wk_eq, wk_eq, rot_at (by omega) jl, rot_at (by omega) hi]
theorem rnd_open (P : Pos' ss ls) (hh : h ∈ hdT true ss) : rnd false (rot h ls) (rot h ss) = rot h (rnd true ls ss) := by
  obtain ⟨hl, no⟩ := mem_hdT.mp hh
  refine ext_getD (by rw [rnd_len, rot_len, rot_len, rnd_len]) fun i hi => ?_
  rw [rnd_len, rot_len] at hi
  have ll := P.len
  have hc := cyc_lt hl hi
  rw [rnd_at (by rw [rot_len]; exact hi), rot_at (by rw [rnd_len]; omega) (by rw [rnd_len]; exact hi), rnd_len, rnd_at hc]
  refine rch_carry (f := cyc ss.length h) ?_ (trn_open hl hi (no _ hc)) fun j hj => ?_
  · rw [rot_at (by omega) (by omega), ll]
  · have jl := trn_lt (ss := rot h ss) (by rw [rot_len]; exact hi) j hj
    rw [rot_len] at jl
    rw [rot_at (by omega) (by omega), ll]
theorem row_open (P : Pos' ss ls) : ∀ k, (∀ j, j < k → h ∈ hdT true (row true ls ss j)) → row false (rot h ls) (rot h ss) k = rot h (row true ls ss k)
  | 0, _ => rfl
  | k + 1, hj => by
    show rnd false (rot h ls) (row false (rot h ls) (rot h ss) k) = rot h (rnd true ls (row true ls ss k))
    rw [row_open P k fun j hk => hj j (by omega), rnd_open (P.row true k) (hj k (Nat.lt_succ_self _))]
/-- a head at the end has been a head in all rounds -/
theorem head_all {N : Nat} (P : Pos' ss ls) (hS : Stop r ls ss N) (hh : h ∈ hdT r (row r ls ss (max 1 N - 1))) : ∀ j, h ∈ hdT r (row r ls ss j) := by
  have down : ∀ m j, h ∈ hdT r (row r ls ss (j + m)) → h ∈ hdT r (row r ls ss j) := by
    intro m
    induction m with
    | zero => exact fun j hj => hj
    | succ m ih => exact fun j hj => ih j ((next_head (P.row r (j + m))).mp hj).1
  have up : ∀ m, h ∈ hdT r (row r ls ss (max 1 N - 1 + m)) := by
    intro m
    induction m with
    | zero => exact hh
    | succ m ih =>
      have st1 := hS.stay (max 1 N - 1 + m + 1 - N)
      have st2 := hS.stay (max 1 N - 1 + m + 2 - N)
      rw [show N + (max 1 N - 1 + m + 1 - N) = max 1 N - 1 + m + 1 by omega] at st1
      rw [show N + (max 1 N - 1 + m + 2 - N) = max 1 N - 1 + m + 2 by omega] at st2
      have e3 : rnd r ls (rnd r ls (row r ls ss (max 1 N - 1 + m))) = rnd r ls (row r ls ss (max 1 N - 1 + m)) := st2.trans st1.symm
      show h ∈ hdT r (rnd r ls (row r ls ss (max 1 N - 1 + m)))
      rw [hdT_fix (P.row r _) e3]
      exact ih
  intro j
  rcases Nat.lt_or_ge j (max 1 N - 1) with z | z
  · exact down (max 1 N - 1 - j) j (by rw [show j + (max 1 N - 1 - j) = max 1 N - 1 by omega]; exact hh)
  · have := up (j - (max 1 N - 1))
    rw [show max 1 N - 1 + (j - (max 1 N - 1)) = j by omega] at this
    exact this
/-! ### the end of a row -/
theorem run_end {k i : Nat} (hk : k ≤ n) (hi : i < n - k) : run false n (k + i) = (run false (n - k) i).map (fun j => k + j) := by
  unfold run
  simp only [Bool.false_eq_true, if_false, List.append_nil, List.map_map]
  rw [show n - (k + i + 1) = n - k - (i + 1) by omega]
  exact List.map_congr_left fun j _ => by show k + i + 1 + j = k + (i + 1 + j); omega
theorem drop_at {l : List Int} {k i : Nat} : (l.drop k).getD i 0 = l.getD (k + i) 0 := by rw [List.getD_eq_getElem?_getD, List.getD_eq_getElem?_getD, List.getElem?_drop]
theorem rnd_end {k : Nat} (hk : k ≤ ss.length) (hl : ls.length = ss.length) : rnd false (ls.drop k) (ss.drop k) = (rnd false ls ss).drop k := by
  refine ext_getD (by rw [rnd_len, List.length_drop, List.length_drop, rnd_len]) fun i hi => ?_
  rw [rnd_len, List.length_drop] at hi
  rw [rnd_at (by rw [List.length_drop]; exact hi), drop_at, rnd_at (by omega)]
  refine rch_carry (f := fun j => k + j) drop_at ?_ fun j _ => drop_at
  unfold trn
  rw [List.length_drop, run_end hk hi, tw_map]
  congr 1
  exact tw_congr fun j _ => by rw [wk_eq, wk_eq, drop_at, drop_at]
theorem row_end_ {k : Nat} (hk : k ≤ ss.length) (hl : ls.length = ss.length) : ∀ m, row false (ls.drop k) (ss.drop k) m = (row false ls ss m).drop k
  | 0 => rfl
  | m + 1 => by
    show rnd false (ls.drop k) (row false (ls.drop k) (ss.drop k) m) = (rnd false ls (row false ls ss m)).drop k
    rw [row_end_ hk hl m, rnd_end (by rw [row_len]; exact hk) (by rw [row_len]; exact hl)]
/-! ### equal strengths, equal books -/
theorem lstc_stay {f : Nat → Int} {N : Nat} (h : ∀ j, f (N + j) = f N) : ∀ k, lstc f (N + k) = lstc f N
  | 0 => rfl
  | k + 1 => by
    show lstc f (N + k + 1) = _
    unfold lstc
    rw [if_neg (fun z => z (by rw [show N + k + 1 = N + (k + 1) by omega, h, h])), lstc_stay h k]
    cases N <;> rfl
theorem book_le {f : Nat → Int} {N M : Nat} (hNM : N ≤ M) (h : ∀ j, f (N + j) = f N) : ((List.range (max 1 (lstc f N))).map fun i => f (min (i + 1) N)) = ((List.range (max 1 (lstc f M))).map fun i => f (min (i + 1) M)) := by
  have e := lstc_stay h (M - N)
  rw [show N + (M - N) = M by omega] at e
  rw [e]
  refine List.map_congr_left fun i _ => ?_
  by_cases c : i + 1 ≤ N
  · rw [Nat.min_eq_left c, Nat.min_eq_left (by omega)]
  · rw [Nat.min_eq_right (by omega)]
    have := h (min (i + 1) M - N)
    rw [show N + (min (i + 1) M - N) = min (i + 1) M by omega] at this
    exact this.symm
theorem book_ext {r' : Bool} {ss' ls' : List Int} {N N' p p' : Nat} (hS : Stop r ls ss N) (hS' : Stop r' ls' ss' N') (h : ∀ j, (row r' ls' ss' j).getD p' 0 = (row r ls ss j).getD p 0) : book r' ls' ss' N' p' = book r ls ss N p := by
  unfold book
  have ef : (fun k => (row r' ls' ss' k).getD p' 0) = fun k => (row r ls ss k).getD p 0 := funext h
  have e1 : ((List.range (max 1 (lstc (fun k => (row r' ls' ss' k).getD p' 0) N'))).map fun i => (row r' ls' ss' (min (i + 1) N')).getD p' 0) = ((List.range (max 1 (lstc (fun k => (row r ls ss k).getD p 0) N'))).map fun i => (row r ls ss (min (i + 1) N')).getD p 0) := by
    rw [ef]
    exact List.map_congr_left fun i _ => h _
  rw [e1]
  have a1 : ∀ j, (row r ls ss (N + j)).getD p 0 = (row r ls ss N).getD p 0 := fun j => by rw [hS.stay]
  have a2 : ∀ j, (row r ls ss (N' + j)).getD p 0 = (row r ls ss N').getD p 0 := fun j => by rw [← h, ← h, hS'.stay]
  rcases Nat.le_total N N' with z | z
  · exact (book_le (f := fun k => (row r ls ss k).getD p 0) z a1).symm
  · exact book_le (f := fun k => (row r ls ss k).getD p 0) z a2
end Rt
set_option Elab.async false
set_option linter.all false
set_option maxRecDepth 100000
set_option maxHeartbeats 4000000
/-! How late a change can come: Fibonacci's numbers, and the rows that reach them. -/
namespace Rt
open PySem PySem.Spec L2
variable {r : Bool} {ss ls : List Int} {p q : Nat}
def fb : Nat → Nat × Nat
  | 0 => (0, 1)
  | k + 1 => ((fb k).2, (fb k).1 + (fb k).2)
def F (k : Nat) : Nat := (fb k).1
theorem F_add (k : Nat) : F (k + 2) = F k + F (k + 1) := rfl
theorem F_two (k : Nat) : (fb k).2 = F (k + 1) := rfl
theorem F_mono1 : ∀ k : Nat, F k ≤ F (k + 1)
  | 0 => by decide
  | 1 => by decide
  | k + 2 => by
    have := F_mono1 k
    have := F_mono1 (k + 1)
    have := F_add k
    have := F_add (k + 1)
    have e : F (k + 2 + 1) = F (k + 1) + F (k + 1 + 1) := F_add (k + 1)
    omega
theorem F_pos : ∀ k : Nat, 1 ≤ F (k + 1)
  | 0 => by decide
  | k + 1 => Nat.le_trans (F_pos k) (F_mono1 (k + 1))
theorem F_lt1 (k : Nat) : F (k + 2) < F (k + 3) := by
  have e : F (k + 3) = F (k + 1) + F (k + 2) := F_add (k + 1)
  have := F_pos k
  omega
theorem F_mono {i j : Nat} (h : i ≤ j) : F i ≤ F j := by
  induction h with
  | refl => exact Nat.le_refl _
  | step _ ih => exact Nat.le_trans ih (F_mono1 _)
theorem F_lt {i j : Nat} (h : i < j) : F (i + 2) < F (j + 2) := Nat.lt_of_lt_of_le (F_lt1 i) (F_mono (by omega))
/-- the least total of a number -/
def lN (k : Nat) : Int := if k ≤ 1 then (k : Int) else (F (k + 2) : Int)
theorem lN_lt {i j : Nat} (h1 : 1 ≤ i) (h : i < j) : lN i < lN j := by
  unfold lN
  rw [if_neg (by omega : ¬ j ≤ 1)]
  by_cases c : i ≤ 1
  · rw [if_pos c]
    have := F_mono (i := 4) (j := j + 2) (by omega)
    have e : F 4 = 3 := by decide
    omega
  · rw [if_neg c]
    have := F_lt h
    omega
theorem lN_le {i j : Nat} (h1 : 1 ≤ i) (h : i ≤ j) : lN i ≤ lN j := by
  rcases Nat.lt_or_eq_of_le h with z | z
  · exact Int.le_of_lt (lN_lt h1 z)
  · rw [z]; exact Int.le_refl _
theorem lN_add {k : Nat} (h : 2 ≤ k) : lN (k + 2) = lN (k + 1) + lN k := by
  unfold lN
  rw [if_neg (by omega), if_neg (by omega), if_neg (by omega)]
  have e : F (k + 2 + 2) = F (k + 2) + F (k + 2 + 1) := F_add (k + 2)
  have e2 : F (k + 1 + 2) = F (k + 2 + 1) := rfl
  omega
/-- the greatest number whose least total is not greater -/
structure Top (t : Int) (M : Nat) : Prop where
  one : 1 ≤ M
  le : lN M ≤ t
  gt : t < lN (M + 1)
theorem Top.uniq {t : Int} {M N : Nat} (a : Top t M) (b : Top t N) : M = N := by
  have h1 := a.one
  have h2 := b.one
  rcases Nat.lt_trichotomy M N with h | h | h
  · have := lN_le (i := M + 1) (j := N) (by omega) h
    have := a.gt; have := b.le; omega
  · exact h
  · have := lN_le (i := N + 1) (j := M) (by omega) h
    have := b.gt; have := a.le; omega
theorem Top.ge {t : Int} {M k : Nat} (a : Top t M) (h : lN k ≤ t) : k ≤ M := Nat.le_of_not_lt fun z => by
  have := lN_le (i := M + 1) (j := k) (by omega) z
  have := a.gt; omega
theorem Top.lt {t : Int} {M k : Nat} (a : Top t M) (h : t < lN k) : M < k := Nat.lt_of_not_le fun z => by
  rcases Nat.eq_zero_or_pos k with e | e
  · subst e
    have e0 : lN 0 = 0 := rfl
    have := lN_le (i := 1) (j := M) (by omega) a.one
    have e1 : lN 1 = 1 := rfl
    have := a.le; omega
  have := lN_le (i := k) (j := M) e z
  have := a.le; omega
/-! ### growth -/
theorem trn_ix {s : List Int} {x : Nat} (h : x ∈ trn r s p) : ∃ m, m < tl r s p ∧ (run r s.length p)[m]? = some x := by
  rw [trn_tk] at h
  obtain ⟨m, hm⟩ := List.mem_iff_getElem?.mp h
  have hl := (List.getElem?_eq_some_iff.mp hm).1
  rw [List.length_take] at hl
  refine ⟨m, by omega, ?_⟩
  rw [List.getElem?_take_of_lt (by omega)] at hm
  exact hm
theorem ix_trn {s : List Int} {x m : Nat} (hm : m < tl r s p) (h : (run r s.length p)[m]? = some x) : x ∈ trn r s p := by
  rw [trn_tk]
  exact List.mem_iff_getElem?.mpr ⟨m, by rw [List.getElem?_take_of_lt hm]; exact h⟩
theorem grow (P : Pos' ss ls) (hp : p < ss.length) (k : Nat) (h : tl r (row r ls ss k) p < tl r (row r ls ss (k + 1)) p) :
    ∃ q, q < ss.length ∧ (row r ls ss k).getD p 0 ≤ (row r ls ss k).getD q 0 ∧ (row r ls ss (k + 1)).getD p 0 + (row r ls ss (k + 1)).getD q 0 ≤ (row r ls ss (k + 2)).getD p 0 ∧ (row r ls ss (k + 1)).getD q 0 < (row r ls ss (k + 1)).getD p 0 := by
  obtain ⟨q, e, a, b⟩ := chg_stp P hp k h
  have hq := run_lt hp q (List.mem_of_getElem? e)
  refine ⟨q, hq, a, ?_, b⟩
  have P0 := P.row r k
  have P1 := P.row r (k + 1)
  have hp0 : p < (row r ls ss k).length := by rw [row_len]; exact hp
  have hq0 : q < (row r ls ss k).length := by rw [row_len]; exact hq
  have hp1 : p < (row r ls ss (k + 1)).length := by rw [row_len]; exact hp
  have hq1 : q < (row r ls ss (k + 1)).length := by rw [row_len]; exact hq
  have e1 : (row r ls ss (k + 1)).getD p 0 = rch r (row r ls ss k) ls p := rnd_at hp0
  have e2 : (row r ls ss (k + 1)).getD q 0 = rch r (row r ls ss k) ls q := rnd_at hq0
  have e3 : (row r ls ss (k + 2)).getD p 0 = rch r (row r ls ss (k + 1)) ls p := rnd_at hp1
  have up : ∀ x o, o < ss.length → x ∈ trn r (row r ls ss k) o → x ∈ trn r (row r ls ss (k + 1)) o := fun x o ho hx => trn_grow P0 (by rw [row_len]; exact ho) hx
  have qin : q ∈ trn r (row r ls ss (k + 1)) p := ix_trn h (by rw [row_len]; exact e)
  have pno : p ∉ trn r (row r ls ss k) q := fun z => by
    have := trn_wk (up p q hq z)
    omega
  have dis : ∀ x, x ∈ trn r (row r ls ss k) p → x ∉ trn r (row r ls ss k) q := fun x h1 h2 => by
    obtain ⟨j, hj, xj⟩ := trn_ix h1
    obtain ⟨m, hm, xm⟩ := trn_ix h2
    rw [row_len] at xj xm
    have lp := run_len (r := r) hp
    have lq := run_len (r := r) hq
    have il := (List.getElem?_eq_some_iff.mp e).1
    have ml := (List.getElem?_eq_some_iff.mp xm).1
    have lp2 := run_le (r := r) hp
    have lq2 := run_le (r := r) hq
    rw [run_at hp (by omega)] at e xj
    rw [run_at hq (by omega)] at xm
    cases r
    · simp only [Bool.false_eq_true, if_false] at e xj xm lp lq
      split at e <;> split at xj <;> split at xm <;> simp only [Option.some.injEq, reduceCtorEq] at e xj xm
      omega
    · refine pno (ix_trn (m := ss.length - 2 - tl true (row true ls ss k) p) ?_ ?_)
      · simp only [if_true] at e xj xm lp lq
        split at e <;> split at xj <;> split at xm <;> simp only [Option.some.injEq] at e xj xm <;> omega
      · rw [row_len, run_at hq (by simp only [if_true] at lp; omega)]
        simp only [if_true] at e lp ⊢
        split at e <;> simp only [Option.some.injEq] at e <;> split <;> congr 1 <;> omega
  have qno : q ∉ trn r (row r ls ss k) p := fun z => by
    have := trn_wk z
    omega
  have key := sm_sub (ls := ls) (trn r (row r ls ss k) p ++ q :: trn r (row r ls ss k) q) (trn r (row r ls ss (k + 1)) p)
    (List.nodup_append.mpr ⟨trn_nd hp0, List.nodup_cons.mpr ⟨trn_self hq0, trn_nd hq0⟩, fun x hx y hy z => by
      subst z
      rcases List.mem_cons.mp hy with z | z
      · exact qno (by rw [← z]; exact hx)
      · exact dis x hx z⟩)
    (fun x hx => by
      rcases List.mem_append.mp hx with z | z
      · exact up x p hp z
      · rcases List.mem_cons.mp z with y | y
        · rw [y]; exact qin
        · exact trn_sub hp1 qin (up x q hq y)) (fun x hx => by have := P1.pos x (trn_lt hp1 x hx); omega)
  rw [sm_app, sm_cons] at key
  rw [e1, e2, e3, rch_eq, rch_eq, rch_eq]
  omega
theorem row_ge1 (P : Pos' ss ls) (hp : p < ss.length) (k : Nat) : 1 ≤ (row r ls ss (k + 1)).getD p 0 := by
  have hp0 : p < (row r ls ss k).length := by rw [row_len]; exact hp
  have e1 : (row r ls ss (k + 1)).getD p 0 = rch r (row r ls ss k) ls p := rnd_at hp0
  rw [e1, rch_eq]
  have := P.pos p hp
  have := sm_ge0 (ls := ls) (trn r (row r ls ss k) p) fun x hx => by have := (P.row r k).pos x (trn_lt hp0 x hx); omega
  omega
theorem late (P : Pos' ss ls) : ∀ (k p : Nat), p < ss.length → tl r (row r ls ss k) p < tl r (row r ls ss (k + 1)) p → (F (k + 3) : Int) ≤ (row r ls ss (k + 1)).getD p 0 ∧ (F (k + 4) : Int) ≤ (row r ls ss (k + 2)).getD p 0
  | 0, p, hp, h => by
    obtain ⟨q, hq, a, b, c⟩ := grow P hp 0 h
    have := row_ge1 (r := r) P hq 0
    have f3 : F (0 + 3) = 2 := by decide
    have f4 : F (0 + 4) = 3 := by decide
    omega
  | k + 1, p, hp, h => by
    obtain ⟨i1, i2⟩ := late P k p hp (chg_back P hp k h)
    obtain ⟨q, hq, a, b, c⟩ := grow P hp (k + 1) h
    have d := row_le (r := r) P hq k
    have e : F (k + 1 + 4) = F (k + 3) + F (k + 4) := F_add (k + 3)
    have e2 : F (k + 1 + 3) = F (k + 4) := rfl
    have b' : (row r ls ss (k + 2)).getD p 0 + (row r ls ss (k + 2)).getD q 0 ≤ (row r ls ss (k + 1 + 2)).getD p 0 := b
    have i2' : (F (k + 4) : Int) ≤ (row r ls ss (k + 1 + 1)).getD p 0 := i2
    have i1' : (F (k + 3) : Int) ≤ (row r ls ss (k + 1)).getD p 0 := i1
    omega
theorem sm_all : sm ls (List.range ls.length) = ls.sum := by
  unfold sm
  congr 1
  refine ext_getD (by rw [List.length_map, List.length_range]) fun i hi => ?_
  rw [List.length_map, List.length_range] at hi
  rw [List.getD_eq_getElem?_getD, List.getElem?_map, List.getElem?_range hi]; rfl
theorem row_le_sum (P : Pos' ss ls) (hp : p < ss.length) (k : Nat) : (row r ls ss (k + 1)).getD p 0 ≤ ls.sum := by
  have hp0 : p < (row r ls ss k).length := by rw [row_len]; exact hp
  have e1 : (row r ls ss (k + 1)).getD p 0 = rch r (row r ls ss k) ls p := rnd_at hp0
  have len := P.len
  have := sm_sub (ls := ls) (p :: trn r (row r ls ss k) p) (List.range ls.length) (List.nodup_cons.mpr ⟨trn_self hp0, trn_nd hp0⟩) (fun x hx => List.mem_range.mpr (by
    rcases List.mem_cons.mp hx with z | z
    · omega
    · have := trn_lt hp0 x z
      rw [row_len] at this; omega)) (fun x hx => by have := P.pos x (by have := List.mem_range.mp hx; omega); omega)
  rw [sm_cons, sm_all] at this
  rw [e1, rch_eq]
  omega
theorem sum_ge1 {l : List Int} (h : ∀ x ∈ l, 1 ≤ x) (h0 : 0 < l.length) : 1 ≤ l.sum := by
  cases l with
  | nil => cases h0
  | cons a l =>
    rw [List.sum_cons]
    have := h a List.mem_cons_self
    have := sum_ge (l := l) fun x hx => by have := h x (List.mem_cons_of_mem _ hx); omega
    omega
/-- the last round is not too late for the total -/
theorem stop_total {N : Nat} (P : Pos' ss ls) (h0 : 0 < ss.length) (hS : Stop r ls ss N) : lN N ≤ ls.sum := by
  have len := P.len
  have s1 : 1 ≤ ls.sum := sum_ge1 (fun x hx => by
    obtain ⟨i, hi, rfl⟩ := mem_getD hx
    exact P.pos i (by omega)) (by omega)
  unfold lN
  by_cases c : N ≤ 1
  · rw [if_pos c]; omega
  · rw [if_neg c]
    obtain ⟨k, rfl⟩ : ∃ k, N = k + 2 := ⟨N - 2, by omega⟩
    have ne := hS.mov (k + 1) (by omega)
    refine Decidable.byContradiction fun z => ne ?_
    refine ext_getD (by rw [row_len, row_len]) fun p hp => ?_
    rw [row_len] at hp
    refine Decidable.byContradiction fun y => z ?_
    have := (late P k p hp ((row_ne P hp k).mp y)).2
    have := row_le_sum (r := r) P hp (k + 1)
    have e : F (k + 2 + 2) = F (k + 4) := rfl
    have t : (row r ls ss (k + 1 + 1)).getD p 0 = (row r ls ss (k + 2)).getD p 0 := rfl
    omega
/-! ### the rows that reach them -/
def fil (m : Nat) : List Int := (List.range m).map fun i => if i = 0 then 2 else (F (i + 1) : Int)
theorem fil_len {m : Nat} : (fil m).length = m := by unfold fil; rw [List.length_map, List.length_range]
theorem fil_at {m i : Nat} (h : i < m) : (fil m).getD i 0 = if i = 0 then 2 else (F (i + 1) : Int) := by
  unfold fil
  rw [List.getD_eq_getElem?_getD, List.getElem?_map, List.getElem?_range h]; rfl
theorem fil_more {m : Nat} (h : 1 ≤ m) : fil (m + 1) = fil m ++ [(F (m + 1) : Int)] := by
  unfold fil
  rw [List.range_succ, List.map_append]
  show _ = _ ++ [_]
  congr 1
  simp only [List.map_cons, List.map_nil]
  rw [if_neg (by omega)]
theorem fil_sum : ∀ m : Nat, (fil (m + 1)).sum = (F (m + 3) : Int)
  | 0 => by decide
  | m + 1 => by
    rw [fil_more (by omega), List.sum_append, fil_sum m]
    have e : F (m + 1 + 3) = F (m + 2) + F (m + 3) := F_add (m + 2)
    show _ + ((F (m + 1 + 1) : Int) + 0) = _
    have e2 : F (m + 1 + 1) = F (m + 2) := rfl
    omega
theorem fil_ge {m : Nat} : ∀ x ∈ fil m, 1 ≤ x := fun x hx => by
  obtain ⟨i, hi, rfl⟩ := mem_getD hx
  rw [fil_len] at hi
  rw [fil_at hi]
  have := F_pos i
  split <;> omega
/-- what the rounds make of it -/
def filR (m k : Nat) : List Int := (List.range m).map fun i => if i = 0 then (F (k + 2) : Int) else (F (i + 1) : Int)
theorem filR_len {m k : Nat} : (filR m k).length = m := by unfold filR; rw [List.length_map, List.length_range]
theorem filR_at {m k i : Nat} (h : i < m) : (filR m k).getD i 0 = if i = 0 then (F (k + 2) : Int) else (F (i + 1) : Int) := by
  unfold filR
  rw [List.getD_eq_getElem?_getD, List.getElem?_map, List.getElem?_range h]; rfl
theorem run_row {n p i : Nat} (h : p + 1 + i < n) : (run false n p)[i]? = some (p + 1 + i) := by
  rw [run_at (by omega) (by omega), if_pos h]
theorem trn_nil {s : List Int} (h : p + 1 < s.length → s.getD p 0 ≤ s.getD (p + 1) 0) (hp : p < s.length) : trn false s p = [] := by
  unfold trn
  by_cases c : p + 1 < s.length
  · have e := run_row (n := s.length) (p := p) (i := 0) (by omega)
    exact tw_stop (i := 0) (fun y hy => by simp at hy) e (decide_eq_false (by have := h c; simp only [Nat.add_zero]; omega))
  · have e : run false s.length p = [] := List.length_eq_zero_iff.mp (by rw [run_len hp]; simp only [Bool.false_eq_true, if_false]; omega)
    rw [e]; rfl
theorem rch_nil {s : List Int} (h : p + 1 < s.length → s.getD p 0 ≤ s.getD (p + 1) 0) (hp : p < s.length) : rch false s ls p = ls.getD p 0 := by
  rw [rch_eq, trn_nil h hp]
  show _ + sm ls [] = _
  unfold sm; simp
theorem fil_one {m : Nat} (h : 1 ≤ m) : row false (fil m) (List.replicate m 0) 1 = filR m 1 := by
  refine ext_getD (by rw [row_len, List.length_replicate, filR_len]) fun i hi => ?_
  rw [row_len, List.length_replicate] at hi
  show (rnd false (fil m) (List.replicate m 0)).getD i 0 = _
  rw [rnd_at (by rw [List.length_replicate]; exact hi), rch_nil (fun c => by rw [List.length_replicate] at c; rw [getD_rep c, getD_rep (by omega)]; exact Int.le_refl _) (by rw [List.length_replicate]; exact hi), filR_at hi, fil_at hi]
  have e : F (1 + 2) = 2 := by decide
  rw [e]; rfl
theorem fil_sk {m : Nat} : ∀ k : Nat, k < m → (fil m).getD 0 0 + sm (fil m) ((run false m 0).take k) = (F (k + 3) : Int)
  | 0, h => by
    rw [fil_at h, List.take_zero]
    show (2 : Int) + sm _ [] = _
    unfold sm
    have e : F (0 + 3) = 2 := by decide
    rw [e]; rfl
  | k + 1, h => by
    have e := run_row (n := m) (p := 0) (i := k) (by omega)
    rw [take_more e, sm_app, ← Int.add_assoc, fil_sk k (by omega)]
    have e2 : sm (fil m) [0 + 1 + k] = (F (k + 2) : Int) := by
      unfold sm
      simp only [List.map_cons, List.map_nil, List.sum_cons, List.sum_nil]
      rw [fil_at (by omega), if_neg (by omega)]
      have : 0 + 1 + k + 1 = k + 2 := by omega
      rw [this]; omega
    rw [e2]
    have e3 : F (k + 1 + 3) = F (k + 2) + F (k + 3) := F_add (k + 2)
    omega
theorem fil_step {m k : Nat} (h1 : 1 ≤ k) (h : k < m) : rnd false (fil m) (filR m k) = filR m (k + 1) := by
  refine ext_getD (by rw [rnd_len, filR_len, filR_len]) fun i hi => ?_
  rw [rnd_len, filR_len] at hi
  rw [rnd_at (by rw [filR_len]; exact hi), filR_at hi]
  by_cases c : i = 0
  · subst c
    rw [if_pos rfl, rch_sk]
    have lr := run_len (r := false) (n := m) (p := 0) (by omega)
    simp only [Bool.false_eq_true, if_false] at lr
    have et : tl false (filR m k) 0 = k := by
      unfold tl trn
      rw [filR_len]
      have wkt : ∀ y ∈ (run false m 0).take k, wk (filR m k) 0 y = true := fun y hy => by
        obtain ⟨j, hj⟩ := List.mem_iff_getElem?.mp hy
        have hjl := (List.getElem?_eq_some_iff.mp hj).1
        rw [List.length_take] at hjl
        rw [List.getElem?_take_of_lt (by omega), run_row (by omega)] at hj
        cases hj
        refine decide_eq_true ?_
        rw [filR_at (by omega), filR_at (by omega), if_neg (by omega), if_pos rfl]
        have := F_lt (i := j) (j := k) (by omega)
        have e : F (0 + 1 + j + 1) = F (j + 2) := congrArg F (by omega)
        omega
      by_cases d : k + 1 < m
      · rw [tw_stop wkt (run_row (n := m) (p := 0) (i := k) (by omega)) (decide_eq_false (by
          rw [filR_at (by omega), filR_at (by omega), if_neg (by omega), if_pos rfl]
          have e : F (0 + 1 + k + 1) = F (k + 2) := congrArg F (by omega)
          omega)), List.length_take]
        omega
      · have e : (run false m 0).take k = run false m 0 := List.take_of_length_le (by omega)
        rw [e] at wkt
        rw [tw_all wkt]; omega
    unfold sk
    rw [et, filR_len, fil_sk k h]
  · rw [if_neg c, rch_nil (fun d => by
      rw [filR_len] at d
      rw [filR_at hi, filR_at d, if_neg c, if_neg (by omega)]
      have := F_mono1 (i + 1)
      omega) (by rw [filR_len]; exact hi), fil_at hi, if_neg c]
theorem fil_row {m : Nat} : ∀ k : Nat, k < m → row false (fil m) (List.replicate m 0) (k + 1) = filR m (k + 1)
  | 0, h => fil_one h
  | k + 1, h => by
    show rnd false (fil m) (row false (fil m) (List.replicate m 0) (k + 1)) = _
    rw [fil_row k (by omega), fil_step (by omega) h]
theorem fil_moves {m k : Nat} (h : k < m) : (row false (fil m) (List.replicate m 0) (k + 1)).getD 0 0 ≠ (row false (fil m) (List.replicate m 0) k).getD 0 0 := by
  rw [fil_row k h, filR_at (by omega), if_pos rfl]
  cases k with
  | zero =>
    show _ ≠ (List.replicate m (0 : Int)).getD 0 0
    rw [getD_rep (by omega)]
    have := F_pos 2
    have e : F (0 + 1 + 2) = F (2 + 1) := rfl
    omega
  | succ k =>
    rw [fil_row k (by omega), filR_at (by omega), if_pos rfl]
    have := F_lt (i := k + 1) (j := k + 1 + 1) (by omega)
    omega
/-- what is built of a total -/
def filled (t : Int) (m : Nat) : List Int := if m = 1 then [t] else if (F (m + 2) : Int) < t then (t - (F (m + 2) : Int)) :: fil m else fil m
theorem filled_ok {t : Int} {m : Nat} (a : Top t m) : (filled t m).sum = t ∧ (∀ x ∈ filled t m, 1 ≤ x) ∧ 1 ≤ (filled t m).length ∧ (filled t m).length ≤ m + 1 := by
  have h1 := a.one
  have hle := a.le
  have t1 : 1 ≤ t := by
    have := lN_le (i := 1) (j := m) (by omega) h1
    have e1 : lN 1 = 1 := rfl
    omega
  unfold filled
  by_cases c : m = 1
  · rw [if_pos c]
    exact ⟨by simp, fun x hx => by rw [List.mem_singleton.mp hx]; exact t1, Nat.le_refl _, by simp⟩
  · rw [if_neg c]
    have es : (fil m).sum = (F (m + 2) : Int) := by
      obtain ⟨k, rfl⟩ : ∃ k, m = k + 1 := ⟨m - 1, by omega⟩
      exact fil_sum k
    unfold lN at hle
    rw [if_neg (by omega)] at hle
    by_cases d : (F (m + 2) : Int) < t
    · rw [if_pos d]
      refine ⟨by rw [List.sum_cons, es]; omega, fun x hx => ?_, by simp, by simp [fil_len]⟩
      rcases List.mem_cons.mp hx with z | z
      · omega
      · exact fil_ge x z
    · rw [if_neg d]
      exact ⟨by omega, fil_ge, by rw [fil_len]; omega, by rw [fil_len]; omega⟩
theorem filled_stop {t : Int} {m N : Nat} (a : Top t m) (hS : Stop false (filled t m) (List.replicate (filled t m).length 0) N) : N = m := by
  obtain ⟨es, ge, l1, l2⟩ := filled_ok a
  have P : Pos' (List.replicate (filled t m).length 0) (filled t m) := ⟨by rw [List.length_replicate], fun o ho => ge _ (getD_mem (by rw [List.length_replicate] at ho; exact ho))⟩
  have up : N ≤ m := a.ge (by have := stop_total P (by rw [List.length_replicate]; exact l1) hS; omega)
  refine Nat.le_antisymm up (Nat.le_of_not_lt fun lt => ?_)
  have fix := hS.fix
  unfold filled at fix
  by_cases c : m = 1
  · rw [if_pos c] at fix
    subst c
    have z : N = 0 := by omega
    subst z
    have e1 : row false [t] (List.replicate ([t] : List Int).length 0) (0 + 1) = [t] := by
      show [t + ([] : List Int).sum] = [t]
      simp
    rw [e1] at fix
    have e0 : row false [t] (List.replicate ([t] : List Int).length 0) 0 = [0] := rfl
    rw [e0] at fix
    have t1 : lN 1 ≤ t := a.le
    have e2 : lN 1 = 1 := rfl
    have : t = 0 := by simpa using fix
    omega
  · rw [if_neg c] at fix
    by_cases d : (F (m + 2) : Int) < t
    · rw [if_pos d] at fix
      have e := congrArg (fun l => (l.drop 1).getD 0 0) fix
      have r1 := row_end_ (ss := List.replicate ((t - (F (m + 2) : Int)) :: fil m).length 0) (ls := (t - (F (m + 2) : Int)) :: fil m) (k := 1) (by rw [List.length_replicate]; simp) (by rw [List.length_replicate])
      simp only [← r1] at e
      have e2 : (List.replicate ((t - (F (m + 2) : Int)) :: fil m).length (0 : Int)).drop 1 = List.replicate m 0 := by
        rw [List.length_cons, fil_len]; rfl
      rw [e2] at e
      exact fil_moves lt e
    · rw [if_neg d, fil_len] at fix
      exact fil_moves lt (congrArg (fun l => l.getD 0 0) fix)
/-! ### each bead's rows -/
theorem clocked {N k : Nat} (P : Pos' ss ls) (hp : p < ss.length) (h : (row r ls ss (k + 3)).getD p 0 ≠ (row r ls ss (k + 2)).getD p 0) : (row r ls ss (k + 2)).getD p 0 ≠ (row r ls ss (k + 1)).getD p 0 :=
  (row_ne P hp k).mpr (chg_back P hp k ((row_ne P hp (k + 1)).mp h))
end Rt
set_option Elab.async false
set_option linter.all false
set_option maxRecDepth 100000
set_option maxHeartbeats 4000000
/-! The place of a number in a list; a pair of names set at once; the join of a branch. -/
namespace Rt
open PySem PySem.Spec L2
section
variable {X : Cx} (K : PySem.W.Frag)
variable {o : Expr} {ta : TE} {t : TA} {apos cpos : Pos} {es : List Expr}
theorem pe_ixof {e : Expr} (ho : PE X o ta) (ha : PA X (e :: es) t) (h : X.K = K := by rfl)
    (hbase : attributeBase o "index" X.env (eval o X.env) = eval o X.env := by rfl)
    (hfew : ((backTo cpos (starEach (e :: es) X.env)).all (fun x => !x.1) && (backToKw cpos (keywordEach [] X.env)).all (fun x => x.1.isSome)
      && decide ((e :: es).length + ([] : List Keyword).length + (if ([] : List Keyword).isEmpty then 0 else 1) < 30)) = true := by rfl)
    (hline : (apos.endLine == cpos.line) = true := by rfl) (hs : starEach (e :: es) X.env = (false, eval e X.env) :: starEach es X.env := by rfl) (hplain : (backTo cpos (starEach es X.env)).any (·.1) = false := by rfl) :
    PE X (.Call (.Attribute o "index" apos) (e :: es) [] cpos) (tBM K "list" (rIndex K) ta t) := by
  subst h; exact pe_bm PySem.F.plainAttrs_list PySem.F.slot_list_index PySem.F.type_list_index mt_index ho ha hbase hfew hline hs hplain
end
section
variable {X : Cx} {CX : CXT} {k : Nat} {x : Str} {ps : List Str} {sp : Sp} {E : XK} {p pos : Pos}
theorem pe_callD0 (D : DefOk X.prog X.w X.K X.mg X.base CX k x ps sp) (hr : Room k X.A) (hx : Passes CX X E) (hg : Gl X x := by rfl) (hdb : (x == ("__debug__" : Str)) = false := by decide) : PE X (.Call (.Name x p) [] [] pos) (tCall sp [] E tNil) := by
  obtain ⟨f, fd, a, b, c, d⟩ := D.ex
  exact pe_call0 c hr hg a b d .nil hx hdb
end
theorem flatI : ∀ ns : List Int, (ns.map V.int).all flatV = true := fun ns => List.all_eq_true.mpr fun x hx => by
  obtain ⟨i, _, rfl⟩ := List.mem_map.mp hx
  rfl
theorem first_at : ∀ {ns : List Int} {k : Int}, k ∈ ns → ∃ j, j < ns.length ∧ ns.getD j 0 = k ∧ ∀ m, m < j → ns.getD m 0 ≠ k
  | [], _, h => by cases h
  | a :: ns, k, h => by
    by_cases c : a = k
    · exact ⟨0, by simp, by simpa using c, fun m hm => absurd hm (Nat.not_lt_zero _)⟩
    · rcases List.mem_cons.mp h with z | z
      · exact absurd z.symm c
      · obtain ⟨j, h1, h2, h3⟩ := first_at z
        refine ⟨j + 1, by simpa using h1, by simpa using h2, fun m hm => ?_⟩
        cases m with
        | zero => simpa using c
        | succ m => simpa using h3 m (by omega)
theorem eqVI (i j : Int) : eqV (.int i) (.int j) = decide (i = j) := by
  by_cases c : i = j
  · subst c; simp [eqV]
  · simp [eqV, c]
theorem g_ixof {K : PySem.W.Frag} {H : Hp} {Q : VK} {a : Addr} {ns : List Int} {k : Int} (hs : SqL K H a (ns.map V.int)) (hk : k ∈ ns) (q : ∀ j : Nat, j < ns.length → ns.getD j 0 = k → Q (.int (j : Int)) H) : rIndex K (.ref a) [.int k] H Q := by
  obtain ⟨j, h1, h2, h3⟩ := first_at hk
  have at_ : ∀ m, m < ns.length → (ns.map V.int)[m]? = some (.int (ns.getD m 0)) := fun m hm => by
    rw [List.getElem?_map, List.getElem?_eq_getElem hm, List.getD_eq_getElem?_getD, List.getElem?_eq_getElem hm]; rfl
  refine ⟨a, _, .int k, j, .int (ns.getD j 0), rfl, rfl, hs, rfl, flatI ns, at_ j h1, by rw [eqVI]; exact decide_eq_true h2, fun m z hm hz => ?_, q j h1 h2⟩
  rw [at_ m (by omega)] at hz
  cases hz
  rw [eqVI]
  exact decide_eq_false (h3 m hm)
theorem g_join {D : Ends} {σ : L2.St} {H : Hp} {t : TS} (R : L2.St → Hp → Prop) (h1 : ∀ D' : Ends, (∀ σ' H', R σ' H' → D'.nx σ' H') → t D' σ H) (h : ∀ σ' H', R σ' H' → D.nx σ' H') : t D σ H := h1 D h
end Rt
set_option Elab.async false
set_option linter.all false
set_option maxRecDepth 100000
set_option maxHeartbeats 4000000
/-! A set of a list of numbers; sorted; a thing in a tuple of things of any depth. -/
namespace Rt
open PySem PySem.Spec PyProof.Rows L2 SS
/-- the empty set object, as it is laid -/
abbrev o0 (w : World) : Obj := { cls := .type "set", dict := none, data := .set #[] 0 (.fresh 0 0 (!w.params.followText "set-order")) }
section
variable {P : Program} {w : World} {A : Around} {E : Value → Shared → Prop} {s : Shared}
set_option maxHeartbeats 3200000 in
theorem set_of_list {l : Addr} {its : Array Value} (ns : List Int) {Q : Value → Shared → Prop} (hh : A.handled = none) (hl : s.heap.IsList l its) (hit : IntsAre its.toList ns) (hb : ns.length + 1 < scanBound)
    (h : ∀ (h' : Heap) (tk c : Nat), SetR w h' s.heap.objs.size (fun j => decide (j ∈ ns)) c → c ≤ ns.length → (∀ b o, s.heap.get? b = some o → h'.get? b = some o) → Q (.ref s.heap.objs.size) { s with heap := h', toks := tk }) :
    wpAny (model P w) A (call (.type "set") [.ref l]) Q E s := by
  have hsz : its.size = ns.length := by have q := IntsAre.length hit; rw [Array.length_toList] at q; exact q
  obtain ⟨c, tl, hmro⟩ := F.called_set.mro; have hmade := F.called_set.made; have hsub := F.called_set.sub
  refine wpAny_call (codeAny_of_tree ?_); show wpAny _ _ (callAny (.type "set") _) _ _ _
  refine wpAny_pure ⟨Code.quiet_builtin _ (by decide +kernel), codeAny_builtin F.entry_type_call ?_⟩; rw [Around.under_plain (weight_type_call_type "set" [.ref l] []) rfl]
  have h1 := F.called_set.notType; have h2 := F.called_set.canCreate; have hct := F.typeCall_set_1 (.ref l)
  repeat (any_goals (first | assumption | wp_step))
  refine codeAny_mono (code_set_led1 (.ref l) (E := E) (Q₁ := fun obj s₁ => obj = .ref s.heap.objs.size ∧ s₁ = { s with heap := s.heap.push (o0 w) }) ⟨rfl, rfl⟩) fun r s₁ hr => ?_
  cases r with
  | error e => exact hr
  | ok fl =>
    cases fl with
    | ret obj =>
      obtain ⟨rfl, rfl⟩ := hr
      have hS : (s.heap.push (o0 w)).get? s.heap.objs.size = some (o0 w) := Heap.get?_push_size _ rfl
      have hT : Shared.TypeIs { s with heap := s.heap.push (o0 w) } (.ref s.heap.objs.size) "set" := ⟨_, hS, rfl⟩
      have hli := F.called_set.init.lookup; have hbi := F.called_set.init.bind (.ref s.heap.objs.size)
      repeat (any_goals (first | assumption | wp_step))
      refine codeAny_mono (codeAny_call_builtin (R := wants (fun r s₂ => r = .none ∧ ∃ h' tk c, s₂ = { s with heap := h', toks := tk } ∧ SetR w h' s.heap.objs.size (fun j => decide (j ∈ ns)) c ∧ c ≤ ns.length ∧ (∀ b o, s.heap.get? b = some o → h'.get? b = some o)) E)
        F.called_set.init.plain F.entry_set_init (check_set_init_1 hT ?_)) fun r₂ s₂ hr₂ => ?_
      · obtain ⟨⟨oc, od, oda, osl⟩, hol, hcl, nl, hdl⟩ := hl
        simp only at hcl hdl; subst hcl; subst hdl
        have hol' : (s.heap.push (o0 w)).get? l = some { cls := .type "list", dict := od, data := .seq its nl, slots := osl } := Heap.get?_push_of_some _ hol
        have hsls := F.sub_list_set; have hslf := F.sub_list_frozenset; have hne : (Value.type "list" == Value.type "dict") = false := by decide
        have hl1 : (s.heap.push (o0 w)).IsList l its := ⟨_, hol', rfl, nl, rfl⟩
        unfold Builtin.«set.__init__» noKeywords Builtin.Frozenset.updateFrom; generalize hPI : pyIter = PI; wp_walk; subst hPI
        refine wpAny_pyIter_list hl1 ?_; refine wpAny_bind (wpAny_runValue ?_)
        have hlS : l < s.heap.objs.size := Heap.lt_size hol; have hh3 : A.in1.in1.in1.handled = none := by simp [hh]
        have hneI : l ≠ (s.heap.push (o0 w)).objs.size := by rw [Heap.size_push]; exact Nat.ne_of_lt (Nat.lt_succ_of_lt hlS)
        have hSf : s.heap.objs.size ∉ [(s.heap.push (o0 w)).objs.size, l] := by
          rw [Heap.size_push]; simp only [List.mem_cons, List.mem_singleton, List.not_mem_nil, or_false, not_or]; exact ⟨Nat.ne_of_lt (Nat.lt_succ_self _), Nat.ne_of_gt hlS⟩
        have hval : ∀ (i : Nat) (v : Value), its[i]? = some v → ∃ k t, ns[i]? = some k ∧ v = .int k t := fun i v hv => by
          have hi : i < ns.length := by rw [← hsz]; exact (Array.getElem?_eq_some_iff.mp hv).1
          obtain ⟨t, e⟩ := IntsAre.int_at hit i v (by rw [Array.getElem?_toList]; exact hv)
          refine ⟨ns[i], t, List.getElem?_eq_getElem hi, ?_⟩; rw [e, List.getD_eq_getElem?_getD, List.getElem?_eq_getElem hi] <;> rfl
        refine set_update_ints ((Walks.list hh3 _ l hneI its).toS) s.heap.objs.size hSf ns hsz hb hval (its.size - 0) 0 _ (by omega) (Nat.zero_le _) ⟨⟨_, Heap.get?_push_size _ rfl, rfl, rfl⟩, (hl1.push _)⟩ ?hS0 ?hR
        case hS0 =>
          have hg : ((s.heap.push (o0 w)).push { cls := .type "list_iterator", data := .fields #[.ref l, .int 0 0] }).get? s.heap.objs.size = some (o0 w) := Heap.get?_push_of_some _ hS
          exact ⟨0, Nat.le_refl 0, setR_new_at hg⟩
        case hR =>
          intro s' c' hm hc' hS'
          obtain ⟨h', g2, d', tk', os'⟩ := s'
          have eg : g2 = s.gens := hm.gens; have ed : d' = s.drawn := hm.drawn; have eo : os' = s.os := hm.os
          subst eg; subst ed; subst eo; show wpAny _ _ _ _ _ _
          refine wpAny_pure ?_; show wpAny _ _ (ret Value.none) _ _ _
          rw [hsz] at hc'
          refine wpAny_pure ⟨rfl, h', tk', c', rfl, hS', hc', fun b o e => ?_⟩
          have hb0 : b < s.heap.objs.size := Heap.lt_size e; have hb1 : b ≠ s.heap.objs.size := Nat.ne_of_lt hb0
          have hb2 : b ≠ (s.heap.push (o0 w)).objs.size := by rw [Heap.size_push]; exact Nat.ne_of_lt (Nat.lt_succ_of_lt hb0)
          exact hm.heap b o (by simp only [List.mem_cons, List.mem_singleton, List.not_mem_nil, or_false, not_or]; exact ⟨hb1, hb2⟩) (Heap.get?_push_of_some _ (Heap.get?_push_of_some _ e))
      · cases r₂ with
        | error e => exact hr₂
        | ok fl₂ =>
          cases fl₂ with
          | ret r =>
            obtain ⟨rfl, h', tk, c', rfl, hS', hc', hk'⟩ := hr₂; repeat (any_goals (first | assumption | wp_step))
            exact h _ _ _ hS' hc' hk'
          | _ => exact hr₂.elim
    | _ => exact hr.elim
end
section
variable {X : Cx} (K : PySem.W.Frag)
def rSetL (K : PySem.W.Frag) (w : World) : List V → Hp → VK → Prop := fun vs H Q => ∃ (a : Addr) (ns : List Int), vs = [.ref a] ∧ SqL K H a (ns.map V.int) ∧ ns.length < 1000 ∧
  ∀ (p : Addr) (c : Nat), H p = none → c ≤ ns.length → Q (.ref p) (upd H p (SetO w p (fun j => decide (j ∈ ns)) c))
theorem cr_setL (hc : X.calm = true) (hw : X.w = w := by rfl) (h : X.K = K := by rfl) : CallR X (.type "set") (rSetL K w) := by
  subst h; subst hw
  intro pins s σ H vs us Q I r h
  obtain ⟨a, ns, rfl, hs, hn, q⟩ := h
  rw [Vals.ref1 r]
  obtain ⟨its, rv, pl, hz⟩ := I.list hs
  refine set_of_list ns (I.ok.hd hc) pl.isList (by simpa using rv.ints) (by unfold scanBound; omega) fun h' tk c R hcn k => ?_
  exact ⟨.ref s.heap.objs.size, upd H s.heap.objs.size (SetO X.w s.heap.objs.size (fun j => decide (j ∈ ns)) c), I.laid (t' := tk) k (Nat.le_refl _) (setO_new R), rfl, q _ c (I.hok.fresh (Nat.le_refl _)) hcn⟩
theorem cr_sortedS (hc : X.calm = true) (hw : X.w = w := by rfl) : CallR X (.builtin "sorted") (rSortedSet w) := by subst hw; exact cr_sortedSet hc
theorem room65 {k : Nat} {A : Around} (r : Room k A) : A.units + 65 < cLine := by have := r.un; omega
def rNotInT (K : PySem.W.Frag) : R2 := fun x y H Q => ∃ d ds, Dp K H x d ∧ Dp K H y (.tuple ds) ∧ SeqAt.shaped d = true ∧ SeqAt.shaped (.tuple ds) = true ∧ Q (.bl (!ds.any fun z => PyData.eqv z d)) H
theorem op_notInT (hu : X.A.units + 65 < cLine) (h : X.K = K := by rfl) : OpR X (compareOp .NotIn) (rNotInT K) := by
  subst h
  intro pins s σ H x y v u Q I rx ry h
  obtain ⟨d, ds, hd, he, sd, se, q⟩ := h
  obtain ⟨a1, r1⟩ := Dp.reads I d x v hd rx
  obtain ⟨a2, r2⟩ := Dp.reads I (.tuple ds) y u he ry
  exact SeqAt.notIn_tuple_reads r2 r1 (SeqAt.canLay_of_shaped se) (SeqAt.canLay_of_shaped sd) (room_in_shaped sd hu) ⟨.bl _, H, I, rfl, q⟩
end
end Rt
set_option Elab.async false
set_option linter.all false
set_option maxRecDepth 100000
set_option maxHeartbeats 4000000
/-! enumerate of a tuple. -/
namespace Rt
open PySem PySem.Spec PyProof.Rows L2
open Sem (wp)
open AutoSeq1 (wpAny_loadPart')
/-- the iterator of the tuple at l, new; the enumerate over the iterator at i, new -/
abbrev tit (l : Addr) : Obj := { cls := .type "tuple_iterator", data := .fields #[.ref l, .int 0 0] }
abbrev enu (i : Addr) : Obj := { cls := .type "enumerate", data := .fields #[.none, .bool false, .ref i, rawInt 0, .none, .none] }
theorem new_enuT (l : Addr) (its : Array Value) (n : Nat) (dct : Option Addr) (sl : Array (Option Value)) :
    Meets (Builtin.«enumerate.__new__» ⟨[.type "enumerate", .ref l], []⟩) (fun _ R s => s.heap.get? l = some { cls := .type "tuple", dict := dct, data := .seq its n, slots := sl } ∧
      R (.ok (.ret (.ref (s.heap.push (tit l)).objs.size))) { s with heap := (s.heap.push (tit l)).push (enu s.heap.objs.size) }) :=
  .of_wp fun prog w A R s h => by
    obtain ⟨hp, g, d, tk, os⟩ := s; obtain ⟨hl, h⟩ := h
    have hsub := sub_enumerate
    have hL : Heap.IsTuple (Shared.heap ⟨hp, g, d, tk, os⟩) l its := ⟨_, hl, rfl, n, rfl⟩
    wp_walk using wpAny_loadPart' hl
    refine wpAny_stack_any fun st => wpAny_pure ?_; split
    · rename_i c _ _ _ _ _
      cases (c == Value.type "enumerate")
      · wp_walk using wpAny_loadPart' hl, wpAny_pyIter_tuple hL
        exact ⟨_, rfl, h⟩
      · wp_walk using wpAny_loadPart' hl, wpAny_pyIter_tuple hL
        exact ⟨_, rfl, h⟩
    · wp_walk using wpAny_loadPart' hl, wpAny_pyIter_tuple hL
      exact ⟨_, rfl, h⟩
section
variable {prog : Program} {w : World} {A : Around} {E : Value → Shared → Prop} {s : Shared}
theorem call_enuT {l : Addr} {its : Array Value} {Q : Value → Shared → Prop} (hL : s.heap.IsTuple l its)
    (h : ∀ h', IsEnum h' (s.heap.objs.size + 1) s.heap.objs.size 0 .none → h'.IsTupleIter s.heap.objs.size l 0 → (∀ b o, s.heap.get? b = some o → h'.get? b = some o) → Q (.ref (s.heap.objs.size + 1)) { s with heap := h' }) :
    wpAny (model prog w) A (call (.type "enumerate") [.ref l]) Q E s := by
  obtain ⟨⟨c, dct, dt, sl⟩, hl, hc, n, hd⟩ := hL
  replace hc : c = .type "tuple" := hc
  replace hd : dt = .seq its n := hd
  subst hc hd
  refine callType_new F.called_enumerate (by decide) (F.typeCall_enumerate_1 _) (F.newCall_enumerate_1 _) (fun obj => F.args_object_init_2 obj _) F.entry_enumerate_new (new_enuT l its n dct sl) ⟨hl, ?_⟩
  have hz : (s.heap.push (tit l)).objs.size = s.heap.objs.size + 1 := Heap.size_push ..
  show _ ∧ _; rw [hz]
  have he : IsEnum ((s.heap.push (tit l)).push (enu s.heap.objs.size)) (s.heap.objs.size + 1) s.heap.objs.size 0 .none := by
    have := Heap.get?_push_size (s.heap.push (tit l)) (o := enu s.heap.objs.size) rfl
    rw [hz] at this; exact this
  exact ⟨⟨_, he, rfl⟩, h _ he ⟨_, Heap.get?_push_of_some _ (Heap.get?_push_size _ rfl), rfl, rfl⟩ fun b o x => Heap.get?_push_of_some _ (Heap.get?_push_of_some _ x)⟩
end
/-- the tuple at a, each item in a new pair -/
def IteT (K : PySem.W.Frag) (a : Addr) : It :=
  ⟨fun i H => ∃ (xs : List V) (x : V), SqT K H a xs ∧ xs[i]? = some x, fun i H v H' => ∃ T x, v = .ref T ∧ H T = none ∧ H' = upd H T (.tup [.int (i : Nat), x]) ∧ ∀ xs, SqT K H a xs → xs[i]? = some x, fun i H => ∃ xs : List V, SqT K H a xs ∧ xs.length ≤ i⟩
theorem turn_enuT {P : Program} {w : World} {K : PySem.W.Frag} {elts : List Expr} {kk : Nat} {tpos : Pos} (a e it : Addr) (hai : a ≠ it) (hae : a ≠ e) :
    Turn P w K (.Tuple elts kk tpos) (IteT K a) [e, it] e (fun i h => (∃ old, IsEnum h e it ((i : Nat) : Int) old) ∧ h.IsTupleIter it a i ∧ e ≠ it) where
  mem := by simp
  obj := fun i h st b hb => by
    obtain ⟨⟨old, he⟩, ⟨o, ho, hc, hd⟩, _⟩ := st
    rcases (show b = e ∨ b = it by simpa using hb) with z | z
    · rw [z]; exact ⟨_, he, fun v q => nomatch q⟩
    · rw [z]; exact ⟨o, ho, fun v q => by rw [hd] at q; cases q⟩
  keep := fun i h h' st k => let ⟨⟨old, he⟩, hi, hne⟩ := st; ⟨⟨old, k e (by simp) _ he⟩, hi.at fun o q => k it (by simp) o q, hne⟩
  item := by
    intro X hP hw hK hc i pins s σ H E I hf st hg
    subst hP hw hK
    obtain ⟨⟨old, he⟩, hit, hne⟩ := st
    obtain ⟨xs, x, hq, hx⟩ := hg
    obtain ⟨its, rv, p, hz⟩ := I.tuple hq
    obtain ⟨u, hu, ru⟩ := rv.get hx
    have hel : e < s.heap.objs.size := Heap.lt_size he
    have hil : it < s.heap.objs.size := by obtain ⟨_, q, _⟩ := hit; exact Heap.lt_size q
    have hlt : i < its.toArray.size := by have := (List.getElem?_eq_some_iff.mp hu).1; simpa using this
    have hh : X.A.in1.in1.handled = none := by have := I.ok.hd hc; simpa using this
    refine wpAny_pyNext_enum_itemD (Draws.tuple (prog := X.prog) (w := X.w) (A := X.A.in1) hh it a hai its.toArray) he ⟨hit, show s.heap.IsTuple a its.toArray from p⟩ hlt hne (by simp; exact ⟨hne, hae.symm⟩) fun y h' tk hy ho hst hT hsz hk => ?_
    have ey : y = u := by
      have : its.toArray[i]? = some u := by simpa using hu
      rw [this] at hy; cases hy; rfl
    subst ey
    refine ⟨_, rfl, wpAny_letOwnedTupleGo_enum (s := { s with heap := h', toks := tk + 1 }) ho fun h'' he' sb => ?_⟩
    have hT2 : h''.get? s.heap.objs.size = some { cls := .type "tuple", data := .seq #[.int i tk, y] } := (sb.2 _ (Nat.ne_of_gt hel)).trans hT
    have new : ObjOk X.prog X.w (upd H s.heap.objs.size (.tup [.int (i : Nat), x])) h'' s.heap.objs.size (.tup [.int (i : Nat), x]) := ⟨by show 2 ≤ sizeLine; decide, [.int i tk, y], .cons ⟨_, rfl⟩ (.cons ru .nil), ⟨_, hT2, rfl, _, rfl⟩⟩
    have I1 : Inv X pins σ (upd H s.heap.objs.size (.tup [.int (i : Nat), x])) { s with heap := h'', toks := tk + 1 } :=
      I.turnedNew (ch := [e, it]) (fun b ob hb q => (sb.2 b (fun z => hb (by simp [z]))).trans (hk b ob (fun z => hb (by simp [z])) (fun z => hb (by simp [z])) q)) hf (Nat.le_refl _) new
    refine ⟨.ref s.heap.objs.size, _, I1, rfl, ⟨_, x, rfl, I.hok.fresh (Nat.le_refl _), rfl, fun ys hy => by rw [I.tuple_inj hy hq]; exact hx⟩, ⟨⟨y, ?_⟩, hst.1.at fun o q => (sb.2 it (Ne.symm hne)).trans q, hne⟩, fun b hb => ?_⟩
    · rw [show ((i + 1 : Nat) : Int) = (i : Int) + 1 by omega]; exact he'
    · have hb' : b < s.heap.objs.size := by
        rcases (show b = e ∨ b = it by simpa using hb) with z | z
        · rw [z]; exact hel
        · rw [z]; exact hil
      rw [upd_ne (Nat.ne_of_lt hb')]; exact (hf b hb).1
  done := by
    intro X hP hw hK hc i pins s σ H E I hf st hg
    subst hP hw hK
    obtain ⟨⟨old, he⟩, hit, hne⟩ := st
    obtain ⟨xs, hq, hx⟩ := hg
    obtain ⟨its, rv, p, hz⟩ := I.tuple hq
    obtain ⟨f0, f1, f2, f3, f4, f5⟩ := hf it (by simp)
    have hl := rv.length
    have hh : X.A.in1.in1.handled = none := by have := I.ok.hd hc; simpa using this
    have D0 := Draws.tuple (prog := X.prog) (w := X.w) (A := X.A.in1) hh it a hai its.toArray
    have D1 : Draws X.prog X.w X.A.in1 it [it, a] i (fun _ _ => True) (fun j h => (h.IsTupleIter it a j ∧ h.IsTuple a its.toArray) ∧ j = i) := ⟨fun j h st => D0.live j h st.1, fun j h h' st k => ⟨D0.frame j h h' st.1 k, st.2⟩, fun j s Q E hj st => absurd st.2 (by omega), fun s Q E st hE => wpAny_nextOf_tuple_end hh st.1.1 st.1.2 (by simp; omega) hE⟩
    exact wpAny_pyNext_enum_endD D1 he ⟨⟨hit, show s.heap.IsTuple a its.toArray from p⟩, rfl⟩ fun h' eb => ⟨rfl, I.turned (t' := s.toks) (fun b o hb q => eb b o hb q) f0 f1 f3 f4 f5⟩
  self := fun A i s Q E st h => let ⟨⟨_, he⟩, _⟩ := st; wpAny_pyIter_enum he h
def iEnuT (K : PySem.W.Frag) (ta : TA) : TI := fun σ H R => ta σ H fun vs H1 => ∃ a xs, vs = [.ref a] ∧ SqT K H1 a xs ∧ R (IteT K a) H1
theorem pi_enuT {X : Cx} (K : PySem.W.Frag) {e : Expr} {ta : TA} {p pos tpos : Pos} {elts : List Expr} {kk : Nat} (hg : Gl X "enumerate") (hm : X.mg "enumerate" = none) (ha : PA X [e] ta) (hs : starEach [e] X.env = [(false, eval e X.env)] := by rfl) (h : X.K = K := by rfl) :
    PI X (.Tuple elts kk tpos) (.Call (.Name "enumerate" p) [e] [] pos) (iEnuT K ta) := by
  subst h
  refine ⟨fun pins s σ H R I h => ?_⟩
  refine Call_ (ld_blt I hg hm boot_enumerate (PyProof.Rows.callWith_type1 (thn (ha.run pos pins s σ H _ I h) fun us s1 ⟨vs, H1, I1, r1, q1⟩ => ?_) hs rfl))
  obtain ⟨a, xs, ex, hq, q⟩ := q1
  subst ex
  cases r1 with
  | cons r rr =>
    cases rr
    cases r
    obtain ⟨its, rv, p', hz⟩ := I1.tuple hq
    have pt : s1.heap.IsTuple a its.toArray := p'
    have la : a < s1.heap.objs.size := by obtain ⟨_, q, _⟩ := pt; exact Heap.lt_size q
    refine call_enuT pt fun h' he hit hk => wpAny_pyIter_enum he ?_
    have I2 : Inv X pins σ H1 { s1 with heap := h' } := I1.kept (t' := s1.toks) hk
    refine ⟨s1.heap.objs.size + 1, [s1.heap.objs.size + 1, s1.heap.objs.size], _, _, H1, rfl, I2, turn_enuT a (s1.heap.objs.size + 1) s1.heap.objs.size (Nat.ne_of_lt la) (Nat.ne_of_lt (Nat.lt_succ_of_lt la)), ⟨⟨.none, he⟩, hit, Nat.succ_ne_self _⟩, fun b hb => ?_, q⟩
    have hle : s1.heap.objs.size ≤ b := by
      rcases (show b = s1.heap.objs.size + 1 ∨ b = s1.heap.objs.size by simpa using hb) with z | z
      · rw [z]; exact Nat.le_add_right _ _
      · rw [z]; exact Nat.le_refl _
    exact I1.fpOk hle (I1.hok.fresh hle)
theorem g_enuT {σ : L2.St} {H : Hp} {K : PySem.W.Frag} {ta : TA} {R : It → Hp → Prop} (h : ta σ H fun vs H1 => ∃ a xs, vs = [.ref a] ∧ SqT K H1 a xs ∧ R (IteT K a) H1) : iEnuT K ta σ H R := h
/-- a loop over the pairs (place, item) of a tuple -/
theorem for_enuT {K : PySem.W.Frag} {a : Addr} {xs : List V} {g : TG} {tb : TS} {D : Ends} {σ : L2.St} {H : Hp} (Pv : Nat → L2.St → Hp → Prop) (h0 : Pv 0 σ H) (hl : ∀ i σ H, Pv i σ H → SqT K H a xs)
    (hs : ∀ i x T σ H, xs[i]? = some x → Pv i σ H → H T = none → g (.ref T) σ (upd H T (.tup [.int (i : Nat), x])) fun σ2 H2 => tb { D with nx := Pv (i + 1), ct := Pv (i + 1), bk := D.nx } σ2 H2) (hd : ∀ σ H, Pv xs.length σ H → D.nx σ H) :
    ∃ W : Nat → Nat → L2.St → Hp → Prop, (∃ m, W 0 m σ H) ∧ ∀ i m σ H, W i m σ H →
      ((IteT K a).stop i H ∧ D.nx σ H) ∨ ((IteT K a).go i H ∧ ∃ N : L2.St → Hp → Prop, (∀ σ' H', N σ' H' → ∃ m', m' < m ∧ W (i + 1) m' σ' H') ∧ ∀ x H', (IteT K a).yld i H x H' → g x σ H' fun σ2 H2 => tb { D with nx := N, ct := N, bk := D.nx } σ2 H2) := by
  refine ⟨fun i m σ H => i + m = xs.length ∧ Pv i σ H, ⟨xs.length, Nat.zero_add _, h0⟩, fun i m σ H w => ?_⟩
  have sq := hl i σ H w.2
  cases m with
  | zero =>
    have e : i = xs.length := w.1
    exact Or.inl ⟨⟨xs, sq, by omega⟩, hd σ H (by rw [← e]; exact w.2)⟩
  | succ m =>
    have lt : i < xs.length := by have := w.1; omega
    refine Or.inr ⟨⟨xs, xs[i], sq, List.getElem?_eq_getElem lt⟩, Pv (i + 1), fun σ' H' z => ⟨m, Nat.lt_succ_self m, by have := w.1; omega, z⟩, fun x H' y => ?_⟩
    obtain ⟨T, v, e1, e2, e3, e4⟩ := y
    rw [e1, e3]
    exact hs i v T σ H (e4 xs sq) w.2 e2
end Rt
set_option Elab.async false
set_option linter.all false
set_option maxRecDepth 100000
set_option maxHeartbeats 4000000
/-! The head's facts by names: as HandS.HeadHook2's Hook, with one more Bool of the written part. -/
namespace Rt
open PySem PySem.Spec L2 He
abbrev AlM : Type := AlD × Bool
def obsMG (n : Nat) (fa : List Fa) (fn : List DefD) (more : PySem.W.Frag → Bool) (g : Addr → Option Obj) : AlM := (obsD fa fn (frG g (asD g n)), more (frG g (asD g n)))
def hookM (n : Nat) (fa : List Fa) (fn : List DefD) (more : PySem.W.Frag → Bool) : PySem.W.Hook where
  α := AlM
  obs := fun s => obsMG n fa fn more s.heap.get?
  val := fun _ => (valD fn, true)
  says := fun _ h => ∃ K : PySem.W.Frag, K.In h ∧ SaysD fa fn K ∧ more K = true
  of := fun _ _ e => ⟨_, frG_in, congrArg (fun z : AlM => z.1) e, congrArg (fun z : AlM => z.2) e⟩
  keeps := fun _ _ _ ⟨K, hK, c, d⟩ k => ⟨K, PySem.W.Frag.In.keeps hK k, c, d⟩
theorem obsMG_eq {n : Nat} {fa : List Fa} {fn : List DefD} {more : PySem.W.Frag → Bool} {g : Addr → Option Obj} {s : Shared} (h : ∀ a, g a = s.heap.get? a) : obsMG n fa fn more g = (hookM n fa fn more).obs s := by
  have e : g = s.heap.get? := funext h
  rw [e] <;> rfl
/-! ### an own exception class with an __init__ of its own -/
def clsB (K : PySem.W.Frag) (C : Addr) : Bool := match K.lookup C with
  | some ⟨.type "type", _, .cls cd, sl⟩ => (match cd.mro, sl.toList with
    | .ref C' :: bm, [_, _, _, _, some (.builtin n), _] => C' == C && n == "ValueError.__new__" && !cd.hasDel && cd.hasDict && PySem.HandSPX.refsVE bm
    | _, _ => false)
  | _ => false
theorem clsB_ok {K : PySem.W.Frag} {C : Addr} (q : clsB K C = true) : ∃ nm q N bs bm sn sub ab col dd k0 k1 k2 k3 k5, K.lookup C = some (excClassObj nm q C N bs bm true sn sub ab col dd k0 k1 k2 k3 k5 "ValueError.__new__") ∧ PySem.HandSPX.refsVE bm = true := by
  unfold clsB at q
  split at q
  · rename_i dd cd sl ho
    split at q
    · rename_i C' bm k0 k1 k2 k3 n k5 hm hs
      simp only [Bool.and_eq_true, beq_iff_eq, Bool.not_eq_true'] at q
      obtain ⟨⟨⟨⟨rfl, rfl⟩, hdel⟩, hdict⟩, ht⟩ := q
      obtain ⟨nm, bs, mro, ns, qn, hd, sn, sub, ab, col, del⟩ := cd
      dsimp only at hm hdel hdict
      subst hm hdel hdict
      have hsl : sl = #[k0, k1, k2, k3, some (.builtin "ValueError.__new__"), k5] := by
        obtain ⟨l⟩ := sl
        simp only at hs
        rw [hs]
      subst hsl
      exact ⟨nm, qn, ns, bs, bm, sn, sub, ab, col, dd, k0, k1, k2, k3, k5, ho, ht⟩
    · cases q
  · cases q
def excB (K : PySem.W.Frag) (x fld : Str) : Bool := clsB K (ga K x) && (eqO (PySem.W.findIn K (.ref (ga K x)) "__setattr__") (some (some (.builtin "object.__setattr__"))) && (decide (PySem.W.subIn K (.ref (ga K x)) (.type "BaseException") = some true) &&
  (decide (PySem.W.typeIn K (.ref (ga K x)) = some (.type "type")) && (PySem.W.keepIn K (.ref (ga K x)) && (eqO (PySem.W.findIn K (.ref (ga K x)) "__init__") (some (some (.ref (ma K (ga K x) "__init__")))) &&
  (decide (PySem.W.typeIn K (.ref (ma K (ga K x) "__init__")) = some (.type "function")) && (eqO (PySem.W.findIn K (.ref (ga K x)) fld) (some none) && xfB K (ga K x))))))))
structure ExcT (K : PySem.W.Frag) (x fld : Str) : Prop where
  o : OexC K (ga K x)
  i : PySem.W.findIn K (.ref (ga K x)) "__init__" = some (some (.ref (ma K (ga K x) "__init__")))
  t : PySem.W.typeIn K (.ref (ma K (ga K x) "__init__")) = some (.type "function")
  no : PySem.W.findIn K (.ref (ga K x)) fld = some none
  xf : XfC K (ga K x)
theorem excB_ok {K : PySem.W.Frag} {x fld : Str} (h : excB K x fld = true) : ExcT K x fld := by
  obtain ⟨c1, h⟩ := ba h
  obtain ⟨c2, h⟩ := ba h
  obtain ⟨c3, h⟩ := ba h
  obtain ⟨c4, h⟩ := ba h
  obtain ⟨c5, h⟩ := ba h
  obtain ⟨c6, h⟩ := ba h
  obtain ⟨c7, h⟩ := ba h
  obtain ⟨c8, c9⟩ := ba h
  exact ⟨⟨clsB_ok c1, eqO_ok c2, of_decide_eq_true c3, of_decide_eq_true c4, c5⟩, eqO_ok c6, of_decide_eq_true c7, eqO_ok c8, xfB_ok c9⟩
/-- isinstance(x, C) of an instance of C -/
def isiB (K : PySem.W.Frag) (x : Str) : Bool := eqO (PySem.W.findIn K (.ref (ga K x)) "__class__") (some (some (.builtin "object.__class__"))) && (eqO (PySem.W.specialIn K (.builtin "object.__class__") "__get__") (some (some (.builtin "getset_descriptor.__get__"))) &&
  (decide (PySem.W.takesIn K (.builtin "object.__class__") = some true) && (decide (PySem.W.mroIn K (ga K x) (.type "object") = some true) && decide (PySem.W.kitOne K (.ref (ga K x)) (.ref (ga K x)) = some true))))
theorem isiB_ok {K : PySem.W.Frag} {x : Str} (h : isiB K x = true) : PySem.W.findIn K (.ref (ga K x)) "__class__" = some (some (.builtin "object.__class__")) ∧ PySem.W.specialIn K (.builtin "object.__class__") "__get__" = some (some (.builtin "getset_descriptor.__get__")) ∧
    PySem.W.takesIn K (.builtin "object.__class__") = some true ∧ PySem.W.mroIn K (ga K x) (.type "object") = some true ∧ PySem.W.kitOne K (.ref (ga K x)) (.ref (ga K x)) = some true := by
  obtain ⟨c1, h⟩ := ba h
  obtain ⟨c2, h⟩ := ba h
  obtain ⟨c3, h⟩ := ba h
  obtain ⟨c4, c5⟩ := ba h
  exact ⟨eqO_ok c1, eqO_ok c2, of_decide_eq_true c3, of_decide_eq_true c4, of_decide_eq_true c5⟩
/-! ### a def by its datum -/
section
variable {P : Program} {w : World} {K : PySem.W.Frag} {mg : Str → Option Value} {base : Heap} {x qual : Str} {st : Stmt} {f : Addr} {fd : FuncData} {ps : List Str} {k : Nat} {CX : CXT} {sp : Sp}
/-- without defaults: as Fun -/
theorem fun_of (F : FunD K x qual (defArgs st) (defBody st) (defScope st) [] [] f fd) : Fun K x qual st f fd := by
  obtain ⟨⟨oc, od, dV, kV, doc, pm, an, cdv, ct, osl, rfl, lk, hcd, hD, hK⟩, kp⟩ := F
  rcases hD with ⟨_, rfl⟩ | ⟨e, _⟩
  · exact ⟨⟨oc, od, kV, doc, pm, an, cdv, ct, osl, rfl, lk, hcd⟩, kp⟩
  · exact absurd rfl e
theorem defOk (g : mg x = some (.ref f)) (F : Fun K x qual st f fd) (O : FnOk P w K mg base CX k f fd ps sp) (b : L2.Binds K fd ps []) : DefOk P w K mg base CX k x ps sp := ⟨f, fd, g, F.kp, O, b⟩
theorem defOkH (g : mg x = some (.ref f)) (F : Fun K x qual st f fd) (O : L2H.FnH P w K mg base CX k f fd ps sp) (b : L2.Binds K fd ps []) : DefOkH P w K mg base CX k x ps sp := ⟨f, fd, g, F.kp, O, b⟩
end
end Rt
set_option Elab.async false
set_option linter.all false
set_option maxRecDepth 100000
set_option maxHeartbeats 4000000
namespace Rt
open PySem PySem.Spec L2
open PyProof.Rows (envOfC)
def top (i : Nat) : Stmt := PySem.Challenge.pw_retinue_k26_whole_outcomes.main.body.getD i (.Pass ⟨0, 0, 0, 0⟩)
abbrev s_BadBeads_init : Stmt := inClass (top 3) 0
theorem sc_BadBeads_init : FnScope ["self", "place"] ["self", "place"] (defScope s_BadBeads_init) := ⟨rfl, rfl, rfl, by decide +kernel, rfl, by decide +kernel, by decide +kernel⟩
abbrev s_BadPlace_init : Stmt := inClass (top 4) 0
theorem sc_BadPlace_init : FnScope ["self", "place"] ["self", "place"] (defScope s_BadPlace_init) := ⟨rfl, rfl, rfl, by decide +kernel, rfl, by decide +kernel, by decide +kernel⟩
abbrev s_WrongKind_init : Stmt := inClass (top 5) 0
theorem sc_WrongKind_init : FnScope ["self", "ring"] ["self", "ring"] (defScope s_WrongKind_init) := ⟨rfl, rfl, rfl, by decide +kernel, rfl, by decide +kernel, by decide +kernel⟩
abbrev s_NotOutcome_init : Stmt := inClass (top 6) 0
theorem sc_NotOutcome_init : FnScope ["self", "first", "second"] ["self", "first", "second"] (defScope s_NotOutcome_init) := ⟨rfl, rfl, rfl, by decide +kernel, rfl, by decide +kernel, by decide +kernel⟩
abbrev s_check_place : Stmt := top 8
theorem sc_check_place : FnScope ["many", "place"] ["many", "place"] (defScope s_check_place) := ⟨rfl, rfl, rfl, by decide +kernel, rfl, by decide +kernel, by decide +kernel⟩
abbrev s_Beads_init : Stmt := inClass (top 10) 0
theorem sc_Beads_init : FnScope ["self", "strengths", "lengths", "ring"] ["self", "strengths", "lengths", "ring"] (defScope s_Beads_init) := ⟨rfl, rfl, rfl, by decide +kernel, rfl, by decide +kernel, by decide +kernel⟩
abbrev s_Beads_len : Stmt := inClass (top 10) 1
theorem sc_Beads_len : FnScope ["self"] ["self"] (defScope s_Beads_len) := ⟨rfl, rfl, rfl, by decide +kernel, rfl, by decide +kernel, by decide +kernel⟩
abbrev s_Beads_iter : Stmt := inClass (top 10) 2
theorem sc_Beads_iter : FnScope ["self"] ["self"] (defScope s_Beads_iter) := ⟨rfl, rfl, rfl, by decide +kernel, rfl, by decide +kernel, by decide +kernel⟩
abbrev s_Beads_eq : Stmt := inClass (top 10) 3
theorem sc_Beads_eq : FnScope ["self", "other"] ["self", "other"] (defScope s_Beads_eq) := ⟨rfl, rfl, rfl, by decide +kernel, rfl, by decide +kernel, by decide +kernel⟩
abbrev s_Beads_add : Stmt := inClass (top 10) 4
theorem sc_Beads_add : FnScope ["self", "other"] ["self", "other"] (defScope s_Beads_add) := ⟨rfl, rfl, rfl, by decide +kernel, rfl, by decide +kernel, by decide +kernel⟩
abbrev s_Beads_mul : Stmt := inClass (top 10) 5
theorem sc_Beads_mul : FnScope ["self", "other"] ["self", "other"] (defScope s_Beads_mul) := ⟨rfl, rfl, rfl, by decide +kernel, rfl, by decide +kernel, by decide +kernel⟩
abbrev s_Beads_total : Stmt := inClass (top 10) 6
theorem sc_Beads_total : FnScope ["self"] ["self"] (defScope s_Beads_total) := ⟨rfl, rfl, rfl, by decide +kernel, rfl, by decide +kernel, by decide +kernel⟩
abbrev s__check_beads : Stmt := top 11
theorem sc__check_beads : FnScope ["strengths", "lengths", "place"] ["strengths", "lengths"] (defScope s__check_beads) := ⟨rfl, rfl, rfl, by decide +kernel, rfl, by decide +kernel, by decide +kernel⟩
abbrev s_run_after : Stmt := top 13
theorem sc_run_after : FnScope ["beads", "place", "after"] ["beads", "place"] (defScope s_run_after) := ⟨rfl, rfl, rfl, by decide +kernel, rfl, by decide +kernel, by decide +kernel⟩
abbrev s_train_of : Stmt := top 14
theorem sc_train_of : FnScope ["beads", "place", "train", "other"] ["beads", "place"] (defScope s_train_of) := ⟨rfl, rfl, rfl, by decide +kernel, rfl, by decide +kernel, by decide +kernel⟩
abbrev s_reach_of : Stmt := top 15
theorem sc_reach_of : FnScope ["beads", "place", "train", "other"] ["beads", "place"] (defScope s_reach_of) := ⟨rfl, rfl, rfl, by decide +kernel, rfl, by decide +kernel, by decide +kernel⟩
abbrev s_reaches : Stmt := top 16
theorem sc_reaches : FnScope ["beads", "place"] ["beads"] (defScope s_reaches) := ⟨rfl, rfl, rfl, by decide +kernel, rfl, by decide +kernel, by decide +kernel⟩
abbrev s_span_of : Stmt := top 18
theorem sc_span_of : FnScope ["beads", "place", "span", "missing", "other"] ["beads", "place"] (defScope s_span_of) := ⟨rfl, rfl, rfl, by decide +kernel, rfl, by decide +kernel, by decide +kernel⟩
abbrev s_outcome_fault : Stmt := top 19
theorem sc_outcome_fault : FnScope ["beads", "spans", "place", "span", "distance", "other"] ["beads"] (defScope s_outcome_fault) := ⟨rfl, rfl, rfl, by decide +kernel, rfl, by decide +kernel, by decide +kernel⟩
abbrev s_check_outcome : Stmt := top 20
theorem sc_check_outcome : FnScope ["beads", "fault", "first", "second"] ["beads"] (defScope s_check_outcome) := ⟨rfl, rfl, rfl, by decide +kernel, rfl, by decide +kernel, by decide +kernel⟩
abbrev s_origin_of : Stmt := top 21
theorem sc_origin_of : FnScope ["beads", "depths", "deepest", "depth"] ["beads"] (defScope s_origin_of) := ⟨rfl, rfl, rfl, by decide +kernel, rfl, by decide +kernel, by decide +kernel⟩
abbrev s_depths_of : Stmt := top 22
theorem sc_depths_of : FnScope ["beads", "depths", "place", "other"] ["beads"] (defScope s_depths_of) := ⟨rfl, rfl, rfl, by decide +kernel, rfl, by decide +kernel, by decide +kernel⟩
abbrev s_wake_all : Stmt := top 24
theorem sc_wake_all : FnScope ["beads"] ["beads"] (defScope s_wake_all) := ⟨rfl, rfl, rfl, by decide +kernel, rfl, by decide +kernel, by decide +kernel⟩
abbrev s__law_cell : Stmt := top 26
theorem sc__law_cell : FnScope ["script", "k"] ["script", "k"] (defScope s__law_cell) := ⟨rfl, rfl, rfl, by decide +kernel, rfl, by decide +kernel, by decide +kernel⟩
abbrev s__law_draws : Stmt := top 27
theorem sc__law_draws : FnScope ["cell", "sizes", "left", "draws", "k", "mixed"] ["cell", "sizes"] (defScope s__law_draws) := ⟨rfl, rfl, rfl, by decide +kernel, rfl, by decide +kernel, by decide +kernel⟩
abbrev s__law_lengths : Stmt := top 28
theorem sc__law_lengths : FnScope ["cell", "many", "flavour", "size", "draw"] ["cell", "many"] (defScope s__law_lengths) := ⟨rfl, rfl, rfl, by decide +kernel, rfl, by decide +kernel, by decide +kernel⟩
abbrev s__law_strengths : Stmt := top 29
theorem sc__law_strengths : FnScope ["cell", "sizes", "flavour", "total", "size", "level", "most"] ["cell", "sizes"] (defScope s__law_strengths) := ⟨rfl, rfl, rfl, by decide +kernel, rfl, by decide +kernel, by decide +kernel⟩
abbrev s__law_reach : Stmt := top 30
theorem sc__law_reach : FnScope ["round_flag", "sizes", "strengths", "place", "total", "step", "at"] ["round_flag", "sizes", "strengths", "place"] (defScope s__law_reach) := ⟨rfl, rfl, rfl, by decide +kernel, rfl, by decide +kernel, by decide +kernel⟩
abbrev s__law_woken : Stmt := top 31
theorem sc__law_woken : FnScope ["round_flag", "sizes", "strengths", "places", "after", "place"] ["round_flag", "sizes", "strengths", "places"] (defScope s__law_woken) := ⟨rfl, rfl, rfl, by decide +kernel, rfl, by decide +kernel, by decide +kernel⟩
abbrev s__law_is_integer : Stmt := top 32
theorem sc__law_is_integer : FnScope ["actual"] ["actual"] (defScope s__law_is_integer) := ⟨rfl, rfl, rfl, by decide +kernel, rfl, by decide +kernel, by decide +kernel⟩
abbrev s__law_numbers : Stmt := top 33
theorem sc__law_numbers : FnScope ["actual", "due", "as_tuple", "k"] ["actual", "due", "as_tuple"] (defScope s__law_numbers) := ⟨rfl, rfl, rfl, by decide +kernel, rfl, by decide +kernel, by decide +kernel⟩
abbrev s__law_is_standing : Stmt := top 34
theorem sc__law_is_standing : FnScope ["actual", "round_flag", "sizes", "strengths"] ["actual", "round_flag", "sizes", "strengths"] (defScope s__law_is_standing) := ⟨rfl, rfl, rfl, by decide +kernel, rfl, by decide +kernel, by decide +kernel⟩
abbrev s__law_run : Stmt := top 35
theorem sc__law_run : FnScope ["round_flag", "many", "place", "run"] ["round_flag", "many", "place"] (defScope s__law_run) := ⟨rfl, rfl, rfl, by decide +kernel, rfl, by decide +kernel, by decide +kernel⟩
abbrev s__law_strengths_here : Stmt := top 36
theorem sc__law_strengths_here : FnScope ["cell", "round_flag", "sizes", "form", "spare", "many", "strengths", "size", "draws", "place", "first", "at", "old"] ["cell", "round_flag", "sizes", "form", "spare"] (defScope s__law_strengths_here) := ⟨rfl, rfl, rfl, by decide +kernel, rfl, by decide +kernel, by decide +kernel⟩
abbrev s__law_span : Stmt := top 37
theorem sc__law_span : FnScope ["round_flag", "sizes", "strengths", "place", "total", "size", "at"] ["round_flag", "sizes", "strengths", "place"] (defScope s__law_span) := ⟨rfl, rfl, rfl, by decide +kernel, rfl, by decide +kernel, by decide +kernel⟩
abbrev s__law_fault : Stmt := top 38
theorem sc__law_fault : FnScope ["round_flag", "spans", "place", "run", "step"] ["round_flag", "spans"] (defScope s__law_fault) := ⟨rfl, rfl, rfl, by decide +kernel, rfl, by decide +kernel, by decide +kernel⟩
abbrev s__law_is_fault : Stmt := top 39
theorem sc__law_is_fault : FnScope ["beads", "due", "told"] ["beads", "due"] (defScope s__law_is_fault) := ⟨rfl, rfl, rfl, by decide +kernel, rfl, by decide +kernel, by decide +kernel⟩
abbrev s__law_depths : Stmt := top 40
theorem sc__law_depths : FnScope ["round_flag", "spans", "depths", "place", "at"] ["round_flag", "spans"] (defScope s__law_depths) := ⟨rfl, rfl, rfl, by decide +kernel, rfl, by decide +kernel, by decide +kernel⟩
abbrev s__law_has_origin : Stmt := top 41
theorem sc__law_has_origin : FnScope ["beads", "round_flag", "sizes", "strengths", "spans", "depths", "deepest", "told", "depth"] ["beads", "round_flag", "sizes", "strengths", "spans"] (defScope s__law_has_origin) := ⟨rfl, rfl, rfl, by decide +kernel, rfl, by decide +kernel, by decide +kernel⟩
abbrev s__law_is_refused : Stmt := top 42
theorem sc__law_is_refused : FnScope ["beads", "due", "e"] ["beads", "due"] (defScope s__law_is_refused) := ⟨rfl, rfl, rfl, by decide +kernel, rfl, by decide +kernel, by decide +kernel⟩
abbrev s__law_is_error : Stmt := top 43
theorem sc__law_is_error : FnScope ["first", "second", "made"] ["first", "second"] (defScope s__law_is_error) := ⟨rfl, rfl, rfl, by decide +kernel, rfl, by decide +kernel, by decide +kernel⟩
abbrev s__law_is_left : Stmt := top 44
theorem sc__law_is_left : FnScope ["beads", "round_flag", "sizes", "strengths", "places", "woken", "told", "spans", "place", "due", "train"] ["beads", "round_flag", "sizes", "strengths"] (defScope s__law_is_left) := ⟨rfl, rfl, rfl, by decide +kernel, rfl, by decide +kernel, by decide +kernel⟩
abbrev s_law : Stmt := top 45
theorem sc_law : FnScope ["script", "shape", "many", "round_flag", "sizes", "strengths", "given", "beads", "spans", "place", "due"] ["script"] (defScope s_law) := ⟨rfl, rfl, rfl, by decide +kernel, rfl, by decide +kernel, by decide +kernel⟩
structure Ad where
  Beads : Addr
  BadPlace : Addr
  WrongKind : Addr
  NotOutcome : Addr
structure Txt (K : PySem.W.Frag) (mg : Str → Option Value) (A : Ad) : Prop where
  m_len : mg "len" = none
  m_int : mg "int" = none
  m_bool : mg "bool" = none
  m_tuple : mg "tuple" = none
  m_list : mg "list" = none
  m_range : mg "range" = none
  m_isinstance : mg "isinstance" = none
  m_sum : mg "sum" = none
  m_enumerate : mg "enumerate" = none
  m_max : mg "max" = none
  g_Beads : mg "Beads" = some (.ref A.Beads)
  g_BadPlace : mg "BadPlace" = some (.ref A.BadPlace)
  cl : Cls K A.Beads
  nS : NoAttr K A.Beads "strengths"
  nL : NoAttr K A.Beads "lengths"
  nR : NoAttr K A.Beads "ring"
  oBP : OexC K A.BadPlace
  no_BadPlace_place : PySem.W.findIn K (.ref A.BadPlace) "place" = some none
  x_BadPlace : XfC K A.BadPlace
  eBP : PySem.W.exmOne K (.ref A.BadPlace) (.ref A.BadPlace) = some true
  g_WrongKind : mg "WrongKind" = some (.ref A.WrongKind)
  oWK : OexC K A.WrongKind
  no_WrongKind_ring : PySem.W.findIn K (.ref A.WrongKind) "ring" = some none
  x_WrongKind : XfC K A.WrongKind
  eWK : PySem.W.exmOne K (.ref A.WrongKind) (.ref A.WrongKind) = some true
  g_NotOutcome : mg "NotOutcome" = some (.ref A.NotOutcome)
  oNO : OexC K A.NotOutcome
  no_NotOutcome_first : PySem.W.findIn K (.ref A.NotOutcome) "first" = some none
  no_NotOutcome_second : PySem.W.findIn K (.ref A.NotOutcome) "second" = some none
  x_NotOutcome : XfC K A.NotOutcome
  eNO : PySem.W.exmOne K (.ref A.NotOutcome) (.ref A.NotOutcome) = some true
  nW : True
  iB1 : PySem.W.findIn K (.ref A.Beads) "__class__" = some (some (.builtin "object.__class__"))
  iB2 : PySem.W.specialIn K (.builtin "object.__class__") "__get__" = some (some (.builtin "getset_descriptor.__get__"))
  iB3 : PySem.W.takesIn K (.builtin "object.__class__") = some true
  iB4 : PySem.W.mroIn K A.Beads (.type "object") = some true
  iB5 : PySem.W.kitOne K (.ref A.Beads) (.ref A.Beads) = some true
local macro_rules | `(tactic| walk_at "rd1") => `(tactic| (with_reducible first
  | refine g_var (by with_unfolding_all rfl) ?_
  | refine g_c ?_
  | refine g_op ?_
  | refine g_I0 ?_
  | refine g_eqI ?_
  | refine g_neI ?_
  | refine g_eqB ?_
  | refine g_neB ?_
  | refine g_cons ?_
  | refine g_nil ?_
  | refine g_seq ?_
  | refine g_asg ?_
  | refine g_name ?_
  | refine g_ret ?_
  | refine g_retN ?_
  | refine g_drop ?_
  | refine g_next ?_
  | refine g_if ?_
  | refine g_test ?_
  | refine g_tB ?_
  | refine g_bl ?_
  | refine g_and ?_
  | refine g_or ?_
  | refine g_not ?_
  | refine g_andV ?_
  | refine g_orV ?_
  | refine g_notV ?_
  | refine g_ifE ?_
  | refine g_cb ?_
  | refine g_meth ?_
  | refine g_rev ?_
  | refine g_gcons ?_
  | refine g_gnil ?_
  | refine g_isB' ?_
  | refine g_gsub ?_
  | refine g_call ?_
  | refine g_callS ?_
  | refine g_bm ?_
  | refine g_un ?_
  | refine g_U ?_
  | refine g_chain ?_
  | refine g_sl ?_
  | refine g_brk ?_
  | refine g_ct ?_
  | refine g_ipI ?_
  | refine g_fld ?_
  | refine g_lst ?_
  | refine g_int ?_
  | refine g_for ?_
  | refine g_rg1 ?_
  | refine g_rg2 ?_
  | refine g_il ?_
  | refine g_it ?_
  | refine g_lc ?_
  | refine g_yes ?_
  | refine g_tup ?_
  | refine g_part ?_
  | refine g_xf ?_
  | refine g_nn ?_
  | refine g_mko ?_
  | refine g_lrg ?_
  | refine g_tr1 ?_
  | refine g_tr2 ?_
  | refine g_oi2 ?_
  | refine g_mk ?_
  | refine g_sfld ?_
  | refine g_ost ?_
  | refine g_oi ?_
  | refine g_nopart ?_
  | refine g_tt ?_
  | refine g_ff ?_
  | refine g_nt ?_
  | refine g_nf ?_
  | refine g_drn ?_
  | refine g_din ?_
  | refine g_dnn ?_
  | refine g_nrn ?_
  | refine g_nin ?_
  | refine g_nnn ?_))
local macro_rules | `(tactic| walk_at "rd") => `(tactic| (repeat walk_at "rd1"))

section
variable {P : Program} {w : World} {K : PySem.W.Frag} {mg : Str → Option Value} {base : Heap} {f : Addr} {fd : FuncData} {A : Ad}
/-! ### _law_cell -/
def cellI (ns : List Int) (k : Nat) : Int := ns.getD k 0
def spCell (K : PySem.W.Frag) : Sp := fun vs H Q _ => ∃ (a : Addr) (ns : List Int) (k : Nat), vs = [.ref a, .int (k : Int)] ∧ SqL K H a (ns.map V.int) ∧ Q (.int (cellI ns k)) H
theorem ok_cell (F : Fun K "_law_cell" "_law_cell" s__law_cell f fd) (T : Txt K mg A) : FnOk P w K mg base CX0 1 f fd ["script", "k"] (Rt.spCell K) := by
  refine F.ok sc__law_cell (fun vs H Q E h => ?_) (fun cdv A1 outer s H vs Q E hr h => ?_)
  · obtain ⟨a, ns, k, rfl, _⟩ := h
    rfl
  · obtain ⟨a, ns, k, rfl, hs, q⟩ := h
    refine ⟨_, (pss_cons (ps_if (pt_cmpR op_lt (pv 1) (pe_callB (call_lenK K) (by rfl) T.m_len PySem.boot_len (pa_cons (pv 0) pa_nil)) (nomark _)) (pss_one (ps_ret (pe_callTy call_int1 (by rfl) T.m_int (by decide +kernel) (pa_cons (pe_ix (ix_listK K) (pv 0) (pv 1) (fun _ _ => rfl)) pa_nil)))) pss_nil)
      (pss_one (ps_ret pe_int))), ?_⟩
    walk_at "rd"
    refine ⟨a, _, rfl, .inl hs, ?_⟩
    walk_at "rd"
    refine g_ite (fun e => ?_) (fun e => ?_)
    · have hk : k < ns.length := by have := of_decide_eq_true e; rw [List.length_map] at this; omega
      walk_at "rd"
      refine ⟨a, _, _, _, rfl, rfl, hs, at_int hk, ?_⟩
      walk_at "rd"
      exact q
    · have hk : ns.length ≤ k := by have := of_decide_eq_false e; rw [List.length_map] at this; omega
      walk_at "rd"
      have e0 : cellI ns k = 0 := by unfold cellI; rw [List.getD_eq_getElem?_getD, List.getElem?_eq_none hk]; rfl
      rw [e0] at q
      exact q
/-! ### _law_draws -/
def spDraws (K : PySem.W.Frag) : Sp := fun vs H Q _ => ∃ (l : Addr) (c : Int) (ns : List Int), vs = [.int c, .ref l] ∧ SqL K H l (ns.map V.int) ∧ ns.length ≤ 1000 ∧ (∀ i, i < ns.length → 0 < ns.getD i 0 ∧ ns.getD i 0 < 2 ^ 64) ∧
  ∀ (p : Addr) (H' : Hp) (ds : List Int), H p = none → Same H H' → H' p = some (.lst (ds.map V.int)) → Dr ns ds → Q (.ref p) H'
theorem ok_draws (F : Fun K "_law_draws" "_law_draws" s__law_draws f fd) (T : Txt K mg A) : FnOk P w K mg base CX0 1 f fd ["cell", "sizes"] (Rt.spDraws K) := by
  refine F.ok sc__law_draws (fun vs H Q E h => ?_) (fun cdv A1 outer s H vs Q E hr h => ?_)
  · obtain ⟨l, c, ns, rfl, _⟩ := h
    rfl
  · obtain ⟨l, c, ns, rfl, hs, hl, hp, q⟩ := h
    refine ⟨_, (pss_cons (ps_set (i := 2) sc__law_draws.nd rfl (Or.inl rfl) (pe_callTy call_int1 (by rfl) T.m_int (by decide +kernel) (pa_cons (pv 0) pa_nil)))
      (pss_cons (ps_set (i := 3) sc__law_draws.nd rfl (Or.inl rfl) (pe_lst pa_nil))
      (pss_cons (ps_for (PassesOwn.never) rfl (pi_range1 rfl T.m_range (pa_cons (pe_callB (call_lenK K) (by rfl) T.m_len PySem.boot_len (pa_cons (pv 1) pa_nil)) pa_nil)) (pg_name (i := 4) sc__law_draws.nd rfl (Or.inl rfl)) (pss_one (ps_if (pt_cmpR op_ge (pv 0) (pe_op op_pow pe_int pe_int) (nomark _)) (pss_cons (ps_expr (pe_appK K (pv 3) (pa_cons (pe_op op_mod (pe_callTy call_int1 (by rfl) T.m_int (by decide +kernel) (pa_cons (pv 2) pa_nil)) (pe_ix (ix_listK K) (pv 1) (pv 4) (fun _ _ => rfl))) pa_nil)))
      (pss_one (ps_set (i := 2) sc__law_draws.nd rfl (Or.inl rfl) (pe_op op_fdivW (pe_callTy call_int1 (by rfl) T.m_int (by decide +kernel) (pa_cons (pv 2) pa_nil)) (pe_ix (ix_listK K) (pv 1) (pv 4) (fun _ _ => rfl)))))) (pss_cons (ps_set (i := 5) sc__law_draws.nd rfl (Or.inl rfl) (pe_op op_mod (pe_callTy call_int1 (by rfl) T.m_int (by decide +kernel) (pa_cons (pe_op op_add (pe_op op_add (pv 0) (pe_op op_mul pe_int (pv 4))) pe_int) pa_nil)) pe_int))
      (pss_cons (ps_set (i := 5) sc__law_draws.nd rfl (Or.inl rfl) (pe_op op_mod (pe_callTy call_int1 (by rfl) T.m_int (by decide +kernel) (pa_cons (pe_op op_mul (pv 5) (pe_op op_add (pv 5) pe_int)) pa_nil)) pe_int))
      (pss_cons (ps_set (i := 5) sc__law_draws.nd rfl (Or.inl rfl) (pe_op op_mod (pe_callTy call_int1 (by rfl) T.m_int (by decide +kernel) (pa_cons (pe_op op_add (pe_op op_mul (pv 5) (pe_op op_add (pv 5) pe_int)) (pe_op op_mul pe_int (pv 4))) pa_nil)) pe_int))
      (pss_one (ps_expr (pe_appK K (pv 3) (pa_cons (pe_op op_mod (pe_callTy call_int1 (by rfl) T.m_int (by decide +kernel) (pa_cons (pe_op op_fdiv (pv 5) pe_int) pa_nil)) (pe_ix (ix_listK K) (pv 1) (pv 4) (fun _ _ => rfl))) pa_nil))))))))))
      (pss_one (ps_ret (pv 3)))))), ?_⟩
    walk_at "rd"
    refine ⟨by decide, fun p np => ?_⟩
    walk_at "rd"
    have S0 : Same H (upd H p (.lst [])) := Same.new np
    refine ⟨l, _, rfl, .inl (S0.seq hs), ?_⟩
    walk_at "rd"
    refine ⟨_, rfl, by omega, by rw [List.length_map]; omega, ?_⟩
    rw [List.length_map]
    refine for_range (lo := 0) (fun i σ H' => ∃ (left : Int) (ds : List Int) (v5 v6 : Option V), σ = [some (.int c), some (.ref l), some (.int left), some (.ref p), v5, v6] ∧ Same H H' ∧ H' p = some (.lst (ds.map V.int)) ∧ ds.length = i ∧
      ∀ j, j < i → 0 ≤ ds.getD j 0 ∧ ds.getD j 0 < ns.getD j 0) ⟨c, [], none, none, rfl, S0, upd_same, rfl, fun j h => absurd h (Nat.not_lt_zero j)⟩ ?_ ?_
    · rintro i σ H' hi ⟨left, ds, v5, v6, rfl, S1, hd, hdl, hin⟩
      have hi' : i < ns.length := by simpa using hi
      have hs1 := S1.seq hs
      obtain ⟨hp0, hp1⟩ := hp i hi'
      have step : ∀ (d : Int), 0 ≤ d → d < ns.getD i 0 → ∀ j, j < i + 1 → 0 ≤ (ds ++ [d]).getD j 0 ∧ (ds ++ [d]).getD j 0 < ns.getD j 0 := by
        intro d h0 h1 j hj
        rw [getD_app, hdl]
        by_cases h : j < i
        · rw [if_pos h]; exact hin j h
        · have e : j = i := by omega
          subst e
          rw [if_neg h, if_pos rfl]; exact ⟨h0, h1⟩
      rw [Int.zero_add]
      walk_at "rd"
      refine g_I ⟨by decide, by decide, by decide⟩ ?_
      walk_at "rd"
      refine g_ite (fun e => ?_) (fun e => ?_)
      · walk_at "rd"
        refine ⟨ty_l hd, ?_⟩
        walk_at "rd"
        refine g_ixL hs1 (at_int hi') ?_
        refine g_I hp0 ?_
        walk_at "rd"
        refine g_app hd (by rw [List.length_map, hdl]; exact slt1000 (by omega)) ?_
        walk_at "rd"
        have S2 : Same H (upd H' p (.lst (ds.map V.int ++ [V.int (left % ns.getD i 0)]))) := S1.mut np
        refine g_ixL (S2.seq hs) (at_int hi') ?_
        refine g_I (wide_div hp0 (b := 64) (by omega) (by decide) (by decide)) ?_
        walk_at "rd"
        exact ⟨_, ds ++ [left % ns.getD i 0], _, _, rfl, S2, by rw [upd_same, map_app], by rw [List.length_append, hdl]; rfl, step _ (Int.emod_nonneg _ (by omega)) (Int.emod_lt_of_pos _ hp0)⟩
      · walk_at "rd"
        refine g_I (.inl ⟨by decide, by decide⟩) ?_
        walk_at "rd"
        refine g_I (by decide) ?_
        walk_at "rd"
        have a1 := Int.emod_nonneg (c + 7919 * (i : Int) + 13) (show (2147483647 : Int) ≠ 0 by decide)
        have a2 := Int.emod_lt_of_pos (c + 7919 * (i : Int) + 13) (show (0 : Int) < 2147483647 by decide)
        generalize (c + 7919 * (i : Int) + 13) % 2147483647 = m1 at a1 a2
        refine g_I (.inl ⟨by omega, by omega⟩) ?_
        walk_at "rd"
        refine g_I (by decide) ?_
        walk_at "rd"
        have b1 := Int.emod_nonneg (m1 * (m1 + 48271)) (show (2147483629 : Int) ≠ 0 by decide)
        have b2 := Int.emod_lt_of_pos (m1 * (m1 + 48271)) (show (0 : Int) < 2147483629 by decide)
        generalize (m1 * (m1 + 48271)) % 2147483629 = m2 at b1 b2
        refine g_I (.inl ⟨by omega, by omega⟩) ?_
        walk_at "rd"
        refine g_I (.inl ⟨by decide, by decide⟩) ?_
        walk_at "rd"
        refine g_I (by decide) ?_
        walk_at "rd"
        refine ⟨ty_l hd, ?_⟩
        walk_at "rd"
        refine g_I ⟨by decide, by decide⟩ ?_
        walk_at "rd"
        refine g_ixL hs1 (at_int hi') ?_
        refine g_I hp0 ?_
        walk_at "rd"
        refine g_app hd (by rw [List.length_map, hdl]; exact slt1000 (by omega)) ?_
        walk_at "rd"
        exact ⟨_, ds ++ [_], _, _, rfl, S1.mut np, by rw [upd_same, map_app], by rw [List.length_append, hdl]; rfl, step _ (Int.emod_nonneg _ (by omega)) (Int.emod_lt_of_pos _ hp0)⟩
    · rintro σ H' ⟨left, ds, v5, v6, rfl, S1, hd, hdl, hin⟩
      walk_at "rd"
      exact q p H' ds np S1 hd ⟨by simpa using hdl, fun i hi => hin i (by simpa using hi)⟩
/-! ### _law_is_integer -/
def spInt : Sp := fun vs H Q _ => ∃ i : Int, vs = [.int i] ∧ Q (.bl true) H
theorem ok_int (F : Fun K "_law_is_integer" "_law_is_integer" s__law_is_integer f fd) (T : Txt K mg A) : FnOk P w K mg base CX0 1 f fd ["actual"] Rt.spInt := by
  refine F.ok sc__law_is_integer (fun vs H Q E h => ?_) (fun cdv A1 outer s H vs Q E hr h => ?_)
  · obtain ⟨i, rfl, _⟩ := h
    rfl
  · obtain ⟨i, rfl, q⟩ := h
    refine ⟨_, (pss_one (ps_ret (pe_and (pe_callB (call_isiQ K) (by rfl) T.m_isinstance (by decide +kernel) (pa_cons (pv 0) (pa_cons (pe_bltn (v := .ty "int") (by rfl) T.m_int (by decide +kernel) rfl) pa_nil))) (pe_one (pe_not (pe_callB (call_isiQ K) (by rfl) T.m_isinstance (by decide +kernel) (pa_cons (pv 0) (pa_cons (pe_bltn (v := .ty "bool") (by rfl) T.m_bool (by decide +kernel) rfl) pa_nil)))))))), ?_⟩
    walk_at "rd"
    refine ⟨_, _, _, _, _, rfl, .ty _, .base (.int i), kit_ty (r := true) (by decide +kernel), ?_⟩
    refine ⟨_, rfl, g_itt rfl ?_⟩
    walk_at "rd"
    refine ⟨_, _, _, _, _, rfl, .ty _, .base (.int i), kit_ty (r := false) (by decide +kernel), ?_⟩
    exact ⟨_, rfl, q⟩
theorem ok_intH (F : Fun K "_law_is_integer" "_law_is_integer" s__law_is_integer f fd) (T : Txt K mg A) : L2H.FnH P w K mg base CX0 1 f fd ["actual"] Rt.spInt := by
  refine okH F sc__law_is_integer (fun vs H Q E h => ?_) (fun cdv A1 outer s H vs Q E p hot hr h => ?_)
  · obtain ⟨i, rfl, _⟩ := h
    rfl
  · obtain ⟨i, rfl, q⟩ := h
    refine ⟨_, (pss_one (ps_ret (pe_and (pe_callB (call_isiQ K) (by rfl) T.m_isinstance (by decide +kernel) (pa_cons (pv 0) (pa_cons (pe_bltn (v := .ty "int") (by rfl) T.m_int (by decide +kernel) rfl) pa_nil))) (pe_one (pe_not (pe_callB (call_isiQ K) (by rfl) T.m_isinstance (by decide +kernel) (pa_cons (pv 0) (pa_cons (pe_bltn (v := .ty "bool") (by rfl) T.m_bool (by decide +kernel) rfl) pa_nil)))))))), ?_⟩
    walk_at "rd"
    refine ⟨_, _, _, _, _, rfl, .ty _, .base (.int i), kit_ty (r := true) (by decide +kernel), ?_⟩
    refine ⟨_, rfl, g_itt rfl ?_⟩
    walk_at "rd"
    refine ⟨_, _, _, _, _, rfl, .ty _, .base (.int i), kit_ty (r := false) (by decide +kernel), ?_⟩
    exact ⟨_, rfl, q⟩
/-! ### _law_numbers -/
/-- a list or, with b, a tuple of the ints xs at a -/
def SeqAt' (H : Hp) (b : Bool) (a : Addr) (xs : List Int) : Prop := H a = some (if b = true then .tup (xs.map V.int) else .lst (xs.map V.int))
def spNumbers (K : PySem.W.Frag) : Sp := fun vs H Q _ => ∃ (a l : Addr) (b : Bool) (xs ys : List Int), vs = [.ref a, .ref l, .bl b] ∧ SeqAt' H b a xs ∧ SqL K H l (ys.map V.int) ∧ ys.length ≤ 100000 ∧ Q (.bl (decide (xs = ys))) H
theorem ok_numbers (F : Fun K "_law_numbers" "_law_numbers" s__law_numbers f fd) (T : Txt K mg A) (D__law_is_integer : DefOk P w K mg base CX0 1 "_law_is_integer" ["actual"] Rt.spInt) : FnOk P w K mg base CX0 2 f fd ["actual", "due", "as_tuple"] (Rt.spNumbers K) := by
  refine F.ok sc__law_numbers (fun vs H Q E h => ?_) (fun cdv A1 outer s H vs Q E hr h => ?_)
  · obtain ⟨a, l, b, xs, ys, rfl, _⟩ := h
    rfl
  · obtain ⟨a, l, b, xs, ys, rfl, ha, hs, hy, q⟩ := h
    refine ⟨_, (pss_cons (ps_if (PW.pt (pw_or (PW.pt (pw_and (pt_val (pv 2)) (pw_and1 (pt_not (pt_val (pe_callB (call_isiQ K) (by rfl) T.m_isinstance (by decide +kernel) (pa_cons (pv 0) (pa_cons (pe_bltn (v := .ty "tuple") (by rfl) T.m_tuple (by decide +kernel) rfl) pa_nil)))))))) (pw_or1 (PW.pt (pw_and (pt_not (pt_val (pv 2))) (pw_and1 (pt_not (pt_val (pe_callB (call_isiQ K) (by rfl) T.m_isinstance (by decide +kernel) (pa_cons (pv 0) (pa_cons (pe_bltn (v := .ty "list") (by rfl) T.m_list (by decide +kernel) rfl) pa_nil))))))))))) (pss_one (ps_ret pe_bl)) pss_nil)
      (pss_cons (ps_if (pt_cmpR op_ne (pe_callB (call_lenK K) (by rfl) T.m_len PySem.boot_len (pa_cons (pv 0) pa_nil)) (pe_callB (call_lenK K) (by rfl) T.m_len PySem.boot_len (pa_cons (pv 1) pa_nil)) (nomark _)) (pss_one (ps_ret pe_bl)) pss_nil)
      (pss_cons (ps_for (PassesOwn.never) rfl (pi_range1 rfl T.m_range (pa_cons (pe_callB (call_lenK K) (by rfl) T.m_len PySem.boot_len (pa_cons (pv 1) pa_nil)) pa_nil)) (pg_name (i := 3) sc__law_numbers.nd rfl (Or.inl rfl)) (pss_one (ps_if (PW.pt (pw_or (pt_not (pt_val (pe_callD D__law_is_integer (hr.mono (by decide)) pass0 (pa_cons (pe_ix (ix_seqK K) (pv 0) (pv 3) (fun _ _ => rfl)) pa_nil)))) (pw_or1 (pt_cmpR op_ne (pe_ix (ix_seqK K) (pv 0) (pv 3) (fun _ _ => rfl)) (pe_ix (ix_listK K) (pv 1) (pv 3) (fun _ _ => rfl)) (nomark _))))) (pss_one (ps_ret pe_bl)) pss_nil)))
      (pss_one (ps_ret pe_bl))))), ?_⟩
    have hlen : SqL K H a (xs.map V.int) ∨ SqT K H a (xs.map V.int) := by
      cases b with
      | true => exact .inr (SqT.of ha)
      | false => exact .inl (SqL.of ha)
    have hix : ∀ (i : Nat) (Q : VK), i < xs.length → Q (.int (xs.getD i 0)) H → rIx K (.ref a) (.int (i : Int)) H Q := fun i Q hi h => by
      cases b with
      | true => exact .inr (.inl (g_ixT (SqT.of ha) (at_int hi) h))
      | false => exact .inl (g_ixL (SqL.of ha) (at_int hi) h)
    have step : ∀ (i : Nat), i < ys.length → i < xs.length → (∀ j, j < i → xs.getD j 0 = ys.getD j 0) → xs.getD i 0 = ys.getD i 0 → ∀ j, j < i + 1 → xs.getD j 0 = ys.getD j 0 := fun i _ _ h h2 j hj => by
      rcases Nat.lt_succ_iff_lt_or_eq.mp hj with z | z
      · exact h j z
      · rw [z]; exact h2
    cases b
    all_goals
      walk_at "rd"
      refine g_isi (b := true) (.base (by first | exact .tup ha | exact .lst ha)) (by decide +kernel) ?_
      walk_at "rd"
      refine ⟨a, _, rfl, hlen, ?_⟩
      walk_at "rd"
      refine ⟨l, _, rfl, .inl hs, ?_⟩
      rw [List.length_map, List.length_map]
      walk_at "rd"
      refine g_ite (fun e => ?_) (fun e => ?_)
      · walk_at "rd"
        have ne : ¬ xs = ys := fun z => by
          rw [z] at e; simp at e
        rw [decide_eq_false ne] at q
        exact q
      · have el : xs.length = ys.length := by
          have := e; simp at this
          omega
        walk_at "rd"
        refine ⟨l, _, rfl, .inl hs, ?_⟩
        rw [List.length_map]
        walk_at "rd"
        refine ⟨_, rfl, by omega, by omega, ?_⟩
        refine for_range (lo := 0) (fun i σ H' => ∃ v3 : Option V, σ = [some (.ref a), some (.ref l), some (.bl _), v3] ∧ H' = H ∧ ∀ j, j < i → xs.getD j 0 = ys.getD j 0) ⟨none, rfl, rfl, fun j h => absurd h (Nat.not_lt_zero j)⟩ ?_ ?_
        · rintro i σ H' hi ⟨v3, rfl, rfl, hin⟩
          have hi' : i < ys.length := by simpa using hi
          rw [Int.zero_add]
          walk_at "rd"
          refine hix i _ (by omega) ?_
          walk_at "rd"
          refine ⟨_, rfl, ?_⟩
          walk_at "rd"
          refine hix i _ (by omega) ?_
          walk_at "rd"
          refine g_ixL hs (at_int hi') ?_
          walk_at "rd"
          refine g_ite (fun e2 => ?_) (fun e2 => ?_)
          · walk_at "rd"
            have ne : ¬ xs = ys := fun z => by
              rw [z] at e2; simp at e2
            rw [decide_eq_false ne] at q
            exact q
          · walk_at "rd"
            have h2 : xs.getD i 0 = ys.getD i 0 := by simpa using e2
            exact ⟨_, rfl, rfl, step i hi' (by omega) hin h2⟩
        · rintro σ H' ⟨v3, rfl, rfl, hin⟩
          walk_at "rd"
          have e3 : xs = ys := ext_getD el fun i hi => hin i (by simpa using (by omega : i < ys.length))
          rw [decide_eq_true e3] at q
          exact q
/-! ### -/
end
end Rt
set_option Elab.async false
set_option linter.all false
set_option maxRecDepth 100000
set_option maxHeartbeats 4000000
namespace Rt
open PySem PySem.Spec L2
open PyProof.Rows (envOfC)
local macro_rules | `(tactic| walk_at "rd1") => `(tactic| (with_reducible first
  | refine g_var (by with_unfolding_all rfl) ?_
  | refine g_c ?_
  | refine g_op ?_
  | refine g_I0 ?_
  | refine g_eqI ?_
  | refine g_neI ?_
  | refine g_eqB ?_
  | refine g_neB ?_
  | refine g_cons ?_
  | refine g_nil ?_
  | refine g_seq ?_
  | refine g_asg ?_
  | refine g_name ?_
  | refine g_ret ?_
  | refine g_retN ?_
  | refine g_drop ?_
  | refine g_next ?_
  | refine g_if ?_
  | refine g_test ?_
  | refine g_tB ?_
  | refine g_bl ?_
  | refine g_and ?_
  | refine g_or ?_
  | refine g_not ?_
  | refine g_andV ?_
  | refine g_orV ?_
  | refine g_notV ?_
  | refine g_ifE ?_
  | refine g_cb ?_
  | refine g_meth ?_
  | refine g_rev ?_
  | refine g_gcons ?_
  | refine g_gnil ?_
  | refine g_isB' ?_
  | refine g_gsub ?_
  | refine g_call ?_
  | refine g_callS ?_
  | refine g_bm ?_
  | refine g_un ?_
  | refine g_U ?_
  | refine g_chain ?_
  | refine g_sl ?_
  | refine g_brk ?_
  | refine g_ct ?_
  | refine g_ipI ?_
  | refine g_fld ?_
  | refine g_lst ?_
  | refine g_int ?_
  | refine g_for ?_
  | refine g_rg1 ?_
  | refine g_rg2 ?_
  | refine g_il ?_
  | refine g_it ?_
  | refine g_lc ?_
  | refine g_yes ?_
  | refine g_tup ?_
  | refine g_part ?_
  | refine g_xf ?_
  | refine g_nn ?_
  | refine g_mko ?_
  | refine g_lrg ?_
  | refine g_tr1 ?_
  | refine g_tr2 ?_
  | refine g_oi2 ?_
  | refine g_mk ?_
  | refine g_sfld ?_
  | refine g_ost ?_
  | refine g_oi ?_
  | refine g_nopart ?_
  | refine g_tt ?_
  | refine g_ff ?_
  | refine g_nt ?_
  | refine g_nf ?_
  | refine g_drn ?_
  | refine g_din ?_
  | refine g_dnn ?_
  | refine g_nrn ?_
  | refine g_nin ?_
  | refine g_nnn ?_))
local macro_rules | `(tactic| walk_at "rd") => `(tactic| (repeat walk_at "rd1"))

/-! ### a standing in the heap -/
def bfs (ts tl : Addr) (r : Bool) : List (Str × V) := putF "ring" (.bl r) (putF "lengths" (.ref tl) (putF "strengths" (.ref ts) []))
structure BAt (C : Addr) (H : Hp) (b ts tl : Addr) (r : Bool) (ss ls : List Int) : Prop where
  ob : ∃ dx, H b = some (.ins C dx (bfs ts tl r))
  st : H ts = some (.tup (ss.map V.int))
  ln : H tl = some (.tup (ls.map V.int))
theorem BAt.mono {C : Addr} {H H' : Hp} {b ts tl : Addr} {r : Bool} {ss ls : List Int} (h : BAt C H b ts tl r ss ls) (S : Same H H') : BAt C H' b ts tl r ss ls :=
  ⟨let ⟨dx, e⟩ := h.ob; ⟨dx, S _ _ e⟩, S _ _ h.st, S _ _ h.ln⟩
theorem kne1 : ¬ (("strengths" : Str) = "ring") := by decide +kernel
theorem kne2 : ¬ (("strengths" : Str) = "lengths") := by decide +kernel
theorem kne3 : ¬ (("lengths" : Str) = "ring") := by decide +kernel
theorem bfs_s {ts tl : Addr} {r : Bool} : (bfs ts tl r).lookup ("strengths" : Str) = some (.ref ts) := by
  unfold bfs; rw [lookup_putF, if_neg kne1, lookup_putF, if_neg kne2, lookup_putF, if_pos rfl]
theorem bfs_l {ts tl : Addr} {r : Bool} : (bfs ts tl r).lookup ("lengths" : Str) = some (.ref tl) := by
  unfold bfs; rw [lookup_putF, if_neg kne3, lookup_putF, if_pos rfl]
theorem kne4 : ¬ (("with_strength" : Str) = "ring") := by decide +kernel
theorem kne5 : ¬ (("with_strength" : Str) = "lengths") := by decide +kernel
theorem kne6 : ¬ (("with_strength" : Str) = "strengths") := by decide +kernel
theorem bfs_w {ts tl : Addr} {r : Bool} : (bfs ts tl r).lookup ("with_strength" : Str) = none := by
  unfold bfs; rw [lookup_putF, if_neg kne4, lookup_putF, if_neg kne5, lookup_putF, if_neg kne6]; rfl
theorem bfs_r {ts tl : Addr} {r : Bool} : (bfs ts tl r).lookup ("ring" : Str) = some (.bl r) := by
  unfold bfs; rw [lookup_putF, if_pos rfl]
section
variable {P : Program} {w : World} {K : PySem.W.Frag} {mg : Str → Option Value} {base : Heap} {f : Addr} {fd : FuncData} {A : Ad}
section
variable {H : Hp} {b ts tl : Addr} {r : Bool} {ss ls : List Int} {R : V → Prop}
theorem f_s (T : Txt K mg A) (B : BAt A.Beads H b ts tl r ss ls) (h : R (.ref ts)) : ∃ a C dx fs v, V.ref b = .ref a ∧ H a = some (.ins C dx fs) ∧ Cls K C ∧ NoAttr K C "strengths" ∧ fs.lookup ("strengths" : Str) = some v ∧ R v :=
  let ⟨dx, e⟩ := B.ob; ⟨b, A.Beads, dx, _, _, rfl, e, T.cl, T.nS, bfs_s, h⟩
theorem f_l (T : Txt K mg A) (B : BAt A.Beads H b ts tl r ss ls) (h : R (.ref tl)) : ∃ a C dx fs v, V.ref b = .ref a ∧ H a = some (.ins C dx fs) ∧ Cls K C ∧ NoAttr K C "lengths" ∧ fs.lookup ("lengths" : Str) = some v ∧ R v :=
  let ⟨dx, e⟩ := B.ob; ⟨b, A.Beads, dx, _, _, rfl, e, T.cl, T.nL, bfs_l, h⟩
theorem f_r (T : Txt K mg A) (B : BAt A.Beads H b ts tl r ss ls) (h : R (.bl r)) : ∃ a C dx fs v, V.ref b = .ref a ∧ H a = some (.ins C dx fs) ∧ Cls K C ∧ NoAttr K C "ring" ∧ fs.lookup ("ring" : Str) = some v ∧ R v :=
  let ⟨dx, e⟩ := B.ob; ⟨b, A.Beads, dx, _, _, rfl, e, T.cl, T.nR, bfs_r, h⟩
end
/-! ### BadPlace.__init__, check_place -/
theorem ok_BadPlace (F : Fun K "__init__" "BadPlace.__init__" s_BadPlace_init f fd) : FnOk P w K mg base CX0 1 f fd ["self", "place"] (spExc1 K A.BadPlace "place") := by
  refine F.ok sc_BadPlace_init (fun vs H Q E h => ?_) (fun cdv A1 outer s H vs Q E hr h => ?_)
  · obtain ⟨a, v, rfl, _⟩ := h
    rfl
  · obtain ⟨a, v, rfl, ha, T, no, q⟩ := h
    refine ⟨_, (pss_one (ps_ostK K (pv 0) (pv 1))), ?_⟩
    walk_at "rd"
    exact ⟨a, _, rfl, T, no, .inl ⟨ha, fun dx n ne => q dx n ne⟩⟩
/-- BadPlace(p) goes out -/
def BadP (A : Ad) (H : Hp) (E : XK) (p : Int) : Prop := ∀ d H', H d = none → Same H H' → H' d = some (.xd [("place", V.int p)]) → E (.ref A.BadPlace) (some d) H'
theorem BadP.mono {H H1 : Hp} {E : XK} {p : Int} (h : BadP A H E p) (S : Same H H1) : BadP A H1 E p := fun d H' n S' e => h d H' (S.free n) (S.trans S') e
def spCheck (A : Ad) : Sp := fun vs H Q E => ∃ n p : Int, vs = [.int n, .int p] ∧ (0 ≤ p ∧ p < n → Q .non H) ∧ (¬ (0 ≤ p ∧ p < n) → BadP A H E p)
theorem ok_check (F : Fun K "check_place" "check_place" s_check_place f fd) (T : Txt K mg A) (X_BadPlace : ExcDef P w K mg base "BadPlace" A.BadPlace "place") : FnOk P w K mg base (L2N.CX P w) 4 f fd ["many", "place"] (spCheck A) := by
  refine okN F sc_check_place (fun vs H Q E h => ?_) (fun cdv A1 outer s H vs Q E hr h => ?_)
  · obtain ⟨n, p, rfl, _⟩ := h
    rfl
  · obtain ⟨n, p, rfl, h1, h2⟩ := h
    refine ⟨_, (pss_one (ps_if (pt_not (pt_chain op_le op_lt pe_int (pv 1) (pv 0))) (pss_one (L2N.ps_raise rfl (takes_ofN rfl rfl rfl rfl) (pmk_D X_BadPlace (hr.mono (by decide)) (pa_cons (pv 1) pa_nil)))) pss_nil)), ?_⟩
    walk_at "rd"
    have bad : ¬ (0 ≤ p ∧ p < n) → MkO A.BadPlace (spExc1 K A.BadPlace "place") [V.int p] H E := fun z => mk1 T.oBP T.no_BadPlace_place (h2 z)
    refine g_ite (fun e => ?_) (fun e => ?_)
    · walk_at "rd"
      refine g_ite (fun e2 => ?_) (fun e2 => ?_)
      · walk_at "rd"
        have := of_decide_eq_true e
        exact bad (by simp at e2; omega)
      · walk_at "rd"
        have := of_decide_eq_true e
        exact h1 (by simp at e2; omega)
    · walk_at "rd"
      have := of_decide_eq_false e
      exact bad (by omega)
/-! ### Beads.__len__ -/
def spLen (A : Ad) : Sp := fun vs H Q _ => ∃ (b ts tl : Addr) (r : Bool) (ss ls : List Int), vs = [.ref b] ∧ BAt A.Beads H b ts tl r ss ls ∧ Q (.int (ss.length : Int)) H
theorem ok_len (F : Fun K "__len__" "Beads.__len__" s_Beads_len f fd) (T : Txt K mg A) : FnOk P w K mg base CX0 1 f fd ["self"] (spLen A) := by
  refine F.ok sc_Beads_len (fun vs H Q E h => ?_) (fun cdv A1 outer s H vs Q E hr h => ?_)
  · obtain ⟨b, ts, tl, r, ss, ls, rfl, _⟩ := h
    rfl
  · obtain ⟨b, ts, tl, r, ss, ls, rfl, B, q⟩ := h
    refine ⟨_, (pss_one (ps_ret (pe_callB (call_lenK K) (by rfl) T.m_len PySem.boot_len (pa_cons (pe_fldK K (pv 0) rfl) pa_nil)))), ?_⟩
    walk_at "rd"
    refine f_s T B ?_
    walk_at "rd"
    refine ⟨ts, _, rfl, .inr (SqT.of B.st), ?_⟩
    rw [List.length_map]
    exact q
theorem g_lenB {H : Hp} {b ts tl : Addr} {r : Bool} {ss ls : List Int} {Q : VK} (B : BAt A.Beads H b ts tl r ss ls) (hn : ss.length ≤ 1000) (h : Q (.int (ss.length : Int)) H) : rLenO A.Beads (spLen A) E0 [.ref b] H Q := by
  obtain ⟨dx, e⟩ := B.ob
  exact ⟨b, dx, _, rfl, e, b, ts, tl, r, ss, ls, rfl, B, (ss.length : Int), rfl, by omega, by omega, h⟩
/-! ### run_after -/
def spRun (A : Ad) : Sp := fun vs H Q _ => ∃ (b ts tl : Addr) (r : Bool) (ss ls : List Int) (p : Nat), vs = [.ref b, .int (p : Int)] ∧ BAt A.Beads H b ts tl r ss ls ∧ p < ss.length ∧ ss.length ≤ 1000 ∧
  ∀ (a : Addr) (H' : Hp), H a = none → Same H H' → H' a = some (.lst (nI (run r ss.length p))) → Q (.ref a) H'
theorem ok_run (F : Fun K "run_after" "run_after" s_run_after f fd) (T : Txt K mg A) (LN : LenD P w K mg base A.Beads (spLen A)) : FnOk P w K mg base CX0 4 f fd ["beads", "place"] (spRun A) := by
  refine F.ok sc_run_after (fun vs H Q E h => ?_) (fun cdv A1 outer s H vs Q E hr h => ?_)
  · obtain ⟨b, ts, tl, r, ss, ls, p, rfl, _⟩ := h
    rfl
  · obtain ⟨b, ts, tl, r, ss, ls, p, rfl, B, hp, hn, q⟩ := h
    refine ⟨_, (pss_cons (ps_set (i := 2) sc_run_after.nd rfl (Or.inl rfl) (pe_listRg rfl (by rfl) T.m_list (prg_2 (by rfl) T.m_range (pe_op op_add (pv 1) pe_int) (pe_callB (call_lenD LN (hr.mono (by decide))) (by rfl) T.m_len PySem.boot_len (pa_cons (pv 0) pa_nil)))))
      (pss_cons (ps_if (pt_val (pe_fldK K (pv 0) rfl)) (pss_one (ps_ret (pe_op op_cat (pv 2) (pe_listRg rfl (by rfl) T.m_list (prg_1 (by rfl) T.m_range (pv 1)))))) pss_nil)
      (pss_one (ps_ret (pv 2))))), ?_⟩
    walk_at "rd"
    refine g_lenB B hn ?_
    walk_at "rd"
    refine newRg (a := p + 1) (b := ss.length) (by omega) (by omega) fun a Ha na Sa ha => ?_
    have ea : ((List.range (ss.length - (p + 1))).map fun i => V.int ((p + 1 + i : Nat) : Int)) = nI ((List.range (ss.length - (p + 1))).map fun i => p + 1 + i) := by unfold nI; rw [List.map_map]; rfl
    rw [ea] at ha
    walk_at "rd"
    refine f_r T (B.mono Sa) ?_
    walk_at "rd"
    refine g_ite (fun e => ?_) (fun e => ?_)
    · subst e
      walk_at "rd"
      refine newRg (a := 0) (b := p) (by omega) (by omega) fun a2 Ha2 na2 Sa2 ha2 => ?_
      have eb : ((List.range (p - 0)).map fun i => V.int ((0 + i : Nat) : Int)) = nI (List.range p) := by unfold nI; rw [Nat.sub_zero]; simp
      rw [eb] at ha2
      have ha' := Sa2 _ _ ha
      rw [nI_eq] at ha' ha2
      refine g_cat ha' ha2 (by unfold iI; simp; omega) fun a3 Ha3 na3 Sa3 ha3 => ?_
      refine q a3 Ha3 ((Sa.trans Sa2).free na3) ((Sa.trans Sa2).trans Sa3) ?_
      rw [ha3, nI_eq]
      unfold run iI
      simp only [if_true, List.map_append]
    · subst e
      walk_at "rd"
      refine q a Ha na Sa ?_
      rw [ha]
      unfold run
      simp
/-! ### train_of -/
/-- what a def with a place promises: P if it is a place, BadPlace if not -/
def spPl (A : Ad) (R : Bool → List Int → List Int → Nat → Hp → VK → Prop) : Sp := fun vs H Q E => ∃ (b ts tl : Addr) (r : Bool) (ss ls : List Int) (p : Int), vs = [.ref b, .int p] ∧ BAt A.Beads H b ts tl r ss ls ∧ ls.length = ss.length ∧ ss.length ≤ 1000 ∧
  (0 ≤ p ∧ p < (ss.length : Int) → R r ss ls p.toNat H Q) ∧ (¬ (0 ≤ p ∧ p < (ss.length : Int)) → BadP A H E p)
def RTrain : Bool → List Int → List Int → Nat → Hp → VK → Prop := fun r ss _ p H Q => ∀ (t : Addr) (H' : Hp), H t = none → Same H H' → H' t = some (.lst (nI (trn r ss p))) → Q (.ref t) H'
def RReach : Bool → List Int → List Int → Nat → Hp → VK → Prop := fun r ss ls p H Q => ∀ H' : Hp, Same H H' → Q (.int (rch r ss ls p)) H'
def RStop : Bool → List Int → List Int → Nat → Hp → VK → Prop := fun r ss _ p H Q => ∀ H' : Hp, Same H H' → Q (oV (stp r ss p)) H'
theorem ok_train (F : Fun K "train_of" "train_of" s_train_of f fd) (T : Txt K mg A) (LN : LenD P w K mg base A.Beads (spLen A))
    (D_check_place : DefOk P w K mg base (L2N.CX P w) 4 "check_place" ["many", "place"] (spCheck A)) (D_run_after : DefOk P w K mg base CX0 4 "run_after" ["beads", "place"] (spRun A)) :
    FnOk P w K mg base (L2N.CX P w) 5 f fd ["beads", "place"] (spPl A RTrain) := by
  refine okN F sc_train_of (fun vs H Q E h => ?_) (fun cdv A1 outer s H vs Q E hr h => ?_)
  · obtain ⟨b, ts, tl, r, ss, ls, p, rfl, _⟩ := h
    rfl
  · obtain ⟨b, ts, tl, r, ss, ls, p, rfl, B, hl, hn, q1, q2⟩ := h
    refine ⟨_, (pss_cons (ps_expr (pe_callD D_check_place (hr.mono (by decide)) (passes_callN (takes_ofN rfl rfl rfl rfl)) (pa_cons (pe_callB (call_lenD LN (hr.mono (by decide))) (by rfl) T.m_len PySem.boot_len (pa_cons (pv 0) pa_nil)) (pa_cons (pv 1) pa_nil))))
      (pss_cons (ps_set (i := 2) sc_train_of.nd rfl (Or.inl rfl) (pe_lst pa_nil))
      (pss_cons (ps_for (passes_ofN rfl) rfl (pi_listK K (pe_callD D_run_after (hr.mono (by decide)) pass0 (pa_cons (pv 0) (pa_cons (pv 1) pa_nil)))) (pg_name (i := 3) sc_train_of.nd rfl (Or.inl rfl)) (pss_cons (ps_if (pt_cmpR op_ge (pe_ix (ix_tupK K) (pe_fldK K (pv 0) rfl) (pv 3) (fun _ _ => rfl)) (pe_ix (ix_tupK K) (pe_fldK K (pv 0) rfl) (pv 1) (fun _ _ => rfl)) (nomark _)) (pss_one ps_break) pss_nil)
      (pss_one (ps_expr (pe_appK K (pv 2) (pa_cons (pv 3) pa_nil))))))
      (pss_one (ps_ret (pv 2)))))), ?_⟩
    walk_at "rd"
    refine g_lenB B hn ?_
    walk_at "rd"
    refine ⟨_, p, rfl, fun hp => ?_, q2⟩
    obtain ⟨o, rfl⟩ : ∃ o : Nat, p = (o : Int) := ⟨p.toNat, by omega⟩
    have hp' : o < ss.length := by omega
    have q := q1 hp
    rw [Int.toNat_natCast] at q
    walk_at "rd"
    refine newL fun t Ht nt St ht => ?_
    walk_at "rd"
    refine ⟨b, ts, tl, r, ss, ls, o, rfl, B.mono St, hp', hn, fun a Ha na Sa ha => ?_⟩
    refine ⟨a, rfl, ⟨_, SqL.of ha⟩, for_list (xs := nI (run r ss.length o)) (fun i σ H' => ∃ v4 : Option V, σ = [some (.ref b), some (.int (o : Int)), some (.ref t), v4] ∧ Same H H' ∧ H' a = some (.lst (nI (run r ss.length o))) ∧ H' t = some (.lst (nI ((run r ss.length o).take i))) ∧ Wkd r ss o i)
      ⟨none, rfl, St.trans Sa, ha, Sa _ _ ht, Wkd.zero⟩ (fun i σ H' _ ⟨_, _, _, h, _⟩ => SqL.of h) ?_ ?_⟩
    · rintro i x σ H' hi ⟨v4, rfl, S', ha', ht', wkd⟩
      obtain ⟨j, hj, rfl⟩ : ∃ j, (run r ss.length o)[i]? = some j ∧ x = V.int (j : Int) := by
        rw [List.getElem?_map] at hi
        cases e : (run r ss.length o)[i]? with
        | none => rw [e] at hi; cases hi
        | some j => rw [e] at hi; exact ⟨j, rfl, (Option.some.inj hi).symm⟩
      have hjl : j < ss.length := run_lt hp' j (List.mem_of_getElem? hj)
      have B' := B.mono S'
      walk_at "rd"
      refine f_s T B' ?_
      walk_at "rd"
      refine g_ixT (SqT.of B'.st) (at_int hjl) ?_
      walk_at "rd"
      refine f_s T B' ?_
      walk_at "rd"
      refine g_ixT (SqT.of B'.st) (at_int hp') ?_
      walk_at "rd"
      have nat : a ≠ t := fun z => by
        rw [z, ht] at na; cases na
      refine g_ite (fun e3 => ?_) (fun e3 => ?_)
      · have stop := wkd.stop hj (wk_f e3)
        walk_at "rd"
        rw [← stop.1] at ht'
        exact q t H' nt S' ht'
      · walk_at "rd"
        refine ⟨ty_l ht', ?_⟩
        walk_at "rd"
        refine g_app ht' (by rw [List.length_map, List.length_take]; exact slt1000 (by have := run_le (r := r) hp'; omega)) ?_
        walk_at "rd"
        exact ⟨_, rfl, S'.mut nt, by rw [upd_ne nat]; exact ha', by rw [upd_same, take_more hj]; unfold nI; rw [List.map_append]; rfl, wkd.more hj (wk_t e3)⟩
    · rintro σ H' ⟨v4, rfl, S', ha', ht', wkd⟩
      have full := wkd.full (by unfold nI; rw [List.length_map]; exact Nat.le_refl _)
      walk_at "rd"
      rw [← full.1] at ht'
      exact q t H' nt S' ht'
/-! ### reach_of -/
theorem ok_reachOf (F : Fun K "reach_of" "reach_of" s_reach_of f fd) (T : Txt K mg A)
    (D_train_of : DefOk P w K mg base (L2N.CX P w) 5 "train_of" ["beads", "place"] (spPl A RTrain)) : FnOk P w K mg base (L2N.CX P w) 6 f fd ["beads", "place"] (spPl A RReach) := by
  refine okN F sc_reach_of (fun vs H Q E h => ?_) (fun cdv A1 outer s H vs Q E hr h => ?_)
  · obtain ⟨b, ts, tl, r, ss, ls, p, rfl, _⟩ := h
    rfl
  · obtain ⟨b, ts, tl, r, ss, ls, p, rfl, B, hl, hn, q1, q2⟩ := h
    refine ⟨_, (pss_cons (ps_set (i := 2) sc_reach_of.nd rfl (Or.inl rfl) (pe_callD D_train_of (hr.mono (by decide)) (passes_callN (takes_ofN rfl rfl rfl rfl)) (pa_cons (pv 0) (pa_cons (pv 1) pa_nil))))
      (pss_one (ps_ret (pe_op op_add (pe_ix (ix_tupK K) (pe_fldK K (pv 0) rfl) (pv 1) (fun _ _ => rfl)) (pe_callB (cr_sumK K rfl) (by rfl) T.m_sum (by decide +kernel) (pa_cons (pe_lc (own := [("other", 3)]) (g := gName 3) (tt := tYes) rfl sc_reach_of.nd (pi_listK K (pv 2)) (blkOk_by (N := ["beads", "place", "train", "other"]) (sc := defScope s_reach_of) (by decide +kernel)) (fun _ _ _ _ _ => (by exact (pg_name (i := 3) sc_reach_of.nd rfl (Or.inl rfl)))) (fun _ _ _ _ _ => (by exact pts_nil)) (fun _ _ _ _ _ => (by exact (pe_ix (ix_tupK K) (pe_fldK K (pv 0) rfl) (pv 3) (fun _ _ => rfl))))) pa_nil)))))), ?_⟩
    walk_at "rd"
    refine ⟨b, ts, tl, r, ss, ls, p, rfl, B, hl, hn, fun hp => ?_, q2⟩
    obtain ⟨o, rfl⟩ : ∃ o : Nat, p = (o : Int) := ⟨p.toNat, by omega⟩
    have hp' : o < ss.length := by omega
    have q := q1 hp
    rw [Int.toNat_natCast] at q ⊢
    intro t Ht nt St ht
    walk_at "rd"
    refine f_l T (B.mono St) ?_
    walk_at "rd"
    refine g_ixT (SqT.of (B.mono St).ln) (at_int (by omega)) ?_
    walk_at "rd"
    rw [nI_eq] at ht
    refine ⟨t, rfl, ⟨_, SqL.of ht⟩, fun D nD => ?_⟩
    refine lc_ints (fun x => ls.getD x.toNat 0) (SqL.of ht) nD (by unfold iI; rw [List.length_map]; have := run_le (r := r) hp'; have := trn_len (r := r) (ss := ss) (p := o); omega) (fun i x H' hx S' Q' hq => ?_) (fun H' S' h' => ?_)
    · obtain ⟨j, hj, rfl⟩ : ∃ j : Nat, j ∈ trn r ss o ∧ x = (j : Int) := by
        have := List.mem_of_getElem? hx
        obtain ⟨j, hj, e⟩ := List.mem_map.mp this
        exact ⟨j, hj, e.symm⟩
      have hjl := trn_lt hp' j hj
      have B' := B.mono (St.trans S')
      walk_at "rd"
      refine ⟨rfl, ?_⟩
      walk_at "rd"
      refine f_l T B' ?_
      walk_at "rd"
      refine g_ixT (SqT.of B'.ln) (at_int (by omega)) ?_
      exact hq H' (Same.refl _)
    · walk_at "rd"
      refine ⟨D, _, rfl, SqL.of h', ?_⟩
      walk_at "rd"
      have e : ls.getD o 0 + ((iI (trn r ss o)).map fun x => ls.getD x.toNat 0).sum = rch r ss ls o := by
        unfold rch iI
        rw [List.map_map]
        rfl
      rw [e]
      exact q H' (St.trans S')
/-! ### reaches -/
def spReaches (A : Ad) : Sp := fun vs H Q _ => ∃ (b ts tl : Addr) (r : Bool) (ss ls : List Int), vs = [.ref b] ∧ BAt A.Beads H b ts tl r ss ls ∧ ls.length = ss.length ∧ ss.length ≤ 1000 ∧
  ∀ (a : Addr) (H' : Hp), H a = none → Same H H' → H' a = some (.lst (((List.range ss.length).map fun p => rch r ss ls p).map V.int)) → Q (.ref a) H'
theorem ok_reaches (F : Fun K "reaches" "reaches" s_reaches f fd) (T : Txt K mg A) (LN : LenD P w K mg base A.Beads (spLen A))
    (D_reach_of : DefOk P w K mg base (L2N.CX P w) 6 "reach_of" ["beads", "place"] (spPl A RReach)) : FnOk P w K mg base CX0 7 f fd ["beads"] (spReaches A) := by
  refine F.ok sc_reaches (fun vs H Q E h => ?_) (fun cdv A1 outer s H vs Q E hr h => ?_)
  · obtain ⟨b, ts, tl, r, ss, ls, rfl, _⟩ := h
    rfl
  · obtain ⟨b, ts, tl, r, ss, ls, rfl, B, hl, hn, q⟩ := h
    refine ⟨_, (pss_one (ps_ret (pe_lc (own := [("place", 1)]) (g := gName 1) (tt := tYes) rfl sc_reaches.nd (pi_range1 rfl T.m_range (pa_cons (pe_callB (call_lenD LN (hr.mono (by decide))) (by rfl) T.m_len PySem.boot_len (pa_cons (pv 0) pa_nil)) pa_nil)) (blkOk_by (N := ["beads", "place"]) (sc := defScope s_reaches) (by decide +kernel)) (fun _ _ _ _ _ => (by exact (pg_name (i := 1) sc_reaches.nd rfl (Or.inl rfl)))) (fun _ _ _ _ _ => (by exact pts_nil)) (fun _ _ _ _ _ => (by exact (pe_callD D_reach_of (hr.mono (by decide)) passN (pa_cons (pv 0) (pa_cons (pv 1) pa_nil)))))))), ?_⟩
    walk_at "rd"
    refine g_lenB B hn ?_
    walk_at "rd"
    refine ⟨_, rfl, by omega, by omega, fun D nD => ?_⟩
    rw [Int.toNat_natCast]
    refine lc_rangeI (fun p => rch r ss ls p) nD (by omega) (fun i H' hi S' Q' hq => ?_) (fun H' S' h' => ?_)
    · rw [Int.zero_add]
      walk_at "rd"
      refine ⟨rfl, ?_⟩
      walk_at "rd"
      refine ⟨b, ts, tl, r, ss, ls, (i : Int), rfl, B.mono S', hl, hn, fun _ => ?_, fun z => absurd ⟨by omega, by omega⟩ z⟩
      rw [Int.toNat_natCast]
      exact fun H2 S2 => hq H2 S2
    · exact q D H' nD S' h'
/-! ### _check_beads, Beads.__init__ -/
def spChk : Sp := fun vs H Q _ => ∃ (ts tl : Addr) (ss ls : List Int), vs = [.ref ts, .ref tl] ∧ H ts = some (.tup (ss.map V.int)) ∧ H tl = some (.tup (ls.map V.int)) ∧ 0 < ss.length ∧ ls.length = ss.length ∧ ss.length ≤ 1000 ∧ (∀ x ∈ ss, 0 ≤ x) ∧ (∀ x ∈ ls, 1 ≤ x) ∧ Q .non H
theorem ok_chk (F : Fun K "_check_beads" "_check_beads" s__check_beads f fd) (T : Txt K mg A) : FnOk P w K mg base CX0 1 f fd ["strengths", "lengths"] spChk := by
  refine F.ok sc__check_beads (fun vs H Q E h => ?_) (fun cdv A1 outer s H vs Q E hr h => ?_)
  · obtain ⟨ts, tl, ss, ls, rfl, _⟩ := h
    rfl
  · obtain ⟨ts, tl, ss, ls, rfl, h1, h2, h0, hl, hn, hs, hx, q⟩ := h
    refine ⟨_, (pss_cons (ps_if (PW.pt (pw_or (pt_cmpR op_eq (pe_callB (call_lenK K) (by rfl) T.m_len PySem.boot_len (pa_cons (pv 0) pa_nil)) pe_int (nomark _)) (pw_or1 (pt_cmpR op_ne (pe_callB (call_lenK K) (by rfl) T.m_len PySem.boot_len (pa_cons (pv 1) pa_nil)) (pe_callB (call_lenK K) (by rfl) T.m_len PySem.boot_len (pa_cons (pv 0) pa_nil)) (nomark _))))) (pss_one ps_never) pss_nil)
      (pss_one (ps_for (PassesOwn.never) rfl (pi_range1 rfl T.m_range (pa_cons (pe_callB (call_lenK K) (by rfl) T.m_len PySem.boot_len (pa_cons (pv 0) pa_nil)) pa_nil)) (pg_name (i := 2) sc__check_beads.nd rfl (Or.inl rfl)) (pss_one (ps_if (PW.pt (pw_or (pt_cmpR op_lt (pe_ix (ix_tupK K) (pv 0) (pv 2) (fun _ _ => rfl)) pe_int (nomark _)) (pw_or1 (pt_cmpR op_lt (pe_ix (ix_tupK K) (pv 1) (pv 2) (fun _ _ => rfl)) pe_int (nomark _))))) (pss_one ps_never) pss_nil))))), ?_⟩
    walk_at "rd"
    refine ⟨ts, _, rfl, .inr (SqT.of h1), ?_⟩
    rw [List.length_map]
    walk_at "rd"
    refine g_iff (decide_eq_false (by omega)) ?_
    walk_at "rd"
    refine ⟨tl, _, rfl, .inr (SqT.of h2), ?_⟩
    rw [List.length_map]
    walk_at "rd"
    refine ⟨ts, _, rfl, .inr (SqT.of h1), ?_⟩
    rw [List.length_map]
    walk_at "rd"
    refine g_iff (by rw [decide_eq_true (by omega)]; rfl) ?_
    walk_at "rd"
    refine ⟨ts, _, rfl, .inr (SqT.of h1), ?_⟩
    rw [List.length_map]
    walk_at "rd"
    refine ⟨_, rfl, by omega, by omega, for_range (lo := 0) (fun i σ H' => ∃ v2 : Option V, σ = [some (.ref ts), some (.ref tl), v2] ∧ H' = H) ⟨none, rfl, rfl⟩ ?_ ?_⟩
    · rintro i σ H' hi ⟨v2, rfl, rfl⟩
      have hi' : i < ss.length := by simpa using hi
      rw [Int.zero_add]
      walk_at "rd"
      refine g_ixT (SqT.of h1) (at_int hi') ?_
      walk_at "rd"
      have a1 := hs _ (getD_mem hi')
      have a2 := hx _ (getD_mem (l := ls) (i := i) (by omega))
      refine g_iff (decide_eq_false (by omega)) ?_
      walk_at "rd"
      refine g_ixT (SqT.of h2) (at_int (by omega)) ?_
      walk_at "rd"
      refine g_iff (decide_eq_false (by omega)) ?_
      walk_at "rd"
      exact ⟨_, rfl, rfl⟩
    · rintro σ H' ⟨v2, rfl, rfl⟩
      walk_at "rd"
      exact q
/-- a new standing of two lists -/
def spInit (K : PySem.W.Frag) (A : Ad) : Sp := fun vs H Q _ => ∃ (b dx sa la : Addr) (r : Bool) (ss ls : List Int), vs = [.ref b, .ref sa, .ref la, .bl r] ∧ H b = some (.ins A.Beads dx []) ∧ SqL K H sa (ss.map V.int) ∧ SqL K H la (ls.map V.int) ∧
  0 < ss.length ∧ ls.length = ss.length ∧ ss.length ≤ 1000 ∧ (∀ x ∈ ss, 0 ≤ x) ∧ (∀ x ∈ ls, 1 ≤ x) ∧ ∀ (ts tl : Addr) (H' : Hp), (∀ a o, a ≠ b → H a = some o → H' a = some o) → BAt A.Beads H' b ts tl r ss ls → Q .non H'
theorem ok_init (F : FunD K "__init__" "Beads.__init__" (defArgs s_Beads_init) (defBody s_Beads_init) (defScope s_Beads_init) [V.non] [("ring", V.bl true)] f fd) (T : Txt K mg A) (D__check_beads : DefOk P w K mg base CX0 1 "_check_beads" ["strengths", "lengths"] spChk) :
    FnOk P w K mg base CX0 2 f fd ["self", "strengths", "lengths", "ring"] (spInit K A) := by
  refine F.ok (CX := CX0) sc_Beads_init (fun vs H Q E h => ?_) (fun cdv A1 outer s H vs Q E hr h => ?_)
  · obtain ⟨b, dx, sa, la, r, ss, ls, rfl, _⟩ := h
    rfl
  · obtain ⟨b, dx, sa, la, r, ss, ls, rfl, hb, hs, hl, h0, hlen, hn, h1, h2, q⟩ := h
    refine ⟨_, (pss_cons (ps_fldK K (pv 0) (pe_callTy (call_tupleK K) (by rfl) T.m_tuple (by decide +kernel) (pa_cons (pv 1) pa_nil)) rfl)
      (pss_cons (ps_fldK K (pv 0) (pe_ifExp (pt_cmpR op_isN (pv 2) pe_non (nomark _)) (pe_op (op_repTK K) (pe_tup (pa_cons pe_int pa_nil)) (pe_callB (call_lenK K) (by rfl) T.m_len PySem.boot_len (pa_cons (pv 1) pa_nil))) (pe_callTy (call_tupleK K) (by rfl) T.m_tuple (by decide +kernel) (pa_cons (pv 2) pa_nil))) rfl)
      (pss_cons (ps_fldK K (pv 0) (pv 3) rfl)
      (pss_one (ps_expr (pe_callD D__check_beads (hr.mono (by decide)) pass0 (pa_cons (pe_fldK K (pv 0) rfl) (pa_cons (pe_fldK K (pv 0) rfl) pa_nil)))))))), ?_⟩
    walk_at "rd"
    refine ⟨sa, _, rfl, .inl ⟨hs, fun ts nts => ?_⟩⟩
    have nbt : b ≠ ts := ne_of_none hb nts
    walk_at "rd"
    refine ⟨b, _, dx, [], rfl, by rw [upd_ne nbt]; exact hb, T.cl, T.nS, by decide, ?_⟩
    walk_at "rd"
    have lift : ∀ (o o1 : HO), SqL K (upd (upd H ts o) b o1) la (ls.map V.int) := fun o o1 => by
      rcases hl with (h | ⟨z, h⟩) | h
      · have n1 : la ≠ ts := ne_of_none h nts
        have n2 : la ≠ b := fun e => by rw [e, hb] at h; cases h
        exact .inl (.inl (by rw [upd_ne n2, upd_ne n1]; exact h))
      · have n1 : la ≠ ts := ne_of_none h nts
        have n2 : la ≠ b := fun e => by rw [e, hb] at h; cases h
        exact .inl (.inr ⟨z, by rw [upd_ne n2, upd_ne n1]; exact h⟩)
      · exact .inr h
    refine ⟨la, _, rfl, .inl ⟨lift _ _, fun tl ntl => ?_⟩⟩
    have nbl : b ≠ tl := fun e => by rw [← e, upd_same] at ntl; cases ntl
    have ntl' : ts ≠ tl := fun e => by rw [← e, upd_ne nbt.symm, upd_same] at ntl; cases ntl
    walk_at "rd"
    refine ⟨b, _, dx, _, rfl, by rw [upd_ne nbl, upd_same], T.cl, T.nL, (by show 1 < 1000; decide), ?_⟩
    walk_at "rd"
    refine ⟨b, _, dx, _, rfl, upd_same, T.cl, T.nR, (Nat.lt_of_le_of_lt (length_putF _ _ _) (by show 1 + 1 < 1000; decide)), ?_⟩
    walk_at "rd"
    generalize hH : (upd (upd (upd (upd (upd H ts (.tup (ss.map V.int))) b _) tl (.tup (ls.map V.int))) b _) b _ : Hp) = H5
    have B5 : BAt A.Beads H5 b ts tl r ss ls := by
      refine ⟨⟨dx, by rw [← hH, upd_same]; rfl⟩, ?_, ?_⟩
      · rw [← hH, upd_ne nbt.symm, upd_ne nbt.symm, upd_ne ntl', upd_ne nbt.symm, upd_same]
      · rw [← hH, upd_ne nbl.symm, upd_ne nbl.symm, upd_same]
    have keep : ∀ a o, a ≠ b → H a = some o → H5 a = some o := fun a o nab ha => by
      have n1 : a ≠ ts := ne_of_none ha nts
      have n2 : a ≠ tl := fun z => by
        rw [← z, upd_ne nab, upd_ne n1, ha] at ntl; cases ntl
      rw [← hH, upd_ne nab, upd_ne nab, upd_ne n2, upd_ne nab, upd_ne n1]
      exact ha
    refine f_s T B5 ?_
    walk_at "rd"
    refine f_l T B5 ?_
    walk_at "rd"
    refine ⟨ts, tl, ss, ls, rfl, B5.st, B5.ln, h0, hlen, hn, h1, h2, ?_⟩
    walk_at "rd"
    exact q ts tl H5 keep B5
/-! ### is it a Beads -/
theorem g_isB (T : Txt K mg A) {H : Hp} {b ts tl : Addr} {r : Bool} {ss ls : List Int} {Q : VK} (B : BAt A.Beads H b ts tl r ss ls) (h : Q (.bl true) H) : rIsi K [.ref b, .ref A.Beads] H Q := by
  obtain ⟨dx, e⟩ := B.ob
  exact ⟨.ref b, .ref A.Beads, _, _, true, rfl, .own _, .base (.ins e T.cl T.iB1 T.iB2 T.iB3 T.iB4), T.iB5, h⟩
/-! ### _law_is_standing -/
def spStanding (K : PySem.W.Frag) (A : Ad) : Sp := fun vs H Q _ => ∃ (b ts tl la sa : Addr) (r : Bool) (ss ls : List Int), vs = [.ref b, .bl r, .ref la, .ref sa] ∧ BAt A.Beads H b ts tl r ss ls ∧ SqL K H la (ls.map V.int) ∧ SqL K H sa (ss.map V.int) ∧ ls.length ≤ 1000 ∧ ss.length ≤ 1000 ∧ Q (.bl true) H
theorem ok_standing (F : Fun K "_law_is_standing" "_law_is_standing" s__law_is_standing f fd) (T : Txt K mg A) (D__law_numbers : DefOk P w K mg base CX0 2 "_law_numbers" ["actual", "due", "as_tuple"] (Rt.spNumbers K)) : FnOk P w K mg base CX0 3 f fd ["actual", "round_flag", "sizes", "strengths"] (spStanding K A) := by
  refine F.ok sc__law_is_standing (fun vs H Q E h => ?_) (fun cdv A1 outer s H vs Q E hr h => ?_)
  · obtain ⟨b, ts, tl, la, sa, r, ss, ls, rfl, _⟩ := h
    rfl
  · obtain ⟨b, ts, tl, la, sa, r, ss, ls, rfl, B, hl, hs, nl, ns, q⟩ := h
    refine ⟨_, (pss_cons (ps_if (PW.pt (pw_or (pt_not (pt_val (pe_callB (call_isiQ K) (by rfl) T.m_isinstance (by decide +kernel) (pa_cons (pv 0) (pa_cons (pe_glob (v := .ref A.Beads) rfl T.g_Beads rfl) pa_nil))))) (pw_or (pt_not (pt_val (pe_callB (call_isiQ K) (by rfl) T.m_isinstance (by decide +kernel) (pa_cons (pe_fldK K (pv 0) rfl) (pa_cons (pe_bltn (v := .ty "bool") (by rfl) T.m_bool (by decide +kernel) rfl) pa_nil))))) (pw_or1 (pt_cmpR op_ne (pe_fldK K (pv 0) rfl) (pv 1) (nomark _)))))) (pss_one (ps_ret pe_bl)) pss_nil)
      (pss_one (ps_ret (pe_and (pe_callD D__law_numbers (hr.mono (by decide)) pass0 (pa_cons (pe_fldK K (pv 0) rfl) (pa_cons (pv 2) (pa_cons pe_bl pa_nil)))) (pe_one (pe_callD D__law_numbers (hr.mono (by decide)) pass0 (pa_cons (pe_fldK K (pv 0) rfl) (pa_cons (pv 3) (pa_cons pe_bl pa_nil))))))))), ?_⟩
    walk_at "rd"
    refine g_isB T B ?_
    walk_at "rd"
    refine f_r T B ?_
    walk_at "rd"
    refine g_isi (b := true) (.base (.bl r)) (by decide +kernel) ?_
    walk_at "rd"
    refine f_r T B ?_
    walk_at "rd"
    refine g_iff (by rw [decide_eq_true rfl]; rfl) ?_
    walk_at "rd"
    refine f_l T B ?_
    walk_at "rd"
    refine ⟨tl, la, true, ls, ls, rfl, B.ln, hl, by omega, ?_⟩
    rw [decide_eq_true rfl]
    walk_at "rd"
    refine f_s T B ?_
    walk_at "rd"
    refine ⟨ts, sa, true, ss, ss, rfl, B.st, hs, by omega, ?_⟩
    rw [decide_eq_true rfl]
    exact q
/-! ### -/
end
end Rt
set_option Elab.async false
set_option linter.all false
set_option maxRecDepth 100000
set_option maxHeartbeats 4000000
namespace Rt
open PySem PySem.Spec L2
open PyProof.Rows (envOfC)
local macro_rules | `(tactic| walk_at "rd1") => `(tactic| (with_reducible first
  | refine g_var (by with_unfolding_all rfl) ?_
  | refine g_c ?_
  | refine g_op ?_
  | refine g_I0 ?_
  | refine g_eqI ?_
  | refine g_neI ?_
  | refine g_eqB ?_
  | refine g_neB ?_
  | refine g_cons ?_
  | refine g_nil ?_
  | refine g_seq ?_
  | refine g_asg ?_
  | refine g_name ?_
  | refine g_ret ?_
  | refine g_retN ?_
  | refine g_drop ?_
  | refine g_next ?_
  | refine g_if ?_
  | refine g_test ?_
  | refine g_tB ?_
  | refine g_bl ?_
  | refine g_and ?_
  | refine g_or ?_
  | refine g_not ?_
  | refine g_andV ?_
  | refine g_orV ?_
  | refine g_notV ?_
  | refine g_ifE ?_
  | refine g_cb ?_
  | refine g_meth ?_
  | refine g_rev ?_
  | refine g_gcons ?_
  | refine g_gnil ?_
  | refine g_isB' ?_
  | refine g_gsub ?_
  | refine g_call ?_
  | refine g_callS ?_
  | refine g_bm ?_
  | refine g_un ?_
  | refine g_U ?_
  | refine g_chain ?_
  | refine g_sl ?_
  | refine g_brk ?_
  | refine g_ct ?_
  | refine g_ipI ?_
  | refine g_fld ?_
  | refine g_lst ?_
  | refine g_int ?_
  | refine g_for ?_
  | refine g_rg1 ?_
  | refine g_rg2 ?_
  | refine g_il ?_
  | refine g_it ?_
  | refine g_lc ?_
  | refine g_yes ?_
  | refine g_tup ?_
  | refine g_part ?_
  | refine g_xf ?_
  | refine g_nn ?_
  | refine g_mko ?_
  | refine g_lrg ?_
  | refine g_tr1 ?_
  | refine g_tr2 ?_
  | refine g_oi2 ?_
  | refine g_mk ?_
  | refine g_sfld ?_
  | refine g_ost ?_
  | refine g_oi ?_
  | refine g_nopart ?_
  | refine g_tt ?_
  | refine g_ff ?_
  | refine g_nt ?_
  | refine g_nf ?_
  | refine g_drn ?_
  | refine g_din ?_
  | refine g_dnn ?_
  | refine g_nrn ?_
  | refine g_nin ?_
  | refine g_nnn ?_))
local macro_rules | `(tactic| walk_at "rd") => `(tactic| (repeat walk_at "rd1"))

section
variable {P : Program} {w : World} {K : PySem.W.Frag} {mg : Str → Option Value} {base : Heap} {f : Addr} {fd : FuncData} {A : Ad}
/-! ### _law_lengths -/
def spLengths : Sp := fun vs H Q _ => ∃ (c : Int) (n : Nat), vs = [.int c, .int (n : Int)] ∧ n ≤ 900 ∧
  ∀ (p : Addr) (H' : Hp) (ls : List Int), H p = none → Same H H' → H' p = some (.lst (ls.map V.int)) → ls.length = n → (∀ x ∈ ls, 1 ≤ x ∧ x ≤ 1000000000) → Q (.ref p) H'
theorem ok_lengths (F : Fun K "_law_lengths" "_law_lengths" s__law_lengths f fd) (T : Txt K mg A) (D__law_draws : DefOk P w K mg base CX0 1 "_law_draws" ["cell", "sizes"] (Rt.spDraws K)) : FnOk P w K mg base CX0 2 f fd ["cell", "many"] Rt.spLengths := by
  refine F.ok sc__law_lengths (fun vs H Q E h => ?_) (fun cdv A1 outer s H vs Q E hr h => ?_)
  · obtain ⟨c, n, rfl, _⟩ := h
    rfl
  · obtain ⟨c, n, rfl, hn, q⟩ := h
    refine ⟨_, (pss_cons (ps_set (i := 2) sc__law_lengths.nd rfl (Or.inl rfl) (pe_ix (ix_listK K) (pe_callD D__law_draws (hr.mono (by decide)) pass0 (pa_cons (pv 0) (pa_cons (pe_lst (pa_cons pe_int pa_nil)) pa_nil))) pe_int (fun _ _ => rfl)))
      (pss_cons (ps_set (i := 3) sc__law_lengths.nd rfl (Or.inl rfl) (pe_ix (ix_listK K) (pe_lst (pa_cons pe_int (pa_cons pe_int (pa_cons pe_int (pa_cons (pe_op op_pow pe_int pe_int) pa_nil))))) (pv 2) (fun _ _ => rfl)))
      (pss_one (ps_ret (pe_lc (own := [("draw", 4)]) (g := gName 4) (tt := tYes) rfl sc__law_lengths.nd (pi_listK K (pe_slice (sl_listK K) (pe_callD D__law_draws (hr.mono (by decide)) pass0 (pa_cons (pv 0) (pa_cons (pe_op op_cat (pe_lst (pa_cons pe_int pa_nil)) (pe_op op_rep (pe_lst (pa_cons (pv 3) pa_nil)) (pv 1))) pa_nil))) (po_some pe_int) po_none)) (blkOk_by (N := ["cell", "many", "flavour", "size", "draw"]) (sc := defScope s__law_lengths) (by decide +kernel)) (fun _ _ _ _ _ => (by exact (pg_name (i := 4) sc__law_lengths.nd rfl (Or.inl rfl)))) (fun _ _ _ _ _ => (by exact pts_nil)) (fun _ _ _ _ _ => (by exact (pe_op op_add pe_int (pv 4))))))))), ?_⟩
    walk_at "rd"
    refine newL fun a Ha na Sa ha => ?_
    walk_at "rd"
    refine ⟨a, c, [4], rfl, SqL.of ha, by decide, fun i hi => ?_, fun p1 H1 ds np1 S1 h1 dr => ?_⟩
    · have : i = 0 := by simpa using hi
      subst this; decide
    have f0 := dr.at_ 0 (by decide)
    have f0b : ds.getD 0 0 < 4 := f0.2
    refine g_ixL (SqL.of h1) (at_int (o := 0) (by rw [dr.len]; decide)) ?_
    walk_at "rd"
    refine g_I ⟨by decide, by decide, by decide⟩ ?_
    walk_at "rd"
    refine newL fun a2 Ha2 na2 Sa2 ha2 => ?_
    walk_at "rd"
    generalize hfl : ds.getD 0 0 = fl at f0 f0b
    have hm := at_toNat (zs := [1, 1, 4, 10 ^ (9 : Int).toNat]) f0.1 (by simpa using f0b)
    generalize hsz : ([1, 1, 4, 10 ^ (9 : Int).toNat] : List Int).getD fl.toNat 0 = sz at hm
    have hsz2 : 1 ≤ sz ∧ sz ≤ 1000000000 := by
      have hc : fl = 0 ∨ fl = 1 ∨ fl = 2 ∨ fl = 3 := by omega
      rcases hc with z | z | z | z <;> (subst z; subst hsz; decide)
    refine g_ixL (xs := ([1, 1, 4, 10 ^ (9 : Int).toNat] : List Int).map V.int) (SqL.of ha2) hm ?_
    walk_at "rd"
    refine newL fun a3 Ha3 na3 Sa3 ha3 => ?_
    walk_at "rd"
    refine newL fun a4 Ha4 na4 Sa4 ha4 => ?_
    walk_at "rd"
    refine g_rep1 (k := n) ha4 (by omega) fun a5 Ha5 na5 Sa5 ha5 => ?_
    have S5 : Same Ha3 Ha5 := Sa4.trans Sa5
    refine g_cat (xs := [4]) (S5 _ _ ha3) ha5 (by rw [List.length_replicate]; simp; omega) fun a6 Ha6 na6 Sa6 ha6 => ?_
    walk_at "rd"
    refine ⟨a6, c, _, rfl, SqL.of ha6, by simp; omega, fun i hi => ?_, fun p2 H2 es np2 S2 h2 dr2 => ?_⟩
    · cases i with
      | zero => exact (by decide : (0 : Int) < 4 ∧ (4 : Int) < 2 ^ 64)
      | succ i =>
        have hi' : i < n := by simpa using hi
        have e : (([4] : List Int) ++ List.replicate n sz).getD (i + 1) 0 = sz := getD_rep hi'
        rw [e]; omega
    walk_at "rd"
    have dt : Dr (List.replicate n sz) (es.drop 1) := Dr.tail dr2
    refine g_sl1 (SqL.of h2) (by rw [dr2.len]; simp) fun p3 H3 np3 S3 h3 => ?_
    refine ⟨p3, rfl, ⟨_, SqL.of h3⟩, fun D nD => ?_⟩
    have hl : (es.drop 1).length = n := by rw [dt.len, List.length_replicate]
    have ST : Same H H3 := (((((((Sa.trans S1).trans Sa2).trans Sa3).trans Sa4).trans Sa5).trans Sa6).trans S2).trans S3
    refine lc_ints (fun x => 1 + x) (SqL.of h3) nD (by omega) (fun i x H' hx S' Q' hq => ?_) (fun H' S' h' => ?_)
    · walk_at "rd"
      refine ⟨rfl, ?_⟩
      walk_at "rd"
      exact hq H' (Same.refl _)
    · refine q D H' _ (ST.free nD) (ST.trans S') h' (by rw [List.length_map, hl]) fun y hy => ?_
      obtain ⟨x, hx, rfl⟩ := List.mem_map.mp hy
      obtain ⟨i, hi, rfl⟩ := mem_getD hx
      have hb := dt.at_ i (by rw [List.length_replicate]; omega)
      rw [getD_rep (by omega)] at hb
      show 1 ≤ 1 + _ ∧ 1 + _ ≤ _
      omega
/-! ### _law_strengths -/
theorem sl_draw {Q : VK} {p2 : Addr} {es ms : List Int} {H0 H2 : Hp} (ST : Same H0 H2) (h2 : H2 p2 = some (.lst (es.map V.int))) {m : Int} (dr : Dr (m :: ms) es) (hm : ∀ i, i < ms.length → ms.getD i 0 < 2 ^ 64)
    (q : ∀ (p : Addr) (H' : Hp) (ss : List Int), H0 p = none → Same H0 H' → H' p = some (.lst (ss.map V.int)) → ss.length = ms.length → (∀ x ∈ ss, 0 ≤ x ∧ x < 2 ^ 64) → Q (.ref p) H') : rSlL K (.ref p2) (some 1) none H2 Q := by
  refine g_sl1 (SqL.of h2) (by rw [dr.len]; simp) fun p3 H3 np3 S3 h3 => ?_
  have dt := Dr.tail dr
  refine q p3 H3 _ (ST.free np3) (ST.trans S3) h3 dt.len fun x hx => ?_
  obtain ⟨i, hi, rfl⟩ := mem_getD hx
  have hb := dt.at_ i (by rw [← dt.len]; exact hi)
  have hc := hm i (by rw [← dt.len]; exact hi)
  omega
def spStrengths (K : PySem.W.Frag) : Sp := fun vs H Q _ => ∃ (c : Int) (l : Addr) (ls : List Int), vs = [.int c, .ref l] ∧ SqL K H l (ls.map V.int) ∧ ls.length ≤ 900 ∧ (∀ x ∈ ls, 1 ≤ x ∧ x ≤ 1000000000) ∧
  ∀ (p : Addr) (H' : Hp) (ss : List Int), H p = none → Same H H' → H' p = some (.lst (ss.map V.int)) → ss.length = ls.length → (∀ x ∈ ss, 0 ≤ x ∧ x < 2 ^ 64) → Q (.ref p) H'
theorem ok_strengths (F : Fun K "_law_strengths" "_law_strengths" s__law_strengths f fd) (T : Txt K mg A) (D__law_draws : DefOk P w K mg base CX0 1 "_law_draws" ["cell", "sizes"] (Rt.spDraws K)) : FnOk P w K mg base CX0 2 f fd ["cell", "sizes"] (Rt.spStrengths K) := by
  refine F.ok sc__law_strengths (fun vs H Q E h => ?_) (fun cdv A1 outer s H vs Q E hr h => ?_)
  · obtain ⟨c, l, ls, rfl, _⟩ := h
    rfl
  · obtain ⟨c, l, ls, rfl, hs, hn, hb, q⟩ := h
    have t0 : 0 ≤ ls.sum := sum_ge fun x hx => by have := hb x hx; omega
    have t1 : ls.sum ≤ 1000000000 * ls.length := sum_le fun x hx => (hb x hx).2
    have t2 : ls.sum ≤ 900000000000 := by omega
    refine ⟨_, (pss_cons (ps_set (i := 2) sc__law_strengths.nd rfl (Or.inl rfl) (pe_ix (ix_listK K) (pe_callD D__law_draws (hr.mono (by decide)) pass0 (pa_cons (pv 0) (pa_cons (pe_lst (pa_cons pe_int pa_nil)) pa_nil))) pe_int (fun _ _ => rfl)))
      (pss_cons (ps_set (i := 3) sc__law_strengths.nd rfl (Or.inl rfl) (pe_callB (cr_sumK K rfl) (by rfl) T.m_sum (by decide +kernel) (pa_cons (pv 1) pa_nil)))
      (pss_cons (ps_if (pt_cmpR op_eq (pv 2) pe_int (nomark _)) (pss_one (ps_ret (pe_slice (sl_listK K) (pe_callD D__law_draws (hr.mono (by decide)) pass0 (pa_cons (pv 0) (pa_cons (pe_op op_cat (pe_lst (pa_cons pe_int pa_nil)) (pe_lc (own := [("size", 4)]) (g := gName 4) (tt := tYes) rfl sc__law_strengths.nd (pi_listK K (pv 1)) (blkOk_by (N := ["cell", "sizes", "flavour", "total", "size", "level", "most"]) (sc := defScope s__law_strengths) (by decide +kernel)) (fun _ _ _ _ _ => (by exact (pg_name (i := 4) sc__law_strengths.nd rfl (Or.inl rfl)))) (fun _ _ _ _ _ => (by exact pts_nil)) (fun _ _ _ _ _ => (by exact (pe_op op_add (pv 4) pe_int))))) pa_nil))) (po_some pe_int) po_none))) pss_nil)
      (pss_cons (ps_if (pt_cmpR op_eq (pv 2) pe_int (nomark _)) (pss_cons (ps_set (i := 5) sc__law_strengths.nd rfl (Or.inr rfl) (pe_ix (ix_listK K) (pe_callD D__law_draws (hr.mono (by decide)) pass0 (pa_cons (pv 0) (pa_cons (pe_lst (pa_cons pe_int (pa_cons (pe_op op_add (pv 3) pe_int) pa_nil))) pa_nil))) pe_int (fun _ _ => rfl)))
      (pss_one (ps_ret (pe_lc (own := [("size", 4)]) (g := gName 4) (tt := tYes) rfl sc__law_strengths.nd (pi_listK K (pv 1)) (blkOk_by (N := ["cell", "sizes", "flavour", "total", "size", "level", "most"]) (sc := defScope s__law_strengths) (by decide +kernel)) (fun _ _ _ _ _ => (by exact (pg_name (i := 4) sc__law_strengths.nd rfl (Or.inl rfl)))) (fun _ _ _ _ _ => (by exact pts_nil)) (fun _ _ _ _ _ => (by exact (pv 5))))))) pss_nil)
      (pss_cons (ps_set (i := 6) sc__law_strengths.nd rfl (Or.inl rfl) (pe_ix (ix_listK K) (pe_lst (pa_cons pe_int (pa_cons (pe_op op_add (pe_callB (call_lenK K) (by rfl) T.m_len PySem.boot_len (pa_cons (pv 1) pa_nil)) pe_int) (pa_cons (pe_op op_add (pv 3) pe_int) (pa_cons pe_int (pa_cons pe_int (pa_cons (pe_op op_add (pe_op op_pow pe_int pe_int) pe_int) pa_nil))))))) (pv 2) (fun _ _ => rfl)))
      (pss_one (ps_ret (pe_slice (sl_listK K) (pe_callD D__law_draws (hr.mono (by decide)) pass0 (pa_cons (pv 0) (pa_cons (pe_op op_cat (pe_lst (pa_cons pe_int pa_nil)) (pe_op op_rep (pe_lst (pa_cons (pv 6) pa_nil)) (pe_callB (call_lenK K) (by rfl) T.m_len PySem.boot_len (pa_cons (pv 1) pa_nil)))) pa_nil))) (po_some pe_int) po_none)))))))), ?_⟩
    walk_at "rd"
    refine newL fun a Ha na Sa ha => ?_
    walk_at "rd"
    refine ⟨a, c, [6], rfl, SqL.of ha, by decide, fun i hi => ?_, fun p1 H1 ds np1 S1 h1 dr => ?_⟩
    · have : i = 0 := by simpa using hi
      subst this; decide
    have f0 := dr.at_ 0 (by decide)
    have f0b : ds.getD 0 0 < 6 := f0.2
    refine g_ixL (SqL.of h1) (at_int (o := 0) (by rw [dr.len]; decide)) ?_
    generalize hfl : ds.getD 0 0 = fl at f0 f0b
    walk_at "rd"
    have SA : Same H H1 := Sa.trans S1
    refine ⟨l, ls, rfl, SA.seq hs, ?_⟩
    walk_at "rd"
    refine g_ite (fun e => ?_) (fun e => ?_)
    · walk_at "rd"
      refine newL fun a4 Ha4 na4 Sa4 ha4 => ?_
      walk_at "rd"
      have SB : Same H Ha4 := SA.trans Sa4
      refine ⟨l, rfl, ⟨_, SB.seq hs⟩, fun D nD => ?_⟩
      refine lc_ints (fun x => x + 1) (SB.seq hs) nD (by omega) (fun i x H' hx S' Q' hq => ?_) (fun H' S' h' => ?_)
      · walk_at "rd"
        refine ⟨rfl, ?_⟩
        walk_at "rd"
        exact hq H' (Same.refl _)
      · refine g_cat (xs := [6]) (S' _ _ ha4) h' (by simp; omega) fun a6 Ha6 na6 Sa6 ha6 => ?_
        walk_at "rd"
        refine ⟨a6, c, _, rfl, SqL.of ha6, by simp; omega, fun i hi => ?_, fun p2 H2 es np2 S2 h2 dr2 => ?_⟩
        · cases i with
          | zero => exact (by decide : (0 : Int) < 6 ∧ (6 : Int) < 2 ^ 64)
          | succ i =>
            have hi' : i < ls.length := by simpa using hi
            have e : (([6] : List Int) ++ ls.map fun x => x + 1).getD (i + 1) 0 = ls.getD i 0 + 1 := getD_map hi'
            have := hb _ (getD_mem hi')
            rw [e]; omega
        walk_at "rd"
        refine sl_draw (m := 6) (ms := ls.map fun x => x + 1) (((SB.trans S').trans Sa6).trans S2) h2 dr2 (fun i hi => ?_) fun p H' ss np S h hl hx => q p H' ss np S h (by rw [hl, List.length_map]) hx
        have hi' : i < ls.length := by simpa using hi
        have := hb _ (getD_mem hi')
        rw [getD_map hi']; omega
    · walk_at "rd"
      refine g_ite (fun e4 => ?_) (fun e4 => ?_)
      · walk_at "rd"
        refine newL fun a6 Ha6 na6 Sa6 ha6 => ?_
        walk_at "rd"
        refine ⟨a6, c, [6, ls.sum + 3], rfl, SqL.of ha6, by simp, fun i hi => ?_, fun p2 H2 es np2 S2 h2 dr2 => ?_⟩
        · have : i = 0 ∨ i = 1 := by have : i < 2 := by simpa using hi
                                     omega
          rcases this with z | z <;> subst z
          · exact (by decide : (0 : Int) < 6 ∧ (6 : Int) < 2 ^ 64)
          · exact (by omega : (0 : Int) < ls.sum + 3 ∧ ls.sum + 3 < 2 ^ 64)
        have g1 := dr2.at_ 1 (by simp)
        have g1b : es.getD 1 0 < ls.sum + 3 := g1.2
        refine g_ixL (SqL.of h2) (at_int (o := 1) (by rw [dr2.len]; simp)) ?_
        generalize hlv : es.getD 1 0 = lv at g1 g1b
        walk_at "rd"
        have SB : Same H H2 := (SA.trans Sa6).trans S2
        refine ⟨l, rfl, ⟨_, SB.seq hs⟩, fun D nD => ?_⟩
        refine lc_ints (fun _ => lv) (SB.seq hs) nD (by omega) (fun i x H' hx S' Q' hq => ?_) (fun H' S' h' => ?_)
        · walk_at "rd"
          refine ⟨rfl, ?_⟩
          walk_at "rd"
          exact hq H' (Same.refl _)
        · refine q D H' _ (SB.free nD) (SB.trans S') h' (by rw [List.length_map]) fun y hy => ?_
          obtain ⟨x, hx, rfl⟩ := List.mem_map.mp hy
          show 0 ≤ lv ∧ lv < _
          omega
      · walk_at "rd"
        refine ⟨l, _, rfl, .inl (SA.seq hs), ?_⟩
        rw [List.length_map]
        walk_at "rd"
        refine g_I ⟨by decide, by decide, by decide⟩ ?_
        walk_at "rd"
        refine newL fun a5 Ha5 na5 Sa5 ha5 => ?_
        walk_at "rd"
        have hm := at_toNat (zs := [3, (ls.length : Int) + 2, ls.sum + 3, 0, 0, 10 ^ (12 : Int).toNat + 1]) f0.1 (by simpa using f0b)
        generalize hsz : ([3, (ls.length : Int) + 2, ls.sum + 3, 0, 0, 10 ^ (12 : Int).toNat + 1] : List Int).getD fl.toNat 0 = sz at hm
        have hsz2 : 0 < sz ∧ sz < 2 ^ 64 := by
          have n3 : fl ≠ 3 := by simpa using e
          have n4 : fl ≠ 4 := by simpa using e4
          have hc : fl = 0 ∨ fl = 1 ∨ fl = 2 ∨ fl = 5 := by omega
          rcases hc with z | z | z | z <;> (subst z; subst hsz)
          · exact (by decide : (0 : Int) < 3 ∧ (3 : Int) < 2 ^ 64)
          · exact (by omega : (0 : Int) < (ls.length : Int) + 2 ∧ (ls.length : Int) + 2 < 2 ^ 64)
          · exact (by omega : (0 : Int) < ls.sum + 3 ∧ ls.sum + 3 < 2 ^ 64)
          · exact (by decide : (0 : Int) < 10 ^ (12 : Int).toNat + 1 ∧ (10 : Int) ^ (12 : Int).toNat + 1 < 2 ^ 64)
        refine g_ixL (xs := ([3, (ls.length : Int) + 2, ls.sum + 3, 0, 0, 10 ^ (12 : Int).toNat + 1] : List Int).map V.int) (SqL.of ha5) hm ?_
        walk_at "rd"
        refine newL fun a3 Ha3 na3 Sa3 ha3 => ?_
        walk_at "rd"
        refine newL fun a4 Ha4 na4 Sa4 ha4 => ?_
        walk_at "rd"
        have SC : Same H Ha4 := (((SA.trans Sa5).trans Sa3).trans Sa4)
        refine ⟨l, _, rfl, .inl (SC.seq hs), ?_⟩
        rw [List.length_map]
        refine g_rep1 (k := ls.length) ha4 (by omega) fun a7 Ha7 na7 Sa7 ha7 => ?_
        have S5 : Same Ha3 Ha7 := Sa4.trans Sa7
        refine g_cat (xs := [6]) (S5 _ _ ha3) ha7 (by rw [List.length_replicate]; simp; omega) fun a6 Ha6 na6 Sa6 ha6 => ?_
        walk_at "rd"
        refine ⟨a6, c, _, rfl, SqL.of ha6, by simp; omega, fun i hi => ?_, fun p2 H2 es np2 S2 h2 dr2 => ?_⟩
        · cases i with
          | zero => exact (by decide : (0 : Int) < 6 ∧ (6 : Int) < 2 ^ 64)
          | succ i =>
            have hi' : i < ls.length := by simpa using hi
            have e : (([6] : List Int) ++ List.replicate ls.length sz).getD (i + 1) 0 = sz := getD_rep hi'
            rw [e]; omega
        walk_at "rd"
        refine sl_draw (m := 6) (ms := List.replicate ls.length sz) (((SC.trans Sa7).trans Sa6).trans S2) h2 dr2 (fun i hi => ?_) fun p H' ss np S h hl hx => q p H' ss np S h (by rw [hl, List.length_replicate]) hx
        have hi' : i < ls.length := by simpa using hi
        rw [getD_rep hi']; omega
/-! ### _law_reach -/
def spReach (K : PySem.W.Frag) : Sp := fun vs H Q _ => ∃ (r : Bool) (la sa : Addr) (ls ss : List Int) (p : Nat), vs = [.bl r, .ref la, .ref sa, .int (p : Int)] ∧ SqL K H la (ls.map V.int) ∧ SqL K H sa (ss.map V.int) ∧ ls.length = ss.length ∧ p < ss.length ∧ ss.length ≤ 1000 ∧ Q (.int (rch r ss ls p)) H
theorem ok_reach (F : Fun K "_law_reach" "_law_reach" s__law_reach f fd) (T : Txt K mg A) : FnOk P w K mg base CX0 1 f fd ["round_flag", "sizes", "strengths", "place"] (Rt.spReach K) := by
  refine F.ok sc__law_reach (fun vs H Q E h => ?_) (fun cdv A1 outer s H vs Q E hr h => ?_)
  · obtain ⟨r, la, sa, ls, ss, p, rfl, _⟩ := h
    rfl
  · obtain ⟨r, la, sa, ls, ss, p, rfl, hl, hs, el, hp, hn, q⟩ := h
    refine ⟨_, (pss_cons (ps_set (i := 4) sc__law_reach.nd rfl (Or.inl rfl) (pe_ix (ix_listK K) (pv 1) (pv 3) (fun _ _ => rfl)))
      (pss_cons (ps_for (PassesOwn.never) rfl (pi_range2 rfl T.m_range (pa_cons pe_int (pa_cons (pe_callB (call_lenK K) (by rfl) T.m_len PySem.boot_len (pa_cons (pv 1) pa_nil)) pa_nil))) (pg_name (i := 5) sc__law_reach.nd rfl (Or.inl rfl)) (pss_cons (ps_set (i := 6) sc__law_reach.nd rfl (Or.inl rfl) (pe_op op_add (pv 3) (pv 5)))
      (pss_cons (ps_if (pt_cmpR op_ge (pv 6) (pe_callB (call_lenK K) (by rfl) T.m_len PySem.boot_len (pa_cons (pv 1) pa_nil)) (nomark _)) (pss_cons (ps_if (pt_not (pt_val (pv 0))) (pss_one ps_break) pss_nil)
      (pss_one (ps_set (i := 6) sc__law_reach.nd rfl (Or.inl rfl) (pe_op op_sub (pv 6) (pe_callB (call_lenK K) (by rfl) T.m_len PySem.boot_len (pa_cons (pv 1) pa_nil)))))) pss_nil)
      (pss_cons (ps_if (pt_cmpR op_ge (pe_ix (ix_listK K) (pv 2) (pv 6) (fun _ _ => rfl)) (pe_ix (ix_listK K) (pv 2) (pv 3) (fun _ _ => rfl)) (nomark _)) (pss_one ps_break) pss_nil)
      (pss_one (ps_set (i := 4) sc__law_reach.nd rfl (Or.inl rfl) (pe_op op_add (pv 4) (pe_ix (ix_listK K) (pv 1) (pv 6) (fun _ _ => rfl)))))))))
      (pss_one (ps_ret (pv 4))))), ?_⟩
    walk_at "rd"
    refine g_ixL hl (at_int (by omega)) ?_
    walk_at "rd"
    refine ⟨la, _, rfl, .inl hl, ?_⟩
    rw [List.length_map, el]
    walk_at "rd"
    refine ⟨1, _, rfl, ⟨by decide, by decide, by omega, by omega⟩, ?_⟩
    have en : ((ss.length : Int) - 1).toNat = ss.length - 1 := by omega
    rw [en]
    refine for_range (lo := 1) (fun i σ H' => ∃ v5 v6 : Option V, σ = [some (.bl r), some (.ref la), some (.ref sa), some (.int (p : Int)), some (.int (ls.getD p 0 + (((run r ss.length p).take i).map fun o => ls.getD o 0).sum)), v5, v6] ∧ H' = H ∧ Wkd r ss p i)
      ⟨none, none, by rw [List.take_zero, List.map_nil, List.sum_nil, Int.add_zero]; rfl, rfl, Wkd.zero⟩ ?_ ?_
    · rintro i σ H' hi ⟨v5, v6, rfl, rfl, wkd⟩
      walk_at "rd"
      refine ⟨la, _, rfl, .inl hl, ?_⟩
      rw [List.length_map, el]
      walk_at "rd"
      have hrun := run_at (r := r) hp (i := i) (by omega)
      refine g_ite (fun e => ?ca) (fun e => ?cb)
      case' ca =>
        walk_at "rd"
        refine g_ite (fun e2 => ?cc) (fun e2 => ?cd)
      case cc =>
        have hge : ¬ p + 1 + i < ss.length := by have := of_decide_eq_true e; omega
        have er : r = false := by simpa using e2
        subst er
        have full := wkd.full (by rw [run_len hp, if_neg Bool.false_ne_true]; omega)
        walk_at "rd"
        have eq : ls.getD p 0 + (((run false ss.length p).take i).map fun o => ls.getD o 0).sum = rch false ss ls p := by unfold rch; rw [full.1]
        rw [eq]
        exact q
      case' cd =>
        have hge : ¬ p + 1 + i < ss.length := by have := of_decide_eq_true e; omega
        have er : r = true := by simpa using e2
        rw [if_neg hge, if_pos er] at hrun
        walk_at "rd"
        refine ⟨la, _, rfl, .inl hl, ?_⟩
        rw [List.length_map, el]
        walk_at "rd"
        obtain ⟨o, ho, hol, eo⟩ : ∃ o : Nat, (run r ss.length p)[i]? = some o ∧ o < ss.length ∧ (p : Int) + (1 + (i : Int)) - (ss.length : Int) = (o : Int) := ⟨_, hrun, by omega, by omega⟩
        rw [eo]
      case' cb =>
        have hlt : p + 1 + i < ss.length := by have := of_decide_eq_false e; omega
        rw [if_pos hlt] at hrun
        walk_at "rd"
        obtain ⟨o, ho, hol, eo⟩ : ∃ o : Nat, (run r ss.length p)[i]? = some o ∧ o < ss.length ∧ (p : Int) + (1 + (i : Int)) = (o : Int) := ⟨_, hrun, by omega, by omega⟩
        rw [eo]
      all_goals
        refine g_ixL hs (at_int hol) ?_
        walk_at "rd"
        refine g_ixL hs (at_int hp) ?_
        walk_at "rd"
        refine g_ite (fun e3 => ?_) (fun e3 => ?_)
        · have stop := wkd.stop ho (wk_f e3)
          walk_at "rd"
          have eq : ls.getD p 0 + (((run r ss.length p).take i).map fun o => ls.getD o 0).sum = rch r ss ls p := by unfold rch; rw [stop.1]
          rw [eq]
          exact q
        · walk_at "rd"
          refine g_ixL hl (at_int (by omega)) ?_
          walk_at "rd"
          exact ⟨_, _, by rw [sum_more ho, Int.add_assoc]; rfl, rfl, wkd.more ho (wk_t e3)⟩
    · rintro σ H' ⟨v5, v6, rfl, rfl, wkd⟩
      have full := wkd.full (by have := run_le (r := r) hp; omega)
      walk_at "rd"
      have eq : ls.getD p 0 + (((run r ss.length p).take (ss.length - 1)).map fun o => ls.getD o 0).sum = rch r ss ls p := by unfold rch; rw [full.1]
      rw [eq]
      exact q
/-! ### -/
end
end Rt
set_option Elab.async false
set_option linter.all false
set_option maxRecDepth 100000
set_option maxHeartbeats 4000000
namespace Rt
open PySem PySem.Spec L2
open PyProof.Rows (envOfC)
local macro_rules | `(tactic| walk_at "rd1") => `(tactic| (with_reducible first
  | refine g_var (by with_unfolding_all rfl) ?_
  | refine g_c ?_
  | refine g_op ?_
  | refine g_I0 ?_
  | refine g_eqI ?_
  | refine g_neI ?_
  | refine g_eqB ?_
  | refine g_neB ?_
  | refine g_cons ?_
  | refine g_nil ?_
  | refine g_seq ?_
  | refine g_asg ?_
  | refine g_name ?_
  | refine g_ret ?_
  | refine g_retN ?_
  | refine g_drop ?_
  | refine g_next ?_
  | refine g_if ?_
  | refine g_test ?_
  | refine g_tB ?_
  | refine g_bl ?_
  | refine g_and ?_
  | refine g_or ?_
  | refine g_not ?_
  | refine g_andV ?_
  | refine g_orV ?_
  | refine g_notV ?_
  | refine g_ifE ?_
  | refine g_cb ?_
  | refine g_meth ?_
  | refine g_rev ?_
  | refine g_gcons ?_
  | refine g_gnil ?_
  | refine g_isB' ?_
  | refine g_gsub ?_
  | refine g_call ?_
  | refine g_callS ?_
  | refine g_bm ?_
  | refine g_un ?_
  | refine g_U ?_
  | refine g_chain ?_
  | refine g_sl ?_
  | refine g_brk ?_
  | refine g_ct ?_
  | refine g_ipI ?_
  | refine g_fld ?_
  | refine g_lst ?_
  | refine g_int ?_
  | refine g_for ?_
  | refine g_rg1 ?_
  | refine g_rg2 ?_
  | refine g_il ?_
  | refine g_it ?_
  | refine g_lc ?_
  | refine g_yes ?_
  | refine g_tup ?_
  | refine g_part ?_
  | refine g_xf ?_
  | refine g_nn ?_
  | refine g_mko ?_
  | refine g_lrg ?_
  | refine g_tr1 ?_
  | refine g_tr2 ?_
  | refine g_oi2 ?_
  | refine g_mk ?_
  | refine g_sfld ?_
  | refine g_ost ?_
  | refine g_oi ?_
  | refine g_nopart ?_
  | refine g_tt ?_
  | refine g_ff ?_
  | refine g_nt ?_
  | refine g_nf ?_
  | refine g_drn ?_
  | refine g_din ?_
  | refine g_dnn ?_
  | refine g_nrn ?_
  | refine g_nin ?_
  | refine g_nnn ?_))
local macro_rules | `(tactic| walk_at "rd") => `(tactic| (repeat walk_at "rd1"))

local macro_rules | `(tactic| walk_at "rd1") => `(tactic| (with_reducible first
  | refine g_lrev ?_
  | refine g_enum ?_
  | refine g_ckw ?_
  | refine g_max2 ?_
  | refine g_min2 ?_))
section
variable {P : Program} {w : World} {K : PySem.W.Frag} {mg : Str → Option Value} {base : Heap} {f : Addr} {fd : FuncData} {A : Ad}
/-! ### a standing, in numbers -/
structure StOk (ss ls : List Int) : Prop where
  n0 : 0 < ss.length
  n1 : ss.length ≤ 1000
  len : ls.length = ss.length
  s0 : ∀ x ∈ ss, 0 ≤ x
  l1 : ∀ x ∈ ls, 1 ≤ x
theorem StOk.pos {ss ls : List Int} (h : StOk ss ls) : Pos' ss ls := ⟨h.len, fun o ho => h.l1 _ (getD_mem (by rw [h.len]; exact ho))⟩
theorem StOk.rnd {ss ls : List Int} (r : Bool) (h : StOk ss ls) : StOk (rnd r ls ss) ls where
  n0 := by rw [rnd_len]; exact h.n0
  n1 := by rw [rnd_len]; exact h.n1
  len := by rw [rnd_len]; exact h.len
  s0 := fun x hx => by
    obtain ⟨p, hp, rfl⟩ := List.mem_map.mp hx
    have hp' := List.mem_range.mp hp
    have a := h.pos.pos p hp'
    have b := sm_ge0 (ls := ls) (trn r ss p) fun o ho => by have := h.pos.pos o (trn_lt hp' o ho); omega
    rw [rch_eq]; omega
  l1 := h.l1
theorem StOk.row {ss ls : List Int} (r : Bool) (h : StOk ss ls) : ∀ k, StOk (row r ls ss k) ls
  | 0 => h
  | k + 1 => (h.row r k).rnd r
/-! ### Beads.__init__ : a new standing of two tuples, of a list and a tuple -/
def spInitX (A : Ad) (c : Bool) : Sp := fun vs H Q _ => ∃ (b dx sa tl : Addr) (r : Bool) (ss ls : List Int), vs = [.ref b, .ref sa, .ref tl, .bl r] ∧ H b = some (.ins A.Beads dx []) ∧ H sa = some (if c = true then .tup (ss.map V.int) else .lst (ss.map V.int)) ∧ H tl = some (.tup (ls.map V.int)) ∧ StOk ss ls ∧
  ∀ (ts : Addr) (H' : Hp), (c = true → ts = sa) → (∀ a o, a ≠ b → H a = some o → H' a = some o) → BAt A.Beads H' b ts tl r ss ls → Q .non H'
theorem ok_initT (F : FunD K "__init__" "Beads.__init__" (defArgs s_Beads_init) (defBody s_Beads_init) (defScope s_Beads_init) [V.non] [("ring", V.bl true)] f fd) (T : Txt K mg A) (D__check_beads : DefOk P w K mg base CX0 1 "_check_beads" ["strengths", "lengths"] spChk) :
    FnOk P w K mg base CX0 2 f fd ["self", "strengths", "lengths", "ring"] (spInitX A true) := by
  refine F.ok (CX := CX0) sc_Beads_init (fun vs H Q E h => ?_) (fun cdv A1 outer s H vs Q E hr h => ?_)
  · obtain ⟨b, dx, sa, la, r, ss, ls, rfl, _⟩ := h
    rfl
  · obtain ⟨b, dx, ts, tl, r, ss, ls, rfl, hb, hs, hl, ok, q⟩ := h
    have hs : H ts = some (.tup (ss.map V.int)) := hs
    have n1 : ts ≠ b := fun z => by rw [z, hb] at hs; cases hs
    have n2 : tl ≠ b := fun z => by rw [z, hb] at hl; cases hl
    refine ⟨_, (pss_cons (ps_fldK K (pv 0) (pe_callTy (call_tupleK K) (by rfl) T.m_tuple (by decide +kernel) (pa_cons (pv 1) pa_nil)) rfl)
      (pss_cons (ps_fldK K (pv 0) (pe_ifExp (pt_cmpR op_isN (pv 2) pe_non (nomark _)) (pe_op (op_repTK K) (pe_tup (pa_cons pe_int pa_nil)) (pe_callB (call_lenK K) (by rfl) T.m_len PySem.boot_len (pa_cons (pv 1) pa_nil))) (pe_callTy (call_tupleK K) (by rfl) T.m_tuple (by decide +kernel) (pa_cons (pv 2) pa_nil))) rfl)
      (pss_cons (ps_fldK K (pv 0) (pv 3) rfl)
      (pss_one (ps_expr (pe_callD D__check_beads (hr.mono (by decide)) pass0 (pa_cons (pe_fldK K (pv 0) rfl) (pa_cons (pe_fldK K (pv 0) rfl) pa_nil)))))))), ?_⟩
    walk_at "rd"
    refine ⟨ts, _, rfl, .inr ⟨SqT.of hs, ?_⟩⟩
    walk_at "rd"
    refine ⟨b, _, dx, [], rfl, hb, T.cl, T.nS, by decide, ?_⟩
    walk_at "rd"
    refine ⟨tl, _, rfl, .inr ⟨SqT.of (by rw [upd_ne n2]; exact hl), ?_⟩⟩
    walk_at "rd"
    refine ⟨b, _, dx, _, rfl, upd_same, T.cl, T.nL, (by show 1 < 1000; decide), ?_⟩
    walk_at "rd"
    refine ⟨b, _, dx, _, rfl, upd_same, T.cl, T.nR, (Nat.lt_of_le_of_lt (length_putF _ _ _) (by show 1 + 1 < 1000; decide)), ?_⟩
    walk_at "rd"
    generalize hH : (upd (upd (upd H b _) b _) b _ : Hp) = H5
    have B5 : BAt A.Beads H5 b ts tl r ss ls := by
      refine ⟨⟨dx, by rw [← hH, upd_same]; rfl⟩, ?_, ?_⟩
      · rw [← hH, upd_ne n1, upd_ne n1, upd_ne n1]; exact hs
      · rw [← hH, upd_ne n2, upd_ne n2, upd_ne n2]; exact hl
    have keep : ∀ a o, a ≠ b → H a = some o → H5 a = some o := fun a o nab ha => by
      rw [← hH, upd_ne nab, upd_ne nab, upd_ne nab]
      exact ha
    refine f_s T B5 ?_
    walk_at "rd"
    refine f_l T B5 ?_
    walk_at "rd"
    refine ⟨ts, tl, ss, ls, rfl, B5.st, B5.ln, ok.n0, ok.len, ok.n1, ok.s0, ok.l1, ?_⟩
    walk_at "rd"
    exact q ts H5 (fun _ => rfl) keep B5
theorem ok_initM (F : FunD K "__init__" "Beads.__init__" (defArgs s_Beads_init) (defBody s_Beads_init) (defScope s_Beads_init) [V.non] [("ring", V.bl true)] f fd) (T : Txt K mg A) (D__check_beads : DefOk P w K mg base CX0 1 "_check_beads" ["strengths", "lengths"] spChk) :
    FnOk P w K mg base CX0 2 f fd ["self", "strengths", "lengths", "ring"] (spInitX A false) := by
  refine F.ok (CX := CX0) sc_Beads_init (fun vs H Q E h => ?_) (fun cdv A1 outer s H vs Q E hr h => ?_)
  · obtain ⟨b, dx, sa, la, r, ss, ls, rfl, _⟩ := h
    rfl
  · obtain ⟨b, dx, sa, tl, r, ss, ls, rfl, hb, hs, hl, ok, q⟩ := h
    have hs : H sa = some (.lst (ss.map V.int)) := hs
    have n2 : tl ≠ b := fun z => by rw [z, hb] at hl; cases hl
    refine ⟨_, (pss_cons (ps_fldK K (pv 0) (pe_callTy (call_tupleK K) (by rfl) T.m_tuple (by decide +kernel) (pa_cons (pv 1) pa_nil)) rfl)
      (pss_cons (ps_fldK K (pv 0) (pe_ifExp (pt_cmpR op_isN (pv 2) pe_non (nomark _)) (pe_op (op_repTK K) (pe_tup (pa_cons pe_int pa_nil)) (pe_callB (call_lenK K) (by rfl) T.m_len PySem.boot_len (pa_cons (pv 1) pa_nil))) (pe_callTy (call_tupleK K) (by rfl) T.m_tuple (by decide +kernel) (pa_cons (pv 2) pa_nil))) rfl)
      (pss_cons (ps_fldK K (pv 0) (pv 3) rfl)
      (pss_one (ps_expr (pe_callD D__check_beads (hr.mono (by decide)) pass0 (pa_cons (pe_fldK K (pv 0) rfl) (pa_cons (pe_fldK K (pv 0) rfl) pa_nil)))))))), ?_⟩
    walk_at "rd"
    refine ⟨sa, _, rfl, .inl ⟨SqL.of hs, fun ts nts => ?_⟩⟩
    have nbt : b ≠ ts := ne_of_none hb nts
    have n3 : tl ≠ ts := ne_of_none hl nts
    walk_at "rd"
    refine ⟨b, _, dx, [], rfl, by rw [upd_ne nbt]; exact hb, T.cl, T.nS, by decide, ?_⟩
    walk_at "rd"
    refine ⟨tl, _, rfl, .inr ⟨SqT.of (by rw [upd_ne n2, upd_ne n3]; exact hl), ?_⟩⟩
    walk_at "rd"
    refine ⟨b, _, dx, _, rfl, upd_same, T.cl, T.nL, (by show 1 < 1000; decide), ?_⟩
    walk_at "rd"
    refine ⟨b, _, dx, _, rfl, upd_same, T.cl, T.nR, (Nat.lt_of_le_of_lt (length_putF _ _ _) (by show 1 + 1 < 1000; decide)), ?_⟩
    walk_at "rd"
    generalize hH : (upd (upd (upd (upd H ts _) b _) b _) b _ : Hp) = H5
    have B5 : BAt A.Beads H5 b ts tl r ss ls := by
      refine ⟨⟨dx, by rw [← hH, upd_same]; rfl⟩, ?_, ?_⟩
      · rw [← hH, upd_ne nbt.symm, upd_ne nbt.symm, upd_ne nbt.symm, upd_same]
      · rw [← hH, upd_ne n2, upd_ne n2, upd_ne n2, upd_ne n3]; exact hl
    have keep : ∀ a o, a ≠ b → H a = some o → H5 a = some o := fun a o nab ha => by
      rw [← hH, upd_ne nab, upd_ne nab, upd_ne nab, upd_ne (ne_of_none ha nts)]
      exact ha
    refine f_s T B5 ?_
    walk_at "rd"
    refine f_l T B5 ?_
    walk_at "rd"
    refine ⟨ts, tl, ss, ls, rfl, B5.st, B5.ln, ok.n0, ok.len, ok.n1, ok.s0, ok.l1, ?_⟩
    walk_at "rd"
    exact q ts H5 (fun z => by cases z) keep B5
/-- a new standing, of two lists, of two tuples, of a list and a tuple -/
def spNew (K : PySem.W.Frag) (A : Ad) : Sp := fun vs H Q E => spInit K A vs H Q E ∨ (spInitX A true vs H Q E ∨ spInitX A false vs H Q E)
def gBeads (vs zs : List V) : List V := vs ++ zs
theorem mk_newL {H : Hp} {Q : VK} {E : XK} {g1 g2 : Addr} {r : Bool} {ss ls : List Int} (h1 : H g1 = some (.lst (ss.map V.int))) (h2 : H g2 = some (.lst (ls.map V.int))) (ok : StOk ss ls)
    (q : ∀ (x ts tl : Addr) (H' : Hp), H x = none → Same H H' → BAt A.Beads H' x ts tl r ss ls → Q (.ref x) H') : MakeK A.Beads (spNew K A) 2 1 gBeads E [.ref g1, .ref g2] [.bl r] H Q := by
  refine ⟨rfl, rfl, fun x dx nx ndx ne => ?_⟩
  have SM : Same H (upd (upd H dx (.own x)) x (.ins A.Beads dx [])) := (L2.Same.new ndx).trans (L2.Same.new (by rw [upd_ne ne.symm]; exact nx))
  exact .inl ⟨x, dx, g1, g2, r, ss, ls, rfl, upd_same, SqL.of (SM _ _ h1), SqL.of (SM _ _ h2), ok.n0, ok.len, ok.n1, ok.s0, ok.l1, fun ts tl H8 kp B => ⟨rfl, q x ts tl H8 nx (L2.Same.made nx ndx (fun b o h1 h2 => kp b o h2 h1)) B⟩⟩
theorem mk_newX {H : Hp} {Q : VK} {E : XK} {c : Bool} {g1 g2 : Addr} {r : Bool} {ss ls : List Int} (h1 : H g1 = some (if c = true then .tup (ss.map V.int) else .lst (ss.map V.int))) (h2 : H g2 = some (.tup (ls.map V.int))) (ok : StOk ss ls)
    (q : ∀ (x ts : Addr) (H' : Hp), H x = none → Same H H' → (c = true → ts = g1) → BAt A.Beads H' x ts g2 r ss ls → Q (.ref x) H') : MakeK A.Beads (spNew K A) 2 1 gBeads E [.ref g1, .ref g2] [.bl r] H Q := by
  refine ⟨rfl, rfl, fun x dx nx ndx ne => ?_⟩
  have SM : Same H (upd (upd H dx (.own x)) x (.ins A.Beads dx [])) := (L2.Same.new ndx).trans (L2.Same.new (by rw [upd_ne ne.symm]; exact nx))
  have goal : spInitX A c [.ref x, .ref g1, .ref g2, .bl r] (upd (upd H dx (.own x)) x (.ins A.Beads dx [])) (fun v H' => v = .non ∧ Q (.ref x) H') E :=
    ⟨x, dx, g1, g2, r, ss, ls, rfl, upd_same, SM _ _ h1, SM _ _ h2, ok, fun ts H8 ec kp B => ⟨rfl, q x ts H8 nx (L2.Same.made nx ndx (fun b o h1 h2 => kp b o h2 h1)) ec B⟩⟩
  cases c with
  | true => exact .inr (.inl goal)
  | false => exact .inr (.inr goal)
/-! ### wake_all -/
def spWakeAll (A : Ad) : Sp := fun vs H Q _ => ∃ (b ts tl : Addr) (r : Bool) (ss ls : List Int), vs = [.ref b] ∧ BAt A.Beads H b ts tl r ss ls ∧ StOk ss ls ∧
  ∀ (nb ts' : Addr) (H' : Hp), H nb = none → Same H H' → BAt A.Beads H' nb ts' tl r (rnd r ls ss) ls → Q (.ref nb) H'
theorem ok_wakeAll (F : Fun K "wake_all" "wake_all" s_wake_all f fd) (T : Txt K mg A) (MK_Beads : CtorD P w K mg base CX0 2 "Beads" A.Beads 2 ["ring"] gBeads (spNew K A)) (D_reaches : DefOk P w K mg base CX0 7 "reaches" ["beads"] (spReaches A)) : FnOk P w K mg base CX0 8 f fd ["beads"] (spWakeAll A) := by
  refine F.ok sc_wake_all (fun vs H Q E h => ?_) (fun cdv A1 outer s H vs Q E hr h => ?_)
  · obtain ⟨b, ts, tl, r, ss, ls, rfl, _⟩ := h
    rfl
  · obtain ⟨b, ts, tl, r, ss, ls, rfl, B, ok, q⟩ := h
    refine ⟨_, (pss_one (ps_ret (pe_makeD MK_Beads (hr.mono (by decide)) pass0 (pa_cons (pe_callD D_reaches (hr.mono (by decide)) pass0 (pa_cons (pv 0) pa_nil)) (pa_cons (pe_fldK K (pv 0) rfl) pa_nil)) (pk_cons (pe_fldK K (pv 0) rfl) pk_nil)))), ?_⟩
    walk_at "rd"
    refine ⟨b, ts, tl, r, ss, ls, rfl, B, ok.len, ok.n1, fun a Ha na Sa ha => ?_⟩
    have B1 := B.mono Sa
    walk_at "rd"
    refine f_l T B1 ?_
    walk_at "rd"
    refine f_r T B1 ?_
    walk_at "rd"
    refine mk_newX (c := false) (ss := rnd r ls ss) ha B1.ln (ok.rnd r) fun x ts' H' nx S' _ B' => ?_
    exact q x ts' H' (Sa.free nx) (Sa.trans S') B'
/-! ### -/
end
end Rt
set_option Elab.async false
set_option linter.all false
set_option maxRecDepth 100000
set_option maxHeartbeats 4000000
namespace Rt
open PySem PySem.Spec L2
open PyProof.Rows (envOfC)
local macro_rules | `(tactic| walk_at "rd1") => `(tactic| (with_reducible first
  | refine g_var (by with_unfolding_all rfl) ?_
  | refine g_c ?_
  | refine g_op ?_
  | refine g_I0 ?_
  | refine g_eqI ?_
  | refine g_neI ?_
  | refine g_eqB ?_
  | refine g_neB ?_
  | refine g_cons ?_
  | refine g_nil ?_
  | refine g_seq ?_
  | refine g_asg ?_
  | refine g_name ?_
  | refine g_ret ?_
  | refine g_retN ?_
  | refine g_drop ?_
  | refine g_next ?_
  | refine g_if ?_
  | refine g_test ?_
  | refine g_tB ?_
  | refine g_bl ?_
  | refine g_and ?_
  | refine g_or ?_
  | refine g_not ?_
  | refine g_andV ?_
  | refine g_orV ?_
  | refine g_notV ?_
  | refine g_ifE ?_
  | refine g_cb ?_
  | refine g_meth ?_
  | refine g_rev ?_
  | refine g_gcons ?_
  | refine g_gnil ?_
  | refine g_isB' ?_
  | refine g_gsub ?_
  | refine g_call ?_
  | refine g_callS ?_
  | refine g_bm ?_
  | refine g_un ?_
  | refine g_U ?_
  | refine g_chain ?_
  | refine g_sl ?_
  | refine g_brk ?_
  | refine g_ct ?_
  | refine g_ipI ?_
  | refine g_fld ?_
  | refine g_lst ?_
  | refine g_int ?_
  | refine g_for ?_
  | refine g_rg1 ?_
  | refine g_rg2 ?_
  | refine g_il ?_
  | refine g_it ?_
  | refine g_lc ?_
  | refine g_yes ?_
  | refine g_tup ?_
  | refine g_part ?_
  | refine g_xf ?_
  | refine g_nn ?_
  | refine g_mko ?_
  | refine g_lrg ?_
  | refine g_tr1 ?_
  | refine g_tr2 ?_
  | refine g_oi2 ?_
  | refine g_mk ?_
  | refine g_sfld ?_
  | refine g_ost ?_
  | refine g_oi ?_
  | refine g_nopart ?_
  | refine g_tt ?_
  | refine g_ff ?_
  | refine g_nt ?_
  | refine g_nf ?_
  | refine g_drn ?_
  | refine g_din ?_
  | refine g_dnn ?_
  | refine g_nrn ?_
  | refine g_nin ?_
  | refine g_nnn ?_))
local macro_rules | `(tactic| walk_at "rd") => `(tactic| (repeat walk_at "rd1"))

local macro_rules | `(tactic| walk_at "rd1") => `(tactic| (with_reducible first
  | refine g_lrev ?_
  | refine g_enum ?_
  | refine g_ckw ?_
  | refine g_max2 ?_
  | refine g_min2 ?_))
section
variable {P : Program} {w : World} {K : PySem.W.Frag} {mg : Str → Option Value} {base : Heap} {f : Addr} {fd : FuncData} {A : Ad}
theorem kOf_no {r : Bool} {ss ls : List Int} {p : Nat} (h : ∀ k, k ≤ (run r ss.length p).length → ss.getD p 0 ≠ sk r ls ss.length p k) : kOf r ss ls p = none := by
  cases e : kOf r ss ls p with
  | none => rfl
  | some k =>
    obtain ⟨a, b⟩ := kOf_some e
    exact absurd b (h k a)
/-! ### span_of -/
def spSpanG (A : Ad) : Sp := fun vs H Q _ => ∃ (b ts tl : Addr) (r : Bool) (ss ls : List Int) (p : Nat), vs = [.ref b, .int (p : Int)] ∧ BAt A.Beads H b ts tl r ss ls ∧ StOk ss ls ∧ p < ss.length ∧
  (∀ k, kOf r ss ls p = some k → ∀ (t : Addr) (H' : Hp), H t = none → Same H H' → H' t = some (.lst (nI (p :: (run r ss.length p).take k))) → Q (.ref t) H') ∧ (kOf r ss ls p = none → ∀ H', Same H H' → Q .non H')
theorem sk_step {r : Bool} {ls : List Int} {n p i o : Nat} (h : (run r n p)[i]? = some o) : sk r ls n p (i + 1) = sk r ls n p i + ls.getD o 0 := by
  unfold sk
  rw [take_more h, sm_app, ← Int.add_assoc]
  congr 1
  rw [sm_cons]
  unfold sm
  simp
theorem ok_spanG (F : Fun K "span_of" "span_of" s_span_of f fd) (T : Txt K mg A) (D_run_after : DefOk P w K mg base CX0 4 "run_after" ["beads", "place"] (spRun A)) : FnOk P w K mg base CX0 5 f fd ["beads", "place"] (spSpanG A) := by
  refine F.ok sc_span_of (fun vs H Q E h => ?_) (fun cdv A1 outer s H vs Q E hr h => ?_)
  · obtain ⟨b, ts, tl, r, ss, ls, p, rfl, _⟩ := h
    rfl
  · obtain ⟨b, ts, tl, r, ss, ls, p, rfl, B, ok, hp, q1, q2⟩ := h
    have len := ok.len
    have n1 := ok.n1
    refine ⟨_, (pss_cons (ps_set (i := 2) sc_span_of.nd rfl (Or.inl rfl) (pe_lst (pa_cons (pv 1) pa_nil)))
      (pss_cons (ps_set (i := 3) sc_span_of.nd rfl (Or.inl rfl) (pe_op op_sub (pe_ix (ix_tupK K) (pe_fldK K (pv 0) rfl) (pv 1) (fun _ _ => rfl)) (pe_ix (ix_tupK K) (pe_fldK K (pv 0) rfl) (pv 1) (fun _ _ => rfl))))
      (pss_cons (ps_for (PassesOwn.never) rfl (pi_listK K (pe_callD D_run_after (hr.mono (by decide)) pass0 (pa_cons (pv 0) (pa_cons (pv 1) pa_nil)))) (pg_name (i := 4) sc_span_of.nd rfl (Or.inl rfl)) (pss_cons (ps_if (pt_cmpR op_le (pv 3) pe_int (nomark _)) (pss_one ps_break) pss_nil)
      (pss_cons (ps_expr (pe_appK K (pv 2) (pa_cons (pv 4) pa_nil)))
      (pss_one (ps_set (i := 3) sc_span_of.nd rfl (Or.inl rfl) (pe_op op_sub (pv 3) (pe_ix (ix_tupK K) (pe_fldK K (pv 0) rfl) (pv 4) (fun _ _ => rfl))))))))
      (pss_one (ps_ret (pe_ifExp (pt_cmpR op_eq (pv 3) pe_int (nomark _)) (pv 2) pe_non)))))), ?_⟩
    walk_at "rd"
    refine newL fun t H1 nt S1 ht => ?_
    walk_at "rd"
    refine f_s T (B.mono S1) ?_
    walk_at "rd"
    refine g_ixT (SqT.of (B.mono S1).st) (at_int hp) ?_
    walk_at "rd"
    refine f_l T (B.mono S1) ?_
    walk_at "rd"
    refine g_ixT (SqT.of (B.mono S1).ln) (at_int (by omega)) ?_
    walk_at "rd"
    refine ⟨b, ts, tl, r, ss, ls, p, rfl, B.mono S1, hp, n1, fun a H2 na S2 ha => ?_⟩
    have nat : a ≠ t := fun z => by rw [z, ht] at na; cases na
    have sk0 : sk r ls ss.length p 0 = ls.getD p 0 := by unfold sk; rw [List.take_zero]; show _ + sm ls [] = _; unfold sm; simp
    have yes : ∀ k, k ≤ (run r ss.length p).length → ss.getD p 0 - sk r ls ss.length p k = 0 → kOf r ss ls p = some k := fun k hk e => kOf_of ok.pos hp hk (by omega)
    refine ⟨a, rfl, ⟨_, SqL.of ha⟩, for_list (xs := nI (run r ss.length p)) (fun i σ H' => ∃ v4 : Option V, σ = [some (.ref b), some (.int (p : Int)), some (.ref t), some (.int (ss.getD p 0 - sk r ls ss.length p i)), v4] ∧ (∀ j, j < i → 0 < ss.getD p 0 - sk r ls ss.length p j) ∧ Same H H' ∧ H' a = some (.lst (nI (run r ss.length p))) ∧ H' t = some (.lst (nI (p :: (run r ss.length p).take i))))
      ⟨none, by rw [sk0]; rfl, fun j h => absurd h (Nat.not_lt_zero _), S1.trans S2, ha, S2 _ _ ht⟩ (fun i σ H' _ ⟨_, _, _, _, h, _⟩ => SqL.of h) ?_ ?_⟩
    · rintro i x σ H' hi ⟨v4, rfl, hik, S', ha', ht'⟩
      obtain ⟨j, hj, rfl⟩ := nI_at hi
      have hjl : j < ss.length := run_lt hp j (List.mem_of_getElem? hj)
      have il : i < (run r ss.length p).length := (List.getElem?_eq_some_iff.mp hj).1
      walk_at "rd"
      refine g_ite (fun e => ?_) (fun e => ?_)
      · have le := of_decide_eq_true e
        walk_at "rd"
        refine g_ite (fun e2 => ?_) (fun e2 => ?_)
        · have z := of_decide_eq_true e2
          walk_at "rd"
          exact q1 i (yes i (by omega) z) t H' nt S' ht'
        · have z := of_decide_eq_false e2
          walk_at "rd"
          refine q2 (kOf_no fun k hk y => ?_) H' S'
          rcases Nat.lt_trichotomy k i with d | d | d
          · have := hik k d; omega
          · subst d; omega
          · have := sk_lt (r := r) ok.pos hp d hk; omega
      · have gt := of_decide_eq_false e
        walk_at "rd"
        refine ⟨ty_l ht', ?_⟩
        walk_at "rd"
        refine g_app ht' (by rw [List.length_map, List.length_cons, List.length_take]; exact slt1000 (by have := run_le (r := r) hp; omega)) ?_
        walk_at "rd"
        have S3 : Same H (upd H' t (.lst (nI (p :: (run r ss.length p).take i) ++ [V.int (j : Int)]))) := S'.mut nt
        refine f_l T (B.mono S3) ?_
        walk_at "rd"
        refine g_ixT (SqT.of (B.mono S3).ln) (at_int (by omega)) ?_
        walk_at "rd"
        refine ⟨_, by rw [sk_step hj, show ∀ a b c : Int, a - (b + c) = a - b - c from fun a b c => by omega]; rfl, fun k hk => ?_, S3, by rw [upd_ne nat]; exact ha', ?_⟩
        · by_cases c : k = i
          · subst c; omega
          · exact hik k (by omega)
        rw [upd_same, take_more hj, ← List.cons_append]
        unfold nI
        rw [List.map_append]; rfl
    · rintro σ H' ⟨v4, rfl, hik, S', ha', ht'⟩
      have ei : (nI (run r ss.length p)).length = (run r ss.length p).length := by unfold nI; rw [List.length_map]
      rw [ei] at ht' hik ⊢
      walk_at "rd"
      refine g_ite (fun e2 => ?_) (fun e2 => ?_)
      · have z := of_decide_eq_true e2
        walk_at "rd"
        exact q1 _ (yes _ (Nat.le_refl _) z) t H' nt S' ht'
      · have z := of_decide_eq_false e2
        walk_at "rd"
        refine q2 (kOf_no fun k hk y => ?_) H' S'
        by_cases c : k = (run r ss.length p).length
        · subst c; omega
        · have := hik k (by omega); omega
/-! ### -/
end
end Rt
set_option Elab.async false
set_option linter.all false
set_option maxRecDepth 100000
set_option maxHeartbeats 4000000
namespace Rt
open PySem PySem.Spec L2
open PyProof.Rows (envOfC)
local macro_rules | `(tactic| walk_at "rd1") => `(tactic| (with_reducible first
  | refine g_var (by with_unfolding_all rfl) ?_
  | refine g_c ?_
  | refine g_op ?_
  | refine g_I0 ?_
  | refine g_eqI ?_
  | refine g_neI ?_
  | refine g_eqB ?_
  | refine g_neB ?_
  | refine g_cons ?_
  | refine g_nil ?_
  | refine g_seq ?_
  | refine g_asg ?_
  | refine g_name ?_
  | refine g_ret ?_
  | refine g_retN ?_
  | refine g_drop ?_
  | refine g_next ?_
  | refine g_if ?_
  | refine g_test ?_
  | refine g_tB ?_
  | refine g_bl ?_
  | refine g_and ?_
  | refine g_or ?_
  | refine g_not ?_
  | refine g_andV ?_
  | refine g_orV ?_
  | refine g_notV ?_
  | refine g_ifE ?_
  | refine g_cb ?_
  | refine g_meth ?_
  | refine g_rev ?_
  | refine g_gcons ?_
  | refine g_gnil ?_
  | refine g_isB' ?_
  | refine g_gsub ?_
  | refine g_call ?_
  | refine g_callS ?_
  | refine g_bm ?_
  | refine g_un ?_
  | refine g_U ?_
  | refine g_chain ?_
  | refine g_sl ?_
  | refine g_brk ?_
  | refine g_ct ?_
  | refine g_ipI ?_
  | refine g_fld ?_
  | refine g_lst ?_
  | refine g_int ?_
  | refine g_for ?_
  | refine g_rg1 ?_
  | refine g_rg2 ?_
  | refine g_il ?_
  | refine g_it ?_
  | refine g_lc ?_
  | refine g_yes ?_
  | refine g_tup ?_
  | refine g_part ?_
  | refine g_xf ?_
  | refine g_nn ?_
  | refine g_mko ?_
  | refine g_lrg ?_
  | refine g_tr1 ?_
  | refine g_tr2 ?_
  | refine g_oi2 ?_
  | refine g_mk ?_
  | refine g_sfld ?_
  | refine g_ost ?_
  | refine g_oi ?_
  | refine g_nopart ?_
  | refine g_tt ?_
  | refine g_ff ?_
  | refine g_nt ?_
  | refine g_nf ?_
  | refine g_drn ?_
  | refine g_din ?_
  | refine g_dnn ?_
  | refine g_nrn ?_
  | refine g_nin ?_
  | refine g_nnn ?_))
local macro_rules | `(tactic| walk_at "rd") => `(tactic| (repeat walk_at "rd1"))

local macro_rules | `(tactic| walk_at "rd1") => `(tactic| (with_reducible first
  | refine g_lrev ?_
  | refine g_enum ?_
  | refine g_ckw ?_
  | refine g_max2 ?_
  | refine g_min2 ?_
  | refine g_augS ?_))
section
variable {P : Program} {w : World} {K : PySem.W.Frag} {mg : Str → Option Value} {base : Heap} {f : Addr} {fd : FuncData} {A : Ad}
/-! ### an own exception with two attributes -/
def spExc2 (K : PySem.W.Frag) (C : Addr) (f1 f2 : Str) : Sp := fun vs H Q _ => ∃ (a : Addr) (v u : V), vs = [.ref a, v, u] ∧ H a = some (exo a C none) ∧ OexC K C ∧ PySem.W.findIn K (.ref C) f1 = some none ∧ PySem.W.findIn K (.ref C) f2 = some none ∧
  ∀ dx : Addr, H dx = none → dx ≠ a → Q .non (upd (upd (upd H dx (exd dx [(f1, v)])) a (exo a C (some dx))) dx (exd dx [(f2, u), (f1, v)]))
structure ExcDef2 (P : Program) (w : World) (K : PySem.W.Frag) (mg : Str → Option Value) (base : Heap) (x : Str) (C : Addr) (f1 f2 : Str) : Prop where
  ex : ∃ (fI : Addr) (fd : FuncData), OexC K C ∧ PySem.W.findIn K (.ref C) "__init__" = some (some (.ref fI)) ∧ PySem.W.typeIn K (.ref fI) = some (.type "function") ∧ FnOk P w K mg base CX0 1 fI fd ["self", f1, f2] (spExc2 K C f1 f2) ∧ L2.Binds K fd ["self", f1, f2] [] ∧ mg x = some (.ref C)
theorem pmk_D2 {X : Cx} {x : Str} {e : Expr} {es : List Expr} {ta : TA} {p pos : Pos} {C : Addr} {f1 f2 : Str} (D : ExcDef2 X.prog X.w X.K X.mg X.base x C f1 f2) (hr : Room 2 X.A) (ha : PA X (e :: es) ta) (hg : Gl X x := by rfl)
    (hdb : (x == ("__debug__" : Str)) = false := by decide) (he : starEach (e :: es) X.env = (false, eval e X.env) :: starEach es X.env := by rfl) (hpl : (backTo pos (starEach es X.env)).any (·.1) = false := by rfl) :
    L2N.PMk X (.Call (.Name x p) (e :: es) [] pos) (tMkO C (spExc2 X.K C f1 f2) [] ta) := by
  obtain ⟨fI, fd, T, iC, tI, F, b, m⟩ := D.ex
  exact pmk_oexN T iC tI F hr b pass0 hg m ha hdb he hpl
theorem mk2 {K : PySem.W.Frag} {C : Addr} {f1 f2 : Str} {v u : V} {H : Hp} {Q : XK} (T : OexC K C) (n1 : PySem.W.findIn K (.ref C) f1 = some none) (n2 : PySem.W.findIn K (.ref C) f2 = some none)
    (h : ∀ d H', H d = none → Same H H' → H' d = some (.xd [(f2, u), (f1, v)]) → Q (.ref C) (some d) H') : MkO C (spExc2 K C f1 f2) [v, u] H Q := by
  refine ⟨by simp, fun a na => ⟨a, v, u, rfl, upd_same, T, n1, n2, fun dx hdx ne => ⟨rfl, dx, [(f2, u), (f1, v)], ?_, upd_same, ?_, ?_⟩⟩⟩
  · rw [upd_ne ne.symm, upd_same]
  · rw [upd_ne ne] at hdx; exact hdx
  · rw [upd_ne ne] at hdx
    refine h dx _ hdx (fun b o hb => ?_) upd_same
    have nb : b ≠ dx := ne_of_none hb hdx
    have na' : b ≠ a := ne_of_none hb na
    rw [upd_ne nb, del_ne na', upd_ne nb, upd_ne na', upd_ne nb, upd_ne na']
    exact hb
/-! ### NotOutcome.__init__ -/
theorem ok_NotOutcome (F : Fun K "__init__" "NotOutcome.__init__" s_NotOutcome_init f fd) : FnOk P w K mg base CX0 1 f fd ["self", "first", "second"] (spExc2 K A.NotOutcome "first" "second") := by
  refine F.ok sc_NotOutcome_init (fun vs H Q E h => ?_) (fun cdv A1 outer s H vs Q E hr h => ?_)
  · obtain ⟨a, v, u, rfl, _⟩ := h
    rfl
  · obtain ⟨a, v, u, rfl, ha, T, n1, n2, q⟩ := h
    refine ⟨_, (pss_cons (ps_ostK K (pv 0) (pv 1))
      (pss_one (ps_ostK K (pv 0) (pv 2)))), ?_⟩
    walk_at "rd"
    refine ⟨a, _, rfl, T, n1, .inl ⟨ha, fun dx n ne => ?_⟩⟩
    walk_at "rd"
    exact ⟨a, _, rfl, T, n2, .inr ⟨dx, _, upd_same, by rw [upd_ne ne, upd_same], by simp, q dx n ne⟩⟩
/-! ### depths_of -/
/-- in how many of the first i trains -/
def dep (tr : Nat → List Nat) (i q : Nat) : Nat := ((List.range i).filter fun p => decide (q ∈ tr p)).length
theorem dep_succ {tr : Nat → List Nat} {i q : Nat} : dep tr (i + 1) q = dep tr i q + (if q ∈ tr i then 1 else 0) := by
  unfold dep
  rw [List.range_succ, List.filter_append, List.length_append, List.filter_cons]
  by_cases c : q ∈ tr i
  · rw [if_pos (decide_eq_true c), if_pos c]; rfl
  · rw [if_neg (by simpa using c), if_neg c]; rfl
theorem dep_zero {tr : Nat → List Nat} {i q : Nat} : dep tr i q = 0 ↔ ∀ p, p < i → q ∉ tr p := by
  unfold dep
  rw [List.length_eq_zero_iff, List.filter_eq_nil_iff]
  constructor
  · intro h p hp hm
    exact h p (List.mem_range.mpr hp) (decide_eq_true hm)
  · intro h p hp hm
    exact h p (List.mem_range.mp hp) (of_decide_eq_true hm)
def depL (tr : Nat → List Nat) (n i : Nat) : List Int := (List.range n).map fun q => (dep tr i q : Int)
/-- with the first j of one train counted, too -/
def depM (tr : Nat → List Nat) (n i j : Nat) : List Int := (List.range n).map fun q => (dep tr i q : Int) + (if q ∈ (tr i).take j then 1 else 0)
theorem depM_zero {tr : Nat → List Nat} {n i : Nat} : depM tr n i 0 = depL tr n i := by
  unfold depM depL
  refine List.map_congr_left fun q _ => ?_
  rw [List.take_zero, if_neg (by simp)]; omega
theorem depM_full {tr : Nat → List Nat} {n i j : Nat} (h : (tr i).length ≤ j) : depM tr n i j = depL tr n (i + 1) := by
  unfold depM depL
  refine List.map_congr_left fun q _ => ?_
  rw [List.take_of_length_le h, dep_succ]
  split <;> omega
theorem depM_at {tr : Nat → List Nat} {n i j q : Nat} (hq : q < n) : (depM tr n i j).getD q 0 = (dep tr i q : Int) + (if q ∈ (tr i).take j then 1 else 0) := by
  unfold depM
  rw [List.getD_eq_getElem?_getD, List.getElem?_map, List.getElem?_range hq]; rfl
theorem depM_step {tr : Nat → List Nat} {n i j o : Nat} (nd : (tr i).Nodup) (ho : o < n) (hj : (tr i)[j]? = some o) : (depM tr n i j).set o ((depM tr n i j).getD o 0 + 1) = depM tr n i (j + 1) := by
  have hl : ∀ k, (depM tr n i k).length = n := fun k => by unfold depM; rw [List.length_map, List.length_range]
  have no : o ∉ (tr i).take j := fun z => by
    obtain ⟨m, hm, e⟩ := List.mem_take_iff_getElem.mp z
    have hjl := (List.getElem?_eq_some_iff.mp hj).1
    have e2 := (List.getElem?_eq_some_iff.mp hj).2
    exact List.pairwise_iff_getElem.mp nd m j (by omega) hjl (by omega) (e.trans e2.symm)
  refine ext_getD (by rw [List.length_set, hl, hl]) fun q hq => ?_
  rw [List.length_set, hl] at hq
  have d0 := depM_at (tr := tr) (i := i) (j := j) hq
  have d1 := depM_at (tr := tr) (i := i) (j := j + 1) hq
  rw [getD_set (by rw [hl]; exact ho), d1, take_more hj]
  by_cases c : q = o
  · subst c
    rw [if_pos rfl, d0, if_neg no, if_pos (List.mem_append.mpr (.inr List.mem_cons_self))]
    omega
  · rw [if_neg c, d0]
    have : q ∈ (tr i).take j ++ [o] ↔ q ∈ (tr i).take j := by simp [c]
    by_cases d : q ∈ (tr i).take j
    · rw [if_pos d, if_pos (this.mpr d)]
    · rw [if_neg d, if_neg (fun z => d (this.mp z))]
def trK (r : Bool) (n : Nat) (kf : Nat → Nat) (p : Nat) : List Nat := (run r n p).take (kf p)
def spDepthsG (A : Ad) : Sp := fun vs H Q _ => ∃ (b ts tl : Addr) (r : Bool) (ss ls : List Int) (kf : Nat → Nat), vs = [.ref b] ∧ BAt A.Beads H b ts tl r ss ls ∧ StOk ss ls ∧ (∀ p, p < ss.length → kOf r ss ls p = some (kf p)) ∧
  ∀ (t : Addr) (H' : Hp), H t = none → Same H H' → H' t = some (.lst ((depL (trK r ss.length kf) ss.length ss.length).map V.int)) → Q (.ref t) H'
theorem ok_depthsG (F : Fun K "depths_of" "depths_of" s_depths_of f fd) (T : Txt K mg A) (LN : LenD P w K mg base A.Beads (spLen A)) (D_span_of : DefOk P w K mg base CX0 5 "span_of" ["beads", "place"] (spSpanG A)) : FnOk P w K mg base CX0 6 f fd ["beads"] (spDepthsG A) := by
  refine F.ok sc_depths_of (fun vs H Q E h => ?_) (fun cdv A1 outer s H vs Q E hr h => ?_)
  · obtain ⟨b, ts, tl, r, ss, ls, kf, rfl, _⟩ := h
    rfl
  · obtain ⟨b, ts, tl, r, ss, ls, kf, rfl, B, ok, hO, q⟩ := h
    have n1 := ok.n1
    refine ⟨_, (pss_cons (ps_set (i := 1) sc_depths_of.nd rfl (Or.inl rfl) (pe_op op_rep (pe_lst (pa_cons pe_int pa_nil)) (pe_callB (call_lenD LN (hr.mono (by decide))) (by rfl) T.m_len PySem.boot_len (pa_cons (pv 0) pa_nil))))
      (pss_cons (ps_for (PassesOwn.never) rfl (pi_range1 rfl T.m_range (pa_cons (pe_callB (call_lenD LN (hr.mono (by decide))) (by rfl) T.m_len PySem.boot_len (pa_cons (pv 0) pa_nil)) pa_nil)) (pg_name (i := 2) sc_depths_of.nd rfl (Or.inl rfl)) (pss_one (ps_for (PassesOwn.never) rfl (pi_listK K (pe_slice (sl_listK K) (pe_callD D_span_of (hr.mono (by decide)) pass0 (pa_cons (pv 0) (pa_cons (pv 2) pa_nil))) (po_some pe_int) po_none)) (pg_name (i := 3) sc_depths_of.nd rfl (Or.inl rfl)) (pss_one (ps_augS (pv 1) (pv 3) (pget_ixK K) pe_int ip_add set_list)))))
      (pss_one (ps_ret (pv 1))))), ?_⟩
    walk_at "rd"
    refine newL fun t0 H1 nt0 S1 ht0 => ?_
    walk_at "rd"
    refine g_lenB (B.mono S1) n1 ?_
    refine g_rep1 (k := ss.length) ht0 (by omega) fun t H2 nt S2 ht => ?_
    have nt' := S1.free nt
    have S12 := S1.trans S2
    walk_at "rd"
    refine g_lenB (B.mono S12) n1 ?_
    walk_at "rd"
    have e0 : List.replicate ss.length (0 : Int) = depL (trK r ss.length kf) ss.length 0 := by
      unfold depL
      refine ext_getD (by rw [List.length_replicate, List.length_map, List.length_range]) fun q hq => ?_
      rw [List.length_replicate] at hq
      rw [getD_rep hq, List.getD_eq_getElem?_getD, List.getElem?_map, List.getElem?_range hq]
      show (0 : Int) = ((dep _ 0 q : Nat) : Int)
      rw [dep_zero.mpr fun p hp => absurd hp (Nat.not_lt_zero _)]; rfl
    refine ⟨_, rfl, by omega, by omega, ?_⟩
    rw [Int.toNat_natCast]
    refine for_range (lo := 0) (fun i σ H' => ∃ v2 v3 : Option V, σ = [some (.ref b), some (.ref t), v2, v3] ∧ Same H H' ∧ H' t = some (.lst ((depL (trK r ss.length kf) ss.length i).map V.int)))
      ⟨none, none, rfl, S12, by rw [ht, e0]⟩ ?_ ?_
    · rintro i σ H' hi ⟨v2, v3, rfl, S', ht'⟩
      rw [Int.zero_add]
      have k1 := (kOf_some (hO i hi)).1
      walk_at "rd"
      refine ⟨b, ts, tl, r, ss, ls, i, rfl, B.mono S', ok, hi, fun k ek u H3 nu S3 hu => ?_, fun en => absurd ((hO i hi).symm.trans en) (fun z => by cases z)⟩
      cases (hO i hi).symm.trans ek
      walk_at "rd"
      refine g_cut (SqL.of hu) fun u2 H4 nu2 S4 hu2 => ?_
      rw [show (1 : Int) = ((1 : Nat) : Int) from rfl, cut_lo (by unfold nI; simp)] at hu2
      have hu2 : H4 u2 = some (.lst (nI (trK r ss.length kf i))) := hu2
      have ne : u2 ≠ t := fun z => by rw [z, S3 _ _ ht'] at nu2; cases nu2
      refine ⟨u2, rfl, ⟨_, SqL.of hu2⟩, for_list (xs := nI (trK r ss.length kf i)) (fun j σ H5 => ∃ v3 : Option V, σ = [some (.ref b), some (.ref t), some (.int (i : Int)), v3] ∧ Same H H5 ∧ H5 u2 = some (.lst (nI (trK r ss.length kf i))) ∧ H5 t = some (.lst ((depM (trK r ss.length kf) ss.length i j).map V.int)))
        ⟨v3, rfl, (S'.trans S3).trans S4, hu2, by rw [depM_zero]; exact S4 _ _ (S3 _ _ ht')⟩ (fun j σ H5 _ ⟨_, _, _, h, _⟩ => SqL.of h) ?_ ?_⟩
      · rintro j x σ H5 hj ⟨v3, rfl, S5, h1, h2⟩
        obtain ⟨o, ho, rfl⟩ := nI_at hj
        have hol : o < ss.length := run_lt hi o (List.mem_of_mem_take (List.mem_of_getElem? ho))
        have hml : (depM (trK r ss.length kf) ss.length i j).length = ss.length := by unfold depM; rw [List.length_map, List.length_range]
        walk_at "rd"
        refine ⟨t, _, o, _, rfl, rfl, SqL.of h2, (by rw [List.getElem?_map, List.getElem?_eq_getElem (by omega)]; rfl), ?_⟩
        walk_at "rd"
        have ev : (depM (trK r ss.length kf) ss.length i j)[o] = (depM (trK r ss.length kf) ss.length i j).getD o 0 := by rw [List.getD_eq_getElem?_getD, List.getElem?_eq_getElem (by omega)]; rfl
        rw [ev]
        refine g_set h2 (by omega) ?_
        rw [depM_step ((run_nd hi).sublist (List.take_sublist _ _)) hol ho]
        exact ⟨_, rfl, S5.mut nt', by rw [upd_ne ne]; exact h1, upd_same⟩
      · rintro σ H5 ⟨v3, rfl, S5, h1, h2⟩
        rw [depM_full (by unfold nI; rw [List.length_map]; exact Nat.le_refl _)] at h2
        exact ⟨_, _, rfl, S5, h2⟩
    · rintro σ H' ⟨v2, v3, rfl, S', ht'⟩
      walk_at "rd"
      exact q t H' nt' S' ht'
/-! ### _law_numbers within a suite -/
theorem ok_numbersH (F : Fun K "_law_numbers" "_law_numbers" s__law_numbers f fd) (T : Txt K mg A) (H__law_is_integer : DefOkH P w K mg base CX0 1 "_law_is_integer" ["actual"] Rt.spInt) : L2H.FnH P w K mg base CX0 2 f fd ["actual", "due", "as_tuple"] (Rt.spNumbers K) := by
  refine okH F sc__law_numbers (fun vs H Q E h => ?_) (fun cdv A1 outer s H vs Q E p hot hr h => ?_)
  · obtain ⟨a, l, b, xs, ys, rfl, _⟩ := h
    rfl
  · obtain ⟨a, l, b, xs, ys, rfl, ha, hs, hy, q⟩ := h
    refine ⟨_, (pss_cons (ps_if (PW.pt (pw_or (PW.pt (pw_and (pt_val (pv 2)) (pw_and1 (pt_not (pt_val (pe_callB (call_isiQ K) (by rfl) T.m_isinstance (by decide +kernel) (pa_cons (pv 0) (pa_cons (pe_bltn (v := .ty "tuple") (by rfl) T.m_tuple (by decide +kernel) rfl) pa_nil)))))))) (pw_or1 (PW.pt (pw_and (pt_not (pt_val (pv 2))) (pw_and1 (pt_not (pt_val (pe_callB (call_isiQ K) (by rfl) T.m_isinstance (by decide +kernel) (pa_cons (pv 0) (pa_cons (pe_bltn (v := .ty "list") (by rfl) T.m_list (by decide +kernel) rfl) pa_nil))))))))))) (pss_one (ps_ret pe_bl)) pss_nil)
      (pss_cons (ps_if (pt_cmpR op_ne (pe_callB (call_lenK K) (by rfl) T.m_len PySem.boot_len (pa_cons (pv 0) pa_nil)) (pe_callB (call_lenK K) (by rfl) T.m_len PySem.boot_len (pa_cons (pv 1) pa_nil)) (nomark _)) (pss_one (ps_ret pe_bl)) pss_nil)
      (pss_cons (L2H.ps_forH (passes_ofN rfl) (show L2H.HotC _ from ⟨p, hot, List.mem_cons_self⟩) (L2H.pi_range1H (by rfl) T.m_range (pa_cons (pe_callB (call_lenK K) (by rfl) T.m_len PySem.boot_len (pa_cons (pv 1) pa_nil)) pa_nil)) (pg_name (i := 3) sc__law_numbers.nd rfl (Or.inl rfl)) (pss_one (ps_if (PW.pt (pw_or (pt_not (pt_val (pe_callHD H__law_is_integer (hr.mono (by decide)) (show L2H.HotC _ from ⟨p, hot, List.mem_cons_self⟩) (E := fun _ => E0) (fun _ => pass0S) (pa_cons (pe_ix (ix_seqK K) (pv 0) (pv 3) (fun _ _ => rfl)) pa_nil)))) (pw_or1 (pt_cmpR op_ne (pe_ix (ix_seqK K) (pv 0) (pv 3) (fun _ _ => rfl)) (pe_ix (ix_listK K) (pv 1) (pv 3) (fun _ _ => rfl)) (nomark _))))) (pss_one (ps_ret pe_bl)) pss_nil)))
      (pss_one (ps_ret pe_bl))))), ?_⟩
    have hlen : SqL K H a (xs.map V.int) ∨ SqT K H a (xs.map V.int) := by
      cases b with
      | true => exact .inr (SqT.of ha)
      | false => exact .inl (SqL.of ha)
    have hix : ∀ (i : Nat) (Q : VK), i < xs.length → Q (.int (xs.getD i 0)) H → rIx K (.ref a) (.int (i : Int)) H Q := fun i Q hi h => by
      cases b with
      | true => exact .inr (.inl (g_ixT (SqT.of ha) (at_int hi) h))
      | false => exact .inl (g_ixL (SqL.of ha) (at_int hi) h)
    have step : ∀ (i : Nat), i < ys.length → i < xs.length → (∀ j, j < i → xs.getD j 0 = ys.getD j 0) → xs.getD i 0 = ys.getD i 0 → ∀ j, j < i + 1 → xs.getD j 0 = ys.getD j 0 := fun i _ _ h h2 j hj => by
      rcases Nat.lt_succ_iff_lt_or_eq.mp hj with z | z
      · exact h j z
      · rw [z]; exact h2
    cases b
    all_goals
      walk_at "rd"
      refine g_isi (b := true) (.base (by first | exact .tup ha | exact .lst ha)) (by decide +kernel) ?_
      walk_at "rd"
      refine ⟨a, _, rfl, hlen, ?_⟩
      walk_at "rd"
      refine ⟨l, _, rfl, .inl hs, ?_⟩
      rw [List.length_map, List.length_map]
      walk_at "rd"
      refine g_ite (fun e => ?_) (fun e => ?_)
      · walk_at "rd"
        have ne : ¬ xs = ys := fun z => by
          rw [z] at e; simp at e
        rw [decide_eq_false ne] at q
        exact q
      · have el : xs.length = ys.length := by
          have := e; simp at this
          omega
        walk_at "rd"
        refine ⟨l, _, rfl, .inl hs, ?_⟩
        rw [List.length_map]
        walk_at "rd"
        refine ⟨_, rfl, by omega, by omega, ?_⟩
        refine for_range (lo := 0) (fun i σ H' => ∃ v3 : Option V, σ = [some (.ref a), some (.ref l), some (.bl _), v3] ∧ H' = H ∧ ∀ j, j < i → xs.getD j 0 = ys.getD j 0) ⟨none, rfl, rfl, fun j h => absurd h (Nat.not_lt_zero j)⟩ ?_ ?_
        · rintro i σ H' hi ⟨v3, rfl, rfl, hin⟩
          have hi' : i < ys.length := by simpa using hi
          rw [Int.zero_add]
          walk_at "rd"
          refine hix i _ (by omega) ?_
          walk_at "rd"
          refine ⟨_, rfl, ?_⟩
          walk_at "rd"
          refine hix i _ (by omega) ?_
          walk_at "rd"
          refine g_ixL hs (at_int hi') ?_
          walk_at "rd"
          refine g_ite (fun e2 => ?_) (fun e2 => ?_)
          · walk_at "rd"
            have ne : ¬ xs = ys := fun z => by
              rw [z] at e2; simp at e2
            rw [decide_eq_false ne] at q
            exact q
          · walk_at "rd"
            have h2 : xs.getD i 0 = ys.getD i 0 := by simpa using e2
            exact ⟨_, rfl, rfl, step i hi' (by omega) hin h2⟩
        · rintro σ H' ⟨v3, rfl, rfl, hin⟩
          walk_at "rd"
          have e3 : xs = ys := ext_getD el fun i hi => hin i (by simpa using (by omega : i < ys.length))
          rw [decide_eq_true e3] at q
          exact q
/-! ### outcome_fault -/
/-- what the spans are, as a list of values: a list of places, at an address with N, or None -/
def SpA (N : Addr → Prop) (H : Hp) (r : Bool) (ss ls : List Int) (xs : List V) : Prop := ∀ p, p < xs.length → ∃ v, xs[p]? = some v ∧ ((kOf r ss ls p = none ∧ v = .non) ∨ ∃ k t, kOf r ss ls p = some k ∧ v = .ref t ∧ N t ∧ H t = some (.lst (nI (p :: (run r ss.length p).take k))))
theorem SpA.mono {N : Addr → Prop} {H H' : Hp} {r : Bool} {ss ls : List Int} {xs : List V} (h : SpA N H r ss ls xs) (S : Same H H') : SpA N H' r ss ls xs := fun p hp => by
  obtain ⟨v, e, c⟩ := h p hp
  refine ⟨v, e, ?_⟩
  rcases c with c | ⟨k, t, a, b, n, d⟩
  · exact .inl c
  · exact .inr ⟨k, t, a, b, n, S _ _ d⟩
theorem SpA.more {N : Addr → Prop} {H : Hp} {r : Bool} {ss ls : List Int} {xs : List V} {v : V} (h : SpA N H r ss ls xs) (c : (kOf r ss ls xs.length = none ∧ v = .non) ∨ ∃ k t, kOf r ss ls xs.length = some k ∧ v = .ref t ∧ N t ∧ H t = some (.lst (nI (xs.length :: (run r ss.length xs.length).take k)))) : SpA N H r ss ls (xs ++ [v]) := fun p hp => by
  rw [List.length_append, List.length_singleton] at hp
  by_cases e : p < xs.length
  · obtain ⟨v, a, b⟩ := h p e
    exact ⟨v, by rw [List.getElem?_append_left e]; exact a, b⟩
  · have e2 : p = xs.length := by omega
    subst e2
    exact ⟨v, by rw [List.getElem?_append_right (Nat.le_refl _), Nat.sub_self]; rfl, c⟩
theorem SpA.upd {l : Addr} {o : HO} {H : Hp} {r : Bool} {ss ls : List Int} {xs : List V} (h : SpA (fun t => t ≠ l) H r ss ls xs) : SpA (fun t => t ≠ l) (upd H l o) r ss ls xs := fun p hp => by
  obtain ⟨v, e, c⟩ := h p hp
  refine ⟨v, e, ?_⟩
  rcases c with c | ⟨k, t, a, b, n, d⟩
  · exact .inl c
  · exact .inr ⟨k, t, a, b, n, by rw [upd_ne n]; exact d⟩
/-- a loop over the pairs (place, item) of a list -/
theorem for_enu {K : PySem.W.Frag} {a : Addr} {xs : List V} {g : TG} {tb : TS} {D : Ends} {σ : L2.St} {H : Hp} (Pv : Nat → L2.St → Hp → Prop) (h0 : Pv 0 σ H) (hl : ∀ i σ H, Pv i σ H → SqL K H a xs)
    (hs : ∀ i x T σ H, xs[i]? = some x → Pv i σ H → H T = none → g (.ref T) σ (upd H T (.tup [.int (i : Nat), x])) fun σ2 H2 => tb { D with nx := Pv (i + 1), ct := Pv (i + 1), bk := D.nx } σ2 H2) (hd : ∀ σ H, Pv xs.length σ H → D.nx σ H) :
    ∃ W : Nat → Nat → L2.St → Hp → Prop, (∃ m, W 0 m σ H) ∧ ∀ i m σ H, W i m σ H →
      ((Ite K a).stop i H ∧ D.nx σ H) ∨ ((Ite K a).go i H ∧ ∃ N : L2.St → Hp → Prop, (∀ σ' H', N σ' H' → ∃ m', m' < m ∧ W (i + 1) m' σ' H') ∧ ∀ x H', (Ite K a).yld i H x H' → g x σ H' fun σ2 H2 => tb { D with nx := N, ct := N, bk := D.nx } σ2 H2) := by
  refine ⟨fun i m σ H => i + m = xs.length ∧ Pv i σ H, ⟨xs.length, Nat.zero_add _, h0⟩, fun i m σ H w => ?_⟩
  have sq := hl i σ H w.2
  cases m with
  | zero =>
    have e : i = xs.length := w.1
    exact Or.inl ⟨⟨xs, sq, by omega⟩, hd σ H (by rw [← e]; exact w.2)⟩
  | succ m =>
    have lt : i < xs.length := by have := w.1; omega
    refine Or.inr ⟨⟨xs, xs[i], sq, List.getElem?_eq_getElem lt⟩, Pv (i + 1), fun σ' H' z => ⟨m, Nat.lt_succ_self m, by have := w.1; omega, z⟩, fun x H' y => ?_⟩
    obtain ⟨T, v, e1, e2, e3, e4⟩ := y
    rw [e1, e3]
    exact hs i v T σ H (e4 xs sq) w.2 e2
/-- is (p, q) the fault -/
inductive Flt (r : Bool) (ss ls : List Int) : Option (Nat × Nat) → Prop
  | hole (p : Nat) (hp : p < ss.length) (h : kOf r ss ls p = none) (a : ∀ x, x < p → kOf r ss ls x ≠ none) : Flt r ss ls (some (p, p))
  | cross (kf : Nat → Nat) (hk : ∀ p, p < ss.length → kOf r ss ls p = some (kf p)) (p i q : Nat) (hp : p < ss.length) (hi : i < kf p) (hq : (run r ss.length p)[i]? = some q) (bad : kf p < i + 1 + kf q)
      (a : ∀ x, x < p → ∀ j y, j < kf x → (run r ss.length x)[j]? = some y → j + 1 + kf y ≤ kf x) (b : ∀ j y, j < i → (run r ss.length p)[j]? = some y → j + 1 + kf y ≤ kf p) : Flt r ss ls (some (p, q))
  | good (kf : Nat → Nat) (hk : ∀ p, p < ss.length → kOf r ss ls p = some (kf p)) (h : Nest r ss.length kf) : Flt r ss ls none
def spFault (A : Ad) : Sp := fun vs H Q _ => ∃ (b ts tl : Addr) (r : Bool) (ss ls : List Int), vs = [.ref b] ∧ BAt A.Beads H b ts tl r ss ls ∧ StOk ss ls ∧
  (∀ H', Same H H' → Flt r ss ls none → Q .non H') ∧ ∀ (p q : Nat) (t : Addr) (H' : Hp), Flt r ss ls (some (p, q)) → Same H H' → H' t = some (.tup [.int (p : Int), .int (q : Int)]) → Q (.ref t) H'
theorem ok_fault (F : Fun K "outcome_fault" "outcome_fault" s_outcome_fault f fd) (T : Txt K mg A) (LN : LenD P w K mg base A.Beads (spLen A)) (D_span_of : DefOk P w K mg base CX0 5 "span_of" ["beads", "place"] (spSpanG A)) : FnOk P w K mg base CX0 6 f fd ["beads"] (spFault A) := by
  refine F.ok sc_outcome_fault (fun vs H Q E h => ?_) (fun cdv A1 outer s H vs Q E hr h => ?_)
  · obtain ⟨b, ts, tl, r, ss, ls, rfl, _⟩ := h
    rfl
  · obtain ⟨b, ts, tl, r, ss, ls, rfl, B, ok, q0, q1⟩ := h
    have n1 := ok.n1
    refine ⟨_, (pss_cons (ps_setLc (i := 1) (own := [("place", 2)]) (g := gName 2) (tt := tYes) rfl sc_outcome_fault.nd rfl rfl (sw_true rfl rfl rfl (by decide +kernel)) (pi_range1 rfl T.m_range (pa_cons (pe_callB (call_lenD LN (hr.mono (by decide))) (by rfl) T.m_len PySem.boot_len (pa_cons (pv 0) pa_nil)) pa_nil)) (blkOk_by (N := ["beads", "spans", "place", "span", "distance", "other"]) (sc := defScope s_outcome_fault) (by decide +kernel)) (fun _ _ _ _ _ => (by exact (pg_name (i := 2) sc_outcome_fault.nd rfl (Or.inl rfl)))) (fun _ _ _ _ _ => (by exact pts_nil)) (fun _ _ _ _ _ => (by exact (pe_callD D_span_of (hr.mono (by decide)) pass0 (pa_cons (pv 0) (pa_cons (pv 2) pa_nil))))))
      (pss_cons (ps_for (PassesOwn.never) rfl (pi_enumK K (by rfl) T.m_enumerate (pa_cons (pv 1) pa_nil)) (pg_tup rfl (pgs_cons (pg_name (i := 2) sc_outcome_fault.nd rfl (Or.inl rfl)) (pgs_cons (pg_name (i := 3) sc_outcome_fault.nd rfl (Or.inl rfl)) pgs_nil))) (pss_one (ps_if (pt_cmpR op_isN (pv 3) pe_non (nomark _)) (pss_one (ps_ret (pe_tup (pa_cons (pv 2) (pa_cons (pv 2) pa_nil))))) pss_nil)))
      (pss_cons (ps_for (PassesOwn.never) rfl (pi_enumK K (by rfl) T.m_enumerate (pa_cons (pv 1) pa_nil)) (pg_tup rfl (pgs_cons (pg_name (i := 2) sc_outcome_fault.nd rfl (Or.inl rfl)) (pgs_cons (pg_name (i := 3) sc_outcome_fault.nd rfl (Or.inl rfl)) pgs_nil))) (pss_one (ps_for (PassesOwn.never) rfl (pi_enumK K (by rfl) T.m_enumerate (pa_cons (pv 3) pa_nil)) (pg_tup rfl (pgs_cons (pg_name (i := 4) sc_outcome_fault.nd rfl (Or.inl rfl)) (pgs_cons (pg_name (i := 5) sc_outcome_fault.nd rfl (Or.inl rfl)) pgs_nil))) (pss_one (ps_if (pt_cmpR op_gt (pe_op op_add (pv 4) (pe_callB (call_lenK K) (by rfl) T.m_len PySem.boot_len (pa_cons (pe_ix (ix_listK K) (pv 1) (pv 5) (fun _ _ => rfl)) pa_nil))) (pe_callB (call_lenK K) (by rfl) T.m_len PySem.boot_len (pa_cons (pv 3) pa_nil)) (nomark _)) (pss_one (ps_ret (pe_tup (pa_cons (pv 2) (pa_cons (pv 5) pa_nil))))) pss_nil)))))
      (pss_one (ps_ret pe_non))))), ?_⟩
    walk_at "rd"
    refine g_lenB B n1 ?_
    walk_at "rd"
    refine ⟨_, rfl, by omega, by omega, fun D nD => ?_⟩
    rw [Int.toNat_natCast]
    refine lc_range (fun i H' => ∃ xs : List V, Same H H' ∧ H' D = some (.lst xs) ∧ xs.length = i ∧ SpA (fun t => t ≠ D) H' r ss ls xs) ⟨[], Same.new nD, upd_same, rfl, fun p h => absurd h (Nat.not_lt_zero _)⟩ ?_ ?_
    · rintro i H' hi ⟨xs, S', hD, lx, hA⟩
      rw [Int.zero_add]
      walk_at "rd"
      refine ⟨rfl, ?_⟩
      walk_at "rd"
      refine ⟨b, ts, tl, r, ss, ls, i, rfl, B.mono S', ok, hi, fun k ek t H2 nt S2 ht => ?_, fun en H2 S2 => ?_⟩
      · have ntD : t ≠ D := fun z => by rw [z, hD] at nt; cases nt
        refine ⟨xs, S2 _ _ hD, by rw [lx, sizeLine_eq]; omega, xs ++ [V.ref t], (S'.trans S2).mut nD, upd_same, by rw [List.length_append, lx]; rfl, ?_⟩
        exact ((hA.mono S2).more (v := .ref t) (.inr ⟨k, t, by rw [lx]; exact ek, rfl, ntD, by rw [lx]; exact ht⟩)).upd
      · refine ⟨xs, S2 _ _ hD, by rw [lx, sizeLine_eq]; omega, xs ++ [V.non], (S'.trans S2).mut nD, upd_same, by rw [List.length_append, lx]; rfl, ?_⟩
        exact ((hA.mono S2).more (v := .non) (.inl ⟨by rw [lx]; exact en, rfl⟩)).upd
    rintro H1 ⟨xs, S1, hD, lx, hA⟩
    walk_at "rd"
    refine ⟨D, _, rfl, SqL.of hD, for_enu (xs := xs) (fun i σ H' => ∃ v2 v3 : Option V, σ = [some (.ref b), some (.ref D), v2, v3, none, none] ∧ Same H1 H' ∧ ∀ x, x < i → kOf r ss ls x ≠ none) ⟨none, none, rfl, Same.refl _, fun x h => absurd h (Nat.not_lt_zero _)⟩ (fun i σ H' ⟨_, _, _, S', _⟩ => SqL.of (S' _ _ hD)) ?_ ?_⟩
    · rintro i v t σ H2 hi ⟨v2, v3, rfl, S', no⟩ nt
      have il : i < xs.length := (List.getElem?_eq_some_iff.mp hi).1
      have S2 : Same H2 (upd H2 t (.tup [.int (i : Nat), v])) := Same.new nt
      refine ⟨t, _, rfl, SqT.of upd_same, rfl, ?_⟩
      generalize upd H2 t (.tup [.int (i : Nat), v]) = H3 at S2
      have S3 := S'.trans S2
      obtain ⟨v', e', c⟩ := hA i il
      rw [hi] at e'
      cases e'
      rcases c with ⟨en, rfl⟩ | ⟨k, t2, ek, rfl, _, _⟩
      · walk_at "rd"
        refine newT fun t3 H4 nt3 S4 ht3 => ?_
        exact q1 i i t3 H4 (.hole i (by omega) en no) (S1.trans (S3.trans S4)) ht3
      · walk_at "rd"
        refine ⟨_, _, rfl, S3, fun x hx => ?_⟩
        by_cases e : x = i
        · subst e; rw [ek]; exact fun z => by cases z
        · exact no x (by omega)
    rintro σ H2 ⟨v2, v3, rfl, S2, no⟩
    rw [lx] at no
    have hk : ∀ p, p < ss.length → kOf r ss ls p = some ((kOf r ss ls p).getD 0) := fun p hp => by
      cases e : kOf r ss ls p with
      | none => exact absurd e (no p hp)
      | some k => rfl
    generalize hkf : (fun p => (kOf r ss ls p).getD 0) = kf at hk
    have hk : ∀ p, p < ss.length → kOf r ss ls p = some (kf p) := fun p hp => by rw [← hkf]; exact hk p hp
    have at_ : ∀ p, p < ss.length → ∃ t, xs[p]? = some (.ref t) ∧ H1 t = some (.lst (nI (p :: (run r ss.length p).take (kf p)))) := fun p hp => by
      obtain ⟨v, e, c⟩ := hA p (by omega)
      rcases c with ⟨en, _⟩ | ⟨k, t, ek, rfl, _, ht⟩
      · rw [hk p hp] at en; cases en
      · rw [hk p hp] at ek; cases ek
        exact ⟨t, e, ht⟩
    have lsp : ∀ p, p < ss.length → (nI (p :: (run r ss.length p).take (kf p))).length = kf p + 1 := fun p hp => by
      have := (kOf_some (hk p hp)).1
      unfold nI
      rw [List.length_map, List.length_cons, List.length_take]; omega
    walk_at "rd"
    refine ⟨D, _, rfl, SqL.of (S2 _ _ hD), for_enu (xs := xs) (fun i σ H' => ∃ v2 v3 v4 v5 : Option V, σ = [some (.ref b), some (.ref D), v2, v3, v4, v5] ∧ Same H2 H' ∧ ∀ x, x < i → ∀ j y, j < kf x → (run r ss.length x)[j]? = some y → j + 1 + kf y ≤ kf x) ⟨v2, v3, none, none, rfl, Same.refl _, fun x h => absurd h (Nat.not_lt_zero _)⟩ (fun i σ H' ⟨_, _, _, _, _, S', _⟩ => SqL.of (S' _ _ (S2 _ _ hD))) ?_ ?_⟩
    · rintro i v t σ H3 hi ⟨v2, v3, v4, v5, rfl, S', no2⟩ nt
      have il : i < xs.length := (List.getElem?_eq_some_iff.mp hi).1
      have il' : i < ss.length := by omega
      have S3 : Same H3 (upd H3 t (.tup [.int (i : Nat), v])) := Same.new nt
      refine ⟨t, _, rfl, SqT.of upd_same, rfl, ?_⟩
      generalize upd H3 t (.tup [.int (i : Nat), v]) = H4 at S3
      have S4 := S'.trans S3
      obtain ⟨tp, ep, htp⟩ := at_ i il'
      rw [hi] at ep
      cases ep
      have htp4 := S4 _ _ (S2 _ _ htp)
      walk_at "rd"
      refine ⟨tp, _, rfl, SqL.of htp4, for_enu (xs := nI (i :: (run r ss.length i).take (kf i))) (fun d σ H' => ∃ v4 v5 : Option V, σ = [some (.ref b), some (.ref D), some (.int (i : Int)), some (.ref tp), v4, v5] ∧ Same H4 H' ∧ ∀ j y, j + 1 < d → (run r ss.length i)[j]? = some y → j + 1 + kf y ≤ kf i) ⟨v4, v5, rfl, Same.refl _, fun j y h => absurd h (Nat.not_lt_zero _)⟩ (fun d σ H' ⟨_, _, _, S', _⟩ => SqL.of (S' _ _ htp4)) ?_ ?_⟩
      · rintro d x t5 σ H5 hd ⟨v4, v5, rfl, S5, no3⟩ nt5
        obtain ⟨o, eo, rfl⟩ := nI_at hd
        have hol : o < ss.length := by
          have m := List.mem_of_getElem? eo
          rcases List.mem_cons.mp m with z | z
          · omega
          · exact run_lt il' o (List.mem_of_mem_take z)
        have dl : d < kf i + 1 := by have := (List.getElem?_eq_some_iff.mp hd).1; rw [lsp i il'] at this; exact this
        have S6 : Same H5 (upd H5 t5 (.tup [.int (d : Nat), .int (o : Int)])) := Same.new nt5
        refine ⟨t5, _, rfl, SqT.of upd_same, rfl, ?_⟩
        generalize upd H5 t5 (.tup [.int (d : Nat), .int (o : Int)]) = H6 at S6
        have S46 := S5.trans S6
        obtain ⟨tq, eq, htq⟩ := at_ o hol
        have hD6 := S46 _ _ (S4 _ _ (S2 _ _ hD))
        walk_at "rd"
        refine g_ixL (SqL.of hD6) (atI_nat eq) ?_
        refine ⟨tq, _, rfl, .inl (SqL.of (S46 _ _ (S4 _ _ (S2 _ _ htq)))), ?_⟩
        rw [lsp o hol]
        walk_at "rd"
        refine ⟨tp, _, rfl, .inl (SqL.of (S46 _ _ htp4)), ?_⟩
        rw [lsp i il']
        walk_at "rd"
        refine g_ite (fun e => ?_) (fun e => ?_)
        · have gt := of_decide_eq_true e
          walk_at "rd"
          refine newT fun t7 H7 nt7 S7 ht7 => ?_
          obtain ⟨j, rfl⟩ : ∃ j, d = j + 1 := by
            cases d with
            | zero =>
              have : o = i := by simpa using eo.symm
              subst this; omega
            | succ j => exact ⟨j, rfl⟩
          rw [List.getElem?_cons_succ, List.getElem?_take_of_lt (by omega)] at eo
          exact q1 i o t7 H7 (.cross kf hk i j o il' (by omega) eo (by omega) (fun x hx => no2 x hx) fun m y hm hy => no3 m y (by omega) hy) (((S1.trans S2).trans S4).trans (S46.trans S7)) ht7
        · have le := of_decide_eq_false e
          walk_at "rd"
          refine ⟨_, _, rfl, S46, fun j y hj hy => ?_⟩
          by_cases c : j + 1 = d
          · subst c
            rw [List.getElem?_cons_succ, List.getElem?_take_of_lt (by omega), hy] at eo
            cases eo
            omega
          · exact no3 j y (by omega) hy
      · rintro σ H5 ⟨v4, v5, rfl, S5, no3⟩
        rw [lsp i il'] at no3
        refine ⟨_, _, _, _, rfl, S4.trans S5, fun x hx j y hj hy => ?_⟩
        by_cases c : x = i
        · subst c
          exact no3 j y (by omega) hy
        · exact no2 x (by omega) j y hj hy
    · rintro σ H3 ⟨v2, v3, v4, v5, rfl, S3, no2⟩
      rw [lx] at no2
      walk_at "rd"
      exact q0 H3 ((S1.trans S2).trans S3) (.good kf hk fun p hp i q hi e => no2 p hp i q hi e)
/-! ### origin_of -/
theorem Flt.same {r : Bool} {ss ls : List Int} {a b : Option (Nat × Nat)} (h : Flt r ss ls a) (g : Flt r ss ls b) : a = b := by
  have kk : ∀ {kf kg : Nat → Nat}, (∀ p, p < ss.length → kOf r ss ls p = some (kf p)) → (∀ p, p < ss.length → kOf r ss ls p = some (kg p)) → ∀ p, p < ss.length → kf p = kg p := fun h1 h2 p hp => by
    exact Option.some.inj ((h1 p hp).symm.trans (h2 p hp))
  have two : ∀ {kf kg : Nat → Nat}, (∀ p, p < ss.length → kOf r ss ls p = some (kf p)) → (∀ p, p < ss.length → kOf r ss ls p = some (kg p)) → ∀ {p i q : Nat}, p < ss.length → i < kf p → (run r ss.length p)[i]? = some q → kf p < i + 1 + kf q → (i < kg p → (run r ss.length p)[i]? = some q → i + 1 + kg q ≤ kg p) → False := fun {kf kg} h1 h2 {p i q} hp hi hq bad ok => by
    have e1 := kk h1 h2 p hp
    have e2 := kk h1 h2 q (run_lt hp q (List.mem_of_getElem? hq))
    have := ok (by omega) hq
    omega
  rcases h with ⟨p, hp, h, a⟩ | ⟨kf, hk, p, i, q, hp, hi, hq, bad, a, b⟩ | ⟨kf, hk, h⟩ <;> rcases g with ⟨p', hp', h', a'⟩ | ⟨kg, hk', p', i', q', hp', hi', hq', bad', a', b'⟩ | ⟨kg, hk', h'⟩
  · rcases Nat.lt_trichotomy p p' with d | d | d
    · exact absurd h (a' p d)
    · rw [d]
    · exact absurd h' (a p' d)
  · rw [hk' p hp] at h; cases h
  · rw [hk' p hp] at h; cases h
  · rw [hk p' hp'] at h'; cases h'
  · rcases Nat.lt_trichotomy p p' with d | d | d
    · exact (two hk hk' hp hi hq bad fun x y => a' p d i q x y).elim
    · subst d
      rcases Nat.lt_trichotomy i i' with e | e | e
      · exact (two hk hk' hp hi hq bad fun x y => b' i q e y).elim
      · subst e
        rw [hq] at hq'; cases hq'; rfl
      · exact (two hk' hk hp' hi' hq' bad' fun x y => b i' q' e y).elim
    · exact (two hk' hk hp' hi' hq' bad' fun x y => a p' d i' q' x y).elim
  · exact (two hk hk' hp hi hq bad fun x y => h' p hp i q x y).elim
  · rw [hk p' hp'] at h'; cases h'
  · exact (two hk' hk hp' hi' hq' bad' fun x y => h p' hp' i' q' x y).elim
  · rfl
def spOrigin (A : Ad) : Sp := fun vs H Q E => ∃ (b ts tl : Addr) (r : Bool) (ss ls : List Int), vs = [.ref b] ∧ BAt A.Beads H b ts tl r ss ls ∧ StOk ss ls ∧
  (∀ (kf : Nat → Nat) (gs : List Int) (nb ts' : Addr) (H' : Hp), (∀ p, p < ss.length → kOf r ss ls p = some (kf p)) → Nest r ss.length kf → (∃ D : Int, gs = (List.range ss.length).map (fun q => D - (dpt r ss.length kf q : Int)) ∧ D ∈ ((List.range ss.length).map fun q => (dpt r ss.length kf q : Int)) ∧ ∀ q, q < ss.length → (dpt r ss.length kf q : Int) ≤ D) → Same H H' → BAt A.Beads H' nb ts' tl r gs ls → Q (.ref nb) H') ∧
  ∀ (p q : Nat) (d : Addr) (H' : Hp), Flt r ss ls (some (p, q)) → H d = none → Same H H' → H' d = some (.xd [("second", V.int (q : Int)), ("first", V.int (p : Int))]) → E (.ref A.NotOutcome) (some d) H'
def spCheckO (A : Ad) : Sp := fun vs H Q E => ∃ (b ts tl : Addr) (r : Bool) (ss ls : List Int), vs = [.ref b] ∧ BAt A.Beads H b ts tl r ss ls ∧ StOk ss ls ∧
  (∀ (kf : Nat → Nat) (H' : Hp), (∀ p, p < ss.length → kOf r ss ls p = some (kf p)) → Nest r ss.length kf → Same H H' → Q .non H') ∧
  ∀ (p q : Nat) (d : Addr) (H' : Hp), Flt r ss ls (some (p, q)) → H d = none → Same H H' → H' d = some (.xd [("second", V.int (q : Int)), ("first", V.int (p : Int))]) → E (.ref A.NotOutcome) (some d) H'
theorem ok_checkO (F : Fun K "check_outcome" "check_outcome" s_check_outcome f fd) (T : Txt K mg A) (X_NotOutcome : ExcDef2 P w K mg base "NotOutcome" A.NotOutcome "first" "second") (D_outcome_fault : DefOk P w K mg base CX0 6 "outcome_fault" ["beads"] (spFault A)) :
    FnOk P w K mg base (L2N.CX P w) 7 f fd ["beads"] (spCheckO A) := by
  refine okN F sc_check_outcome (fun vs H Q E h => ?_) (fun cdv A1 outer s H vs Q E hr h => ?_)
  · obtain ⟨b, ts, tl, r, ss, ls, rfl, _⟩ := h
    rfl
  · obtain ⟨b, ts, tl, r, ss, ls, rfl, B, ok, q0, q1⟩ := h
    refine ⟨_, (pss_cons (ps_set (i := 1) sc_check_outcome.nd rfl (Or.inl rfl) (pe_callD D_outcome_fault (hr.mono (by decide)) pass0 (pa_cons (pv 0) pa_nil)))
      (pss_one (ps_if (pt_cmpR op_notN (pv 1) pe_non (nomark _)) (pss_cons (ps_asg (pv 1) (pg_tup rfl (pgs_cons (pg_name (i := 2) sc_check_outcome.nd rfl (Or.inl rfl)) (pgs_cons (pg_name (i := 3) sc_check_outcome.nd rfl (Or.inl rfl)) pgs_nil))))
      (pss_one (L2N.ps_raise rfl (takes_ofN rfl rfl rfl rfl) (pmk_D2 X_NotOutcome (hr.mono (by decide)) (pa_cons (pv 2) (pa_cons (pv 3) pa_nil)))))) pss_nil))), ?_⟩
    walk_at "rd"
    refine ⟨b, ts, tl, r, ss, ls, rfl, B, ok, fun H1 S1 hf => ?_, fun p q t H1 hf S1 ht => ?_⟩
    · obtain ⟨kf, hk, hN⟩ : ∃ kf : Nat → Nat, (∀ p, p < ss.length → kOf r ss ls p = some (kf p)) ∧ Nest r ss.length kf := by
        cases hf with
        | good kf hk h => exact ⟨kf, hk, h⟩
      walk_at "rd"
      exact q0 kf H1 hk hN S1
    · walk_at "rd"
      refine ⟨t, _, rfl, SqT.of ht, rfl, ?_⟩
      walk_at "rd"
      exact mk2 T.oNO T.no_NotOutcome_first T.no_NotOutcome_second fun d H' nd S' hd => q1 p q d H' hf (S1.free nd) (S1.trans S') hd
theorem ok_origin (F : Fun K "origin_of" "origin_of" s_origin_of f fd) (T : Txt K mg A) (D_check_outcome : DefOk P w K mg base (L2N.CX P w) 7 "check_outcome" ["beads"] (spCheckO A)) (D_depths_of : DefOk P w K mg base CX0 6 "depths_of" ["beads"] (spDepthsG A))
    (MK_Beads : CtorD P w K mg base CX0 2 "Beads" A.Beads 2 ["ring"] gBeads (spNew K A)) : FnOk P w K mg base (L2N.CX P w) 8 f fd ["beads"] (spOrigin A) := by
  refine okN F sc_origin_of (fun vs H Q E h => ?_) (fun cdv A1 outer s H vs Q E hr h => ?_)
  · obtain ⟨b, ts, tl, r, ss, ls, rfl, _⟩ := h
    rfl
  · obtain ⟨b, ts, tl, r, ss, ls, rfl, B, ok, q0, q1⟩ := h
    have n1 := ok.n1
    have n0 := ok.n0
    refine ⟨_, (pss_cons (ps_expr (pe_callD D_check_outcome (hr.mono (by decide)) (passes_callN (takes_ofN rfl rfl rfl rfl)) (pa_cons (pv 0) pa_nil)))
      (pss_cons (ps_set (i := 1) sc_origin_of.nd rfl (Or.inl rfl) (pe_callD D_depths_of (hr.mono (by decide)) pass0 (pa_cons (pv 0) pa_nil)))
      (pss_cons (ps_set (i := 2) sc_origin_of.nd rfl (Or.inr rfl) (pe_callB (cr_maxK K rfl) (by rfl) T.m_max (by decide +kernel) (pa_cons (pv 1) pa_nil)))
      (pss_one (ps_ret (pe_makeD MK_Beads (hr.mono (by decide)) pass0 (pa_cons (pe_lc (own := [("depth", 3)]) (g := gName 3) (tt := tYes) rfl sc_origin_of.nd (pi_listK K (pv 1)) (blkOk_by (N := ["beads", "depths", "deepest", "depth"]) (sc := defScope s_origin_of) (by decide +kernel)) (fun _ _ _ _ _ => (by exact (pg_name (i := 3) sc_origin_of.nd rfl (Or.inl rfl)))) (fun _ _ _ _ _ => (by exact pts_nil)) (fun _ _ _ _ _ => (by exact (pe_op op_sub (pv 2) (pv 3))))) (pa_cons (pe_fldK K (pv 0) rfl) pa_nil)) (pk_cons (pe_fldK K (pv 0) rfl) pk_nil))))))), ?_⟩
    walk_at "rd"
    refine ⟨b, ts, tl, r, ss, ls, rfl, B, ok, fun kf H1 hk hN S1 => ?_, q1⟩
    · walk_at "rd"
      refine ⟨b, ts, tl, r, ss, ls, kf, rfl, B.mono S1, ok, hk, fun t H2 nt S2 ht => ?_⟩
      have S12 := S1.trans S2
      have eD : depL (trK r ss.length kf) ss.length ss.length = (List.range ss.length).map fun q => (dpt r ss.length kf q : Int) := rfl
      rw [eD] at ht
      walk_at "rd"
      refine ⟨t, _, rfl, SqL.of ht, by rw [List.length_map, List.length_range]; exact n0, fun m hm hmx => ?_⟩
      walk_at "rd"
      refine ⟨t, rfl, ⟨_, SqL.of ht⟩, fun D nD => ?_⟩
      refine lc_ints (fun x => m - x) (SqL.of ht) nD (by rw [List.length_map, List.length_range]; omega) (fun i x H' hx S' Q' hq => ?_) (fun H3 S3 h3 => ?_)
      · walk_at "rd"
        refine ⟨rfl, ?_⟩
        walk_at "rd"
        exact hq H' (Same.refl _)
      have eG : ((List.range ss.length).map fun q => (dpt r ss.length kf q : Int)).map (fun x => m - x) = (List.range ss.length).map fun q => m - (dpt r ss.length kf q : Int) := by rw [List.map_map]; rfl
      rw [eG] at h3
      have mle : ∀ q, q < ss.length → (dpt r ss.length kf q : Int) ≤ m := fun q hq => hmx _ (List.mem_map.mpr ⟨q, List.mem_range.mpr hq, rfl⟩)
      have okG : StOk ((List.range ss.length).map fun q => m - (dpt r ss.length kf q : Int)) ls := ⟨by rw [List.length_map, List.length_range]; exact n0, by rw [List.length_map, List.length_range]; exact n1, by rw [List.length_map, List.length_range]; exact ok.len, fun x hx => by
        obtain ⟨q, hq, rfl⟩ := List.mem_map.mp hx
        have := mle q (List.mem_range.mp hq)
        omega, ok.l1⟩
      have B3 := B.mono (S12.trans S3)
      walk_at "rd"
      refine f_l T B3 ?_
      walk_at "rd"
      refine f_r T B3 ?_
      walk_at "rd"
      refine mk_newX (c := false) h3 B3.ln okG fun x ts' H' nx S' _ B' => ?_
      exact q0 kf _ x ts' H' hk hN ⟨m, rfl, hm, mle⟩ ((S12.trans S3).trans S') B'
/-! ### -/
end
end Rt
set_option Elab.async false
set_option linter.all false
set_option maxRecDepth 100000
set_option maxHeartbeats 4000000
namespace Rt
open PySem PySem.Spec L2
open PyProof.Rows (envOfC)
local macro_rules | `(tactic| walk_at "rd1") => `(tactic| (with_reducible first
  | refine g_var (by with_unfolding_all rfl) ?_
  | refine g_c ?_
  | refine g_op ?_
  | refine g_I0 ?_
  | refine g_eqI ?_
  | refine g_neI ?_
  | refine g_eqB ?_
  | refine g_neB ?_
  | refine g_cons ?_
  | refine g_nil ?_
  | refine g_seq ?_
  | refine g_asg ?_
  | refine g_name ?_
  | refine g_ret ?_
  | refine g_retN ?_
  | refine g_drop ?_
  | refine g_next ?_
  | refine g_if ?_
  | refine g_test ?_
  | refine g_tB ?_
  | refine g_bl ?_
  | refine g_and ?_
  | refine g_or ?_
  | refine g_not ?_
  | refine g_andV ?_
  | refine g_orV ?_
  | refine g_notV ?_
  | refine g_ifE ?_
  | refine g_cb ?_
  | refine g_meth ?_
  | refine g_rev ?_
  | refine g_gcons ?_
  | refine g_gnil ?_
  | refine g_isB' ?_
  | refine g_gsub ?_
  | refine g_call ?_
  | refine g_callS ?_
  | refine g_bm ?_
  | refine g_un ?_
  | refine g_U ?_
  | refine g_chain ?_
  | refine g_sl ?_
  | refine g_brk ?_
  | refine g_ct ?_
  | refine g_ipI ?_
  | refine g_fld ?_
  | refine g_lst ?_
  | refine g_int ?_
  | refine g_for ?_
  | refine g_rg1 ?_
  | refine g_rg2 ?_
  | refine g_il ?_
  | refine g_it ?_
  | refine g_lc ?_
  | refine g_yes ?_
  | refine g_tup ?_
  | refine g_part ?_
  | refine g_xf ?_
  | refine g_nn ?_
  | refine g_mko ?_
  | refine g_lrg ?_
  | refine g_tr1 ?_
  | refine g_tr2 ?_
  | refine g_oi2 ?_
  | refine g_mk ?_
  | refine g_sfld ?_
  | refine g_ost ?_
  | refine g_oi ?_
  | refine g_nopart ?_
  | refine g_tt ?_
  | refine g_ff ?_
  | refine g_nt ?_
  | refine g_nf ?_
  | refine g_drn ?_
  | refine g_din ?_
  | refine g_dnn ?_
  | refine g_nrn ?_
  | refine g_nin ?_
  | refine g_nnn ?_))
local macro_rules | `(tactic| walk_at "rd") => `(tactic| (repeat walk_at "rd1"))

local macro_rules | `(tactic| walk_at "rd1") => `(tactic| (with_reducible first
  | refine g_lrev ?_
  | refine g_enum ?_
  | refine g_ckw ?_
  | refine g_max2 ?_
  | refine g_min2 ?_
  | refine g_augS ?_))
section
variable {P : Program} {w : World} {K : PySem.W.Frag} {mg : Str → Option Value} {base : Heap} {f : Addr} {fd : FuncData} {A : Ad}
/-! ### _law_woken -/
def wok (r : Bool) (ss ls : List Int) (ps : List Nat) : List Int := ps.foldl (fun e p => e.set p (rch r ss ls p)) ss
theorem wok_len {r : Bool} {ss ls : List Int} (ps : List Nat) : (wok r ss ls ps).length = ss.length := by
  unfold wok
  suffices h : ∀ (ps : List Nat) (e : List Int), (ps.foldl (fun e p => e.set p (rch r ss ls p)) e).length = e.length from h ps ss
  intro ps
  induction ps with
  | nil => intro e; rfl
  | cons p ps ih => intro e; rw [List.foldl_cons, ih, List.length_set]
theorem wok_app {r : Bool} {ss ls : List Int} (ps : List Nat) (p : Nat) : wok r ss ls (ps ++ [p]) = (wok r ss ls ps).set p (rch r ss ls p) := by
  unfold wok
  rw [List.foldl_append]; rfl
theorem wok_nn {r : Bool} {ss ls : List Int} (ok : StOk ss ls) (ps : List Nat) (hps : ∀ p ∈ ps, p < ss.length) : ∀ x ∈ wok r ss ls ps, 0 ≤ x := by
  unfold wok
  suffices h : ∀ (ps : List Nat) (e : List Int), (∀ p ∈ ps, p < ss.length) → (∀ x ∈ e, 0 ≤ x) → ∀ x ∈ ps.foldl (fun e p => e.set p (rch r ss ls p)) e, 0 ≤ x from h ps ss hps ok.s0
  intro ps
  induction ps with
  | nil => intro e _ h; exact h
  | cons p ps ih =>
    intro e hp h
    rw [List.foldl_cons]
    refine ih _ (fun y hy => hp y (List.mem_cons_of_mem _ hy)) fun x hx => ?_
    rcases List.mem_or_eq_of_mem_set hx with z | z
    · exact h x z
    · have hp' := hp p List.mem_cons_self
      have a := ok.pos.pos p hp'
      have b := sm_ge0 (ls := ls) (trn r ss p) fun o ho => by have := ok.pos.pos o (trn_lt hp' o ho); omega
      rw [z, rch_eq]; omega
def spWoken (K : PySem.W.Frag) : Sp := fun vs H Q _ => ∃ (r : Bool) (la sa pa : Addr) (ls ss : List Int) (ps : List Nat), vs = [.bl r, .ref la, .ref sa, .ref pa] ∧ SqL K H la (ls.map V.int) ∧ SqL K H sa (ss.map V.int) ∧ SqL K H pa (nI ps) ∧ StOk ss ls ∧ (∀ p ∈ ps, p < ss.length) ∧
  ∀ (t : Addr) (H' : Hp), H t = none → Same H H' → H' t = some (.lst ((wok r ss ls ps).map V.int)) → Q (.ref t) H'
theorem ok_woken (F : Fun K "_law_woken" "_law_woken" s__law_woken f fd) (T : Txt K mg A) (D__law_reach : DefOk P w K mg base CX0 1 "_law_reach" ["round_flag", "sizes", "strengths", "place"] (Rt.spReach K)) : FnOk P w K mg base CX0 2 f fd ["round_flag", "sizes", "strengths", "places"] (spWoken K) := by
  refine F.ok sc__law_woken (fun vs H Q E h => ?_) (fun cdv A1 outer s H vs Q E hr h => ?_)
  · obtain ⟨r, la, sa, pa, ls, ss, ps, rfl, _⟩ := h
    rfl
  · obtain ⟨r, la, sa, pa, ls, ss, ps, rfl, hl, hs, hp, ok, hps, q⟩ := h
    have n1 := ok.n1
    refine ⟨_, (pss_cons (ps_set (i := 4) sc__law_woken.nd rfl (Or.inl rfl) (pe_callTy (call_listK K) (by rfl) T.m_list (by decide +kernel) (pa_cons (pv 2) pa_nil)))
      (pss_cons (ps_for (PassesOwn.never) rfl (pi_listK K (pv 3)) (pg_name (i := 5) sc__law_woken.nd rfl (Or.inl rfl)) (pss_one (ps_asg (pe_callD D__law_reach (hr.mono (by decide)) pass0 (pa_cons (pv 0) (pa_cons (pv 1) (pa_cons (pv 2) (pa_cons (pv 5) pa_nil))))) (pg_sub (pv 4) (pv 5) set_list))))
      (pss_one (ps_ret (pv 4))))), ?_⟩
    walk_at "rd"
    refine g_lo (.inl hs) fun t H1 nt S1 ht => ?_
    walk_at "rd"
    refine ⟨pa, rfl, ⟨_, S1.seq hp⟩, for_list (xs := nI ps) (fun i σ H' => ∃ v5 : Option V, σ = [some (.bl r), some (.ref la), some (.ref sa), some (.ref pa), some (.ref t), v5] ∧ Same H H' ∧ H' t = some (.lst ((wok r ss ls (ps.take i)).map V.int)))
      ⟨none, rfl, S1, ht⟩ (fun i σ H' _ ⟨_, _, h, _⟩ => h.seq hp) ?_ ?_⟩
    · rintro i x σ H' hi ⟨v5, rfl, S', ht'⟩
      obtain ⟨p, hpi, rfl⟩ := nI_at hi
      have hpl := hps p (List.mem_of_getElem? hpi)
      walk_at "rd"
      refine ⟨r, la, sa, ls, ss, p, rfl, S'.seq hl, S'.seq hs, ok.len, hpl, by omega, ?_⟩
      walk_at "rd"
      refine g_set ht' (by rw [wok_len]; exact hpl) ?_
      refine ⟨_, rfl, S'.mut nt, ?_⟩
      rw [upd_same, take_more hpi, wok_app]
    · rintro σ H' ⟨v5, rfl, S', ht'⟩
      walk_at "rd"
      have e : ps.take (nI ps).length = ps := List.take_of_length_le (by unfold nI; rw [List.length_map]; exact Nat.le_refl _)
      rw [e] at ht'
      exact q t H' nt S' ht'
/-! ### _law_run -/
theorem g_catV {H : Hp} {Q : VK} {l b : Addr} {xs zs : List V} (h1 : H l = some (.lst xs)) (h2 : H b = some (.lst zs)) (sz : xs.length + zs.length ≤ 100000)
    (h : ∀ p H', H p = none → Same H H' → H' p = some (.lst (xs ++ zs)) → Q (.ref p) H') : rCat (.ref l) (.ref b) H Q :=
  ⟨l, b, xs, zs, rfl, rfl, h1, h2, sl1000 sz, fun p np => h p _ np (L2.Same.new np) upd_same⟩
def spRunL : Sp := fun vs H Q _ => ∃ (r : Bool) (n p : Nat), vs = [.bl r, .int (n : Int), .int (p : Int)] ∧ p < n ∧ n ≤ 1000 ∧ ∀ (t : Addr) (H' : Hp), H t = none → Same H H' → H' t = some (.lst (nI (run r n p))) → Q (.ref t) H'
theorem ok_runL (F : Fun K "_law_run" "_law_run" s__law_run f fd) (T : Txt K mg A) : FnOk P w K mg base CX0 1 f fd ["round_flag", "many", "place"] spRunL := by
  refine F.ok sc__law_run (fun vs H Q E h => ?_) (fun cdv A1 outer s H vs Q E hr h => ?_)
  · obtain ⟨r, n, p, rfl, _⟩ := h
    rfl
  · obtain ⟨r, n, p, rfl, hp, hn, q⟩ := h
    refine ⟨_, (pss_cons (ps_set (i := 3) sc__law_run.nd rfl (Or.inl rfl) (pe_listRg rfl (by rfl) T.m_list (prg_2 (by rfl) T.m_range (pe_op op_add (pv 2) pe_int) (pv 1))))
      (pss_cons (ps_if (pt_val (pv 0)) (pss_one (ps_set (i := 3) sc__law_run.nd rfl (Or.inl rfl) (pe_op op_cat (pv 3) (pe_listRg rfl (by rfl) T.m_list (prg_1 (by rfl) T.m_range (pv 2)))))) pss_nil)
      (pss_one (ps_ret (pv 3))))), ?_⟩
    walk_at "rd"
    rw [show (p : Int) + 1 = ((p + 1 : Nat) : Int) by omega]
    refine newRg (a := p + 1) (b := n) (by omega) (by omega) fun t H1 nt S1 ht => ?_
    have e1 : ((List.range (n - (p + 1))).map fun i => V.int ((p + 1 + i : Nat) : Int)) = nI ((List.range (n - (p + 1))).map fun i => p + 1 + i) := by unfold nI; rw [List.map_map]; rfl
    rw [e1] at ht
    walk_at "rd"
    refine g_ite (fun e => ?_) (fun e => ?_)
    · subst e
      walk_at "rd"
      refine newRg (a := 0) (b := p) (by omega) (by omega) fun t2 H2 nt2 S2 ht2 => ?_
      have e2 : ((List.range (p - 0)).map fun i => V.int ((0 + i : Nat) : Int)) = nI (List.range p) := by
        unfold nI
        rw [Nat.sub_zero]
        exact List.map_congr_left fun i _ => by rw [Nat.zero_add]
      rw [e2] at ht2
      walk_at "rd"
      refine g_catV (S2 _ _ ht) ht2 (by unfold nI; simp; omega) fun t3 H3 nt3 S3 ht3 => ?_
      walk_at "rd"
      refine q t3 H3 (S1.free (S2.free nt3)) ((S1.trans S2).trans S3) ?_
      rw [ht3]
      unfold run nI
      rw [if_pos rfl, List.map_append]
    · subst e
      walk_at "rd"
      refine q t H1 nt S1 ?_
      rw [ht]
      unfold run
      rw [if_neg (by decide), List.append_nil]
/-! ### _law_span -/
def kI (o : Option Nat) : Int := match o with
  | none => 0
  | some k => (k : Int) + 1
def spSpanL (K : PySem.W.Frag) : Sp := fun vs H Q _ => ∃ (r : Bool) (la sa : Addr) (ls ss : List Int) (p : Nat), vs = [.bl r, .ref la, .ref sa, .int (p : Int)] ∧ SqL K H la (ls.map V.int) ∧ SqL K H sa (ss.map V.int) ∧ StOk ss ls ∧ p < ss.length ∧ ∀ H', Same H H' → Q (.int (kI (kOf r ss ls p))) H'
theorem ok_spanL (F : Fun K "_law_span" "_law_span" s__law_span f fd) (T : Txt K mg A) (D__law_run : DefOk P w K mg base CX0 1 "_law_run" ["round_flag", "many", "place"] spRunL) : FnOk P w K mg base CX0 2 f fd ["round_flag", "sizes", "strengths", "place"] (spSpanL K) := by
  refine F.ok sc__law_span (fun vs H Q E h => ?_) (fun cdv A1 outer s H vs Q E hr h => ?_)
  · obtain ⟨r, la, sa, ls, ss, p, rfl, _⟩ := h
    rfl
  · obtain ⟨r, la, sa, ls, ss, p, rfl, hl, hs, ok, hp, q⟩ := h
    have len := ok.len
    have n1 := ok.n1
    refine ⟨_, (pss_cons (ps_set (i := 4) sc__law_span.nd rfl (Or.inl rfl) (pe_ix (ix_listK K) (pv 1) (pv 3) (fun _ _ => rfl)))
      (pss_cons (ps_set (i := 5) sc__law_span.nd rfl (Or.inl rfl) pe_int)
      (pss_cons (ps_for (PassesOwn.never) rfl (pi_listK K (pe_callD D__law_run (hr.mono (by decide)) pass0 (pa_cons (pv 0) (pa_cons (pe_callB (call_lenK K) (by rfl) T.m_len PySem.boot_len (pa_cons (pv 1) pa_nil)) (pa_cons (pv 3) pa_nil))))) (pg_name (i := 6) sc__law_span.nd rfl (Or.inl rfl)) (pss_cons (ps_if (pt_cmpR op_ge (pv 4) (pe_ix (ix_listK K) (pv 2) (pv 3) (fun _ _ => rfl)) (nomark _)) (pss_one ps_break) pss_nil)
      (pss_cons (ps_set (i := 4) sc__law_span.nd rfl (Or.inl rfl) (pe_op op_add (pv 4) (pe_ix (ix_listK K) (pv 1) (pv 6) (fun _ _ => rfl))))
      (pss_one (ps_set (i := 5) sc__law_span.nd rfl (Or.inl rfl) (pe_op op_add (pv 5) pe_int))))))
      (pss_cons (ps_if (pt_cmpR op_ne (pv 4) (pe_ix (ix_listK K) (pv 2) (pv 3) (fun _ _ => rfl)) (nomark _)) (pss_one (ps_ret pe_int)) pss_nil)
      (pss_one (ps_ret (pv 5))))))), ?_⟩
    walk_at "rd"
    refine g_ixL hl (at_int (by omega)) ?_
    walk_at "rd"
    refine ⟨la, _, rfl, .inl hl, ?_⟩
    rw [List.length_map, len]
    walk_at "rd"
    refine ⟨r, ss.length, p, rfl, hp, n1, fun t H1 nt S1 ht => ?_⟩
    have sk0 : sk r ls ss.length p 0 = ls.getD p 0 := by unfold sk; rw [List.take_zero]; show _ + sm ls [] = _; unfold sm; simp
    have fin : ∀ i, i ≤ (run r ss.length p).length → (i < (run r ss.length p).length → ss.getD p 0 ≤ sk r ls ss.length p i) → (∀ j, j < i → sk r ls ss.length p j < ss.getD p 0) → ∀ Q2 : VK, (∀ H', Same H H' → Q2 (.int (kI (kOf r ss ls p))) H') → ∀ H', Same H H' → (sk r ls ss.length p i ≠ ss.getD p 0 → Q2 (.int 0) H') ∧ (sk r ls ss.length p i = ss.getD p 0 → Q2 (.int ((i : Int) + 1)) H') := fun i hi stop lo Q2 h H' S' => by
      constructor
      · intro ne
        have e := kOf_no (r := r) (ss := ss) (ls := ls) (p := p) fun k hk y => by
          rcases Nat.lt_trichotomy k i with d | d | d
          · have := lo k d; omega
          · subst d; exact ne y.symm
          · have := sk_lt (r := r) ok.pos hp d hk
            have := stop (by omega)
            omega
        have h' := h H' S'
        rw [e] at h'
        exact h'
      · intro e
        have h' := h H' S'
        rw [kOf_of ok.pos hp hi e.symm] at h'
        exact h'
    refine ⟨t, rfl, ⟨_, SqL.of ht⟩, for_list (xs := nI (run r ss.length p)) (fun i σ H' => ∃ v6 : Option V, σ = [some (.bl r), some (.ref la), some (.ref sa), some (.int (p : Int)), some (.int (sk r ls ss.length p i)), some (.int ((i : Int) + 1)), v6] ∧ (∀ j, j < i → sk r ls ss.length p j < ss.getD p 0) ∧ Same H1 H')
      ⟨none, by rw [sk0]; rfl, fun j h => absurd h (Nat.not_lt_zero _), Same.refl _⟩ (fun i σ H' _ ⟨_, _, _, S'⟩ => SqL.of (S' _ _ ht)) ?_ ?_⟩
    · rintro i x σ H' hi ⟨v6, rfl, lo, S'⟩
      obtain ⟨o, ho, rfl⟩ := nI_at hi
      have ol : o < ss.length := run_lt hp o (List.mem_of_getElem? ho)
      have il : i < (run r ss.length p).length := (List.getElem?_eq_some_iff.mp ho).1
      have S2 := S1.trans S'
      walk_at "rd"
      refine g_ixL (S2.seq hs) (at_int hp) ?_
      walk_at "rd"
      refine g_ite (fun e => ?_) (fun e => ?_)
      · have ge := of_decide_eq_true e
        have fi := fin i (by omega) (fun _ => ge) lo
        walk_at "rd"
        refine g_ixL (S2.seq hs) (at_int hp) ?_
        walk_at "rd"
        refine g_ite (fun e2 => ?_) (fun e2 => ?_)
        · walk_at "rd"
          exact (fi _ q H' S2).1 (by simpa using e2)
        · walk_at "rd"
          exact (fi _ q H' S2).2 (by simpa using e2)
      · have lt := of_decide_eq_false e
        walk_at "rd"
        refine g_ixL (S2.seq hl) (at_int (by omega)) ?_
        walk_at "rd"
        refine ⟨_, by rw [sk_step ho, show ((i + 1 : Nat) : Int) + 1 = (i : Int) + 1 + 1 by omega]; rfl, fun j hj => ?_, S'⟩
        by_cases c : j = i
        · subst c; omega
        · exact lo j (by omega)
    · rintro σ H' ⟨v6, rfl, lo, S'⟩
      have ei : (nI (run r ss.length p)).length = (run r ss.length p).length := by unfold nI; rw [List.length_map]
      rw [ei] at lo ⊢
      have S2 := S1.trans S'
      have fi := fin _ (Nat.le_refl _) (fun h => absurd h (Nat.lt_irrefl _)) lo
      walk_at "rd"
      refine g_ixL (S2.seq hs) (at_int hp) ?_
      walk_at "rd"
      refine g_ite (fun e2 => ?_) (fun e2 => ?_)
      · walk_at "rd"
        exact (fi _ q H' S2).1 (by simpa using e2)
      · walk_at "rd"
        exact (fi _ q H' S2).2 (by simpa using e2)
/-! ### -/
end
end Rt
set_option Elab.async false
set_option linter.all false
set_option maxRecDepth 100000
set_option maxHeartbeats 4000000
namespace Rt
open PySem PySem.Spec L2
open PyProof.Rows (envOfC)
local macro_rules | `(tactic| walk_at "rd1") => `(tactic| (with_reducible first
  | refine g_var (by with_unfolding_all rfl) ?_
  | refine g_c ?_
  | refine g_op ?_
  | refine g_I0 ?_
  | refine g_eqI ?_
  | refine g_neI ?_
  | refine g_eqB ?_
  | refine g_neB ?_
  | refine g_cons ?_
  | refine g_nil ?_
  | refine g_seq ?_
  | refine g_asg ?_
  | refine g_name ?_
  | refine g_ret ?_
  | refine g_retN ?_
  | refine g_drop ?_
  | refine g_next ?_
  | refine g_if ?_
  | refine g_test ?_
  | refine g_tB ?_
  | refine g_bl ?_
  | refine g_and ?_
  | refine g_or ?_
  | refine g_not ?_
  | refine g_andV ?_
  | refine g_orV ?_
  | refine g_notV ?_
  | refine g_ifE ?_
  | refine g_cb ?_
  | refine g_meth ?_
  | refine g_rev ?_
  | refine g_gcons ?_
  | refine g_gnil ?_
  | refine g_isB' ?_
  | refine g_gsub ?_
  | refine g_call ?_
  | refine g_callS ?_
  | refine g_bm ?_
  | refine g_un ?_
  | refine g_U ?_
  | refine g_chain ?_
  | refine g_sl ?_
  | refine g_brk ?_
  | refine g_ct ?_
  | refine g_ipI ?_
  | refine g_fld ?_
  | refine g_lst ?_
  | refine g_int ?_
  | refine g_for ?_
  | refine g_rg1 ?_
  | refine g_rg2 ?_
  | refine g_il ?_
  | refine g_it ?_
  | refine g_lc ?_
  | refine g_yes ?_
  | refine g_tup ?_
  | refine g_part ?_
  | refine g_xf ?_
  | refine g_nn ?_
  | refine g_mko ?_
  | refine g_lrg ?_
  | refine g_tr1 ?_
  | refine g_tr2 ?_
  | refine g_oi2 ?_
  | refine g_mk ?_
  | refine g_sfld ?_
  | refine g_ost ?_
  | refine g_oi ?_
  | refine g_nopart ?_
  | refine g_tt ?_
  | refine g_ff ?_
  | refine g_nt ?_
  | refine g_nf ?_
  | refine g_drn ?_
  | refine g_din ?_
  | refine g_dnn ?_
  | refine g_nrn ?_
  | refine g_nin ?_
  | refine g_nnn ?_))
local macro_rules | `(tactic| walk_at "rd") => `(tactic| (repeat walk_at "rd1"))

local macro_rules | `(tactic| walk_at "rd1") => `(tactic| (with_reducible first
  | refine g_lrev ?_
  | refine g_enum ?_
  | refine g_ckw ?_
  | refine g_max2 ?_
  | refine g_min2 ?_
  | refine g_augS ?_))
section
variable {P : Program} {w : World} {K : PySem.W.Frag} {mg : Str → Option Value} {base : Heap} {f : Addr} {fd : FuncData} {A : Ad}
/-! ### _law_strengths_here -/
def spHere (K : PySem.W.Frag) : Sp := fun vs H Q _ => ∃ (c c2 : Int) (r : Bool) (la : Addr) (ls : List Int) (fm : Nat), vs = [.int c, .bl r, .ref la, .int (fm : Int), .int c2] ∧ fm ≤ 7 ∧ H la = some (.lst (ls.map V.int)) ∧ 1 ≤ ls.length ∧ ls.length ≤ 24 ∧ (∀ x ∈ ls, 1 ≤ x ∧ x ≤ 1000000000) ∧
  ∀ (t : Addr) (H' : Hp) (es : List Int), Same H H' → H' t = some (.lst (es.map V.int)) → StOk es ls → Q (.ref t) H'
theorem ok_here (F : Fun K "_law_strengths_here" "_law_strengths_here" s__law_strengths_here f fd) (T : Txt K mg A) (D__law_draws : DefOk P w K mg base CX0 1 "_law_draws" ["cell", "sizes"] (Rt.spDraws K)) (D__law_strengths : DefOk P w K mg base CX0 2 "_law_strengths" ["cell", "sizes"] (Rt.spStrengths K))
    (D__law_run : DefOk P w K mg base CX0 1 "_law_run" ["round_flag", "many", "place"] spRunL) (D__law_woken : DefOk P w K mg base CX0 2 "_law_woken" ["round_flag", "sizes", "strengths", "places"] (spWoken K)) : FnOk P w K mg base CX0 3 f fd ["cell", "round_flag", "sizes", "form", "spare"] (spHere K) := by
  refine F.ok sc__law_strengths_here (fun vs H Q E h => ?_) (fun cdv A1 outer s H vs Q E hr h => ?_)
  · obtain ⟨c, c2, r, la, ls, fm, rfl, _⟩ := h
    rfl
  · obtain ⟨c, c2, r, la, ls, fm, rfl, f7, hla, l1, l24, lb, q⟩ := h
    have hl : SqL K H la (ls.map V.int) := SqL.of hla
    have lb1 : ∀ x ∈ ls, 1 ≤ x := fun x hx => (lb x hx).1
    refine ⟨_, (pss_cons (ps_set (i := 5) sc__law_strengths_here.nd rfl (Or.inl rfl) (pe_callB (call_lenK K) (by rfl) T.m_len PySem.boot_len (pa_cons (pv 2) pa_nil)))
      (pss_cons (ps_set (i := 6) sc__law_strengths_here.nd rfl (Or.inl rfl) (pe_callD D__law_strengths (hr.mono (by decide)) pass0 (pa_cons (pv 0) (pa_cons (pv 2) pa_nil))))
      (pss_cons (ps_if (pt_cmpR op_eq (pv 3) pe_int (nomark _)) (pss_one (ps_ret (pe_callD D__law_draws (hr.mono (by decide)) pass0 (pa_cons (pv 0) (pa_cons (pe_op op_rep (pe_lst (pa_cons pe_int pa_nil)) (pv 5)) pa_nil))))) pss_nil)
      (pss_cons (ps_if (pt_cmpR (op_inK K) (pv 3) (pe_lst (pa_cons pe_int (pa_cons pe_int pa_nil))) (by rfl)) (pss_cons (ps_set (i := 7) sc__law_strengths_here.nd rfl (Or.inl rfl) (pe_ix (ix_listK K) (pe_lst (pa_cons pe_int (pa_cons (pe_op op_add (pv 5) pe_int) pa_nil))) (pe_op op_sub (pv 3) pe_int) (fun _ _ => rfl)))
      (pss_cons (ps_set (i := 8) sc__law_strengths_here.nd rfl (Or.inl rfl) (pe_callD D__law_draws (hr.mono (by decide)) pass0 (pa_cons (pv 0) (pa_cons (pe_op op_rep (pe_lst (pa_cons (pv 7) pa_nil)) (pv 5)) pa_nil))))
      (pss_cons (ps_set (i := 6) sc__law_strengths_here.nd rfl (Or.inl rfl) (pe_lst pa_nil))
      (pss_one (ps_for (PassesOwn.never) rfl (pi_range1 rfl T.m_range (pa_cons (pv 5) pa_nil)) (pg_name (i := 9) sc__law_strengths_here.nd rfl (Or.inl rfl)) (pss_cons (ps_set (i := 10) sc__law_strengths_here.nd rfl (Or.inl rfl) (pe_slice (sl_listK K) (pe_callD D__law_run (hr.mono (by decide)) pass0 (pa_cons (pv 1) (pa_cons (pv 5) (pa_cons (pv 9) pa_nil)))) po_none (po_some (pe_ix (ix_listK K) (pv 8) (pv 9) (fun _ _ => rfl)))))
      (pss_one (ps_expr (pe_appK K (pv 6) (pa_cons (pe_op op_add (pe_ix (ix_listK K) (pv 2) (pv 9) (fun _ _ => rfl)) (pe_callB (cr_sumK K rfl) (by rfl) T.m_sum (by decide +kernel) (pa_cons (pe_lc (own := [("at", 11)]) (g := gName 11) (tt := tYes) rfl sc__law_strengths_here.nd (pi_listK K (pv 10)) (blkOk_by (N := ["cell", "round_flag", "sizes", "form", "spare", "many", "strengths", "size", "draws", "place", "first", "at", "old"]) (sc := defScope s__law_strengths_here) (by decide +kernel)) (fun _ _ _ _ _ => (by exact (pg_name (i := 11) sc__law_strengths_here.nd rfl (Or.inl rfl)))) (fun _ _ _ _ _ => (by exact pts_nil)) (fun _ _ _ _ _ => (by exact (pe_ix (ix_listK K) (pv 2) (pv 11) (fun _ _ => rfl))))) pa_nil))) pa_nil)))))))))) pss_nil)
      (pss_cons (ps_if (pt_cmpR op_gt (pv 3) pe_int (nomark _)) (pss_one (ps_set (i := 6) sc__law_strengths_here.nd rfl (Or.inl rfl) (pe_callD D__law_woken (hr.mono (by decide)) pass0 (pa_cons (pv 1) (pa_cons (pv 2) (pa_cons (pv 6) (pa_cons (pe_listRg rfl (by rfl) T.m_list (prg_1 (by rfl) T.m_range (pv 5))) pa_nil))))))) pss_nil)
      (pss_cons (ps_if (pt_cmpR op_gt (pv 3) pe_int (nomark _)) (pss_cons (ps_set (i := 8) sc__law_strengths_here.nd rfl (Or.inl rfl) (pe_callD D__law_draws (hr.mono (by decide)) pass0 (pa_cons (pv 4) (pa_cons (pe_lst (pa_cons (pv 5) (pa_cons (pv 5) (pa_cons pe_int (pa_cons pe_int pa_nil))))) pa_nil))))
      (pss_cons (ps_set (i := 12) sc__law_strengths_here.nd rfl (Or.inl rfl) (pe_ix (ix_listK K) (pv 6) (pe_ix (ix_listK K) (pv 8) pe_int (fun _ _ => rfl)) (fun _ _ => rfl)))
      (pss_one (ps_asg (pe_ix (ix_listK K) (pe_lst (pa_cons (pe_ix (ix_listK K) (pv 6) (pe_ix (ix_listK K) (pv 8) pe_int (fun _ _ => rfl)) (fun _ _ => rfl)) (pa_cons pe_int (pa_cons (pe_callB (cr_max2 rfl) (by rfl) T.m_max (by decide +kernel) (pa_cons pe_int (pa_cons (pe_op op_sub (pe_op op_add (pv 12) (pe_ix (ix_listK K) (pv 8) pe_int (fun _ _ => rfl))) pe_int) pa_nil))) (pa_cons (pe_callB (cr_sumK K rfl) (by rfl) T.m_sum (by decide +kernel) (pa_cons (pv 2) pa_nil)) pa_nil))))) (pe_ix (ix_listK K) (pv 8) pe_int (fun _ _ => rfl)) (fun _ _ => rfl)) (pg_sub (pv 6) (pe_ix (ix_listK K) (pv 8) pe_int (fun _ _ => rfl)) set_list))))) pss_nil)
      (pss_one (ps_ret (pv 6))))))))), ?_⟩
    walk_at "rd"
    refine ⟨la, _, rfl, .inl hl, ?_⟩
    rw [List.length_map]
    walk_at "rd"
    refine ⟨c, la, ls, rfl, hl, by omega, lb, fun sa H1 ss nsa S1 hsa ssl ssb => ?_⟩
    have ok0 : StOk ss ls := ⟨by omega, by omega, by omega, fun x hx => (ssb x hx).1, lb1⟩
    walk_at "rd"
    refine g_ite (fun e => ?_) (fun e => ?_)
    · walk_at "rd"
      refine newL fun u1 H2 nu1 S2 hu1 => ?_
      walk_at "rd"
      refine g_rep1 (k := ls.length) hu1 (by omega) fun u2 H3 nu2 S3 hu2 => ?_
      walk_at "rd"
      refine ⟨u2, c, List.replicate ls.length 4, rfl, SqL.of hu2, by rw [List.length_replicate]; omega, fun i hi => ?_, fun t H4 es nt S4 ht dr => ?_⟩
      · rw [List.length_replicate] at hi
        rw [getD_rep hi]; decide
      have el : es.length = ls.length := by have := dr.len; rw [List.length_replicate] at this; exact this
      refine q t H4 es (((S1.trans S2).trans S3).trans S4) ht ⟨by omega, by omega, by omega, fun x hx => ?_, lb1⟩
      obtain ⟨i, hi, rfl⟩ := mem_getD hx
      exact (dr.at_ i (by rw [List.length_replicate]; omega)).1
    walk_at "rd"
    refine newL fun u1 H2 nu1 S2 hu1 => ?_
    have S12 := S1.trans S2
    refine ⟨u1, nI [2, 3], rfl, .inl (SqL.of hu1), rfl, all_flat _, ?_⟩
    rw [if_neg (by decide), inV_nI]
    walk_at "rd"
    refine g_ite (fun e2 => ?_) (fun e2 => ?_)
    · have f23 : fm = 2 ∨ fm = 3 := by have := of_decide_eq_true e2; simpa using this
      walk_at "rd"
      refine newL fun u2 H3 nu2 S3 hu2 => ?_
      walk_at "rd"
      obtain ⟨z, hz, hat⟩ : ∃ z : Nat, 1 ≤ z ∧ z ≤ 25 ∧ atI ([V.int 4, V.int ((ls.length : Int) + 1)] : List V) ((fm : Int) - 2) = some (.int (z : Int)) := by
        rcases f23 with y | y <;> subst y
        · exact ⟨4, by decide, by decide, rfl⟩
        · exact ⟨ls.length + 1, by omega, by omega, rfl⟩
      refine g_ixL (SqL.of hu2) hat.2 ?_
      walk_at "rd"
      refine newL fun u3 H4 nu3 S4 hu3 => ?_
      walk_at "rd"
      refine g_rep1 (k := ls.length) hu3 (by omega) fun u4 H5 nu4 S5 hu4 => ?_
      walk_at "rd"
      refine ⟨u4, c, List.replicate ls.length (z : Int), rfl, SqL.of hu4, by rw [List.length_replicate]; omega, fun i hi => ?_, fun da H6 ds nda S6 hda dr => ?_⟩
      · rw [List.length_replicate] at hi
        rw [getD_rep hi]; omega
      have dl : ds.length = ls.length := by have := dr.len; rw [List.length_replicate] at this; exact this
      have d0 : ∀ i, i < ls.length → 0 ≤ ds.getD i 0 ∧ ds.getD i 0 < (z : Int) := fun i hi => by
        have := dr.at_ i (by rw [List.length_replicate]; exact hi)
        rw [getD_rep hi] at this
        exact this
      have S16 := S12.trans (((S3.trans S4).trans S5).trans S6)
      walk_at "rd"
      refine newL fun t H7 nt S7 ht => ?_
      have ndt : da ≠ t := fun y => by rw [← y, hda] at nt; cases nt
      have ntH := S16.free nt
      walk_at "rd"
      refine ⟨_, rfl, by omega, by omega, ?_⟩
      rw [Int.toNat_natCast]
      refine for_range (lo := 0) (fun i σ H' => ∃ (v9 v10 : Option V) (es : List Int), σ = [some (.int c), some (.bl r), some (.ref la), some (.int (fm : Int)), some (.int c2), some (.int (ls.length : Int)), some (.ref t), some (.int (z : Int)), some (.ref da), v9, v10, none, none] ∧ Same H H' ∧ H' da = some (.lst (ds.map V.int)) ∧ H' t = some (.lst (es.map V.int)) ∧ es.length = i ∧ ∀ x ∈ es, 0 ≤ x)
        ⟨none, none, [], rfl, S16.trans S7, S7 _ _ hda, ht, rfl, fun x h => by cases h⟩ ?_ ?_
      · rintro i σ H8 hi ⟨v9, v10, es, rfl, S', hda', ht', le, he⟩
        rw [Int.zero_add]
        walk_at "rd"
        refine ⟨r, ls.length, i, rfl, hi, by omega, fun u5 H9 nu5 S9 hu5 => ?_⟩
        walk_at "rd"
        refine g_ixL (SqL.of (S9 _ _ hda')) (at_int (by omega)) ?_
        obtain ⟨k, ek⟩ : ∃ k : Nat, ds.getD i 0 = (k : Int) := ⟨(ds.getD i 0).toNat, by have := d0 i hi; omega⟩
        rw [ek]
        walk_at "rd"
        refine g_cut (SqL.of hu5) fun u6 H10 nu6 S10 hu6 => ?_
        have ecut : cutV (nI (run r ls.length i)) none (some (k : Int)) = nI ((run r ls.length i).take k) := by
          unfold nI
          by_cases kl : k ≤ (run r ls.length i).length
          · rw [cut_hi (by rw [List.length_map]; exact kl), List.map_take]
          · unfold cutV
            rw [HT.sIx_none, HT.sIx_nat, List.drop_zero, Nat.sub_zero, List.take_of_length_le (by rw [List.length_map]; omega), List.take_of_length_le (by omega)]
        rw [ecut] at hu6
        have S810 := S9.trans S10
        walk_at "rd"
        refine ⟨ty_l (S810 _ _ ht'), ?_⟩
        walk_at "rd"
        refine g_ixL ((S'.trans S810).seq hl) (at_int hi) ?_
        walk_at "rd"
        have htk : ∀ x ∈ (run r ls.length i).take k, x < ls.length := fun x hx => run_lt hi x (List.mem_of_mem_take hx)
        refine ⟨u6, rfl, ⟨_, SqL.of hu6⟩, fun D nD => ?_⟩
        rw [nI_eq] at hu6
        refine lc_ints (fun x => ls.getD x.toNat 0) (SqL.of hu6) nD (by unfold iI; rw [List.length_map, List.length_take]; have := run_le (r := r) hi; omega) (fun j x H11 hx S11 Q' hq => ?_) (fun H11 S11 h11 => ?_)
        · obtain ⟨o, ho, rfl⟩ : ∃ o : Nat, o ∈ (run r ls.length i).take k ∧ x = (o : Int) := by
            obtain ⟨o, ho, e⟩ := List.mem_map.mp (List.mem_of_getElem? hx)
            exact ⟨o, ho, e.symm⟩
          walk_at "rd"
          refine ⟨rfl, ?_⟩
          walk_at "rd"
          refine g_ixL (((S'.trans S810).trans S11).seq hl) (at_int (htk o ho)) ?_
          exact hq H11 (Same.refl _)
        walk_at "rd"
        have h0s : 0 ≤ ((iI ((run r ls.length i).take k)).map fun x => ls.getD x.toNat 0).sum := sum_ge fun y hy => by
          obtain ⟨x, hx, rfl⟩ := List.mem_map.mp hy
          obtain ⟨o, ho, rfl⟩ := List.mem_map.mp hx
          have := lb1 _ (getD_mem (l := ls) (htk o ho))
          show 0 ≤ ls.getD ((o : Int)).toNat 0
          rw [Int.toNat_natCast]; omega
        refine ⟨D, _, rfl, .inl (.inl h11), ?_⟩
        walk_at "rd"
        have ht11 := S11 _ _ (S810 _ _ ht')
        refine g_app ht11 (by rw [List.length_map, le]; exact slt1000 (by omega)) ?_
        walk_at "rd"
        refine ⟨_, _, es ++ [_], rfl, ((S'.trans S810).trans S11).mut ntH, by rw [upd_ne ndt]; exact S11 _ _ (S810 _ _ hda'), by rw [upd_same, map_app], by rw [List.length_append, le]; rfl, fun x hx => ?_⟩
        rcases List.mem_append.mp hx with y | y
        · exact he x y
        · rw [List.mem_singleton.mp y]
          have := lb1 _ (getD_mem (l := ls) hi)
          omega
      · rintro σ H8 ⟨v9, v10, es, rfl, S', hda', ht', le, he⟩
        have ok2 : StOk es ls := ⟨by omega, by omega, by omega, he, lb1⟩
        walk_at "rd"
        refine g_iff (decide_eq_false (by omega)) ?_
        walk_at "rd"
        refine g_iff (decide_eq_false (by omega)) ?_
        walk_at "rd"
        exact q t H8 es S' ht' ok2
    · walk_at "rd"
      refine g_ite (fun e3 => ?_) (fun e3 => ?_)
      · walk_at "rd"
        refine newRg (a := 0) (b := ls.length) (by omega) (by omega) fun q0 H3 nq S3 hq0 => ?_
        have e0 : ((List.range (ls.length - 0)).map fun i => V.int ((0 + i : Nat) : Int)) = nI (List.range ls.length) := by
          unfold nI
          rw [Nat.sub_zero]
          exact List.map_congr_left fun i _ => by rw [Nat.zero_add]
        rw [e0] at hq0
        walk_at "rd"
        have hps : ∀ p ∈ List.range ls.length, p < ss.length := fun p hp => by have := List.mem_range.mp hp; omega
        have S13 := S12.trans S3
        refine ⟨r, la, sa, q0, ls, ss, List.range ls.length, rfl, S13.seq hl, SqL.of (S3 _ _ (S2 _ _ hsa)), SqL.of hq0, ok0, hps, fun t H4 nt S4 ht => ?_⟩
        have ok2 : StOk (wok r ss ls (List.range ls.length)) ls := ⟨by rw [wok_len]; omega, by rw [wok_len]; omega, by rw [wok_len]; omega, wok_nn ok0 _ hps, lb1⟩
        have l2 : (wok r ss ls (List.range ls.length)).length = ss.length := wok_len _
        have ntH := S13.free nt
        have S14 := S13.trans S4
        generalize wok r ss ls (List.range ls.length) = es at ht ok2 l2
        walk_at "rd"
        refine g_ite (fun e4 => ?_) (fun e4 => ?_)
        · walk_at "rd"
          refine newL fun u2 H5 nu2 S5 hu2 => ?_
          walk_at "rd"
          refine ⟨u2, c2, [(ls.length : Int), (ls.length : Int), 4, 9], rfl, SqL.of hu2, by simp, fun i hi => ?_, fun da H6 ds nda S6 hda dr => ?_⟩
          · have hi' : i < 4 := hi
            have : i = 0 ∨ i = 1 ∨ i = 2 ∨ i = 3 := by omega
            rcases this with y | y | y | y <;> subst y
            · exact (by omega : (0 : Int) < (ls.length : Int) ∧ (ls.length : Int) < 2 ^ 64)
            · exact (by omega : (0 : Int) < (ls.length : Int) ∧ (ls.length : Int) < 2 ^ 64)
            · exact (by decide : (0 : Int) < 4 ∧ (4 : Int) < 2 ^ 64)
            · exact (by decide : (0 : Int) < 9 ∧ (9 : Int) < 2 ^ 64)
          have dl : ds.length = 4 := dr.len
          have d0 : 0 ≤ ds.getD 0 0 ∧ ds.getD 0 0 < (ls.length : Int) := dr.at_ 0 (by simp)
          have d1 : 0 ≤ ds.getD 1 0 ∧ ds.getD 1 0 < (ls.length : Int) := dr.at_ 1 (by simp)
          have d2 : 0 ≤ ds.getD 2 0 ∧ ds.getD 2 0 < 4 := dr.at_ 2 (by simp)
          obtain ⟨o0, eo0, ho0⟩ : ∃ k : Nat, ds.getD 0 0 = (k : Int) ∧ k < es.length := ⟨(ds.getD 0 0).toNat, by omega, by omega⟩
          obtain ⟨o1, eo1, ho1⟩ : ∃ k : Nat, ds.getD 1 0 = (k : Int) ∧ k < es.length := ⟨(ds.getD 1 0).toNat, by omega, by omega⟩
          have ht6 := S6 _ _ (S5 _ _ ht)
          have S16 := S14.trans (S5.trans S6)
          walk_at "rd"
          refine g_ixL (SqL.of hda) (at_int (o := 0) (by omega)) ?_
          rw [eo0]
          refine g_ixL (SqL.of ht6) (at_int ho0) ?_
          walk_at "rd"
          refine g_ixL (SqL.of hda) (at_int (o := 1) (by omega)) ?_
          rw [eo1]
          refine g_ixL (SqL.of ht6) (at_int ho1) ?_
          walk_at "rd"
          refine g_ixL (SqL.of hda) (at_int (o := 3) (by omega)) ?_
          walk_at "rd"
          refine ⟨la, _, rfl, .inl (.inl (S16 _ _ hla)), ?_⟩
          walk_at "rd"
          refine newL fun u7 H7 nu7 S7 hu7 => ?_
          walk_at "rd"
          refine g_ixL (SqL.of (S7 _ _ hda)) (at_int (o := 2) (by omega)) ?_
          have hf := at_toNat (zs := [es.getD o1 0, 0, max 0 (es.getD o0 0 + ds.getD 3 0 - 4), ls.sum]) d2.1 (by simpa using d2.2)
          refine g_ixL (xs := ([es.getD o1 0, 0, max 0 (es.getD o0 0 + ds.getD 3 0 - 4), ls.sum] : List Int).map V.int) (SqL.of hu7) hf ?_
          have hv0 : 0 ≤ ([es.getD o1 0, 0, max 0 (es.getD o0 0 + ds.getD 3 0 - 4), ls.sum] : List Int).getD (ds.getD 2 0).toNat 0 := by
            have a1 : 0 ≤ es.getD o1 0 := ok2.s0 _ (getD_mem ho1)
            have a2 : 0 ≤ ls.sum := sum_ge fun x hx => by have := lb1 x hx; omega
            generalize ds.getD 2 0 = y at d2
            have hc : y = 0 ∨ y = 1 ∨ y = 2 ∨ y = 3 := by omega
            rcases hc with y | y | y | y <;> subst y
            · exact a1
            · exact Int.le_refl _
            · show 0 ≤ max 0 _; omega
            · exact a2
          generalize ([es.getD o1 0, 0, max 0 (es.getD o0 0 + ds.getD 3 0 - 4), ls.sum] : List Int).getD (ds.getD 2 0).toNat 0 = nv at hv0
          walk_at "rd"
          refine g_ixL (SqL.of (S7 _ _ hda)) (at_int (o := 0) (by omega)) ?_
          rw [eo0]
          walk_at "rd"
          refine g_set (S7 _ _ ht6) ho0 ?_
          walk_at "rd"
          refine q t _ (es.set o0 nv) ((S16.trans S7).mut ntH) upd_same ⟨by rw [List.length_set]; omega, by rw [List.length_set]; omega, by rw [List.length_set]; omega, fun x hx => ?_, lb1⟩
          rcases List.mem_or_eq_of_mem_set hx with y | y
          · exact ok2.s0 x y
          · rw [y]; exact hv0
        · walk_at "rd"
          exact q t H4 es S14 ht ok2
      · walk_at "rd"
        refine g_iff (decide_eq_false (by have := of_decide_eq_false e3; omega)) ?_
        walk_at "rd"
        exact q sa H2 ss S12 (S2 _ _ hsa) ok0
/-! ### -/
end
end Rt
set_option Elab.async false
set_option linter.all false
set_option maxRecDepth 100000
set_option maxHeartbeats 4000000
namespace Rt
open PySem PySem.Spec L2
open PyProof.Rows (envOfC)
local macro_rules | `(tactic| walk_at "rd1") => `(tactic| (with_reducible first
  | refine g_var (by with_unfolding_all rfl) ?_
  | refine g_c ?_
  | refine g_op ?_
  | refine g_I0 ?_
  | refine g_eqI ?_
  | refine g_neI ?_
  | refine g_eqB ?_
  | refine g_neB ?_
  | refine g_cons ?_
  | refine g_nil ?_
  | refine g_seq ?_
  | refine g_asg ?_
  | refine g_name ?_
  | refine g_ret ?_
  | refine g_retN ?_
  | refine g_drop ?_
  | refine g_next ?_
  | refine g_if ?_
  | refine g_test ?_
  | refine g_tB ?_
  | refine g_bl ?_
  | refine g_and ?_
  | refine g_or ?_
  | refine g_not ?_
  | refine g_andV ?_
  | refine g_orV ?_
  | refine g_notV ?_
  | refine g_ifE ?_
  | refine g_cb ?_
  | refine g_meth ?_
  | refine g_rev ?_
  | refine g_gcons ?_
  | refine g_gnil ?_
  | refine g_isB' ?_
  | refine g_gsub ?_
  | refine g_call ?_
  | refine g_callS ?_
  | refine g_bm ?_
  | refine g_un ?_
  | refine g_U ?_
  | refine g_chain ?_
  | refine g_sl ?_
  | refine g_brk ?_
  | refine g_ct ?_
  | refine g_ipI ?_
  | refine g_fld ?_
  | refine g_lst ?_
  | refine g_int ?_
  | refine g_for ?_
  | refine g_rg1 ?_
  | refine g_rg2 ?_
  | refine g_il ?_
  | refine g_it ?_
  | refine g_lc ?_
  | refine g_yes ?_
  | refine g_tup ?_
  | refine g_part ?_
  | refine g_xf ?_
  | refine g_nn ?_
  | refine g_mko ?_
  | refine g_lrg ?_
  | refine g_tr1 ?_
  | refine g_tr2 ?_
  | refine g_oi2 ?_
  | refine g_mk ?_
  | refine g_sfld ?_
  | refine g_ost ?_
  | refine g_oi ?_
  | refine g_nopart ?_
  | refine g_tt ?_
  | refine g_ff ?_
  | refine g_nt ?_
  | refine g_nf ?_
  | refine g_drn ?_
  | refine g_din ?_
  | refine g_dnn ?_
  | refine g_nrn ?_
  | refine g_nin ?_
  | refine g_nnn ?_))
local macro_rules | `(tactic| walk_at "rd") => `(tactic| (repeat walk_at "rd1"))

local macro_rules | `(tactic| walk_at "rd1") => `(tactic| (with_reducible first
  | refine g_lrev ?_
  | refine g_enum ?_
  | refine g_ckw ?_
  | refine g_max2 ?_
  | refine g_min2 ?_
  | refine g_augS ?_))
section
variable {P : Program} {w : World} {K : PySem.W.Frag} {mg : Str → Option Value} {base : Heap} {f : Addr} {fd : FuncData} {A : Ad}
theorem inV_I {k : Int} : ∀ ns : List Int, inV (V.int k) (ns.map V.int) = decide (k ∈ ns)
  | [] => rfl
  | o :: ns => by
    have ih := inV_I (k := k) ns
    unfold inV at ih ⊢
    rw [List.map_cons, List.any_cons, ih, eqVI]
    by_cases c : o = k
    · subst c; simp
    · have : k ≠ o := fun z => c z.symm
      simp [c, this]
theorem g_ixmin {K : PySem.W.Frag} {H : Hp} {Q : VK} {a : Addr} {ns : List Int} {k : Int} (hs : SqL K H a (ns.map V.int)) (hk : k ∈ ns) (q : ∀ j : Nat, j < ns.length → ns.getD j 0 = k → (∀ m, m < j → ns.getD m 0 ≠ k) → Q (.int (j : Int)) H) : rIndex K (.ref a) [.int k] H Q := by
  obtain ⟨j, h1, h2, h3⟩ := first_at hk
  have at_ : ∀ m, m < ns.length → (ns.map V.int)[m]? = some (.int (ns.getD m 0)) := fun m hm => by
    rw [List.getElem?_map, List.getElem?_eq_getElem hm, List.getD_eq_getElem?_getD, List.getElem?_eq_getElem hm]; rfl
  refine ⟨a, _, .int k, j, .int (ns.getD j 0), rfl, rfl, hs, rfl, flatI ns, at_ j h1, by rw [eqVI]; exact decide_eq_true h2, fun m z hm hz => ?_, q j h1 h2 h3⟩
  rw [at_ m (by omega)] at hz
  cases hz
  rw [eqVI]
  exact decide_eq_false (h3 m hm)
/-- the sizes of the spans, 0 for none -/
def spL (r : Bool) (ss ls : List Int) : List Int := (List.range ss.length).map fun p => kI (kOf r ss ls p)
theorem spL_len {r : Bool} {ss ls : List Int} : (spL r ss ls).length = ss.length := by unfold spL; rw [List.length_map, List.length_range]
theorem spL_at {r : Bool} {ss ls : List Int} {p : Nat} (h : p < ss.length) : (spL r ss ls).getD p 0 = kI (kOf r ss ls p) := by
  unfold spL
  rw [List.getD_eq_getElem?_getD, List.getElem?_map, List.getElem?_range h]; rfl
theorem kI_0 {o : Option Nat} : kI o = 0 ↔ o = none := by
  cases o with
  | none => exact ⟨fun _ => rfl, fun _ => rfl⟩
  | some k => exact ⟨fun z => by simp only [kI] at z; omega, fun z => by cases z⟩
def fL : Option (Nat × Nat) → List Int
  | none => []
  | some (p, q) => [(p : Int), (q : Int)]
/-! ### _law_fault -/
def spFaultL (K : PySem.W.Frag) : Sp := fun vs H Q _ => ∃ (r : Bool) (pa : Addr) (ss ls : List Int), vs = [.bl r, .ref pa] ∧ H pa = some (.lst ((spL r ss ls).map V.int)) ∧ StOk ss ls ∧
  ∀ (o : Option (Nat × Nat)) (t : Addr) (H' : Hp), Flt r ss ls o → Same H H' → H' t = some (.lst ((fL o).map V.int)) → Q (.ref t) H'
theorem ok_faultL (F : Fun K "_law_fault" "_law_fault" s__law_fault f fd) (T : Txt K mg A) (D__law_run : DefOk P w K mg base CX0 1 "_law_run" ["round_flag", "many", "place"] spRunL) : FnOk P w K mg base CX0 2 f fd ["round_flag", "spans"] (spFaultL K) := by
  refine F.ok sc__law_fault (fun vs H Q E h => ?_) (fun cdv A1 outer s H vs Q E hr h => ?_)
  · obtain ⟨r, pa, ss, ls, rfl, _⟩ := h
    rfl
  · obtain ⟨r, pa, ss, ls, rfl, hpa, ok, q⟩ := h
    have hp : SqL K H pa ((spL r ss ls).map V.int) := SqL.of hpa
    have n1 := ok.n1
    have lS := spL_len (r := r) (ss := ss) (ls := ls)
    refine ⟨_, (pss_cons (ps_if (pt_cmpR (op_inK K) pe_int (pv 1) (by rfl)) (pss_one (ps_ret (pe_lst (pa_cons (pe_ixof K (pv 1) (pa_cons pe_int pa_nil)) (pa_cons (pe_ixof K (pv 1) (pa_cons pe_int pa_nil)) pa_nil))))) pss_nil)
      (pss_cons (ps_for (PassesOwn.never) rfl (pi_range1 rfl T.m_range (pa_cons (pe_callB (call_lenK K) (by rfl) T.m_len PySem.boot_len (pa_cons (pv 1) pa_nil)) pa_nil)) (pg_name (i := 2) sc__law_fault.nd rfl (Or.inl rfl)) (pss_cons (ps_set (i := 3) sc__law_fault.nd rfl (Or.inl rfl) (pe_callD D__law_run (hr.mono (by decide)) pass0 (pa_cons (pv 0) (pa_cons (pe_callB (call_lenK K) (by rfl) T.m_len PySem.boot_len (pa_cons (pv 1) pa_nil)) (pa_cons (pv 2) pa_nil)))))
      (pss_one (ps_for (PassesOwn.never) rfl (pi_range2 rfl T.m_range (pa_cons pe_int (pa_cons (pe_ix (ix_listK K) (pv 1) (pv 2) (fun _ _ => rfl)) pa_nil))) (pg_name (i := 4) sc__law_fault.nd rfl (Or.inl rfl)) (pss_one (ps_if (pt_cmpR op_gt (pe_op op_add (pv 4) (pe_ix (ix_listK K) (pv 1) (pe_ix (ix_listK K) (pv 3) (pe_op op_sub (pv 4) pe_int) (fun _ _ => rfl)) (fun _ _ => rfl))) (pe_ix (ix_listK K) (pv 1) (pv 2) (fun _ _ => rfl)) (nomark _)) (pss_one (ps_ret (pe_lst (pa_cons (pv 2) (pa_cons (pe_ix (ix_listK K) (pv 3) (pe_op op_sub (pv 4) pe_int) (fun _ _ => rfl)) pa_nil))))) pss_nil))))))
      (pss_one (ps_ret (pe_lst pa_nil))))), ?_⟩
    walk_at "rd"
    refine ⟨pa, _, rfl, .inl hp, rfl, flatI _, ?_⟩
    rw [if_neg (by decide), inV_I]
    walk_at "rd"
    refine g_ite (fun e => ?_) (fun e => ?_)
    · have mem := of_decide_eq_true e
      have hole : ∀ j, j < (spL r ss ls).length → (spL r ss ls).getD j 0 = 0 → (∀ m, m < j → (spL r ss ls).getD m 0 ≠ 0) → Flt r ss ls (some (j, j)) := fun j h1 h2 h3 => by
        rw [lS] at h1
        rw [spL_at h1] at h2
        exact .hole j h1 (kI_0.mp h2) fun x hx z => h3 x hx (by rw [spL_at (by omega)]; exact kI_0.mpr z)
      walk_at "rd"
      refine ⟨ty_l hpa, ?_⟩
      walk_at "rd"
      refine g_ixmin hp mem fun j h1 h2 h3 => ?_
      walk_at "rd"
      refine ⟨ty_l hpa, ?_⟩
      walk_at "rd"
      refine g_ixmin hp mem fun j' h1' h2' h3' => ?_
      have ej : j' = j := by
        rcases Nat.lt_trichotomy j' j with d | d | d
        · exact absurd h2' (h3 j' d)
        · exact d
        · exact absurd h2 (h3' j d)
      subst ej
      walk_at "rd"
      refine newL fun t H1 nt S1 ht => ?_
      exact q (some (j', j')) t H1 (hole j' h1 h2 h3) S1 ht
    · have no : ∀ p, p < ss.length → kOf r ss ls p ≠ none := fun p hp z => (of_decide_eq_false e) (by
        rw [← kI_0, ← spL_at hp] at z
        rw [← z]
        exact getD_mem (by omega))
      have hk : ∀ p, p < ss.length → kOf r ss ls p = some ((kOf r ss ls p).getD 0) := fun p hp => by
        cases e : kOf r ss ls p with
        | none => exact absurd e (no p hp)
        | some k => rfl
      generalize hkf : (fun p => (kOf r ss ls p).getD 0) = kf at hk
      have hk : ∀ p, p < ss.length → kOf r ss ls p = some (kf p) := fun p hp => by rw [← hkf]; exact hk p hp
      have sat : ∀ p, p < ss.length → (spL r ss ls).getD p 0 = (kf p : Int) + 1 := fun p hp => by rw [spL_at hp, hk p hp]; rfl
      walk_at "rd"
      refine ⟨pa, _, rfl, .inl hp, ?_⟩
      rw [List.length_map, lS]
      walk_at "rd"
      refine ⟨_, rfl, by omega, by omega, ?_⟩
      rw [Int.toNat_natCast]
      refine for_range (lo := 0) (fun i σ H' => ∃ v2 v3 v4 : Option V, σ = [some (.bl r), some (.ref pa), v2, v3, v4] ∧ Same H H' ∧ ∀ x, x < i → ∀ j y, j < kf x → (run r ss.length x)[j]? = some y → j + 1 + kf y ≤ kf x) ⟨none, none, none, rfl, Same.refl _, fun x h => absurd h (Nat.not_lt_zero _)⟩ ?_ ?_
      · rintro i σ H1 hi ⟨v2, v3, v4, rfl, S1, no2⟩
        rw [Int.zero_add]
        have fit := (kOf_some (hk i hi)).1
        walk_at "rd"
        refine ⟨pa, _, rfl, .inl (S1.seq hp), ?_⟩
        rw [List.length_map, lS]
        walk_at "rd"
        refine ⟨r, ss.length, i, rfl, hi, n1, fun t H2 nt S2 ht => ?_⟩
        have S12 := S1.trans S2
        walk_at "rd"
        refine g_ixL (S12.seq hp) (at_int (by omega)) ?_
        rw [sat i hi]
        refine ⟨1, _, rfl, ⟨by decide, by decide, by omega, by have := run_le (r := r) hi; omega⟩, ?_⟩
        have en : ((kf i : Int) + 1 - 1).toNat = kf i := by omega
        rw [en]
        refine for_range (lo := 1) (fun d σ H' => ∃ v4 : Option V, σ = [some (.bl r), some (.ref pa), some (.int (i : Int)), some (.ref t), v4] ∧ Same H2 H' ∧ ∀ j y, j < d → (run r ss.length i)[j]? = some y → j + 1 + kf y ≤ kf i) ⟨v4, rfl, Same.refl _, fun j y h => absurd h (Nat.not_lt_zero _)⟩ ?_ ?_
        · rintro d σ H3 hd ⟨v4, rfl, S3, no3⟩
          have eo : (run r ss.length i)[d]? = some (run r ss.length i)[d] := List.getElem?_eq_getElem (by omega)
          generalize (run r ss.length i)[d] = o at eo
          have ol : o < ss.length := run_lt hi o (List.mem_of_getElem? eo)
          have S13 := S12.trans S3
          have xd : (nI (run r ss.length i))[d]? = some (.int (o : Int)) := by
            unfold nI
            rw [List.getElem?_map, eo]; rfl
          walk_at "rd"
          rw [show (1 : Int) + (d : Int) - 1 = (d : Int) by omega]
          refine g_ixL (SqL.of (S3 _ _ ht)) (atI_nat xd) ?_
          refine g_ixL (S13.seq hp) (at_int (by omega)) ?_
          rw [sat o ol]
          walk_at "rd"
          refine g_ixL (S13.seq hp) (at_int (by omega)) ?_
          rw [sat i hi]
          walk_at "rd"
          refine g_ite (fun e => ?_) (fun e => ?_)
          · have gt := of_decide_eq_true e
            walk_at "rd"
            rw [show (1 : Int) + (d : Int) - 1 = (d : Int) by omega]
            refine g_ixL (SqL.of (S3 _ _ ht)) (atI_nat xd) ?_
            walk_at "rd"
            refine newL fun t4 H4 nt4 S4 ht4 => ?_
            exact q (some (i, o)) t4 H4 (.cross kf hk i d o hi (by omega) eo (by omega) (fun x hx => no2 x hx) fun m y hm hy => no3 m y hm hy) (S13.trans S4) ht4
          · have le := of_decide_eq_false e
            walk_at "rd"
            refine ⟨_, rfl, S3, fun j y hj hy => ?_⟩
            by_cases c : j = d
            · subst c
              rw [eo] at hy
              cases hy
              omega
            · exact no3 j y (by omega) hy
        · rintro σ H3 ⟨v4, rfl, S3, no3⟩
          refine ⟨_, _, _, rfl, S12.trans S3, fun x hx j y hj hy => ?_⟩
          by_cases c : x = i
          · subst c
            exact no3 j y hj hy
          · exact no2 x (by omega) j y hj hy
      · rintro σ H1 ⟨v2, v3, v4, rfl, S1, no2⟩
        walk_at "rd"
        refine newL fun t H2 nt S2 ht => ?_
        exact q none t H2 (.good kf hk fun p hp i q hi e => no2 p hp i q hi e) (S1.trans S2) ht
/-! ### _law_is_fault -/
def spIsFault (K : PySem.W.Frag) (A : Ad) : Sp := fun vs H Q _ => ∃ (b ts tl da : Addr) (r : Bool) (ss ls : List Int) (o : Option (Nat × Nat)), vs = [.ref b, .ref da] ∧ BAt A.Beads H b ts tl r ss ls ∧ StOk ss ls ∧ SqL K H da ((fL o).map V.int) ∧ Flt r ss ls o ∧ ∀ H', Same H H' → Q (.bl true) H'
theorem ok_isFault (F : Fun K "_law_is_fault" "_law_is_fault" s__law_is_fault f fd) (T : Txt K mg A) (D_outcome_fault : DefOk P w K mg base CX0 6 "outcome_fault" ["beads"] (spFault A)) (D__law_numbers : DefOk P w K mg base CX0 2 "_law_numbers" ["actual", "due", "as_tuple"] (Rt.spNumbers K)) : FnOk P w K mg base CX0 7 f fd ["beads", "due"] (spIsFault K A) := by
  refine F.ok sc__law_is_fault (fun vs H Q E h => ?_) (fun cdv A1 outer s H vs Q E hr h => ?_)
  · obtain ⟨b, ts, tl, da, r, ss, ls, o, rfl, _⟩ := h
    rfl
  · obtain ⟨b, ts, tl, da, r, ss, ls, o, rfl, B, ok, hda, hf, q⟩ := h
    refine ⟨_, (pss_cons (ps_set (i := 2) sc__law_is_fault.nd rfl (Or.inl rfl) (pe_callD D_outcome_fault (hr.mono (by decide)) pass0 (pa_cons (pv 0) pa_nil)))
      (pss_cons (ps_if (pt_cmpR (op_eqDK K hr.units) (pv 1) (pe_lst pa_nil) (nomark _)) (pss_one (ps_ret (pe_cmpR op_isN (pv 2) pe_non (nomark _)))) pss_nil)
      (pss_one (ps_ret (pe_callD D__law_numbers (hr.mono (by decide)) pass0 (pa_cons (pv 2) (pa_cons (pv 1) (pa_cons pe_bl pa_nil)))))))), ?_⟩
    walk_at "rd"
    refine ⟨b, ts, tl, r, ss, ls, rfl, B, ok, fun H1 S1 hf' => ?_, fun p p2 t H1 hf' S1 ht => ?_⟩
    · have e := hf.same hf'
      subst e
      walk_at "rd"
      refine newL fun u H2 nu S2 hu => ?_
      walk_at "rd"
      refine g_eqL (ys := []) ((S1.trans S2).seq hda) (SqL.of hu) ?_
      walk_at "rd"
      refine g_itt (decide_eq_true rfl) ?_
      walk_at "rd"
      exact q _ (S1.trans S2)
    · have e := hf.same hf'
      subst e
      walk_at "rd"
      refine newL fun u H2 nu S2 hu => ?_
      walk_at "rd"
      refine g_eqL (ys := []) ((S1.trans S2).seq hda) (SqL.of hu) ?_
      walk_at "rd"
      refine g_iff (decide_eq_false (fun z => by cases z)) ?_
      walk_at "rd"
      refine ⟨t, da, true, [(p : Int), (p2 : Int)], fL (some (p, p2)), rfl, S2 _ _ ht, (S1.trans S2).seq hda, by simp [fL], ?_⟩
      have ed : decide ([(p : Int), (p2 : Int)] = fL (some (p, p2))) = true := decide_eq_true rfl
      rw [ed]
      exact q _ (S1.trans S2)
/-! ### -/
end
end Rt
set_option Elab.async false
set_option linter.all false
set_option maxRecDepth 100000
set_option maxHeartbeats 4000000
namespace Rt
open PySem PySem.Spec L2
open PyProof.Rows (envOfC)
theorem g_xv {K : PySem.W.Frag} {f : Str} {te : TE} {σ : L2.St} {H : Hp} {Q : VK} (h : te σ H fun x H1 => ∃ (a C dd : Addr) (fs : List (Str × V)) (v : V), x = .ref a ∧ H1 a = some (ExD C (some dd) a) ∧ XfC K C ∧ PySem.W.findIn K (.ref C) f = some none ∧ H1 dd = some (.xd fs) ∧ fs.lookup f = some v ∧ Q v H1) : tXv K f te σ H Q := h
theorem g_exV {t : L2.St → Hp → XK → Prop} {σ : L2.St} {H : Hp} {Q : VK} (h : t σ H fun cls d H' => ∃ C : Addr, cls = .ref C ∧ ∀ a, H' a = none → Q (.ref a) (upd H' a (ExD C d a))) : tExV t σ H Q := h
local macro_rules | `(tactic| walk_at "rd1") => `(tactic| (with_reducible first
  | refine g_var (by with_unfolding_all rfl) ?_
  | refine g_c ?_
  | refine g_op ?_
  | refine g_I0 ?_
  | refine g_eqI ?_
  | refine g_neI ?_
  | refine g_eqB ?_
  | refine g_neB ?_
  | refine g_cons ?_
  | refine g_nil ?_
  | refine g_seq ?_
  | refine g_asg ?_
  | refine g_name ?_
  | refine g_ret ?_
  | refine g_retN ?_
  | refine g_drop ?_
  | refine g_next ?_
  | refine g_if ?_
  | refine g_test ?_
  | refine g_tB ?_
  | refine g_bl ?_
  | refine g_and ?_
  | refine g_or ?_
  | refine g_not ?_
  | refine g_andV ?_
  | refine g_orV ?_
  | refine g_notV ?_
  | refine g_ifE ?_
  | refine g_cb ?_
  | refine g_meth ?_
  | refine g_rev ?_
  | refine g_gcons ?_
  | refine g_gnil ?_
  | refine g_isB' ?_
  | refine g_gsub ?_
  | refine g_call ?_
  | refine g_callS ?_
  | refine g_bm ?_
  | refine g_un ?_
  | refine g_U ?_
  | refine g_chain ?_
  | refine g_sl ?_
  | refine g_brk ?_
  | refine g_ct ?_
  | refine g_ipI ?_
  | refine g_fld ?_
  | refine g_lst ?_
  | refine g_int ?_
  | refine g_for ?_
  | refine g_rg1 ?_
  | refine g_rg2 ?_
  | refine g_il ?_
  | refine g_it ?_
  | refine g_lc ?_
  | refine g_yes ?_
  | refine g_tup ?_
  | refine g_part ?_
  | refine g_xf ?_
  | refine g_nn ?_
  | refine g_mko ?_
  | refine g_lrg ?_
  | refine g_tr1 ?_
  | refine g_tr2 ?_
  | refine g_oi2 ?_
  | refine g_mk ?_
  | refine g_sfld ?_
  | refine g_ost ?_
  | refine g_oi ?_
  | refine g_nopart ?_
  | refine g_tt ?_
  | refine g_ff ?_
  | refine g_nt ?_
  | refine g_nf ?_
  | refine g_drn ?_
  | refine g_din ?_
  | refine g_dnn ?_
  | refine g_nrn ?_
  | refine g_nin ?_
  | refine g_nnn ?_))
local macro_rules | `(tactic| walk_at "rd") => `(tactic| (repeat walk_at "rd1"))

local macro_rules | `(tactic| walk_at "rd1") => `(tactic| (with_reducible first
  | refine g_lrev ?_
  | refine g_enum ?_
  | refine g_ckw ?_
  | refine g_max2 ?_
  | refine g_min2 ?_
  | refine g_augS ?_
  | refine g_xv ?_))
section
variable {P : Program} {w : World} {K : PySem.W.Frag} {mg : Str → Option Value} {base : Heap} {f : Addr} {fd : FuncData} {A : Ad}
/-! ### the origin -/
theorem wok_all {r : Bool} {ss ls : List Int} : wok r ss ls (List.range ss.length) = rnd r ls ss := by
  have key : ∀ i, i ≤ ss.length → ∀ k, k < ss.length → (wok r ss ls (List.range i)).getD k 0 = if k < i then rch r ss ls k else ss.getD k 0 := by
    intro i
    induction i with
    | zero => intro _ k _; rw [if_neg (Nat.not_lt_zero _)]; rfl
    | succ i ih =>
      intro hi k hk
      rw [List.range_succ, wok_app, getD_set (by rw [wok_len]; omega), ih (by omega) k hk]
      by_cases c : k = i
      · subst c; rw [if_pos rfl, if_pos (by omega)]
      · rw [if_neg c]
        by_cases d : k < i
        · rw [if_pos d, if_pos (by omega)]
        · rw [if_neg d, if_neg (by omega)]
  refine ext_getD (by rw [wok_len, rnd_len]) fun k hk => ?_
  rw [wok_len] at hk
  rw [key _ (Nat.le_refl _) k hk, if_pos hk, rnd_at hk]
theorem fit_of {r : Bool} {ss ls : List Int} {kf : Nat → Nat} (hk : ∀ p, p < ss.length → kOf r ss ls p = some (kf p)) : Fit r ss.length kf := fun p hp => (kOf_some (hk p hp)).1
theorem origin_ok {r : Bool} {ss ls : List Int} {kf : Nat → Nat} {D : Int} (hk : ∀ p, p < ss.length → kOf r ss ls p = some (kf p)) (N : Nest r ss.length kf) : rnd r ls ((List.range ss.length).map fun q => D - (dpt r ss.length kf q : Int)) = ss := by
  have hl : ((List.range ss.length).map fun q => D - (dpt r ss.length kf q : Int)).length = ss.length := by rw [List.length_map, List.length_range]
  have hg : ∀ q, q < ss.length → ((List.range ss.length).map fun q => D - (dpt r ss.length kf q : Int)).getD q 0 = D - (dpt r ss.length kf q : Int) := fun q hq => by
    rw [List.getD_eq_getElem?_getD, List.getElem?_map, List.getElem?_range hq]; rfl
  refine ext_getD (by rw [rnd_len, hl]) fun p hp => ?_
  rw [rnd_len, hl] at hp
  rw [rnd_at (by rw [hl]; exact hp), rch_eq, org_trn (fit_of hk) N hl hg hp, (kOf_some (hk p hp)).2]
  rfl
/-- after a round all is well -/
theorem kOf_rnd {r : Bool} {ss ls : List Int} (P : Pos' ss ls) {p : Nat} (hp : p < ss.length) : kOf r (rnd r ls ss) ls p = some (tl r ss p) := by
  have lr : (rnd r ls ss).length = ss.length := rnd_len
  refine kOf_of (P.rnd r) (by omega) (by rw [lr]; exact tl_le) ?_
  rw [rnd_at hp, rch_sk, lr]
theorem flt_rnd {r : Bool} {ss ls : List Int} (P : Pos' ss ls) : Flt r (rnd r ls ss) ls none := by
  have lr : (rnd r ls ss).length = ss.length := rnd_len
  exact .good (fun p => tl r ss p) (fun p hp => kOf_rnd P (by omega)) (by rw [lr]; exact nest_tl)
theorem dpt_congr {r : Bool} {n : Nat} {kf kg : Nat → Nat} (h : ∀ p, p < n → kf p = kg p) (q : Nat) : dpt r n kf q = dpt r n kg q := by
  unfold dpt
  congr 1
  refine List.filter_congr fun x hx => ?_
  have e : inn r n kf x = inn r n kg x := by
    unfold inn
    rw [h x (List.mem_range.mp hx)]
  rw [e]
/-! ### _law_depths -/
def spDepL (K : PySem.W.Frag) : Sp := fun vs H Q _ => ∃ (r : Bool) (pa : Addr) (ss ls : List Int) (kf : Nat → Nat), vs = [.bl r, .ref pa] ∧ SqL K H pa ((spL r ss ls).map V.int) ∧ StOk ss ls ∧ (∀ p, p < ss.length → kOf r ss ls p = some (kf p)) ∧
  ∀ (t : Addr) (H' : Hp), Same H H' → H' t = some (.lst (((List.range ss.length).map fun q => (dpt r ss.length kf q : Int)).map V.int)) → Q (.ref t) H'
theorem ok_depL (F : Fun K "_law_depths" "_law_depths" s__law_depths f fd) (T : Txt K mg A) (D__law_run : DefOk P w K mg base CX0 1 "_law_run" ["round_flag", "many", "place"] spRunL) : FnOk P w K mg base CX0 2 f fd ["round_flag", "spans"] (spDepL K) := by
  refine F.ok sc__law_depths (fun vs H Q E h => ?_) (fun cdv A1 outer s H vs Q E hr h => ?_)
  · obtain ⟨r, pa, ss, ls, kf, rfl, _⟩ := h
    rfl
  · obtain ⟨r, pa, ss, ls, kf, rfl, hp, ok, hk, q⟩ := h
    have n1 := ok.n1
    have lS := spL_len (r := r) (ss := ss) (ls := ls)
    have sat : ∀ p, p < ss.length → (spL r ss ls).getD p 0 = (kf p : Int) + 1 := fun p hp => by rw [spL_at hp, hk p hp]; rfl
    refine ⟨_, (pss_cons (ps_set (i := 2) sc__law_depths.nd rfl (Or.inl rfl) (pe_op op_rep (pe_lst (pa_cons pe_int pa_nil)) (pe_callB (call_lenK K) (by rfl) T.m_len PySem.boot_len (pa_cons (pv 1) pa_nil))))
      (pss_cons (ps_for (PassesOwn.never) rfl (pi_range1 rfl T.m_range (pa_cons (pe_callB (call_lenK K) (by rfl) T.m_len PySem.boot_len (pa_cons (pv 1) pa_nil)) pa_nil)) (pg_name (i := 3) sc__law_depths.nd rfl (Or.inl rfl)) (pss_one (ps_for (PassesOwn.never) rfl (pi_listK K (pe_slice (sl_listK K) (pe_callD D__law_run (hr.mono (by decide)) pass0 (pa_cons (pv 0) (pa_cons (pe_callB (call_lenK K) (by rfl) T.m_len PySem.boot_len (pa_cons (pv 1) pa_nil)) (pa_cons (pv 3) pa_nil)))) po_none (po_some (pe_op op_sub (pe_ix (ix_listK K) (pv 1) (pv 3) (fun _ _ => rfl)) pe_int)))) (pg_name (i := 4) sc__law_depths.nd rfl (Or.inl rfl)) (pss_one (ps_asg (pe_op op_add (pe_ix (ix_listK K) (pv 2) (pv 4) (fun _ _ => rfl)) pe_int) (pg_sub (pv 2) (pv 4) set_list))))))
      (pss_one (ps_ret (pv 2))))), ?_⟩
    walk_at "rd"
    refine newL fun t0 H1 nt0 S1 ht0 => ?_
    walk_at "rd"
    refine ⟨pa, _, rfl, .inl (S1.seq hp), ?_⟩
    rw [List.length_map, lS]
    refine g_rep1 (k := ss.length) ht0 (by omega) fun t H2 nt S2 ht => ?_
    have nt' := S1.free nt
    have S12 := S1.trans S2
    walk_at "rd"
    refine ⟨pa, _, rfl, .inl (S12.seq hp), ?_⟩
    rw [List.length_map, lS]
    walk_at "rd"
    have e0 : List.replicate ss.length (0 : Int) = depL (trK r ss.length kf) ss.length 0 := by
      unfold depL
      refine ext_getD (by rw [List.length_replicate, List.length_map, List.length_range]) fun q hq => ?_
      rw [List.length_replicate] at hq
      rw [getD_rep hq, List.getD_eq_getElem?_getD, List.getElem?_map, List.getElem?_range hq]
      show (0 : Int) = ((dep _ 0 q : Nat) : Int)
      rw [dep_zero.mpr fun p hp => absurd hp (Nat.not_lt_zero _)]; rfl
    refine ⟨_, rfl, by omega, by omega, ?_⟩
    rw [Int.toNat_natCast]
    refine for_range (lo := 0) (fun i σ H' => ∃ v3 v4 : Option V, σ = [some (.bl r), some (.ref pa), some (.ref t), v3, v4] ∧ Same H H' ∧ H' t = some (.lst ((depL (trK r ss.length kf) ss.length i).map V.int)))
      ⟨none, none, rfl, S12, by rw [ht, e0]⟩ ?_ ?_
    · rintro i σ H' hi ⟨v2, v3, rfl, S', ht'⟩
      rw [Int.zero_add]
      have k1 := (kOf_some (hk i hi)).1
      walk_at "rd"
      refine ⟨pa, _, rfl, .inl (S'.seq hp), ?_⟩
      rw [List.length_map, lS]
      walk_at "rd"
      refine ⟨r, ss.length, i, rfl, hi, n1, fun u H3 nu S3 hu => ?_⟩
      walk_at "rd"
      refine g_ixL ((S'.trans S3).seq hp) (at_int (by omega)) ?_
      rw [sat i hi]
      walk_at "rd"
      rw [show (kf i : Int) + 1 - 1 = (kf i : Int) by omega]
      refine g_cut (SqL.of hu) fun u2 H4 nu2 S4 hu2 => ?_
      rw [cut_hi (by unfold nI; rw [List.length_map]; exact k1)] at hu2
      have hu2 : H4 u2 = some (.lst (nI (trK r ss.length kf i))) := by
        rw [hu2]
        unfold nI trK
        rw [List.map_take]
      have ne : u2 ≠ t := fun z => by rw [z, S3 _ _ ht'] at nu2; cases nu2
      refine ⟨u2, rfl, ⟨_, SqL.of hu2⟩, for_list (xs := nI (trK r ss.length kf i)) (fun j σ H5 => ∃ v3 : Option V, σ = [some (.bl r), some (.ref pa), some (.ref t), some (.int (i : Int)), v3] ∧ Same H H5 ∧ H5 u2 = some (.lst (nI (trK r ss.length kf i))) ∧ H5 t = some (.lst ((depM (trK r ss.length kf) ss.length i j).map V.int)))
        ⟨v3, rfl, (S'.trans S3).trans S4, hu2, by rw [depM_zero]; exact S4 _ _ (S3 _ _ ht')⟩ (fun j σ H5 _ ⟨_, _, _, h, _⟩ => SqL.of h) ?_ ?_⟩
      · rintro j x σ H5 hj ⟨v3, rfl, S5, h1, h2⟩
        obtain ⟨o, ho, rfl⟩ := nI_at hj
        have hol : o < ss.length := run_lt hi o (List.mem_of_mem_take (List.mem_of_getElem? ho))
        have hml : (depM (trK r ss.length kf) ss.length i j).length = ss.length := by unfold depM; rw [List.length_map, List.length_range]
        walk_at "rd"
        refine g_ixL (SqL.of h2) (at_int (by omega)) ?_
        walk_at "rd"
        refine g_set h2 (by omega) ?_
        rw [depM_step ((run_nd hi).sublist (List.take_sublist _ _)) hol ho]
        exact ⟨_, rfl, S5.mut nt', by rw [upd_ne ne]; exact h1, upd_same⟩
      · rintro σ H5 ⟨v3, rfl, S5, h1, h2⟩
        rw [depM_full (by unfold nI; rw [List.length_map]; exact Nat.le_refl _)] at h2
        exact ⟨_, _, rfl, S5, h2⟩
    · rintro σ H' ⟨v2, v3, rfl, S', ht'⟩
      walk_at "rd"
      exact q t H' S' ht'
/-! ### _law_has_origin -/
def spHasO (K : PySem.W.Frag) (A : Ad) : Sp := fun vs H Q _ => ∃ (b ts tl la sa pa : Addr) (r : Bool) (ss ls : List Int), vs = [.ref b, .bl r, .ref la, .ref sa, .ref pa] ∧ BAt A.Beads H b ts tl r ss ls ∧ StOk ss ls ∧ ss.length ≤ 100 ∧ SqL K H la (ls.map V.int) ∧ SqL K H sa (ss.map V.int) ∧ SqL K H pa ((spL r ss ls).map V.int) ∧ Flt r ss ls none ∧ ∀ H', Same H H' → Q (.bl true) H'
theorem ok_hasO (F : Fun K "_law_has_origin" "_law_has_origin" s__law_has_origin f fd) (T : Txt K mg A) (D__law_depths : DefOk P w K mg base CX0 2 "_law_depths" ["round_flag", "spans"] (spDepL K)) (D_origin_of : DefOk P w K mg base (L2N.CX P w) 8 "origin_of" ["beads"] (spOrigin A))
    (D__law_is_standing : DefOk P w K mg base CX0 3 "_law_is_standing" ["actual", "round_flag", "sizes", "strengths"] (spStanding K A)) (D__law_woken : DefOk P w K mg base CX0 2 "_law_woken" ["round_flag", "sizes", "strengths", "places"] (spWoken K)) : FnOk P w K mg base CX0 9 f fd ["beads", "round_flag", "sizes", "strengths", "spans"] (spHasO K A) := by
  refine F.ok sc__law_has_origin (fun vs H Q E h => ?_) (fun cdv A1 outer s H vs Q E hr h => ?_)
  · obtain ⟨b, ts, tl, la, sa, pa, r, ss, ls, rfl, _⟩ := h
    rfl
  · obtain ⟨b, ts, tl, la, sa, pa, r, ss, ls, rfl, B, ok, n100, hl, hs, hp, hf, q⟩ := h
    have len := ok.len
    have n0 := ok.n0
    obtain ⟨kf, hk, hN⟩ : ∃ kf : Nat → Nat, (∀ p, p < ss.length → kOf r ss ls p = some (kf p)) ∧ Nest r ss.length kf := by
      cases hf with
      | good kf hk h => exact ⟨kf, hk, h⟩
    refine ⟨_, (pss_cons (ps_set (i := 5) sc__law_has_origin.nd rfl (Or.inl rfl) (pe_callD D__law_depths (hr.mono (by decide)) pass0 (pa_cons (pv 1) (pa_cons (pv 4) pa_nil))))
      (pss_cons (ps_set (i := 6) sc__law_has_origin.nd rfl (Or.inr rfl) (pe_callB (cr_maxK K rfl) (by rfl) T.m_max (by decide +kernel) (pa_cons (pv 5) pa_nil)))
      (pss_cons (ps_set (i := 7) sc__law_has_origin.nd rfl (Or.inl rfl) (pe_callD D_origin_of (hr.mono (by decide)) passN (pa_cons (pv 0) pa_nil)))
      (pss_cons (ps_if (pt_not (pt_val (pe_callD D__law_is_standing (hr.mono (by decide)) pass0 (pa_cons (pv 7) (pa_cons (pv 1) (pa_cons (pv 2) (pa_cons (pe_lc (own := [("depth", 8)]) (g := gName 8) (tt := tYes) rfl sc__law_has_origin.nd (pi_listK K (pv 5)) (blkOk_by (N := ["beads", "round_flag", "sizes", "strengths", "spans", "depths", "deepest", "told", "depth"]) (sc := defScope s__law_has_origin) (by decide +kernel)) (fun _ _ _ _ _ => (by exact (pg_name (i := 8) sc__law_has_origin.nd rfl (Or.inl rfl)))) (fun _ _ _ _ _ => (by exact pts_nil)) (fun _ _ _ _ _ => (by exact (pe_op op_sub (pv 6) (pv 8))))) pa_nil))))))) (pss_one (ps_ret pe_bl)) pss_nil)
      (pss_one (ps_ret (pe_cmpR (op_eqDK K hr.units) (pe_callD D__law_woken (hr.mono (by decide)) pass0 (pa_cons (pv 1) (pa_cons (pv 2) (pa_cons (pe_callTy (call_listK K) (by rfl) T.m_list (by decide +kernel) (pa_cons (pe_fldK K (pv 7) rfl) pa_nil)) (pa_cons (pe_listRg rfl (by rfl) T.m_list (prg_1 (by rfl) T.m_range (pe_callB (call_lenK K) (by rfl) T.m_len PySem.boot_len (pa_cons (pv 2) pa_nil)))) pa_nil))))) (pv 3) (nomark _)))))))), ?_⟩
    walk_at "rd"
    refine ⟨r, pa, ss, ls, kf, rfl, hp, ok, hk, fun t H1 S1 ht => ?_⟩
    walk_at "rd"
    refine ⟨t, _, rfl, SqL.of ht, by rw [List.length_map, List.length_range]; exact n0, fun m hm hmx => ?_⟩
    walk_at "rd"
    refine ⟨b, ts, tl, r, ss, ls, rfl, B.mono S1, ok, fun kg gs nb ts' H2 hkg hNg hD S2 B2 => ?_, (fun p q' d H2 hf2 _ _ _ => by have e := hf.same hf2; cases e)⟩
    obtain ⟨D, eg, hDm, hDx⟩ := hD
    have ek : ∀ p, p < ss.length → kg p = kf p := fun p hp => Option.some.inj ((hkg p hp).symm.trans (hk p hp))
    have ed : ∀ q, dpt r ss.length kg q = dpt r ss.length kf q := dpt_congr ek
    have eDm : D = m := by
      obtain ⟨x, hx, e1⟩ := List.mem_map.mp hm
      obtain ⟨y, hy, e2⟩ := List.mem_map.mp hDm
      have a1 := hDx x (List.mem_range.mp hx)
      have a2 := hmx _ (List.mem_map.mpr ⟨y, hy, rfl⟩)
      rw [ed] at a1 e2
      omega
    have eg2 : gs = (List.range ss.length).map fun q => m - (dpt r ss.length kf q : Int) := by
      rw [eg, eDm]
      exact List.map_congr_left fun q _ => by rw [ed]
    have lg : gs.length = ss.length := by rw [eg2, List.length_map, List.length_range]
    have og : rnd r ls gs = ss := by rw [eg2]; exact origin_ok hk hN
    have okg : StOk gs ls := ⟨by omega, by omega, by omega, fun x hx => by
      rw [eg2] at hx
      obtain ⟨q, hq, rfl⟩ := List.mem_map.mp hx
      have := hmx _ (List.mem_map.mpr ⟨q, hq, rfl⟩)
      omega, ok.l1⟩
    have S12 := S1.trans S2
    walk_at "rd"
    refine ⟨t, rfl, ⟨_, SqL.of (S2 _ _ ht)⟩, fun D2 nD => ?_⟩
    refine lc_ints (fun x => m - x) (SqL.of (S2 _ _ ht)) nD (by rw [List.length_map, List.length_range]; omega) (fun i x H' hx S' Q' hq => ?_) (fun H3 S3 h3 => ?_)
    · walk_at "rd"
      refine ⟨rfl, ?_⟩
      walk_at "rd"
      exact hq H' (Same.refl _)
    have eG : ((List.range ss.length).map fun q => (dpt r ss.length kf q : Int)).map (fun x => m - x) = gs := by rw [eg2, List.map_map]; rfl
    rw [eG] at h3
    have S13 := S12.trans S3
    have B3 := B2.mono S3
    walk_at "rd"
    refine ⟨nb, ts', tl, la, D2, r, gs, ls, rfl, B3, S13.seq hl, SqL.of h3, by omega, by omega, ?_⟩
    walk_at "rd"
    refine f_s T B3 ?_
    walk_at "rd"
    refine g_lo (.inr (SqT.of B3.st)) fun g1 H4 ng1 S4 hg1 => ?_
    walk_at "rd"
    refine ⟨la, _, rfl, .inl ((S13.trans S4).seq hl), ?_⟩
    rw [List.length_map, len]
    walk_at "rd"
    refine newRg (a := 0) (b := ss.length) (by omega) (by omega) fun q0 H5 nq S5 hq0 => ?_
    have e0 : ((List.range (ss.length - 0)).map fun i => V.int ((0 + i : Nat) : Int)) = nI (List.range ss.length) := by
      unfold nI
      rw [Nat.sub_zero]
      exact List.map_congr_left fun i _ => by rw [Nat.zero_add]
    rw [e0] at hq0
    have S15 := S13.trans (S4.trans S5)
    walk_at "rd"
    refine ⟨r, la, g1, q0, ls, gs, List.range ss.length, rfl, S15.seq hl, SqL.of (S5 _ _ hg1), SqL.of hq0, okg, fun p hp => by have := List.mem_range.mp hp; omega, fun t6 H6 nt6 S6 ht6 => ?_⟩
    rw [← lg, wok_all, og] at ht6
    walk_at "rd"
    refine g_eqL (SqL.of ht6) ((S15.trans S6).seq hs) ?_
    rw [decide_eq_true rfl]
    exact q _ (S15.trans S6)
/-! ### _law_is_refused, _law_is_error -/
def spRefO (K : PySem.W.Frag) (A : Ad) : Sp := fun vs H Q _ => ∃ (b ts tl da : Addr) (r : Bool) (ss ls : List Int) (p q' : Nat), vs = [.ref b, .ref da] ∧ BAt A.Beads H b ts tl r ss ls ∧ StOk ss ls ∧ SqL K H da ([(p : Int), (q' : Int)].map V.int) ∧ Flt r ss ls (some (p, q')) ∧ ∀ H', Same H H' → Q (.bl true) H'
theorem ok_refO (F : Fun K "_law_is_refused" "_law_is_refused" s__law_is_refused f fd) (T : Txt K mg A) (H__law_numbers : DefOkH P w K mg base CX0 2 "_law_numbers" ["actual", "due", "as_tuple"] (Rt.spNumbers K))
    (D_origin_of : DefOk P w K mg base (L2N.CX P w) 8 "origin_of" ["beads"] (spOrigin A)) : FnOk P w K mg base CX0 9 f fd ["beads", "due"] (spRefO K A) := by
  refine F.ok sc__law_is_refused (fun vs H Q E h => ?_) (fun cdv A1 outer s H vs Q E hr h => ?_)
  · obtain ⟨b, ts, tl, da, r, ss, ls, p, q', rfl, _⟩ := h
    rfl
  · obtain ⟨b, ts, tl, da, r, ss, ls, p, q', rfl, B, ok, hda, hf, q⟩ := h
    refine ⟨_, (pss_cons (L2N.ps_try_as (i := 2) (Wout := fun _ _ _ _ => False) rfl rfl sc__law_is_refused.nd rfl rfl ⟨rfl, by decide, .inl T.g_NotOutcome⟩ takes0N (fun W pn xe tk _ => (pss_one (ps_expr (pe_callDS D_origin_of (hr.mono (by decide)) (fun σ => L2N.passAt tk σ) (pa_cons (pv 0) pa_nil))))) (fun a oe cls d pn hz hf => (pss_one (ps_ret (pe_callHD H__law_numbers (L2H.roomH_mark (hr.mono (by decide)) _) (hotC_of hz hf) (E := fun _ => E0) (fun _ => pass0S) (pa_cons (pe_lst (pa_cons (pe_xf T.x_NotOutcome T.no_NotOutcome_first hz.zc hf (pv 2)) (pa_cons (pe_xf T.x_NotOutcome T.no_NotOutcome_second hz.zc hf (pv 2)) pa_nil))) (pa_cons (pv 1) (pa_cons pe_bl pa_nil))))))))
      (pss_one (ps_ret pe_bl))), ?_⟩
    walk_at "rd"
    refine ⟨b, ts, tl, r, ss, ls, rfl, B, ok, (fun kg gs nb ts' H2 hkg hNg hD S2 B2 => by have e := hf.same (.good kg hkg hNg); cases e), fun p2 q2 d H' hf2 nd S' hd => ?_⟩
    have e := hf.same hf2
    cases e
    refine ⟨true, T.eNO, fun _ a na => ?_, fun z => nomatch z⟩
    walk_at "rd"
    refine ⟨rfl, rfl, d, _, _, rfl, hd, rfl, ?_⟩
    walk_at "rd"
    refine ⟨rfl, rfl, d, _, _, rfl, hd, rfl, ?_⟩
    walk_at "rd"
    refine newL fun t1 H3 nt1 S3 ht1 => ?_
    walk_at "rd"
    refine ⟨t1, da, false, [(p : Int), (q' : Int)], [(p : Int), (q' : Int)], rfl, ht1, (S'.trans S3).seq hda, by simp, ?_⟩
    rw [decide_eq_true rfl]
    exact q _ (S'.trans S3)
def spErr : Sp := fun vs H Q _ => ∃ p q' : Int, vs = [.int p, .int q'] ∧ ∀ H', Same H H' → Q (.bl true) H'
theorem ok_err (F : Fun K "_law_is_error" "_law_is_error" s__law_is_error f fd) (T : Txt K mg A) (X_NotOutcome : ExcDef2 P w K mg base "NotOutcome" A.NotOutcome "first" "second") (D__law_numbers : DefOk P w K mg base CX0 2 "_law_numbers" ["actual", "due", "as_tuple"] (Rt.spNumbers K)) : FnOk P w K mg base CX0 3 f fd ["first", "second"] spErr := by
  refine F.ok sc__law_is_error (fun vs H Q E h => ?_) (fun cdv A1 outer s H vs Q E hr h => ?_)
  · obtain ⟨p, q', rfl, _⟩ := h
    rfl
  · obtain ⟨p, q', rfl, q⟩ := h
    refine ⟨_, (pss_cons (ps_set (i := 2) sc__law_is_error.nd rfl (Or.inl rfl) (pe_exV (pmk_D2 X_NotOutcome (hr.mono (by decide)) (pa_cons (pv 0) (pa_cons (pv 1) pa_nil)))))
      (pss_one (ps_ret (pe_callD D__law_numbers (hr.mono (by decide)) pass0 (pa_cons (pe_lst (pa_cons (pe_xv K (pv 2)) (pa_cons (pe_xv K (pv 2)) pa_nil))) (pa_cons (pe_lst (pa_cons (pv 0) (pa_cons (pv 1) pa_nil))) (pa_cons pe_bl pa_nil))))))), ?_⟩
    walk_at "rd"
    refine g_exV ?_
    walk_at "rd"
    refine mk2 T.oNO T.no_NotOutcome_first T.no_NotOutcome_second fun d H1 nd S1 hd => ⟨A.NotOutcome, rfl, fun a na => ?_⟩
    have nda : d ≠ a := fun z => by rw [z, na] at hd; cases hd
    have S2 : Same H1 (upd H1 a (ExD A.NotOutcome (some d) a)) := Same.new na
    have ha2 : (upd H1 a (ExD A.NotOutcome (some d) a)) a = some (ExD A.NotOutcome (some d) a) := upd_same
    generalize upd H1 a (ExD A.NotOutcome (some d) a) = H2 at S2 ha2
    have hd2 := S2 _ _ hd
    walk_at "rd"
    refine ⟨a, A.NotOutcome, d, _, _, rfl, ha2, T.x_NotOutcome, T.no_NotOutcome_first, hd2, rfl, ?_⟩
    walk_at "rd"
    refine ⟨a, A.NotOutcome, d, _, _, rfl, ha2, T.x_NotOutcome, T.no_NotOutcome_second, hd2, rfl, ?_⟩
    walk_at "rd"
    refine newL fun t1 H3 nt1 S3 ht1 => ?_
    walk_at "rd"
    refine newL fun t2 H4 nt2 S4 ht2 => ?_
    walk_at "rd"
    refine ⟨t1, t2, false, [p, q'], [p, q'], rfl, S4 _ _ ht1, SqL.of ht2, by simp, ?_⟩
    rw [decide_eq_true rfl]
    exact q _ ((S1.trans S2).trans (S3.trans S4))
/-! ### -/
end
end Rt
set_option Elab.async false
set_option linter.all false
set_option maxRecDepth 100000
set_option maxHeartbeats 4000000
namespace Rt
open PySem PySem.Spec L2
open PyProof.Rows (envOfC)
local macro_rules | `(tactic| walk_at "rd1") => `(tactic| (with_reducible first
  | refine g_var (by with_unfolding_all rfl) ?_
  | refine g_c ?_
  | refine g_op ?_
  | refine g_I0 ?_
  | refine g_eqI ?_
  | refine g_neI ?_
  | refine g_eqB ?_
  | refine g_neB ?_
  | refine g_cons ?_
  | refine g_nil ?_
  | refine g_seq ?_
  | refine g_asg ?_
  | refine g_name ?_
  | refine g_ret ?_
  | refine g_retN ?_
  | refine g_drop ?_
  | refine g_next ?_
  | refine g_if ?_
  | refine g_test ?_
  | refine g_tB ?_
  | refine g_bl ?_
  | refine g_and ?_
  | refine g_or ?_
  | refine g_not ?_
  | refine g_andV ?_
  | refine g_orV ?_
  | refine g_notV ?_
  | refine g_ifE ?_
  | refine g_cb ?_
  | refine g_meth ?_
  | refine g_rev ?_
  | refine g_gcons ?_
  | refine g_gnil ?_
  | refine g_isB' ?_
  | refine g_gsub ?_
  | refine g_call ?_
  | refine g_callS ?_
  | refine g_bm ?_
  | refine g_un ?_
  | refine g_U ?_
  | refine g_chain ?_
  | refine g_sl ?_
  | refine g_brk ?_
  | refine g_ct ?_
  | refine g_ipI ?_
  | refine g_fld ?_
  | refine g_lst ?_
  | refine g_int ?_
  | refine g_for ?_
  | refine g_rg1 ?_
  | refine g_rg2 ?_
  | refine g_il ?_
  | refine g_it ?_
  | refine g_lc ?_
  | refine g_yes ?_
  | refine g_tup ?_
  | refine g_part ?_
  | refine g_xf ?_
  | refine g_nn ?_
  | refine g_mko ?_
  | refine g_lrg ?_
  | refine g_tr1 ?_
  | refine g_tr2 ?_
  | refine g_oi2 ?_
  | refine g_mk ?_
  | refine g_sfld ?_
  | refine g_ost ?_
  | refine g_oi ?_
  | refine g_nopart ?_
  | refine g_tt ?_
  | refine g_ff ?_
  | refine g_nt ?_
  | refine g_nf ?_
  | refine g_drn ?_
  | refine g_din ?_
  | refine g_dnn ?_
  | refine g_nrn ?_
  | refine g_nin ?_
  | refine g_nnn ?_))
local macro_rules | `(tactic| walk_at "rd") => `(tactic| (repeat walk_at "rd1"))

local macro_rules | `(tactic| walk_at "rd1") => `(tactic| (with_reducible first
  | refine g_lrev ?_
  | refine g_enum ?_
  | refine g_ckw ?_
  | refine g_max2 ?_
  | refine g_min2 ?_
  | refine g_augS ?_))
section
variable {P : Program} {w : World} {K : PySem.W.Frag} {mg : Str → Option Value} {base : Heap} {f : Addr} {fd : FuncData} {A : Ad}
/-! ### _law_is_left -/
def spLeft (K : PySem.W.Frag) (A : Ad) : Sp := fun vs H Q _ => ∃ (b ts tl' la sa : Addr) (r : Bool) (ss ls : List Int), vs = [.ref b, .bl r, .ref la, .ref sa] ∧ BAt A.Beads H b ts tl' r ss ls ∧ StOk ss ls ∧ ss.length ≤ 24 ∧ SqL K H la (ls.map V.int) ∧ SqL K H sa (ss.map V.int) ∧ ∀ H', Same H H' → Q (.bl true) H'
theorem ok_left (F : Fun K "_law_is_left" "_law_is_left" s__law_is_left f fd) (T : Txt K mg A) (D__law_woken : DefOk P w K mg base CX0 2 "_law_woken" ["round_flag", "sizes", "strengths", "places"] (spWoken K)) (D_wake_all : DefOk P w K mg base CX0 8 "wake_all" ["beads"] (spWakeAll A))
    (D__law_is_standing : DefOk P w K mg base CX0 3 "_law_is_standing" ["actual", "round_flag", "sizes", "strengths"] (spStanding K A)) (D__law_is_fault : DefOk P w K mg base CX0 7 "_law_is_fault" ["beads", "due"] (spIsFault K A)) (D__law_span : DefOk P w K mg base CX0 2 "_law_span" ["round_flag", "sizes", "strengths", "place"] (spSpanL K))
    (D__law_run : DefOk P w K mg base CX0 1 "_law_run" ["round_flag", "many", "place"] spRunL) (D_train_of : DefOk P w K mg base (L2N.CX P w) 5 "train_of" ["beads", "place"] (spPl A RTrain)) (D__law_numbers : DefOk P w K mg base CX0 2 "_law_numbers" ["actual", "due", "as_tuple"] (Rt.spNumbers K))
    (D__law_has_origin : DefOk P w K mg base CX0 9 "_law_has_origin" ["beads", "round_flag", "sizes", "strengths", "spans"] (spHasO K A)) : FnOk P w K mg base CX0 10 f fd ["beads", "round_flag", "sizes", "strengths"] (spLeft K A) := by
  refine F.ok sc__law_is_left (fun vs H Q E h => ?_) (fun cdv A1 outer s H vs Q E hr h => ?_)
  · obtain ⟨b, ts, tl', la, sa, r, ss, ls, rfl, _⟩ := h
    rfl
  · obtain ⟨b, ts, tl', la, sa, r, ss, ls, rfl, B, ok, n24, hl, hs, q⟩ := h
    have len := ok.len
    have n0 := ok.n0
    refine ⟨_, (pss_cons (ps_set (i := 4) sc__law_is_left.nd rfl (Or.inl rfl) (pe_listRg rfl (by rfl) T.m_list (prg_1 (by rfl) T.m_range (pe_callB (call_lenK K) (by rfl) T.m_len PySem.boot_len (pa_cons (pv 2) pa_nil)))))
      (pss_cons (ps_set (i := 5) sc__law_is_left.nd rfl (Or.inr rfl) (pe_callD D__law_woken (hr.mono (by decide)) pass0 (pa_cons (pv 1) (pa_cons (pv 2) (pa_cons (pv 3) (pa_cons (pv 4) pa_nil))))))
      (pss_cons (ps_set (i := 6) sc__law_is_left.nd rfl (Or.inl rfl) (pe_callD D_wake_all (hr.mono (by decide)) pass0 (pa_cons (pv 0) pa_nil)))
      (pss_cons (ps_if (PW.pt (pw_or (pt_not (pt_val (pe_callD D__law_is_standing (hr.mono (by decide)) pass0 (pa_cons (pv 6) (pa_cons (pv 1) (pa_cons (pv 2) (pa_cons (pv 5) pa_nil))))))) (pw_or1 (pt_not (pt_val (pe_callD D__law_is_fault (hr.mono (by decide)) pass0 (pa_cons (pv 6) (pa_cons (pe_lst pa_nil) pa_nil)))))))) (pss_one (ps_ret pe_bl)) pss_nil)
      (pss_cons (ps_setLc (i := 7) (own := [("place", 8)]) (g := gName 8) (tt := tYes) rfl sc__law_is_left.nd rfl rfl (sw_true rfl rfl rfl (by decide +kernel)) (pi_listK K (pv 4)) (blkOk_by (N := ["beads", "round_flag", "sizes", "strengths", "places", "woken", "told", "spans", "place", "due", "train"]) (sc := defScope s__law_is_left) (by decide +kernel)) (fun _ _ _ _ _ => (by exact (pg_name (i := 8) sc__law_is_left.nd rfl (Or.inl rfl)))) (fun _ _ _ _ _ => (by exact pts_nil)) (fun _ _ _ _ _ => (by exact (pe_callD D__law_span (hr.mono (by decide)) pass0 (pa_cons (pv 1) (pa_cons (pv 2) (pa_cons (pv 5) (pa_cons (pv 8) pa_nil))))))))
      (pss_cons (ps_if (pt_cmpR (op_inK K) pe_int (pv 7) (by rfl)) (pss_one (ps_ret pe_bl)) pss_nil)
      (pss_cons (ps_for (PassesOwn.never) rfl (pi_listK K (pv 4)) (pg_name (i := 8) sc__law_is_left.nd rfl (Or.inl rfl)) (pss_cons (ps_set (i := 9) sc__law_is_left.nd rfl (Or.inl rfl) (pe_slice (sl_listK K) (pe_callD D__law_run (hr.mono (by decide)) pass0 (pa_cons (pv 1) (pa_cons (pe_callB (call_lenK K) (by rfl) T.m_len PySem.boot_len (pa_cons (pv 2) pa_nil)) (pa_cons (pv 8) pa_nil)))) po_none (po_some (pe_op op_sub (pe_ix (ix_listK K) (pv 7) (pv 8) (fun _ _ => rfl)) pe_int))))
      (pss_cons (ps_set (i := 10) sc__law_is_left.nd rfl (Or.inl rfl) (pe_callD D_train_of (hr.mono (by decide)) passN (pa_cons (pv 0) (pa_cons (pv 8) pa_nil))))
      (pss_cons (ps_if (pt_not (pt_val (pe_callD D__law_numbers (hr.mono (by decide)) pass0 (pa_cons (pv 10) (pa_cons (pv 9) (pa_cons pe_bl pa_nil)))))) (pss_one (ps_ret pe_bl)) pss_nil)
      (pss_cons (ps_expr (pe_appK K (pv 10) (pa_cons (pv 8) pa_nil)))
      (pss_one (ps_if (pt_not (pt_val (pe_callD D__law_numbers (hr.mono (by decide)) pass0 (pa_cons (pe_callD D_train_of (hr.mono (by decide)) passN (pa_cons (pv 0) (pa_cons (pv 8) pa_nil))) (pa_cons (pv 9) (pa_cons pe_bl pa_nil)))))) (pss_one (ps_ret pe_bl)) pss_nil)))))))
      (pss_one (ps_ret (pe_callD D__law_has_origin (hr.mono (by decide)) pass0 (pa_cons (pv 6) (pa_cons (pv 1) (pa_cons (pv 2) (pa_cons (pv 5) (pa_cons (pv 7) pa_nil))))))))))))))), ?_⟩
    walk_at "rd"
    refine ⟨la, _, rfl, .inl hl, ?_⟩
    rw [List.length_map, len]
    walk_at "rd"
    refine newRg (a := 0) (b := ss.length) (by omega) (by omega) fun pl H1 npl S1 hpl => ?_
    have e0 : ((List.range (ss.length - 0)).map fun i => V.int ((0 + i : Nat) : Int)) = nI (List.range ss.length) := by
      unfold nI
      rw [Nat.sub_zero]
      exact List.map_congr_left fun i _ => by rw [Nat.zero_add]
    rw [e0] at hpl
    walk_at "rd"
    refine ⟨r, la, sa, pl, ls, ss, List.range ss.length, rfl, S1.seq hl, S1.seq hs, SqL.of hpl, ok, fun p hp => List.mem_range.mp hp, fun wa H2 nwa S2 hwa => ?_⟩
    rw [wok_all] at hwa
    have S12 := S1.trans S2
    walk_at "rd"
    refine ⟨b, ts, tl', r, ss, ls, rfl, B.mono S12, ok, fun nb ts' H3 nnb S3 B3 => ?_⟩
    have okW := ok.rnd r
    have lW : (rnd r ls ss).length = ss.length := rnd_len
    have fW : Flt r (rnd r ls ss) ls none := flt_rnd ok.pos
    have kW : ∀ p, p < ss.length → kOf r (rnd r ls ss) ls p = some (tl r ss p) := fun p hp => kOf_rnd ok.pos hp
    have S13 := S12.trans S3
    have hwa3 := S3 _ _ hwa
    have hpl3 := S3 _ _ (S2 _ _ hpl)
    generalize rnd r ls ss = es at hwa hwa3 B3 okW lW fW kW
    walk_at "rd"
    refine ⟨nb, ts', tl', la, wa, r, es, ls, rfl, B3, S13.seq hl, SqL.of hwa3, by omega, by omega, ?_⟩
    walk_at "rd"
    refine newL fun u1 H4 nu1 S4 hu1 => ?_
    walk_at "rd"
    refine ⟨nb, ts', tl', u1, r, es, ls, none, rfl, B3.mono S4, okW, SqL.of hu1, fW, fun H5 S5 => ?_⟩
    have S45 := S4.trans S5
    have S15 := S13.trans S45
    have hpl5 := S45 _ _ hpl3
    have hwa5 := S45 _ _ hwa3
    have B5 := B3.mono S45
    walk_at "rd"
    refine ⟨pl, rfl, ⟨_, SqL.of hpl5⟩, fun D nD => ?_⟩
    rw [nI_eq] at hpl5
    refine lc_ints (fun x => kI (kOf r es ls x.toNat)) (SqL.of hpl5) nD (by unfold iI; rw [List.length_map, List.length_range]; omega) (fun i x H' hx S' Q' hq => ?_) (fun H6 S6 h6 => ?_)
    · obtain ⟨p, hp, rfl⟩ : ∃ p : Nat, p < ss.length ∧ x = (p : Int) := by
        obtain ⟨p, hp, e⟩ := List.mem_map.mp (List.mem_of_getElem? hx)
        exact ⟨p, List.mem_range.mp hp, e.symm⟩
      walk_at "rd"
      refine ⟨rfl, ?_⟩
      walk_at "rd"
      refine ⟨r, la, wa, ls, es, p, rfl, (S15.trans S').seq hl, SqL.of (S' _ _ hwa5), okW, by omega, fun H7 S7 => ?_⟩
      exact hq H7 S7
    have eS : (iI (List.range ss.length)).map (fun x => kI (kOf r es ls x.toNat)) = spL r es ls := by
      unfold iI spL
      rw [List.map_map, lW]; rfl
    rw [eS] at h6
    have S16 := S15.trans S6
    have hpl6 := S6 _ _ hpl5
    rw [← nI_eq] at hpl6
    have lS := spL_len (r := r) (ss := es) (ls := ls)
    have sat : ∀ p, p < ss.length → (spL r es ls).getD p 0 = (tl r ss p : Int) + 1 := fun p hp => by rw [spL_at (by omega), kW p hp]; rfl
    walk_at "rd"
    refine ⟨D, _, rfl, .inl (SqL.of h6), rfl, flatI _, ?_⟩
    rw [if_neg (by decide), inV_I, decide_eq_false (fun z => by
      obtain ⟨i, hi, e⟩ := mem_getD z
      rw [lS, lW] at hi
      rw [sat i hi] at e
      omega)]
    walk_at "rd"
    have B6 := B.mono S16
    refine ⟨pl, rfl, ⟨_, SqL.of hpl6⟩, for_list (xs := nI (List.range ss.length)) (fun i σ H' => ∃ v8 v9 v10 : Option V, σ = [some (.ref b), some (.bl r), some (.ref la), some (.ref sa), some (.ref pl), some (.ref wa), some (.ref nb), some (.ref D), v8, v9, v10] ∧ Same H6 H') ⟨none, none, none, rfl, Same.refl _⟩ (fun i σ H' _ ⟨_, _, _, _, S'⟩ => SqL.of (S' _ _ hpl6)) ?_ ?_⟩
    · rintro i x σ H7 hi ⟨v8, v9, v10, rfl, S7⟩
      obtain ⟨p, hp, rfl⟩ := nI_at hi
      have pl' : p < ss.length := List.mem_range.mp (List.mem_of_getElem? hp)
      have S17 := S16.trans S7
      walk_at "rd"
      refine ⟨la, _, rfl, .inl (S17.seq hl), ?_⟩
      rw [List.length_map, len]
      walk_at "rd"
      refine ⟨r, ss.length, p, rfl, pl', by omega, fun u H8 nu S8 hu => ?_⟩
      have S18 := S17.trans S8
      walk_at "rd"
      refine g_ixL (SqL.of (S8 _ _ (S7 _ _ h6))) (at_int (by omega)) ?_
      rw [sat p pl']
      walk_at "rd"
      rw [show (tl r ss p : Int) + 1 - 1 = (tl r ss p : Int) by omega]
      refine g_cut (SqL.of hu) fun u2 H9 nu2 S9 hu2 => ?_
      rw [cut_hi (by unfold nI; rw [List.length_map]; exact tl_le)] at hu2
      have hu2 : H9 u2 = some (.lst (nI (trn r ss p))) := by
        rw [hu2, trn_tk]
        unfold nI
        rw [List.map_take]
      have S19 := S18.trans S9
      have lt24 : (trn r ss p).length ≤ 24 := by have := trn_len (r := r) (ss := ss) (p := p); have := run_le (r := r) pl'; omega
      walk_at "rd"
      refine ⟨b, ts, tl', r, ss, ls, (p : Int), rfl, B.mono S19, len, by omega, fun _ t1 H10 nt1 S10 ht1 => ?_, fun z => absurd ⟨by omega, by omega⟩ z⟩
      rw [Int.toNat_natCast] at ht1
      have hu10 := S10 _ _ hu2
      rw [nI_eq] at hu10
      have ht1' := ht1
      rw [nI_eq] at ht1'
      have li : (iI (trn r ss p)).length ≤ 100000 := by unfold iI; rw [List.length_map]; omega
      walk_at "rd"
      refine ⟨t1, u2, false, iI (trn r ss p), iI (trn r ss p), rfl, ht1', SqL.of hu10, li, ?_⟩
      rw [decide_eq_true rfl]
      walk_at "rd"
      refine ⟨ty_l ht1, ?_⟩
      walk_at "rd"
      refine g_app ht1 (by unfold nI; rw [List.length_map]; exact slt1000 (by omega)) ?_
      walk_at "rd"
      have nt1' : H t1 = none := S19.free nt1
      have ne1 : u2 ≠ t1 := fun z => by rw [← z, hu2] at nt1; cases nt1
      have nt16 : H6 t1 = none := (S7.trans (S8.trans S9)).free nt1
      have S6' : Same H6 (upd H10 t1 (.lst (nI (trn r ss p) ++ [V.int (p : Int)]))) := ((S7.trans (S8.trans S9)).trans S10).mut nt16
      have hu11 : (upd H10 t1 (.lst (nI (trn r ss p) ++ [V.int (p : Int)]))) u2 = some (.lst ((iI (trn r ss p)).map V.int)) := by rw [upd_ne ne1]; exact hu10
      generalize upd H10 t1 (.lst (nI (trn r ss p) ++ [V.int (p : Int)])) = H11 at S6' hu11
      refine ⟨b, ts, tl', r, ss, ls, (p : Int), rfl, B6.mono S6', len, by omega, fun _ t2 H12 nt2 S12' ht2 => ?_, fun z => absurd ⟨by omega, by omega⟩ z⟩
      rw [Int.toNat_natCast, nI_eq] at ht2
      walk_at "rd"
      refine ⟨t2, u2, false, iI (trn r ss p), iI (trn r ss p), rfl, ht2, SqL.of (S12' _ _ hu11), li, ?_⟩
      rw [decide_eq_true rfl]
      walk_at "rd"
      exact ⟨_, _, _, rfl, S6'.trans S12'⟩
    · rintro σ H7 ⟨v8, v9, v10, rfl, S7⟩
      walk_at "rd"
      refine ⟨nb, ts', tl', la, wa, D, r, es, ls, rfl, B5.mono (S6.trans S7), okW, by omega, (S16.trans S7).seq hl, SqL.of (S7 _ _ (S6 _ _ hwa5)), SqL.of (S7 _ _ h6), fW, fun H8 S8 => ?_⟩
      exact q _ ((S16.trans S7).trans S8)
/-! ### law -/
def spLaw (K : PySem.W.Frag) : Sp := fun vs H Q _ => ∃ (a : Addr) (ns : List Int), vs = [.ref a] ∧ SqL K H a (ns.map V.int) ∧ ns.length ≤ 63 ∧ ∀ H', Q (.bl true) H'
theorem ok_law (F : Fun K "law" "law" s_law f fd) (T : Txt K mg A)
    (D__law_cell : DefOk P w K mg base CX0 1 "_law_cell" ["script", "k"] (Rt.spCell K)) (D__law_draws : DefOk P w K mg base CX0 1 "_law_draws" ["cell", "sizes"] (Rt.spDraws K)) (D__law_lengths : DefOk P w K mg base CX0 2 "_law_lengths" ["cell", "many"] Rt.spLengths)
    (D__law_strengths_here : DefOk P w K mg base CX0 3 "_law_strengths_here" ["cell", "round_flag", "sizes", "form", "spare"] (spHere K)) (MK_Beads : CtorD P w K mg base CX0 2 "Beads" A.Beads 2 ["ring"] gBeads (spNew K A))
    (D__law_span : DefOk P w K mg base CX0 2 "_law_span" ["round_flag", "sizes", "strengths", "place"] (spSpanL K)) (D__law_fault : DefOk P w K mg base CX0 2 "_law_fault" ["round_flag", "spans"] (spFaultL K)) (D__law_is_fault : DefOk P w K mg base CX0 7 "_law_is_fault" ["beads", "due"] (spIsFault K A))
    (D__law_has_origin : DefOk P w K mg base CX0 9 "_law_has_origin" ["beads", "round_flag", "sizes", "strengths", "spans"] (spHasO K A)) (D__law_is_refused : DefOk P w K mg base CX0 9 "_law_is_refused" ["beads", "due"] (spRefO K A)) (D__law_is_error : DefOk P w K mg base CX0 3 "_law_is_error" ["first", "second"] spErr)
    (D__law_is_left : DefOk P w K mg base CX0 10 "_law_is_left" ["beads", "round_flag", "sizes", "strengths"] (spLeft K A)) (D__law_is_standing : DefOk P w K mg base CX0 3 "_law_is_standing" ["actual", "round_flag", "sizes", "strengths"] (spStanding K A)) :
    FnOk P w K mg base CX0 11 f fd ["script"] (spLaw K) := by
  refine F.ok sc_law (fun vs H Q E h => ?_) (fun cdv A1 outer s H vs Q E hr h => ?_)
  · obtain ⟨a, ns, rfl, _⟩ := h
    rfl
  · obtain ⟨sc, ns, rfl, hsc, hns, q⟩ := h
    refine ⟨_, (pss_cons (ps_set (i := 1) sc_law.nd rfl (Or.inl rfl) (pe_callD D__law_draws (hr.mono (by decide)) pass0 (pa_cons (pe_callD D__law_cell (hr.mono (by decide)) pass0 (pa_cons (pv 0) (pa_cons pe_int pa_nil))) (pa_cons (pe_lst (pa_cons pe_int (pa_cons pe_int (pa_cons pe_int (pa_cons pe_int (pa_cons pe_int pa_nil)))))) pa_nil))))
      (pss_cons (ps_set (i := 2) sc_law.nd rfl (Or.inl rfl) (pe_op op_add pe_int (pe_ix (ix_listK K) (pv 1) pe_int (fun _ _ => rfl))))
      (pss_cons (ps_if (pt_cmpR op_eq (pe_ix (ix_listK K) (pv 1) pe_int (fun _ _ => rfl)) pe_int (nomark _)) (pss_one (ps_set (i := 2) sc_law.nd rfl (Or.inl rfl) (pe_op op_add pe_int (pe_ix (ix_listK K) (pv 1) pe_int (fun _ _ => rfl))))) pss_nil)
      (pss_cons (ps_set (i := 3) sc_law.nd rfl (Or.inr rfl) (pe_cmpR op_lt (pe_ix (ix_listK K) (pv 1) pe_int (fun _ _ => rfl)) pe_int (nomark _)))
      (pss_cons (ps_set (i := 4) sc_law.nd rfl (Or.inr rfl) (pe_callD D__law_lengths (hr.mono (by decide)) pass0 (pa_cons (pe_callD D__law_cell (hr.mono (by decide)) pass0 (pa_cons (pv 0) (pa_cons pe_int pa_nil))) (pa_cons (pv 2) pa_nil))))
      (pss_cons (ps_set (i := 5) sc_law.nd rfl (Or.inr rfl) (pe_callD D__law_strengths_here (hr.mono (by decide)) pass0 (pa_cons (pe_callD D__law_cell (hr.mono (by decide)) pass0 (pa_cons (pv 0) (pa_cons pe_int pa_nil))) (pa_cons (pv 3) (pa_cons (pv 4) (pa_cons (pe_ix (ix_listK K) (pv 1) pe_int (fun _ _ => rfl)) (pa_cons (pe_callD D__law_cell (hr.mono (by decide)) pass0 (pa_cons (pv 0) (pa_cons pe_int pa_nil))) pa_nil)))))))
      (pss_cons (ps_set (i := 6) sc_law.nd rfl (Or.inl rfl) (pe_lst (pa_cons (pe_callTy (call_listK K) (by rfl) T.m_list (by decide +kernel) (pa_cons (pv 5) pa_nil)) (pa_cons (pe_callTy (call_listK K) (by rfl) T.m_list (by decide +kernel) (pa_cons (pv 4) pa_nil)) pa_nil))))
      (pss_cons (ps_set (i := 7) sc_law.nd rfl (Or.inl rfl) (pe_makeD MK_Beads (hr.mono (by decide)) pass0 (pa_cons (pe_ix (ix_listK K) (pv 6) pe_int (fun _ _ => rfl)) (pa_cons (pe_ix (ix_listK K) (pv 6) pe_int (fun _ _ => rfl)) pa_nil)) (pk_cons (pv 3) pk_nil)))
      (pss_cons (ps_setLc (i := 8) (own := [("place", 9)]) (g := gName 9) (tt := tYes) rfl sc_law.nd rfl rfl (sw_true rfl rfl rfl (by decide +kernel)) (pi_range1 rfl T.m_range (pa_cons (pv 2) pa_nil)) (blkOk_by (N := ["script", "shape", "many", "round_flag", "sizes", "strengths", "given", "beads", "spans", "place", "due"]) (sc := defScope s_law) (by decide +kernel)) (fun _ _ _ _ _ => (by exact (pg_name (i := 9) sc_law.nd rfl (Or.inl rfl)))) (fun _ _ _ _ _ => (by exact pts_nil)) (fun _ _ _ _ _ => (by exact (pe_callD D__law_span (hr.mono (by decide)) pass0 (pa_cons (pv 3) (pa_cons (pv 4) (pa_cons (pv 5) (pa_cons (pv 9) pa_nil))))))))
      (pss_cons (ps_set (i := 10) sc_law.nd rfl (Or.inl rfl) (pe_callD D__law_fault (hr.mono (by decide)) pass0 (pa_cons (pv 3) (pa_cons (pv 8) pa_nil))))
      (pss_cons (ps_if (pt_not (pt_val (pe_callD D__law_is_fault (hr.mono (by decide)) pass0 (pa_cons (pv 7) (pa_cons (pv 10) pa_nil))))) (pss_one (ps_ret pe_bl)) pss_nil)
      (pss_cons (ps_if (pt_cmpR (op_eqDK K hr.units) (pv 10) (pe_lst pa_nil) (nomark _)) (pss_one (ps_if (pt_not (pt_val (pe_callD D__law_has_origin (hr.mono (by decide)) pass0 (pa_cons (pv 7) (pa_cons (pv 3) (pa_cons (pv 4) (pa_cons (pv 5) (pa_cons (pv 8) pa_nil)))))))) (pss_one (ps_ret pe_bl)) pss_nil)) (pss_one (ps_if (PW.pt (pw_or (pt_not (pt_val (pe_callD D__law_is_refused (hr.mono (by decide)) pass0 (pa_cons (pv 7) (pa_cons (pv 10) pa_nil))))) (pw_or1 (pt_not (pt_val (pe_callD D__law_is_error (hr.mono (by decide)) pass0 (pa_cons (pe_ix (ix_listK K) (pv 10) pe_int (fun _ _ => rfl)) (pa_cons (pv 2) pa_nil)))))))) (pss_one (ps_ret pe_bl)) pss_nil)))
      (pss_cons (ps_if (PW.pt (pw_or (pt_not (pt_val (pe_callD D__law_is_left (hr.mono (by decide)) pass0 (pa_cons (pv 7) (pa_cons (pv 3) (pa_cons (pv 4) (pa_cons (pv 5) pa_nil))))))) (pw_or1 (pt_not (pt_val (pe_callD D__law_is_fault (hr.mono (by decide)) pass0 (pa_cons (pv 7) (pa_cons (pv 10) pa_nil)))))))) (pss_one (ps_ret pe_bl)) pss_nil)
      (pss_one (ps_ret (pe_and (pe_cmpR (op_eqDK K hr.units) (pv 6) (pe_lst (pa_cons (pv 5) (pa_cons (pv 4) pa_nil))) (nomark _)) (pe_one (pe_callD D__law_is_standing (hr.mono (by decide)) pass0 (pa_cons (pv 7) (pa_cons (pv 3) (pa_cons (pv 4) (pa_cons (pv 5) pa_nil)))))))))))))))))))))), ?_⟩
    walk_at "rd"
    refine ⟨sc, ns, 0, rfl, hsc, ?_⟩
    walk_at "rd"
    refine newL fun a1 H1 na1 S1 h1 => ?_
    walk_at "rd"
    refine ⟨a1, cellI ns 0, [3, 8, 8, 8, 8], rfl, SqL.of h1, by simp, fun i hi => ?_, fun da H2 sh nda S2 h2 dr => ?_⟩
    · have hi' : i < 5 := hi
      have : i = 0 ∨ i = 1 ∨ i = 2 ∨ i = 3 ∨ i = 4 := by omega
      rcases this with z | z | z | z | z <;> subst z <;> decide
    have shl : sh.length = 5 := dr.len
    have b2 : 0 ≤ sh.getD 2 0 ∧ sh.getD 2 0 < 8 := dr.at_ 2 (by simp)
    have b3 : 0 ≤ sh.getD 3 0 ∧ sh.getD 3 0 < 8 := dr.at_ 3 (by simp)
    have b4 : 0 ≤ sh.getD 4 0 ∧ sh.getD 4 0 < 8 := dr.at_ 4 (by simp)
    have SA : Same H H2 := S1.trans S2
    walk_at "rd"
    refine g_ixL (SqL.of h2) (at_int (o := 2) (by omega)) ?_
    walk_at "rd"
    refine g_ixL (SqL.of h2) (at_int (o := 1) (by omega)) ?_
    walk_at "rd"
    refine g_ifset (.int (9 + sh.getD 3 0)) (.int (1 + sh.getD 2 0)) rfl (fun Q' hq => ?_) ?_
    · walk_at "rd"
      refine g_ixL (SqL.of h2) (at_int (o := 3) (by omega)) ?_
      walk_at "rd"
      exact hq
    rw [ite_int]
    obtain ⟨n, hn0, hn1, en⟩ : ∃ n : Nat, 1 ≤ n ∧ n ≤ 16 ∧ (if decide (sh.getD 1 0 = 1) = true then 9 + sh.getD 3 0 else 1 + sh.getD 2 0) = (n : Int) := by
      refine ⟨(if decide (sh.getD 1 0 = 1) = true then 9 + sh.getD 3 0 else 1 + sh.getD 2 0).toNat, ?_⟩
      split <;> omega
    rw [en]
    walk_at "rd"
    refine g_ixL (SqL.of h2) (at_int (o := 0) (by omega)) ?_
    walk_at "rd"
    generalize decide (sh.getD 0 0 < 2) = rf
    refine ⟨sc, ns, 1, rfl, SA.seq hsc, ?_⟩
    walk_at "rd"
    refine ⟨cellI ns 1, n, rfl, by omega, fun la H3 ls nla S3 hla lsl lsb => ?_⟩
    have SB : Same H H3 := SA.trans S3
    walk_at "rd"
    refine ⟨sc, ns, 2, rfl, SB.seq hsc, ?_⟩
    walk_at "rd"
    refine g_ixL (SqL.of (S3 _ _ h2)) (at_int (o := 4) (by omega)) ?_
    obtain ⟨fm, efm, hfm⟩ : ∃ k : Nat, sh.getD 4 0 = (k : Int) ∧ k ≤ 7 := ⟨(sh.getD 4 0).toNat, by omega, by omega⟩
    rw [efm]
    walk_at "rd"
    refine ⟨sc, ns, 3, rfl, SB.seq hsc, ?_⟩
    walk_at "rd"
    refine ⟨cellI ns 2, cellI ns 3, rf, la, ls, fm, rfl, hfm, hla, by omega, by omega, lsb, fun sa H4 ss S4 hsa ok => ?_⟩
    have len := ok.len
    have hla4 := S4 _ _ hla
    walk_at "rd"
    refine g_lo (.inl (SqL.of hsa)) fun g1 G1 ng1 T1 hg1 => ?_
    walk_at "rd"
    refine g_lo (.inl (SqL.of (T1 _ _ hla4))) fun g2 G2 ng2 T2 hg2 => ?_
    walk_at "rd"
    refine newL fun gv G3 ngv T3 hgv => ?_
    walk_at "rd"
    refine g_ixL (SqL.of hgv) (atI_nat (j := 0) rfl) ?_
    walk_at "rd"
    refine g_ixL (SqL.of hgv) (atI_nat (j := 1) rfl) ?_
    walk_at "rd"
    have g1_3 : G3 g1 = some (.lst (ss.map V.int)) := T3 _ _ (T2 _ _ hg1)
    have g2_3 : G3 g2 = some (.lst (ls.map V.int)) := T3 _ _ hg2
    refine mk_newL g1_3 g2_3 ok fun b ts tl' G4 nb T4 B => ?_
    have TT := ((T1.trans T2).trans T3).trans T4
    have kla := TT _ _ hla4
    have ksa := TT _ _ hsa
    have kgv := T4 _ _ hgv
    have kg1 := T4 _ _ g1_3
    have kg2 := T4 _ _ g2_3
    walk_at "rd"
    refine ⟨_, rfl, by omega, by omega, fun D nD => ?_⟩
    rw [Int.toNat_natCast]
    refine lc_rangeI (fun p => kI (kOf rf ss ls p)) nD (by omega) (fun p H5 hp S5 Q' hq => ?_) (fun H5 S5 h5 => ?_)
    · rw [Int.zero_add]
      walk_at "rd"
      refine ⟨rfl, ?_⟩
      walk_at "rd"
      refine ⟨rf, la, sa, ls, ss, p, rfl, SqL.of (S5 _ _ kla), SqL.of (S5 _ _ ksa), ok, by omega, fun H6 S6 => ?_⟩
      exact hq H6 S6
    have eS : (List.range n).map (fun p => kI (kOf rf ss ls p)) = spL rf ss ls := by
      unfold spL
      rw [show ss.length = n by omega]
    rw [eS] at h5
    walk_at "rd"
    refine ⟨rf, D, ss, ls, rfl, h5, ok, fun o t H6 hf S6 ht => ?_⟩
    have S46 := S5.trans S6
    walk_at "rd"
    refine ⟨b, ts, tl', t, rf, ss, ls, o, rfl, B.mono S46, ok, SqL.of ht, hf, fun H7 S7 => ?_⟩
    have S47 := S46.trans S7
    walk_at "rd"
    refine newL fun w0 H8 nw0 S8 hw0 => ?_
    have S48 := S47.trans S8
    have ht8 := S8 _ _ (S7 _ _ ht)
    have h58 := S8 _ _ (S7 _ _ (S6 _ _ h5))
    walk_at "rd"
    refine g_eqL (ys := []) (SqL.of ht8) (SqL.of hw0) ?_
    walk_at "rd"
    cases o with
    | none =>
      refine g_itt (decide_eq_true rfl) ?_
      walk_at "rd"
      refine ⟨b, ts, tl', la, sa, D, rf, ss, ls, rfl, B.mono S48, ok, by omega, SqL.of (S48 _ _ kla), SqL.of (S48 _ _ ksa), SqL.of h58, hf, fun H9 S9 => ?_⟩
      have S49 := S48.trans S9
      have ht9 := S9 _ _ ht8
      walk_at "rd"
      refine ⟨b, ts, tl', la, sa, rf, ss, ls, rfl, B.mono S49, ok, by omega, SqL.of (S49 _ _ kla), SqL.of (S49 _ _ ksa), fun J1 R1 => ?_⟩
      have S50 := S49.trans R1
      walk_at "rd"
      refine ⟨b, ts, tl', t, rf, ss, ls, _, rfl, B.mono S50, ok, SqL.of (R1 _ _ ht9), hf, fun J2 R2 => ?_⟩
      have S51 := S50.trans R2
      walk_at "rd"
      refine newL fun w1 J3 nw1 R3 hw1 => ?_
      walk_at "rd"
      have S52 := S51.trans R3
      refine g_eq2 (SqL.of (S52 _ _ kgv)) (SqL.of hw1) (SqL.of (S52 _ _ kg1)) (SqL.of (S52 _ _ kg2)) (SqL.of (S52 _ _ ksa)) (SqL.of (S52 _ _ kla)) ?_
      walk_at "rd"
      refine ⟨b, ts, tl', la, sa, rf, ss, ls, rfl, B.mono S52, SqL.of (S52 _ _ kla), SqL.of (S52 _ _ ksa), by omega, by omega, ?_⟩
      exact q _
    | some z =>
      obtain ⟨p, q'⟩ := z
      refine g_iff (decide_eq_false (fun z => by cases z)) ?_
      walk_at "rd"
      refine ⟨b, ts, tl', t, rf, ss, ls, p, q', rfl, B.mono S48, ok, SqL.of ht8, hf, fun H8' S9 => ?_⟩
      walk_at "rd"
      refine g_ixL (xs := ([(p : Int), (q' : Int)] : List Int).map V.int) (SqL.of (S9 _ _ ht8)) (atI_nat (j := 0) rfl) ?_
      walk_at "rd"
      refine ⟨_, _, rfl, fun H9 S10 => ?_⟩
      have S49 := S48.trans (S9.trans S10)
      have ht9 := S10 _ _ (S9 _ _ ht8)
      walk_at "rd"
      refine ⟨b, ts, tl', la, sa, rf, ss, ls, rfl, B.mono S49, ok, by omega, SqL.of (S49 _ _ kla), SqL.of (S49 _ _ ksa), fun J1 R1 => ?_⟩
      have S50 := S49.trans R1
      walk_at "rd"
      refine ⟨b, ts, tl', t, rf, ss, ls, _, rfl, B.mono S50, ok, SqL.of (R1 _ _ ht9), hf, fun J2 R2 => ?_⟩
      have S51 := S50.trans R2
      walk_at "rd"
      refine newL fun w1 J3 nw1 R3 hw1 => ?_
      walk_at "rd"
      have S52 := S51.trans R3
      refine g_eq2 (SqL.of (S52 _ _ kgv)) (SqL.of hw1) (SqL.of (S52 _ _ kg1)) (SqL.of (S52 _ _ kg2)) (SqL.of (S52 _ _ ksa)) (SqL.of (S52 _ _ kla)) ?_
      walk_at "rd"
      refine ⟨b, ts, tl', la, sa, rf, ss, ls, rfl, B.mono S52, SqL.of (S52 _ _ kla), SqL.of (S52 _ _ ksa), by omega, by omega, ?_⟩
      exact q _
/-! ### -/
end
end Rt
set_option Elab.async false
set_option linter.all false
set_option maxRecDepth 100000
set_option maxHeartbeats 0
namespace Rt
open PySem PySem.Spec L2 He
def fn : List He.DefD := [
  ⟨("_law_cell", none), "_law_cell", "_law_cell", defArgs s__law_cell, defBody s__law_cell, defScope s__law_cell, [], []⟩,
  ⟨("_law_draws", none), "_law_draws", "_law_draws", defArgs s__law_draws, defBody s__law_draws, defScope s__law_draws, [], []⟩,
  ⟨("_law_lengths", none), "_law_lengths", "_law_lengths", defArgs s__law_lengths, defBody s__law_lengths, defScope s__law_lengths, [], []⟩,
  ⟨("_law_strengths", none), "_law_strengths", "_law_strengths", defArgs s__law_strengths, defBody s__law_strengths, defScope s__law_strengths, [], []⟩,
  ⟨("_law_reach", none), "_law_reach", "_law_reach", defArgs s__law_reach, defBody s__law_reach, defScope s__law_reach, [], []⟩,
  ⟨("_law_woken", none), "_law_woken", "_law_woken", defArgs s__law_woken, defBody s__law_woken, defScope s__law_woken, [], []⟩,
  ⟨("_law_is_integer", none), "_law_is_integer", "_law_is_integer", defArgs s__law_is_integer, defBody s__law_is_integer, defScope s__law_is_integer, [], []⟩,
  ⟨("_law_numbers", none), "_law_numbers", "_law_numbers", defArgs s__law_numbers, defBody s__law_numbers, defScope s__law_numbers, [], []⟩,
  ⟨("_law_is_standing", none), "_law_is_standing", "_law_is_standing", defArgs s__law_is_standing, defBody s__law_is_standing, defScope s__law_is_standing, [], []⟩,
  ⟨("_law_run", none), "_law_run", "_law_run", defArgs s__law_run, defBody s__law_run, defScope s__law_run, [], []⟩,
  ⟨("_law_strengths_here", none), "_law_strengths_here", "_law_strengths_here", defArgs s__law_strengths_here, defBody s__law_strengths_here, defScope s__law_strengths_here, [], []⟩,
  ⟨("_law_span", none), "_law_span", "_law_span", defArgs s__law_span, defBody s__law_span, defScope s__law_span, [], []⟩,
  ⟨("_law_fault", none), "_law_fault", "_law_fault", defArgs s__law_fault, defBody s__law_fault, defScope s__law_fault, [], []⟩,
  ⟨("_law_is_fault", none), "_law_is_fault", "_law_is_fault", defArgs s__law_is_fault, defBody s__law_is_fault, defScope s__law_is_fault, [], []⟩,
  ⟨("_law_depths", none), "_law_depths", "_law_depths", defArgs s__law_depths, defBody s__law_depths, defScope s__law_depths, [], []⟩,
  ⟨("_law_has_origin", none), "_law_has_origin", "_law_has_origin", defArgs s__law_has_origin, defBody s__law_has_origin, defScope s__law_has_origin, [], []⟩,
  ⟨("_law_is_refused", none), "_law_is_refused", "_law_is_refused", defArgs s__law_is_refused, defBody s__law_is_refused, defScope s__law_is_refused, [], []⟩,
  ⟨("_law_is_error", none), "_law_is_error", "_law_is_error", defArgs s__law_is_error, defBody s__law_is_error, defScope s__law_is_error, [], []⟩,
  ⟨("_law_is_left", none), "_law_is_left", "_law_is_left", defArgs s__law_is_left, defBody s__law_is_left, defScope s__law_is_left, [], []⟩,
  ⟨("law", none), "law", "law", defArgs s_law, defBody s_law, defScope s_law, [], []⟩,
  ⟨("check_place", none), "check_place", "check_place", defArgs s_check_place, defBody s_check_place, defScope s_check_place, [], []⟩,
  ⟨("run_after", none), "run_after", "run_after", defArgs s_run_after, defBody s_run_after, defScope s_run_after, [], []⟩,
  ⟨("train_of", none), "train_of", "train_of", defArgs s_train_of, defBody s_train_of, defScope s_train_of, [], []⟩,
  ⟨("reach_of", none), "reach_of", "reach_of", defArgs s_reach_of, defBody s_reach_of, defScope s_reach_of, [], []⟩,
  ⟨("reaches", none), "reaches", "reaches", defArgs s_reaches, defBody s_reaches, defScope s_reaches, [], []⟩,
  ⟨("span_of", none), "span_of", "span_of", defArgs s_span_of, defBody s_span_of, defScope s_span_of, [], []⟩,
  ⟨("depths_of", none), "depths_of", "depths_of", defArgs s_depths_of, defBody s_depths_of, defScope s_depths_of, [], []⟩,
  ⟨("outcome_fault", none), "outcome_fault", "outcome_fault", defArgs s_outcome_fault, defBody s_outcome_fault, defScope s_outcome_fault, [], []⟩,
  ⟨("check_outcome", none), "check_outcome", "check_outcome", defArgs s_check_outcome, defBody s_check_outcome, defScope s_check_outcome, [], []⟩,
  ⟨("origin_of", none), "origin_of", "origin_of", defArgs s_origin_of, defBody s_origin_of, defScope s_origin_of, [], []⟩,
  ⟨("wake_all", none), "wake_all", "wake_all", defArgs s_wake_all, defBody s_wake_all, defScope s_wake_all, [], []⟩,
  ⟨("_check_beads", none), "_check_beads", "_check_beads", defArgs s__check_beads, defBody s__check_beads, defScope s__check_beads, [], []⟩,
  ⟨("Beads", some "__init__"), "__init__", "Beads.__init__", defArgs s_Beads_init, defBody s_Beads_init, defScope s_Beads_init, [.non], [("ring", .bl true)]⟩,
  ⟨("Beads", some "__len__"), "__len__", "Beads.__len__", defArgs s_Beads_len, defBody s_Beads_len, defScope s_Beads_len, [], []⟩,
  ⟨("BadPlace", some "__init__"), "__init__", "BadPlace.__init__", defArgs s_BadPlace_init, defBody s_BadPlace_init, defScope s_BadPlace_init, [], []⟩,
  ⟨("NotOutcome", some "__init__"), "__init__", "NotOutcome.__init__", defArgs s_NotOutcome_init, defBody s_NotOutcome_init, defScope s_NotOutcome_init, [], []⟩]
def fa : List He.Fa := [.glo "_law_cell", .glo "_law_draws", .glo "_law_lengths", .glo "_law_strengths", .glo "_law_reach", .glo "_law_woken", .glo "_law_is_integer", .glo "_law_numbers", .glo "_law_is_standing", .glo "_law_run", .glo "_law_strengths_here", .glo "_law_span", .glo "_law_fault", .glo "_law_is_fault", .glo "_law_depths", .glo "_law_has_origin", .glo "_law_is_refused", .glo "_law_is_error", .glo "_law_is_left", .glo "law", .glo "check_place", .glo "run_after", .glo "train_of", .glo "reach_of", .glo "reaches", .glo "span_of", .glo "depths_of", .glo "outcome_fault", .glo "check_outcome", .glo "origin_of", .glo "wake_all", .glo "_check_beads", .free "len", .free "int", .free "bool", .free "tuple", .free "list", .free "range", .free "isinstance", .free "sum", .free "enumerate", .free "max", .glo "Beads", .glo "BadPlace", .glo "WrongKind", .glo "NotOutcome", .cls "Beads", .noat "Beads" "strengths", .noat "Beads" "lengths", .noat "Beads" "ring", .exm "BadPlace" "BadPlace" true, .exm "WrongKind" "WrongKind" true, .exm "NotOutcome" "NotOutcome" true, .meth "Beads" "__len__", .mkr "Beads"]
def more (K : PySem.W.Frag) : Bool := isiB K "Beads" && (excB K "BadPlace" "place" && (excB K "WrongKind" "ring" && (excB K "NotOutcome" "first" && (decide (PySem.W.findIn K (.ref (ga K "NotOutcome")) "second" = some none)))))
def loose : List Str := (["_wall", "__name__", "RetinueError", "BadBeads", "BadPlace", "WrongKind", "NotOutcome", "check_place", "Beads", "_check_beads", "run_after", "train_of", "reach_of", "reaches", "span_of", "outcome_fault", "check_outcome", "origin_of", "depths_of", "wake_all", "_law_cell", "_law_draws", "_law_lengths", "_law_strengths", "_law_reach", "_law_woken", "_law_is_integer", "_law_numbers", "_law_is_standing", "_law_run"] : List Str) ++ (["_law_strengths_here", "_law_span", "_law_fault", "_law_is_fault", "_law_depths", "_law_has_origin", "_law_is_refused", "_law_is_error", "_law_is_left"] : List Str)
abbrev R : PySem.W.OpenRow := PySem.W.OpenLaw.row PySem.Challenge.rw_retinue_k26_whole_outcomes
abbrev hk : PySem.W.Hook := hookM 5 fa fn more
def ob (s : PySem.W.SharedT) : AlM := obsMG 5 fa fn more (HandSHeadRun.getT s)
theorem ob_eq (s : PySem.W.SharedT) : ob s = hk.obs s.abs := obsMG_eq (HandSHeadRun.getT_eq s)
theorem run_ (w : World) : HandSHeadRun.RunEq R (PySem.W.view R.prog [45]) hk ob 3000 loose w := by
  intro os
  kernel_rfl
theorem facts {P : Program} {w : World} {K : PySem.W.Frag} {h : Heap} {mg : Str → Option Value} {f : Addr} (X : K.In h) (G : h.Ns mainGlobals mg) (hfa : mg ("law" : Str) = some (.ref f)) (c : He.SaysD fa fn K) (m : more K = true) :
    ∃ fd : FuncData, (∀ (s : Shared) (v : Value), BindsTo s fd ⟨[v], []⟩ [("script", v)]) ∧ ∀ base : Heap, K.In base → base.Ns mainGlobals mg → FnOk P w K mg base CX0 11 f fd ["script"] (spLaw K) := by
  obtain ⟨mI, m1⟩ := ba m
  obtain ⟨mE0, m2⟩ := ba m1
  have E_BadPlace := excB_ok mE0
  obtain ⟨mE1, m3⟩ := ba m2
  have E_WrongKind := excB_ok mE1
  obtain ⟨mE2, m4⟩ := ba m3
  have E_NotOutcome := excB_ok mE2
  have mE3 := m4
  obtain ⟨i1, i2, i3, i4, i5⟩ := isiB_ok mI
  obtain ⟨fd__law_cell, F__law_cell⟩ := c.def_ 0 (d := ⟨("_law_cell", none), "_law_cell", "_law_cell", defArgs s__law_cell, defBody s__law_cell, defScope s__law_cell, [], []⟩) rfl
  have U__law_cell := fun_of (st := s__law_cell) F__law_cell
  have b__law_cell := U__law_cell.binds (ps := ["script", "k"]) fun _ _ _ _ _ _ us hl => match us, hl with | [_, _], _ => rfl
  have g__law_cell := He.glo_ok X G (c.fact 0 (f := .glo "_law_cell") rfl)
  obtain ⟨fd__law_draws, F__law_draws⟩ := c.def_ 1 (d := ⟨("_law_draws", none), "_law_draws", "_law_draws", defArgs s__law_draws, defBody s__law_draws, defScope s__law_draws, [], []⟩) rfl
  have U__law_draws := fun_of (st := s__law_draws) F__law_draws
  have b__law_draws := U__law_draws.binds (ps := ["cell", "sizes"]) fun _ _ _ _ _ _ us hl => match us, hl with | [_, _], _ => rfl
  have g__law_draws := He.glo_ok X G (c.fact 1 (f := .glo "_law_draws") rfl)
  obtain ⟨fd__law_lengths, F__law_lengths⟩ := c.def_ 2 (d := ⟨("_law_lengths", none), "_law_lengths", "_law_lengths", defArgs s__law_lengths, defBody s__law_lengths, defScope s__law_lengths, [], []⟩) rfl
  have U__law_lengths := fun_of (st := s__law_lengths) F__law_lengths
  have b__law_lengths := U__law_lengths.binds (ps := ["cell", "many"]) fun _ _ _ _ _ _ us hl => match us, hl with | [_, _], _ => rfl
  have g__law_lengths := He.glo_ok X G (c.fact 2 (f := .glo "_law_lengths") rfl)
  obtain ⟨fd__law_strengths, F__law_strengths⟩ := c.def_ 3 (d := ⟨("_law_strengths", none), "_law_strengths", "_law_strengths", defArgs s__law_strengths, defBody s__law_strengths, defScope s__law_strengths, [], []⟩) rfl
  have U__law_strengths := fun_of (st := s__law_strengths) F__law_strengths
  have b__law_strengths := U__law_strengths.binds (ps := ["cell", "sizes"]) fun _ _ _ _ _ _ us hl => match us, hl with | [_, _], _ => rfl
  have g__law_strengths := He.glo_ok X G (c.fact 3 (f := .glo "_law_strengths") rfl)
  obtain ⟨fd__law_reach, F__law_reach⟩ := c.def_ 4 (d := ⟨("_law_reach", none), "_law_reach", "_law_reach", defArgs s__law_reach, defBody s__law_reach, defScope s__law_reach, [], []⟩) rfl
  have U__law_reach := fun_of (st := s__law_reach) F__law_reach
  have b__law_reach := U__law_reach.binds (ps := ["round_flag", "sizes", "strengths", "place"]) fun _ _ _ _ _ _ us hl => match us, hl with | [_, _, _, _], _ => rfl
  have g__law_reach := He.glo_ok X G (c.fact 4 (f := .glo "_law_reach") rfl)
  obtain ⟨fd__law_woken, F__law_woken⟩ := c.def_ 5 (d := ⟨("_law_woken", none), "_law_woken", "_law_woken", defArgs s__law_woken, defBody s__law_woken, defScope s__law_woken, [], []⟩) rfl
  have U__law_woken := fun_of (st := s__law_woken) F__law_woken
  have b__law_woken := U__law_woken.binds (ps := ["round_flag", "sizes", "strengths", "places"]) fun _ _ _ _ _ _ us hl => match us, hl with | [_, _, _, _], _ => rfl
  have g__law_woken := He.glo_ok X G (c.fact 5 (f := .glo "_law_woken") rfl)
  obtain ⟨fd__law_is_integer, F__law_is_integer⟩ := c.def_ 6 (d := ⟨("_law_is_integer", none), "_law_is_integer", "_law_is_integer", defArgs s__law_is_integer, defBody s__law_is_integer, defScope s__law_is_integer, [], []⟩) rfl
  have U__law_is_integer := fun_of (st := s__law_is_integer) F__law_is_integer
  have b__law_is_integer := U__law_is_integer.binds (ps := ["actual"]) fun _ _ _ _ _ _ us hl => match us, hl with | [_], _ => rfl
  have g__law_is_integer := He.glo_ok X G (c.fact 6 (f := .glo "_law_is_integer") rfl)
  obtain ⟨fd__law_numbers, F__law_numbers⟩ := c.def_ 7 (d := ⟨("_law_numbers", none), "_law_numbers", "_law_numbers", defArgs s__law_numbers, defBody s__law_numbers, defScope s__law_numbers, [], []⟩) rfl
  have U__law_numbers := fun_of (st := s__law_numbers) F__law_numbers
  have b__law_numbers := U__law_numbers.binds (ps := ["actual", "due", "as_tuple"]) fun _ _ _ _ _ _ us hl => match us, hl with | [_, _, _], _ => rfl
  have g__law_numbers := He.glo_ok X G (c.fact 7 (f := .glo "_law_numbers") rfl)
  obtain ⟨fd__law_is_standing, F__law_is_standing⟩ := c.def_ 8 (d := ⟨("_law_is_standing", none), "_law_is_standing", "_law_is_standing", defArgs s__law_is_standing, defBody s__law_is_standing, defScope s__law_is_standing, [], []⟩) rfl
  have U__law_is_standing := fun_of (st := s__law_is_standing) F__law_is_standing
  have b__law_is_standing := U__law_is_standing.binds (ps := ["actual", "round_flag", "sizes", "strengths"]) fun _ _ _ _ _ _ us hl => match us, hl with | [_, _, _, _], _ => rfl
  have g__law_is_standing := He.glo_ok X G (c.fact 8 (f := .glo "_law_is_standing") rfl)
  obtain ⟨fd__law_run, F__law_run⟩ := c.def_ 9 (d := ⟨("_law_run", none), "_law_run", "_law_run", defArgs s__law_run, defBody s__law_run, defScope s__law_run, [], []⟩) rfl
  have U__law_run := fun_of (st := s__law_run) F__law_run
  have b__law_run := U__law_run.binds (ps := ["round_flag", "many", "place"]) fun _ _ _ _ _ _ us hl => match us, hl with | [_, _, _], _ => rfl
  have g__law_run := He.glo_ok X G (c.fact 9 (f := .glo "_law_run") rfl)
  obtain ⟨fd__law_strengths_here, F__law_strengths_here⟩ := c.def_ 10 (d := ⟨("_law_strengths_here", none), "_law_strengths_here", "_law_strengths_here", defArgs s__law_strengths_here, defBody s__law_strengths_here, defScope s__law_strengths_here, [], []⟩) rfl
  have U__law_strengths_here := fun_of (st := s__law_strengths_here) F__law_strengths_here
  have b__law_strengths_here := U__law_strengths_here.binds (ps := ["cell", "round_flag", "sizes", "form", "spare"]) fun _ _ _ _ _ _ us hl => match us, hl with | [_, _, _, _, _], _ => rfl
  have g__law_strengths_here := He.glo_ok X G (c.fact 10 (f := .glo "_law_strengths_here") rfl)
  obtain ⟨fd__law_span, F__law_span⟩ := c.def_ 11 (d := ⟨("_law_span", none), "_law_span", "_law_span", defArgs s__law_span, defBody s__law_span, defScope s__law_span, [], []⟩) rfl
  have U__law_span := fun_of (st := s__law_span) F__law_span
  have b__law_span := U__law_span.binds (ps := ["round_flag", "sizes", "strengths", "place"]) fun _ _ _ _ _ _ us hl => match us, hl with | [_, _, _, _], _ => rfl
  have g__law_span := He.glo_ok X G (c.fact 11 (f := .glo "_law_span") rfl)
  obtain ⟨fd__law_fault, F__law_fault⟩ := c.def_ 12 (d := ⟨("_law_fault", none), "_law_fault", "_law_fault", defArgs s__law_fault, defBody s__law_fault, defScope s__law_fault, [], []⟩) rfl
  have U__law_fault := fun_of (st := s__law_fault) F__law_fault
  have b__law_fault := U__law_fault.binds (ps := ["round_flag", "spans"]) fun _ _ _ _ _ _ us hl => match us, hl with | [_, _], _ => rfl
  have g__law_fault := He.glo_ok X G (c.fact 12 (f := .glo "_law_fault") rfl)
  obtain ⟨fd__law_is_fault, F__law_is_fault⟩ := c.def_ 13 (d := ⟨("_law_is_fault", none), "_law_is_fault", "_law_is_fault", defArgs s__law_is_fault, defBody s__law_is_fault, defScope s__law_is_fault, [], []⟩) rfl
  have U__law_is_fault := fun_of (st := s__law_is_fault) F__law_is_fault
  have b__law_is_fault := U__law_is_fault.binds (ps := ["beads", "due"]) fun _ _ _ _ _ _ us hl => match us, hl with | [_, _], _ => rfl
  have g__law_is_fault := He.glo_ok X G (c.fact 13 (f := .glo "_law_is_fault") rfl)
  obtain ⟨fd__law_depths, F__law_depths⟩ := c.def_ 14 (d := ⟨("_law_depths", none), "_law_depths", "_law_depths", defArgs s__law_depths, defBody s__law_depths, defScope s__law_depths, [], []⟩) rfl
  have U__law_depths := fun_of (st := s__law_depths) F__law_depths
  have b__law_depths := U__law_depths.binds (ps := ["round_flag", "spans"]) fun _ _ _ _ _ _ us hl => match us, hl with | [_, _], _ => rfl
  have g__law_depths := He.glo_ok X G (c.fact 14 (f := .glo "_law_depths") rfl)
  obtain ⟨fd__law_has_origin, F__law_has_origin⟩ := c.def_ 15 (d := ⟨("_law_has_origin", none), "_law_has_origin", "_law_has_origin", defArgs s__law_has_origin, defBody s__law_has_origin, defScope s__law_has_origin, [], []⟩) rfl
  have U__law_has_origin := fun_of (st := s__law_has_origin) F__law_has_origin
  have b__law_has_origin := U__law_has_origin.binds (ps := ["beads", "round_flag", "sizes", "strengths", "spans"]) fun _ _ _ _ _ _ us hl => match us, hl with | [_, _, _, _, _], _ => rfl
  have g__law_has_origin := He.glo_ok X G (c.fact 15 (f := .glo "_law_has_origin") rfl)
  obtain ⟨fd__law_is_refused, F__law_is_refused⟩ := c.def_ 16 (d := ⟨("_law_is_refused", none), "_law_is_refused", "_law_is_refused", defArgs s__law_is_refused, defBody s__law_is_refused, defScope s__law_is_refused, [], []⟩) rfl
  have U__law_is_refused := fun_of (st := s__law_is_refused) F__law_is_refused
  have b__law_is_refused := U__law_is_refused.binds (ps := ["beads", "due"]) fun _ _ _ _ _ _ us hl => match us, hl with | [_, _], _ => rfl
  have g__law_is_refused := He.glo_ok X G (c.fact 16 (f := .glo "_law_is_refused") rfl)
  obtain ⟨fd__law_is_error, F__law_is_error⟩ := c.def_ 17 (d := ⟨("_law_is_error", none), "_law_is_error", "_law_is_error", defArgs s__law_is_error, defBody s__law_is_error, defScope s__law_is_error, [], []⟩) rfl
  have U__law_is_error := fun_of (st := s__law_is_error) F__law_is_error
  have b__law_is_error := U__law_is_error.binds (ps := ["first", "second"]) fun _ _ _ _ _ _ us hl => match us, hl with | [_, _], _ => rfl
  have g__law_is_error := He.glo_ok X G (c.fact 17 (f := .glo "_law_is_error") rfl)
  obtain ⟨fd__law_is_left, F__law_is_left⟩ := c.def_ 18 (d := ⟨("_law_is_left", none), "_law_is_left", "_law_is_left", defArgs s__law_is_left, defBody s__law_is_left, defScope s__law_is_left, [], []⟩) rfl
  have U__law_is_left := fun_of (st := s__law_is_left) F__law_is_left
  have b__law_is_left := U__law_is_left.binds (ps := ["beads", "round_flag", "sizes", "strengths"]) fun _ _ _ _ _ _ us hl => match us, hl with | [_, _, _, _], _ => rfl
  have g__law_is_left := He.glo_ok X G (c.fact 18 (f := .glo "_law_is_left") rfl)
  obtain ⟨fd_law, F_law⟩ := c.def_ 19 (d := ⟨("law", none), "law", "law", defArgs s_law, defBody s_law, defScope s_law, [], []⟩) rfl
  have U_law := fun_of (st := s_law) F_law
  have b_law := U_law.binds (ps := ["script"]) fun _ _ _ _ _ _ us hl => match us, hl with | [_], _ => rfl
  have g_law := He.glo_ok X G (c.fact 19 (f := .glo "law") rfl)
  obtain ⟨fd_check_place, F_check_place⟩ := c.def_ 20 (d := ⟨("check_place", none), "check_place", "check_place", defArgs s_check_place, defBody s_check_place, defScope s_check_place, [], []⟩) rfl
  have U_check_place := fun_of (st := s_check_place) F_check_place
  have b_check_place := U_check_place.binds (ps := ["many", "place"]) fun _ _ _ _ _ _ us hl => match us, hl with | [_, _], _ => rfl
  have g_check_place := He.glo_ok X G (c.fact 20 (f := .glo "check_place") rfl)
  obtain ⟨fd_run_after, F_run_after⟩ := c.def_ 21 (d := ⟨("run_after", none), "run_after", "run_after", defArgs s_run_after, defBody s_run_after, defScope s_run_after, [], []⟩) rfl
  have U_run_after := fun_of (st := s_run_after) F_run_after
  have b_run_after := U_run_after.binds (ps := ["beads", "place"]) fun _ _ _ _ _ _ us hl => match us, hl with | [_, _], _ => rfl
  have g_run_after := He.glo_ok X G (c.fact 21 (f := .glo "run_after") rfl)
  obtain ⟨fd_train_of, F_train_of⟩ := c.def_ 22 (d := ⟨("train_of", none), "train_of", "train_of", defArgs s_train_of, defBody s_train_of, defScope s_train_of, [], []⟩) rfl
  have U_train_of := fun_of (st := s_train_of) F_train_of
  have b_train_of := U_train_of.binds (ps := ["beads", "place"]) fun _ _ _ _ _ _ us hl => match us, hl with | [_, _], _ => rfl
  have g_train_of := He.glo_ok X G (c.fact 22 (f := .glo "train_of") rfl)
  obtain ⟨fd_reach_of, F_reach_of⟩ := c.def_ 23 (d := ⟨("reach_of", none), "reach_of", "reach_of", defArgs s_reach_of, defBody s_reach_of, defScope s_reach_of, [], []⟩) rfl
  have U_reach_of := fun_of (st := s_reach_of) F_reach_of
  have b_reach_of := U_reach_of.binds (ps := ["beads", "place"]) fun _ _ _ _ _ _ us hl => match us, hl with | [_, _], _ => rfl
  have g_reach_of := He.glo_ok X G (c.fact 23 (f := .glo "reach_of") rfl)
  obtain ⟨fd_reaches, F_reaches⟩ := c.def_ 24 (d := ⟨("reaches", none), "reaches", "reaches", defArgs s_reaches, defBody s_reaches, defScope s_reaches, [], []⟩) rfl
  have U_reaches := fun_of (st := s_reaches) F_reaches
  have b_reaches := U_reaches.binds (ps := ["beads"]) fun _ _ _ _ _ _ us hl => match us, hl with | [_], _ => rfl
  have g_reaches := He.glo_ok X G (c.fact 24 (f := .glo "reaches") rfl)
  obtain ⟨fd_span_of, F_span_of⟩ := c.def_ 25 (d := ⟨("span_of", none), "span_of", "span_of", defArgs s_span_of, defBody s_span_of, defScope s_span_of, [], []⟩) rfl
  have U_span_of := fun_of (st := s_span_of) F_span_of
  have b_span_of := U_span_of.binds (ps := ["beads", "place"]) fun _ _ _ _ _ _ us hl => match us, hl with | [_, _], _ => rfl
  have g_span_of := He.glo_ok X G (c.fact 25 (f := .glo "span_of") rfl)
  obtain ⟨fd_depths_of, F_depths_of⟩ := c.def_ 26 (d := ⟨("depths_of", none), "depths_of", "depths_of", defArgs s_depths_of, defBody s_depths_of, defScope s_depths_of, [], []⟩) rfl
  have U_depths_of := fun_of (st := s_depths_of) F_depths_of
  have b_depths_of := U_depths_of.binds (ps := ["beads"]) fun _ _ _ _ _ _ us hl => match us, hl with | [_], _ => rfl
  have g_depths_of := He.glo_ok X G (c.fact 26 (f := .glo "depths_of") rfl)
  obtain ⟨fd_outcome_fault, F_outcome_fault⟩ := c.def_ 27 (d := ⟨("outcome_fault", none), "outcome_fault", "outcome_fault", defArgs s_outcome_fault, defBody s_outcome_fault, defScope s_outcome_fault, [], []⟩) rfl
  have U_outcome_fault := fun_of (st := s_outcome_fault) F_outcome_fault
  have b_outcome_fault := U_outcome_fault.binds (ps := ["beads"]) fun _ _ _ _ _ _ us hl => match us, hl with | [_], _ => rfl
  have g_outcome_fault := He.glo_ok X G (c.fact 27 (f := .glo "outcome_fault") rfl)
  obtain ⟨fd_check_outcome, F_check_outcome⟩ := c.def_ 28 (d := ⟨("check_outcome", none), "check_outcome", "check_outcome", defArgs s_check_outcome, defBody s_check_outcome, defScope s_check_outcome, [], []⟩) rfl
  have U_check_outcome := fun_of (st := s_check_outcome) F_check_outcome
  have b_check_outcome := U_check_outcome.binds (ps := ["beads"]) fun _ _ _ _ _ _ us hl => match us, hl with | [_], _ => rfl
  have g_check_outcome := He.glo_ok X G (c.fact 28 (f := .glo "check_outcome") rfl)
  obtain ⟨fd_origin_of, F_origin_of⟩ := c.def_ 29 (d := ⟨("origin_of", none), "origin_of", "origin_of", defArgs s_origin_of, defBody s_origin_of, defScope s_origin_of, [], []⟩) rfl
  have U_origin_of := fun_of (st := s_origin_of) F_origin_of
  have b_origin_of := U_origin_of.binds (ps := ["beads"]) fun _ _ _ _ _ _ us hl => match us, hl with | [_], _ => rfl
  have g_origin_of := He.glo_ok X G (c.fact 29 (f := .glo "origin_of") rfl)
  obtain ⟨fd_wake_all, F_wake_all⟩ := c.def_ 30 (d := ⟨("wake_all", none), "wake_all", "wake_all", defArgs s_wake_all, defBody s_wake_all, defScope s_wake_all, [], []⟩) rfl
  have U_wake_all := fun_of (st := s_wake_all) F_wake_all
  have b_wake_all := U_wake_all.binds (ps := ["beads"]) fun _ _ _ _ _ _ us hl => match us, hl with | [_], _ => rfl
  have g_wake_all := He.glo_ok X G (c.fact 30 (f := .glo "wake_all") rfl)
  obtain ⟨fd__check_beads, F__check_beads⟩ := c.def_ 31 (d := ⟨("_check_beads", none), "_check_beads", "_check_beads", defArgs s__check_beads, defBody s__check_beads, defScope s__check_beads, [], []⟩) rfl
  have U__check_beads := fun_of (st := s__check_beads) F__check_beads
  have b__check_beads := U__check_beads.binds (ps := ["strengths", "lengths"]) fun _ _ _ _ _ _ us hl => match us, hl with | [_, _], _ => rfl
  have g__check_beads := He.glo_ok X G (c.fact 31 (f := .glo "_check_beads") rfl)
  obtain ⟨fd_Beads_init, F_Beads_init⟩ := c.def_ 32 (d := ⟨("Beads", some "__init__"), "__init__", "Beads.__init__", defArgs s_Beads_init, defBody s_Beads_init, defScope s_Beads_init, [.non], [("ring", .bl true)]⟩) rfl
  obtain ⟨fd_Beads_len, F_Beads_len⟩ := c.def_ 33 (d := ⟨("Beads", some "__len__"), "__len__", "Beads.__len__", defArgs s_Beads_len, defBody s_Beads_len, defScope s_Beads_len, [], []⟩) rfl
  have U_Beads_len := fun_of (st := s_Beads_len) F_Beads_len
  have b_Beads_len := U_Beads_len.binds (ps := ["self"]) fun _ _ _ _ _ _ us hl => match us, hl with | [_], _ => rfl
  obtain ⟨fd_BadPlace_init, F_BadPlace_init⟩ := c.def_ 34 (d := ⟨("BadPlace", some "__init__"), "__init__", "BadPlace.__init__", defArgs s_BadPlace_init, defBody s_BadPlace_init, defScope s_BadPlace_init, [], []⟩) rfl
  have U_BadPlace_init := fun_of (st := s_BadPlace_init) F_BadPlace_init
  have b_BadPlace_init := U_BadPlace_init.binds (ps := ["self", "place"]) fun _ _ _ _ _ _ us hl => match us, hl with | [_, _], _ => rfl
  obtain ⟨fd_NotOutcome_init, F_NotOutcome_init⟩ := c.def_ 35 (d := ⟨("NotOutcome", some "__init__"), "__init__", "NotOutcome.__init__", defArgs s_NotOutcome_init, defBody s_NotOutcome_init, defScope s_NotOutcome_init, [], []⟩) rfl
  have U_NotOutcome_init := fun_of (st := s_NotOutcome_init) F_NotOutcome_init
  have b_NotOutcome_init := U_NotOutcome_init.binds (ps := ["self", "first", "second"]) fun _ _ _ _ _ _ us hl => match us, hl with | [_, _, _], _ => rfl
  obtain ⟨its, mv, kb⟩ := FunD.kbinds (ps := ["self", "strengths", "lengths", "ring"]) F_Beads_init 3 ["ring"] [] (fun us its mv ws => us ++ ws) (by simp [DefD.dvs]) (by simp [DefD.kws]) (fun q h => by cases h) (fun r1 r2 r3 r4 => r1.append r4)
    (fun T D doc pm an cdv ct us its mv ws h1 h2 h3 h4 => match us, its, mv, ws, h1, h2, h3, h4 with | [_, _, _], [_], [], [_], _, _, _, _ => ⟨_, rfl, rfl⟩)
  have eL := hfa.symm.trans g_law
  cases eL
  have A0 : ∃ A : Ad, A = ⟨ga K "Beads", ga K "BadPlace", ga K "WrongKind", ga K "NotOutcome"⟩ := ⟨_, rfl⟩
  obtain ⟨A, hA⟩ := A0
  have T : Txt K mg A := by
    subst hA
    exact {
      m_len := He.free_ok X G (c.fact 32 (f := .free "len") rfl)
      m_int := He.free_ok X G (c.fact 33 (f := .free "int") rfl)
      m_bool := He.free_ok X G (c.fact 34 (f := .free "bool") rfl)
      m_tuple := He.free_ok X G (c.fact 35 (f := .free "tuple") rfl)
      m_list := He.free_ok X G (c.fact 36 (f := .free "list") rfl)
      m_range := He.free_ok X G (c.fact 37 (f := .free "range") rfl)
      m_isinstance := He.free_ok X G (c.fact 38 (f := .free "isinstance") rfl)
      m_sum := He.free_ok X G (c.fact 39 (f := .free "sum") rfl)
      m_enumerate := He.free_ok X G (c.fact 40 (f := .free "enumerate") rfl)
      m_max := He.free_ok X G (c.fact 41 (f := .free "max") rfl)
      g_Beads := He.glo_ok X G (c.fact 42 (f := .glo "Beads") rfl)
      g_BadPlace := He.glo_ok X G (c.fact 43 (f := .glo "BadPlace") rfl)
      g_WrongKind := He.glo_ok X G (c.fact 44 (f := .glo "WrongKind") rfl)
      g_NotOutcome := He.glo_ok X G (c.fact 45 (f := .glo "NotOutcome") rfl)
      cl := He.cls_ok (c.fact 46 (f := .cls "Beads") rfl)
      nS := He.noat_ok (c.fact 47 (f := .noat "Beads" "strengths") rfl)
      nL := He.noat_ok (c.fact 48 (f := .noat "Beads" "lengths") rfl)
      nR := He.noat_ok (c.fact 49 (f := .noat "Beads" "ring") rfl)
      oBP := E_BadPlace.o
      no_BadPlace_place := E_BadPlace.no
      x_BadPlace := E_BadPlace.xf
      eBP := He.exm_ok (c.fact 50 (f := .exm "BadPlace" "BadPlace" true) rfl)
      oWK := E_WrongKind.o
      no_WrongKind_ring := E_WrongKind.no
      x_WrongKind := E_WrongKind.xf
      eWK := He.exm_ok (c.fact 51 (f := .exm "WrongKind" "WrongKind" true) rfl)
      oNO := E_NotOutcome.o
      no_NotOutcome_first := E_NotOutcome.no
      x_NotOutcome := E_NotOutcome.xf
      eNO := He.exm_ok (c.fact 52 (f := .exm "NotOutcome" "NotOutcome" true) rfl)
      iB1 := i1
      iB2 := i2
      iB3 := i3
      iB4 := i4
      iB5 := i5
      nW := True.intro
      no_NotOutcome_second := of_decide_eq_true mE3 }
  have ML_len := He.meth_ok (c.fact 53 (f := .meth "Beads" "__len__") rfl)
  have MK := He.mkr_ok (c.fact 54 (f := .mkr "Beads") rfl)
  refine ⟨_, fun s v => FunD.bindsA (ps := ["script"]) F_law (fun _ _ _ _ _ _ us hl => match us, hl with | [_], _ => rfl) s [v] rfl, fun base hKb hGb => ?_⟩
  have eA_Beads : A.Beads = ga K "Beads" := by rw [hA]
  have eA_BadPlace : A.BadPlace = ga K "BadPlace" := by rw [hA]
  have eA_WrongKind : A.WrongKind = ga K "WrongKind" := by rw [hA]
  have eA_NotOutcome : A.NotOutcome = ga K "NotOutcome" := by rw [hA]
  have X_BadPlace : ExcDef P w K mg base "BadPlace" A.BadPlace "place" := by
    have o := ok_BadPlace (P := P) (w := w) (mg := mg) (base := base) (A := A) U_BadPlace_init
    rw [eA_BadPlace] at o ⊢
    exact ⟨_, fd_BadPlace_init, E_BadPlace.o, E_BadPlace.i, E_BadPlace.t, o, b_BadPlace_init, He.glo_ok X G (c.fact 43 (f := .glo "BadPlace") rfl), E_BadPlace.no⟩
  have LN : LenD P w K mg base A.Beads (spLen A) := by
    rw [eA_Beads]
    exact ⟨_, fd_Beads_len, ⟨ML_len.at_, ML_len.fn⟩, ok_len U_Beads_len T, b_Beads_len⟩
  have D1 : DefOk P w K mg base CX0 1 "_law_cell" ["script", "k"] (Rt.spCell K) := defOk g__law_cell U__law_cell (ok_cell U__law_cell T) b__law_cell
  have D2 : DefOk P w K mg base CX0 1 "_law_draws" ["cell", "sizes"] (Rt.spDraws K) := defOk g__law_draws U__law_draws (ok_draws U__law_draws T) b__law_draws
  have D3 : DefOk P w K mg base CX0 2 "_law_lengths" ["cell", "many"] Rt.spLengths := defOk g__law_lengths U__law_lengths (ok_lengths U__law_lengths T D2) b__law_lengths
  have D4 : DefOk P w K mg base CX0 2 "_law_strengths" ["cell", "sizes"] (Rt.spStrengths K) := defOk g__law_strengths U__law_strengths (ok_strengths U__law_strengths T D2) b__law_strengths
  have D5 : DefOk P w K mg base CX0 1 "_law_reach" ["round_flag", "sizes", "strengths", "place"] (Rt.spReach K) := defOk g__law_reach U__law_reach (ok_reach U__law_reach T) b__law_reach
  have D6 : DefOk P w K mg base CX0 1 "_law_is_integer" ["actual"] Rt.spInt := defOk g__law_is_integer U__law_is_integer (ok_int U__law_is_integer T) b__law_is_integer
  have D7 : DefOk P w K mg base CX0 2 "_law_numbers" ["actual", "due", "as_tuple"] (Rt.spNumbers K) := defOk g__law_numbers U__law_numbers (ok_numbers U__law_numbers T D6) b__law_numbers
  have D8 : DefOk P w K mg base CX0 3 "_law_is_standing" ["actual", "round_flag", "sizes", "strengths"] (spStanding K A) := defOk g__law_is_standing U__law_is_standing (ok_standing U__law_is_standing T D7) b__law_is_standing
  have D10 : DefOk P w K mg base (L2N.CX P w) 4 "check_place" ["many", "place"] (spCheck A) := defOk g_check_place U_check_place ((ok_check U_check_place T X_BadPlace).mono (by decide)) b_check_place
  have D11 : DefOk P w K mg base CX0 4 "run_after" ["beads", "place"] (spRun A) := defOk g_run_after U_run_after (ok_run U_run_after T LN) b_run_after
  have D12 : DefOk P w K mg base (L2N.CX P w) 5 "train_of" ["beads", "place"] (spPl A RTrain) := defOk g_train_of U_train_of (ok_train U_train_of T LN D10 D11) b_train_of
  have D13 : DefOk P w K mg base (L2N.CX P w) 6 "reach_of" ["beads", "place"] (spPl A RReach) := defOk g_reach_of U_reach_of (ok_reachOf U_reach_of T D12) b_reach_of
  have D14 : DefOk P w K mg base CX0 7 "reaches" ["beads"] (spReaches A) := defOk g_reaches U_reaches (ok_reaches U_reaches T LN D13) b_reaches
  have D16 : DefOk P w K mg base CX0 1 "_check_beads" ["strengths", "lengths"] spChk := defOk g__check_beads U__check_beads (ok_chk U__check_beads T) b__check_beads
  have o := FnOk.or (ok_init (P := P) (w := w) (base := base) F_Beads_init T D16) (FnOk.or (ok_initT (P := P) (w := w) (base := base) F_Beads_init T D16) (ok_initM (P := P) (w := w) (base := base) F_Beads_init T D16))
  have MKB : CtorD P w K mg base CX0 2 "Beads" A.Beads 2 ["ring"] gBeads (spNew K A) := by
    have g := T.g_Beads
    rw [eA_Beads] at g ⊢
    exact ⟨_, fd_Beads_init, _, _, g, MK, o, kb⟩
  have D17 : DefOk P w K mg base CX0 8 "wake_all" ["beads"] (spWakeAll A) := defOk g_wake_all U_wake_all (ok_wakeAll U_wake_all T MKB D14) b_wake_all
  have H6 : DefOkH P w K mg base CX0 1 "_law_is_integer" ["actual"] Rt.spInt := defOkH g__law_is_integer U__law_is_integer (ok_intH U__law_is_integer T) b__law_is_integer
  have H7 : DefOkH P w K mg base CX0 2 "_law_numbers" ["actual", "due", "as_tuple"] (Rt.spNumbers K) := defOkH g__law_numbers U__law_numbers (ok_numbersH U__law_numbers T H6) b__law_numbers
  have XN : ExcDef2 P w K mg base "NotOutcome" A.NotOutcome "first" "second" := by
    have o := ok_NotOutcome (P := P) (w := w) (mg := mg) (base := base) (A := A) U_NotOutcome_init
    rw [eA_NotOutcome] at o ⊢
    have g := T.g_NotOutcome
    rw [eA_NotOutcome] at g
    exact ⟨_, fd_NotOutcome_init, E_NotOutcome.o, E_NotOutcome.i, E_NotOutcome.t, o, b_NotOutcome_init, g⟩
  have E1 : DefOk P w K mg base CX0 5 "span_of" ["beads", "place"] (spSpanG A) := defOk g_span_of U_span_of (ok_spanG U_span_of T D11) b_span_of
  have E2 : DefOk P w K mg base CX0 6 "depths_of" ["beads"] (spDepthsG A) := defOk g_depths_of U_depths_of (ok_depthsG U_depths_of T LN E1) b_depths_of
  have E3 : DefOk P w K mg base CX0 6 "outcome_fault" ["beads"] (spFault A) := defOk g_outcome_fault U_outcome_fault (ok_fault U_outcome_fault T LN E1) b_outcome_fault
  have E5 : DefOk P w K mg base (L2N.CX P w) 7 "check_outcome" ["beads"] (spCheckO A) := defOk g_check_outcome U_check_outcome (ok_checkO U_check_outcome T XN E3) b_check_outcome
  have E4 : DefOk P w K mg base (L2N.CX P w) 8 "origin_of" ["beads"] (spOrigin A) := defOk g_origin_of U_origin_of (ok_origin U_origin_of T E5 E2 MKB) b_origin_of
  have F1 : DefOk P w K mg base CX0 2 "_law_woken" ["round_flag", "sizes", "strengths", "places"] (spWoken K) := defOk g__law_woken U__law_woken (ok_woken U__law_woken T D5) b__law_woken
  have F2 : DefOk P w K mg base CX0 1 "_law_run" ["round_flag", "many", "place"] spRunL := defOk g__law_run U__law_run (ok_runL U__law_run T) b__law_run
  have F3 : DefOk P w K mg base CX0 3 "_law_strengths_here" ["cell", "round_flag", "sizes", "form", "spare"] (spHere K) := defOk g__law_strengths_here U__law_strengths_here (ok_here U__law_strengths_here T D2 D4 F2 F1) b__law_strengths_here
  have F4 : DefOk P w K mg base CX0 2 "_law_span" ["round_flag", "sizes", "strengths", "place"] (spSpanL K) := defOk g__law_span U__law_span (ok_spanL U__law_span T F2) b__law_span
  have F5 : DefOk P w K mg base CX0 2 "_law_fault" ["round_flag", "spans"] (spFaultL K) := defOk g__law_fault U__law_fault (ok_faultL U__law_fault T F2) b__law_fault
  have F6 : DefOk P w K mg base CX0 7 "_law_is_fault" ["beads", "due"] (spIsFault K A) := defOk g__law_is_fault U__law_is_fault (ok_isFault U__law_is_fault T E3 D7) b__law_is_fault
  have F7 : DefOk P w K mg base CX0 2 "_law_depths" ["round_flag", "spans"] (spDepL K) := defOk g__law_depths U__law_depths (ok_depL U__law_depths T F2) b__law_depths
  have F8 : DefOk P w K mg base CX0 9 "_law_has_origin" ["beads", "round_flag", "sizes", "strengths", "spans"] (spHasO K A) := defOk g__law_has_origin U__law_has_origin (ok_hasO U__law_has_origin T F7 E4 D8 F1) b__law_has_origin
  have F9 : DefOk P w K mg base CX0 9 "_law_is_refused" ["beads", "due"] (spRefO K A) := defOk g__law_is_refused U__law_is_refused (ok_refO U__law_is_refused T H7 E4) b__law_is_refused
  have G1 : DefOk P w K mg base CX0 3 "_law_is_error" ["first", "second"] spErr := defOk g__law_is_error U__law_is_error (ok_err U__law_is_error T XN D7) b__law_is_error
  have G2 : DefOk P w K mg base CX0 10 "_law_is_left" ["beads", "round_flag", "sizes", "strengths"] (spLeft K A) := defOk g__law_is_left U__law_is_left (ok_left U__law_is_left T F1 D17 D8 F6 F4 F2 D12 D7 F8) b__law_is_left
  exact ok_law U_law T D1 D2 D3 F3 MKB F4 F5 F6 F8 F9 G1 G2 D8
end Rt
open PySem PySem.W PySem.Calls PyProof.Rows
set_option maxHeartbeats 0 in
theorem PySem.Challenge.cw_retinue_k26_whole_outcomes_holds : PySem.Challenge.rw_retinue_k26_whole_outcomes.Holds := by
  w_on; o_law
  refine HandSHeadRun.head_any (r := OpenLaw.row PySem.Challenge.rw_retinue_k26_whole_outcomes) (q := view (OpenLaw.row PySem.Challenge.rw_retinue_k26_whole_outcomes).prog [45]) (H := Rt.hk) (ob := Rt.ob) (M := 3000) (loose := Rt.loose) (d := HandSHeadRun.topDef (OpenLaw.row PySem.Challenge.rw_retinue_k26_whole_outcomes).prog 45) (kwd := []) Rt.ob_eq
    (by kernel_rfl) (fun s => by kernel_rfl) Rt.run_ (by kernel_rfl) (by kernel_rfl) (by kernel_rfl) (by rfl) (by first | assumption | decide +kernel) (by decide +kernel) ⟨rfl, rfl, rfl, rfl, rfl, by decide +kernel⟩ ?hw ?hc
  case hw => w_witness2
  case hc =>
    refine L2.walk_ofE (l := PySem.Challenge.rw_retinue_k26_whole_outcomes) (n := 63) (k := 11) (x := "script") (CX := L2.CX0) rfl (by decide) (by kernel_rfl) ⟨rfl, by decide, by decide⟩ ?F (fun _ _ _ _ z => z)
    intro w mg fa h Y G hmg0
    obtain ⟨K, KX, c, m⟩ := Y
    have hmg : mg ("law" : PySem.Str) = some (.ref fa) := by
      have e : (HandSHeadRun.topDef (OpenLaw.row PySem.Challenge.rw_retinue_k26_whole_outcomes).prog 45).name = ("law" : PySem.Str) := by kernel_rfl
      rw [← e]
      exact hmg0
    obtain ⟨fd, hb, hF⟩ := Rt.facts (P := (PySem.Challenge.rw_retinue_k26_whole_outcomes).prog) (w := w) KX G hmg c m
    exact ⟨K, fd, Rt.spLaw K, KX, hb, fun H a ns hl _ hS => ⟨a, ns, rfl, hS, hl, fun _ => rfl⟩, hF⟩
