import PyProof.Rows.All
import Wide.All
import OpenK.AllK
import Wide.FinOn
import PyProof.EqAt
import PyProof.EqKinds
import PyProof.TupleCall
import HandS.ForMost
import HandS.ForExc
import HandS.Conv
import HandS.IsInst
import HandS.MakeKwOnly
import HandS.TupMul
import HandS.TupAny
import HandS.Wide
import HandS.ExcInit
import HandS.ExcField
import HandS.ExcIs
import HandS.Evl
import HandS.OwnIter
import HandS.ExcCtx
import HandS.HotCalls
import HandS.ExcInitHot
import HandS.RevRange
import HandS.Style
import PyProof.ListRange
import KE.DataMinMax
import HandS.SortKw
import HandS.SetFor
import HandS.Strs
import HandS.Deep
import PyProof.Rows.SetFrom
import KE.GoesMore
import PyProof.EnumMake
import PyProof.Draws
import HandS.IterNext
import PyProof.TupleIter
import PyProof.WalksMore
import HandS.Zip
import HandS.TryOnly
import PyProof.ListOps
import KE.GoesEnum
import HandS.More
import HandS.DictComp
import PyProof.Rows.SortShellAny
import HandS.Lambda
import HandS.EndTab
import HandS.HeadWalk
import OpenK.KMeth
import KE.KOpsOwn
import PyProof.SumAny
import HandS.Defaults
import HandS.ExcOwn
import HandS.TryMany
import HandS.SortInts
import HandS.Head0
import HandS.Head1
import HandS.Head2
import HandS.HeadEnd
import HandS.HeadHook1
import HandS.HeadHook2
import KE.KNestM
import PySem.Challenge.RW_retinue_k58_whole_ring_comes_to_equal_ar
set_option Elab.async false
set_option linter.all false
set_option maxRecDepth 100000
set_option maxHeartbeats 4000000
/-! Rules of our own, for every law of this program: len of an instance by its own __len__; a def of the top known by its promise. -/
namespace Rt
open PySem PySem.Spec PyProof.Rows L2

/-! ### a def of the top, known by its promise -/
structure DefOk (P : Program) (w : World) (K : PySem.W.Frag) (mg : Str → Option Value) (base : Heap) (CX : CXT) (k : Nat) (x : Str) (ps : List Str) (sp : Sp) : Prop where
  ex : ∃ (f : Addr) (fd : FuncData), mg x = some (.ref f) ∧ PySem.W.keepIn K (.ref f) = true ∧ FnOk P w K mg base CX k f fd ps sp ∧ Binds K fd ps []
section
variable {X : Cx} {CX : CXT} {k j : Nat} {x : Str} {ps : List Str} {sp : Sp} {E : XK} {p pos : Pos} {e : Expr} {es : List Expr} {t : TA}
theorem DefOk.mono {P : Program} {w : World} {K : PySem.W.Frag} {mg : Str → Option Value} {base : Heap} (D : DefOk P w K mg base CX j x ps sp) (h : j ≤ k) : DefOk P w K mg base CX k x ps sp := by
  obtain ⟨f, fd, a, b, c, d⟩ := D.ex
  exact ⟨f, fd, a, b, c.mono h, d⟩
theorem pe_callD (D : DefOk X.prog X.w X.K X.mg X.base CX k x ps sp) (hr : Room k X.A) (hx : Passes CX X E) (ha : PA X (e :: es) t) (hg : Gl X x := by rfl) (hdb : (x == ("__debug__" : Str)) = false := by decide)
    (he : starEach (e :: es) X.env = (false, eval e X.env) :: starEach es X.env := by rfl) (hpl : (backTo pos (starEach es X.env)).any (·.1) = false := by rfl) : PE X (.Call (.Name x p) (e :: es) [] pos) (tCall sp [] E t) := by
  obtain ⟨f, fd, a, b, c, d⟩ := D.ex
  exact pe_call c hr hg a b d .nil hx ha hdb he hpl
theorem pe_callDS {E : L2.St → XK} (D : DefOk X.prog X.w X.K X.mg X.base CX k x ps sp) (hr : Room k X.A) (hx : ∀ σ : L2.St, PassesAt CX X σ (E σ)) (ha : PA X (e :: es) t) (hg : Gl X x := by rfl) (hdb : (x == ("__debug__" : Str)) = false := by decide)
    (he : starEach (e :: es) X.env = (false, eval e X.env) :: starEach es X.env := by rfl) (hpl : (backTo pos (starEach es X.env)).any (·.1) = false := by rfl) : PE X (.Call (.Name x p) (e :: es) [] pos) (tCallS sp E t) := by
  obtain ⟨f, fd, a, b, c, d⟩ := D.ex
  exact pe_callS c hr hg a b d hx ha hdb he hpl
end

/-! ### len of an instance whose class has __len__ -/
/-- the def at f is the __len__ of the class at C -/
structure LenC (K : PySem.W.Frag) (C f : Addr) : Prop where
  ln : PySem.W.findIn K (.ref C) "__len__" = some (some (.ref f))
  lnF : PySem.W.isFn K (.ref f) = true
section
variable {X : Cx} {CX : CXT} {k : Nat} {f C : Addr} {fd : FuncData} {ps : List Str} {sp : Sp} {E : XK}
theorem run_fn' {pins : List (Addr × Obj)} {σ : L2.St} {H : Hp} {s : Shared} {Q : VK} {us : List Value} {vs : List V} {A1 : Around} (F : FnOk X.prog X.w X.K X.mg X.base CX k f fd ps sp) (hr : Room k A1) (hA : A1.frames = X.A.frames) (hb : Binds X.K fd ps []) (hx : Passes CX X E)
    (I : Inv X pins σ H s) (r : Vals vs us) (h : sp vs H Q E) : wpAny (model X.prog X.w) A1 (call (.ref f) us) (EP X pins σ Q) X.xe s := by
  have hl : us.length = ps.length := by rw [← r.length]; exact F.len _ _ _ _ h
  have e0 : Env0 X.prog X.w X.K X.mg X.base A1 X.stack s H := by
    have e := I.env0
    exact ⟨by rw [hA]; exact e.frames, e.mod, e.bs, e.bsz, e.funs, e.frf, e.hok, e.bare⟩
  refine wpAny_call (codeAny_mono (F.run A1 X.stack s H ⟨us, []⟩ us vs Q E hr e0 (by have := hb s us I.kIn (by simpa using hl); simpa using this) r h) fun r s' hq => ?_)
  cases r with
  | error e => exact hx pins σ H s e s' I hq
  | ok fl =>
    cases fl with
    | ret u => exact I.after hq
    | next => exact False.elim hq
    | brk => exact False.elim hq
    | cont => exact False.elim hq
def rLenO (C : Addr) (sp : Sp) (E : XK) : List V → Hp → VK → Prop := fun xs H Q => ∃ (a dx : Addr) (fs : List (Str × V)), xs = [.ref a] ∧ H a = some (.ins C dx fs) ∧ sp [.ref a] H (fun v H' => ∃ n : Int, v = .int n ∧ 0 ≤ n ∧ n < 2 ^ 63 ∧ Q (.int n) H') E
theorem call_lenO (c : LenC X.K C f) (F : FnOk X.prog X.w X.K X.mg X.base CX k f fd ps sp) (hr : Room (k + 1) X.A) (hb : Binds X.K fd ps []) (hx : Passes CX X E) : CallR X (.builtin "len") (rLenO C sp E) := by
  intro pins s σ H xs us Q I r h
  obtain ⟨a, dx, fs, rfl, ha, hsp⟩ := h
  obtain ⟨u, rfl, rx⟩ := vals1 r
  cases rx
  obtain ⟨mA, J, _⟩ := ins_get I.hok ha
  obtain ⟨od, J, _⟩ := J.look
  have hK := I.kIn
  refine Calls.call_function_entry PySem.kind_len PySem.plain_len PySem.entry_len (PySem.args_len1 _) ?_
  unfold Builtin.«len»
  refine wpAny_bind (m := oneArg "len" _) (wpAny_pure ?_)
  have fin : wpAny (model X.prog X.w) X.A.in1 (call (.ref f) [.ref a]) (EP X pins σ (fun v H' => ∃ n : Int, v = .int n ∧ 0 ≤ n ∧ n < 2 ^ 63 ∧ Q (.int n) H')) X.xe s := run_fn' F hr.in1 rfl hb hx I (us := [.ref a]) (vs := [V.ref a]) (.cons rfl .nil) hsp
  refine wpAny_bind (m := callSpecial? (.ref a) (Str.ofString "__len__")) ?_
  unfold callSpecial?
  refine wpAny_bind (wpAny_bind (J.type.here ((PySem.W.looks_findIn hK c.ln).here ?_)))
  refine wpAny_holding (wpAny_bind ((PySem.W.bind_fn hK _ (beq_iff_eq.mp c.lnF)).here ?_))
  refine wpAny_bind (wpAny_mono fin (fun v s' hv => ?_) fun _ _ z => z)
  obtain ⟨y, H', I', rv, n, rfl, h0, h1, q⟩ := hv
  obtain ⟨t, rfl⟩ := rv
  refine wpAny_pure ?_
  refine wpAny_bind (wpAny_holding (wpAny_pure ?_))
  refine wpAny_bind (wpAny_letGo ?_)
  show wpAny _ _ (if n < 0 then _ else _) _ _ _
  rw [if_neg (by omega)]
  refine wpAny_bind (wpAny_pure ?_)
  show wpAny _ _ (if n ≥ 2 ^ 63 then _ else _) _ _ _
  rw [if_neg (by omega)]
  refine wpAny_bind (wpAny_mkInt (wpAny_pure ⟨_, rfl, V.int n, H', I'.tok _, ⟨_, rfl⟩, ?_⟩))
  exact q
end

/-! ### C(e, ..) of an own exception class, raised where nothing is handled: its context is None -/
/-- the heap with the arguments' tuple and the bare exception of class C behind it -/
def born (hp : Heap) (C : Addr) (us : List Value) : Heap := (hp.push (PySem.W.kdv_tup us)).push (PySem.HandSPX.excO C hp.objs.size)
/-- where that exception stands -/
def bornAt (hp : Heap) : Addr := hp.objs.size + 1
theorem born_old {hp : Heap} {C : Addr} {us : List Value} {b : Addr} {o : Obj} (h : hp.get? b = some o) : (born hp C us).get? b = some o := by
  unfold born; exact Heap.get?_push_of_some _ (Heap.get?_push_of_some _ h)
theorem born_new {hp : Heap} {C : Addr} {us : List Value} : (born hp C us).get? (bornAt hp) = some (PySem.HandSPX.excO C hp.objs.size) := by
  unfold born bornAt; heap_get
section
variable {X : Cx} {pins : List (Addr × Obj)} {σ : L2.St} {H : Hp} {hp : Heap} {g : Array GenState} {dr : Drawn} {tk : Nat} {os : OsState} {C : Addr} {us : List Value}
theorem born_free (I : L2.Inv X pins σ H ⟨hp, g, dr, tk, os⟩) : H (bornAt hp) = none := I.hok.fresh (Nat.le_succ _)
theorem born_inv (I : L2.Inv X pins σ H ⟨hp, g, dr, tk, os⟩) : L2.Inv X pins σ (upd H (bornAt hp) (exo (bornAt hp) C none)) ⟨born hp C us, g, dr, tk, os⟩ := by
  refine I.laid (a := bornAt hp) (o := exo (bornAt hp) C none) (t' := tk) (h' := born hp C us) ?_ ?_ ?_
  · intro b o h; exact born_old h
  · exact Nat.le_succ _
  · exact exo_ok born_new
end
section
variable {X : Cx} {x : Str} {e : Expr} {es : List Expr} {ta : TA} {p pos : Pos} {C fI : Addr} {k : Nat} {fd : FuncData} {ps : List Str} {sp : Sp} {CX : CXT}
/-- calling the class with values us: the exception is made by its own __init__ -/
theorem oexN_call (T : OexC X.K C) (iC : PySem.W.findIn X.K (.ref C) "__init__" = some (some (.ref fI))) (tI : PySem.W.typeIn X.K (.ref fI) = some (.type "function")) (FI : FnOk X.prog X.w X.K X.mg X.base CX k fI fd ps sp) (room : Room (k + 1) X.A) (bI : L2.Binds X.K fd ps [])
    (px : L2.Passes CX X (fun _ _ _ => False)) {pins : List (Addr × Obj)} {σ : L2.St} {H : Hp} {s : Shared} {us : List Value} {vs : List V} {Q : XK} (I : L2.Inv X pins σ H s) (rv : L2.Vals vs us) (few : vs.length ≤ 1000)
    (want : ∀ a, H a = none → sp (.ref a :: vs) (upd H a (exo a C none))
      (fun v G => v = .non ∧ ∃ (d : Addr) (fs : List (Str × V)), G a = some (exo a C (some d)) ∧ G d = some (exd d fs) ∧ H d = none ∧ Q (.ref C) (some d) (upd (del G a) d (.xd fs))) (fun _ _ _ => False)) :
    wpAny (model X.prog X.w) X.A (call (.ref C) us) (L2N.MkP X pins σ Q) X.xe s := by
  cases s with
  | mk hp g dr tk os =>
  have here := want (bornAt hp) (born_free I)
  have J : L2.Inv X pins σ (upd H (bornAt hp) (exo (bornAt hp) C none)) ⟨born hp C us, g, dr, tk, os⟩ := born_inv I
  have rv1 : L2.Vals (V.ref (bornAt hp) :: vs) (Value.ref (bornAt hp) :: us) := .cons rfl rv
  have nargs : (Value.ref (bornAt hp) :: us).length = ps.length := rv1.length.symm.trans (FI.len _ _ _ _ here)
  have nus : us.length ≤ sizeLine := by have z := rv.length; have y := sizeLine_eq; omega
  have bnd := bI ⟨born hp C us, g, dr, tk, os⟩ (Value.ref (bornAt hp) :: us) J.kIn (by simpa using nargs)
  simp only [List.append_nil] at bnd
  obtain ⟨_, _, _, _, bm, _, _, _, _, _, _, _, _, _, _, atC, bases⟩ := T.cls
  have init := FI.run (X.A.under (.builtin "type.__call__" ⟨.ref C :: us, []⟩)) X.stack _ _ ⟨Value.ref (bornAt hp) :: us, []⟩ _ _ _ (fun _ _ _ => False) (room.make C us []) (J.env0.make C us []) bnd rv1 here
  refine wpAny_call (PySem.HandSPX.call_own F.excBase_ValueError (fun Y => PySem.HandSPX.refsVE_contains Y bm bases) (I.kIn _ _ atC) (PySem.W.looks_findIn I.kIn iC) (fun self => PySem.W.bind_fn I.kIn self tI) nus (codeAny_mono init ?_))
  intro res s2 got
  match res, got with
  | .error er, got => exact px pins σ _ _ er s2 J got
  | .ok (.ret u), got =>
    obtain ⟨v, G, osG, bareG, unG, hokG, ru, isN, d, fs, atE, atD, dNew, fin⟩ := got
    subst isN
    cases s2 with
    | mk h2 g2 d2 t2 o2 =>
    obtain ⟨_, B, K2, keepB, goneB, objE, noE⟩ := mk_end0 (d2 := d2) (t2 := t2) I (Nat.le_succ _) (fun b o h => born_old h) unG hokG osG bareG atE atD dNew
    refine ⟨ru, bornAt hp, _, _, ⟨B, g2, d2, t2, o2⟩, _, .ref C, some d, rfl, K2, keepB, goneB, objE, ⟨rfl, rfl, ?_⟩, rfl, rfl, noE, rfl, bareG, raises_own T.exC T.tyC, fin⟩
    intro fields is
    cases is; rfl
  | .ok .next, got => exact got.elim
  | .ok .brk, got => exact got.elim
  | .ok .cont, got => exact got.elim
theorem pmk_oexN (T : OexC X.K C) (iC : PySem.W.findIn X.K (.ref C) "__init__" = some (some (.ref fI))) (tI : PySem.W.typeIn X.K (.ref fI) = some (.type "function")) (FI : FnOk X.prog X.w X.K X.mg X.base CX k fI fd ps sp) (room : Room (k + 1) X.A) (bI : L2.Binds X.K fd ps [])
    (px : L2.Passes CX X (fun _ _ _ => False)) (hg : Gl X x) (hm : X.mg x = some (.ref C)) (ha : PA X (e :: es) ta) (hdb : (x == ("__debug__" : Str)) = false := by decide)
    (st : starEach (e :: es) X.env = (false, eval e X.env) :: starEach es X.env := by rfl) (pl : (backTo pos (starEach es X.env)).any (·.1) = false := by rfl) : L2N.PMk X (.Call (.Name x p) (e :: es) [] pos) (tMkO C sp [] ta) := by
  intro pins s σ H Q I h
  have step := ha.run pos pins s σ H _ I h
  refine wpAny_Call_Name_kw (ld_glob I hg hm (PySem.W.callWith_K (h₀ := X.base) I.ok.mod.kin T.kC (thn step fun us s1 got => ?_) st pl) hdb)
  obtain ⟨vs, H1, I1, rv, few, want⟩ := got
  simp only [List.append_nil] at want
  exact ⟨I1.kIn, oexN_call T iC tI FI room bI px I1 rv few want⟩
end
end Rt
set_option Elab.async false
set_option linter.all false
set_option maxRecDepth 100000
set_option maxHeartbeats 4000000
/-! Readings step by step: one lemma a construct, its conclusion the construct's reading. -/
namespace Rt
open PySem PySem.Spec L2
open PyProof.Rows (envOfC)
abbrev St0 := L2.St

/-! ### heaps that grow -/
theorem _root_.L2.Same.new {H : Hp} {p : Addr} {o : HO} (h : H p = none) : Same H (upd H p o) := fun a u e => by
  rw [upd_ne (ne_of_none e h)]; exact e
theorem _root_.L2.Same.newS {H H' : Hp} {p : Addr} {o : HO} (s : Same H H') (h : H' p = none) : Same H (upd H' p o) := s.trans (Same.new h)
theorem _root_.L2.Same.mut {H H' : Hp} {p : Addr} {o : HO} (s : Same H H') (h : H p = none) : Same H (upd H' p o) := fun a u e => by
  rw [upd_ne (ne_of_none e h)]; exact s a u e
theorem _root_.L2.Same.tup {K : PySem.W.Frag} {H H' : Hp} {a : Addr} {xs : List V} (e : Same H H') (h : SqT K H a xs) : SqT K H' a xs := by
  rcases h with (h | ⟨o, h⟩) | h
  · exact .inl (.inl (e _ _ h))
  · exact .inl (.inr ⟨o, e _ _ h⟩)
  · exact .inr h

section
variable {σ : L2.St} {H : Hp} {D : Ends} {Q : VK} {QT : Bool → Hp → Prop} {QA : List V → Hp → Prop} {QS : L2.St → Hp → Prop} {ta tb tc te : TE} {t u : TS} {tt uu : TT} {QO : Option Int → Hp → Prop} {v x y : V} {r r' : R2} {i : Nat} {K : PySem.W.Frag} {aa : TA}
theorem g_seq (h : t { D with nx := u D } σ H) : tSeq t u D σ H := h
theorem g_next (h : D.nx σ H) : tNext D σ H := h
theorem g_asg {g : TG} (h : te σ H fun x H1 => g x σ H1 D.nx) : tAsg te g D σ H := h
theorem g_name (h : QS (σ.set i (some v)) H) : gName i v σ H QS := h
theorem g_drop (h : te σ H fun _ H1 => D.nx σ H1) : tDrop te D σ H := h
theorem g_ret (h : te σ H D.rt) : tRet te D σ H := h
theorem g_retN (h : D.rt .non H) : tRetN D σ H := h
theorem g_brk (h : D.bk σ H) : tBreak D σ H := h
theorem g_ct (h : D.ct σ H) : tCont D σ H := h
theorem g_if (h : tt σ H fun b H1 => if b = true then t D σ H1 else u D σ H1) : tIfS tt t u D σ H := h
theorem g_var (e : σ[i]? = some (some v)) (h : Q v H) : tVar i σ H Q := ⟨v, e, h⟩
theorem g_c (h : Q v H) : tC v σ H Q := h
theorem g_op (h : ta σ H fun x H1 => tb σ H1 fun y H2 => r x y H2 Q) : tOp r ta tb σ H Q := h
theorem g_un {f : V → Hp → VK → Prop} (h : ta σ H fun x H1 => f x H1 Q) : tUn f ta σ H Q := h
theorem g_I0 {g : Int → Int → V} {a b : Int} (h : Q (g a b) H) : rI0 g (.int a) (.int b) H Q := ⟨a, b, rfl, rfl, h⟩
theorem g_I {C : Int → Int → Prop} {g : Int → Int → V} {a b : Int} (c : C a b) (h : Q (g a b) H) : rI C g (.int a) (.int b) H Q := ⟨a, b, rfl, rfl, c, h⟩
theorem g_U {g : Int → V} {a : Int} (h : Q (g a) H) : rU g (.int a) H Q := ⟨a, rfl, h⟩
theorem dec_I {a b : Int} : decide (V.int a = V.int b) = decide (a = b) := by
  by_cases h : a = b
  · subst h; rw [decide_eq_true rfl, decide_eq_true rfl]
  · rw [decide_eq_false h, decide_eq_false (fun z => h (by injection z))]
theorem dec_B {a b : Bool} : decide (V.bl a = V.bl b) = decide (a = b) := by
  by_cases h : a = b
  · subst h; rw [decide_eq_true rfl, decide_eq_true rfl]
  · rw [decide_eq_false h, decide_eq_false (fun z => h (by injection z))]
theorem g_eqI {a b : Int} (h : Q (.bl (decide (a = b))) H) : rEq (.int a) (.int b) H Q := ⟨rfl, by rw [dec_I]; exact h⟩
theorem g_neI {a b : Int} (h : Q (.bl (!decide (a = b))) H) : rNe (.int a) (.int b) H Q := ⟨rfl, by rw [dec_I]; exact h⟩
theorem g_eqB {a b : Bool} (h : Q (.bl (decide (a = b))) H) : rEq (.bl a) (.bl b) H Q := ⟨rfl, by rw [dec_B]; exact h⟩
theorem g_neB {a b : Bool} (h : Q (.bl (!decide (a = b))) H) : rNe (.bl a) (.bl b) H Q := ⟨rfl, by rw [dec_B]; exact h⟩
theorem g_test (h : te σ H fun x H' => ∃ k, x = .bl k ∧ QT k H') : tTest te σ H QT := h
theorem g_tB (h : te σ H fun x H' => ∃ k, x = .bl k ∧ QT k H') : tB te σ H QT := h
theorem g_bl {b : Bool} {R : Bool → Prop} (h : R b) : ∃ k, V.bl b = .bl k ∧ R k := ⟨b, rfl, h⟩
theorem g_and (h : tt σ H fun c H1 => if c = true then uu σ H1 QT else QT false H1) : tAnd tt uu σ H QT := h
theorem g_or (h : tt σ H fun c H1 => if c = true then QT true H1 else uu σ H1 QT) : tOr tt uu σ H QT := h
theorem g_not (h : tt σ H fun c H1 => QT (!c) H1) : tNot tt σ H QT := h
theorem g_andV (h : ta σ H fun x H1 => ∃ c, x = .bl c ∧ if c = true then tb σ H1 Q else Q (.bl false) H1) : tAndV ta tb σ H Q := h
theorem g_orV (h : ta σ H fun x H1 => ∃ c, x = .bl c ∧ if c = true then Q (.bl true) H1 else tb σ H1 Q) : tOrV ta tb σ H Q := h
theorem g_notV (h : ta σ H fun x H1 => ∃ c, x = .bl c ∧ Q (.bl (!c)) H1) : tNotV ta σ H Q := h
theorem g_ifE (h : tt σ H fun c H1 => if c = true then ta σ H1 Q else tb σ H1 Q) : tIf tt ta tb σ H Q := h
theorem g_nil (h : QA [] H) : tNil σ H QA := h
theorem g_cons (h : te σ H fun x H1 => aa σ H1 fun xs H2 => QA (x :: xs) H2) : tCons te aa σ H QA := h
def NewL (xs : List V) (H : Hp) (Q : VK) : Prop := xs.length ≤ sizeLine ∧ ∀ p, H p = none → Q (.ref p) (upd H p (.lst xs))
def NewT (xs : List V) (H : Hp) (Q : VK) : Prop := xs.length ≤ sizeLine ∧ ∀ p, H p = none → Q (.ref p) (upd H p (.tup xs))
theorem g_lst (h : aa σ H fun xs H1 => NewL xs H1 Q) : tLst aa σ H Q := h
theorem g_tup (h : aa σ H fun xs H1 => NewT xs H1 Q) : tTup aa σ H Q := h
theorem newL {xs : List V} (h : ∀ p H', H p = none → Same H H' → H' p = some (.lst xs) → Q (.ref p) H') (sz : xs.length ≤ sizeLine := by first | decide | (simp only [List.length_cons, List.length_nil]; decide)) : NewL xs H Q := ⟨sz, fun p np => h p _ np (Same.new np) upd_same⟩
theorem newT {xs : List V} (h : ∀ p H', H p = none → Same H H' → H' p = some (.tup xs) → Q (.ref p) H') (sz : xs.length ≤ sizeLine := by first | decide | (simp only [List.length_cons, List.length_nil]; decide)) : NewT xs H Q := ⟨sz, fun p np => h p _ np (Same.new np) upd_same⟩
theorem g_part (h : te σ H fun x H1 => ∃ i, x = .int i ∧ QO (some i) H1) : tPart te σ H QO := h
theorem g_nopart (h : QO none H) : tNoPart σ H QO := h
theorem g_cb {f : List V → Hp → VK → Prop} (h : aa σ H fun vs H1 => f vs H1 Q) : tCB f aa σ H Q := h
theorem g_call {sp : Sp} {E : XK} (h : aa σ H fun vs H1 => sp vs H1 Q E) : tCall sp [] E aa σ H Q := by
  have e : (fun vs H1 => sp (vs ++ []) H1 Q E) = fun vs H1 => sp vs H1 Q E := by funext vs H1; rw [List.append_nil]
  show aa σ H fun vs H1 => sp (vs ++ []) H1 Q E
  rw [e]; exact h
theorem g_callS {sp : Sp} {E : L2.St → XK} (h : aa σ H fun vs H1 => sp vs H1 Q (E σ)) : tCallS sp E aa σ H Q := h
theorem g_fld {f : Str} (h : ta σ H fun x H1 => ∃ a C dx fs v, x = .ref a ∧ H1 a = some (.ins C dx fs) ∧ Cls K C ∧ NoAttr K C f ∧ fs.lookup f = some v ∧ Q v H1) : tFld K ta f σ H Q := h
theorem g_bm {T : String} {f : V → List V → Hp → VK → Prop} (h : ta σ H fun x H1 => tyV K T x H1 ∧ aa σ H1 fun xs H2 => f x xs H2 Q) : tBM K T f ta aa σ H Q := h
theorem g_isN (h : Q (.bl (decide (x = .non))) H) : (fun x y H Q => y = .non ∧ Q (.bl (decide (x = .non))) H : R2) x .non H Q := ⟨rfl, h⟩
theorem g_rng1 {a b : Nat} {R : It → Hp → Prop} {n : Int} (h1 : -(2 ^ 62) ≤ n) (h2 : n < 2 ^ 62) (h : R (Itr 0 n.toNat) H) : ∃ j : Int, [V.int n] = [V.int j] ∧ -(2 ^ 62) ≤ j ∧ j < 2 ^ 62 ∧ R (Itr 0 j.toNat) H := ⟨n, rfl, h1, h2, h⟩
theorem g_chain {r r' : R2} (h : ta σ H fun x H1 => tb σ H1 fun y H2 => r x y H2 fun z H3 => ∃ k, z = .bl k ∧ (if k = true then tc σ H3 fun w' H4 => r' y w' H4 Q else Q (.bl false) H3)) : tChain r r' ta tb tc σ H Q := h
theorem g_int {n : Int} {R : Int → Prop} {S : Bool → Prop} (h : R n) : (∃ i, [V.int n] = [V.int i] ∧ R i) ∨ ∃ k, [V.int n] = [V.bl k] ∧ S k := .inl ⟨n, rfl, h⟩
theorem g_itt {c : Bool} {A B : Prop} (e : c = true) (h : A) : if c = true then A else B := by rw [if_pos e]; exact h
theorem g_iff {c : Bool} {A B : Prop} (e : c = false) (h : B) : if c = true then A else B := by rw [e]; exact h
theorem g_ite {c : Bool} {A B : Prop} (h1 : c = true → A) (h2 : c = false → B) : if c = true then A else B := by
  cases e : c with
  | true => exact h1 e
  | false => exact h2 e
theorem g_isi {t n : String} {b : Bool} (ty : TyX K H x (.type t)) (kb : kitB t n = some b) (h : Q (.bl b) H) : rIsi K [x, .ty n] H Q := ⟨x, .ty n, _, _, b, rfl, .ty n, ty, kit_ty kb, h⟩
theorem g_len {ys : List V} {a : Addr} {R : Int → Prop} {G : Addr → List V → Prop} (hs : G a ys) (h : R (ys.length : Int)) : ∃ p zs, [V.ref a] = [V.ref p] ∧ G p zs ∧ R (zs.length : Int) := ⟨a, ys, rfl, hs, h⟩
theorem g_aug {ti : TIp} {z : V} (e : σ[i]? = some (some z)) (h : te σ H fun y H1 => ti z y H1 fun z H2 => D.nx (σ.set i (some z)) H2) : tAug i te ti D σ H := ⟨z, e, h⟩
theorem g_ipI {f : Int → Int → Int} {a b : Int} (h : Q (.int (f a b)) H) : ipI f (.int a) (.int b) H Q := ⟨a, b, rfl, rfl, h⟩
theorem g_sl {f : V → Option Int → Option Int → Hp → VK → Prop} {tl th : TO} (h : te σ H fun x H1 => tl σ H1 fun l H2 => th σ H2 fun u H3 => f x l u H3 Q) : tSl f te tl th σ H Q := h
end
theorem g_for {σ : L2.St} {H : Hp} {D : Ends} {wi : TI} {g : TG} {tb : TS} (h : wi σ H fun J H1 => ∃ W : Nat → Nat → L2.St → Hp → Prop, (∃ m, W 0 m σ H1) ∧ ∀ i m σ H, W i m σ H →
    (J.stop i H ∧ D.nx σ H) ∨ (J.go i H ∧ ∃ N : L2.St → Hp → Prop, (∀ σ' H', N σ' H' → ∃ m', m' < m ∧ W (i + 1) m' σ' H') ∧ ∀ x H', J.yld i H x H' → g x σ H' fun σ2 H2 => tb { D with nx := N, ct := N, bk := D.nx } σ2 H2)) : tFor wi g tb D σ H := h
theorem g_rg1 {σ : L2.St} {H : Hp} {aa : TA} {R : It → Hp → Prop} (h : aa σ H fun vs H1 => ∃ j : Int, vs = [.int j] ∧ -(2 ^ 62) ≤ j ∧ j < 2 ^ 62 ∧ R (Itr 0 j.toNat) H1) : iRng1 aa σ H R := h
theorem g_rg2 {σ : L2.St} {H : Hp} {aa : TA} {R : It → Hp → Prop} (h : aa σ H fun vs H1 => ∃ i j : Int, vs = [.int i, .int j] ∧ (-(2 ^ 62) ≤ i ∧ i < 2 ^ 62 ∧ -(2 ^ 62) ≤ j ∧ j < 2 ^ 62) ∧ R (Itr i (j - i).toNat) H1) : iRng2 aa σ H R := h
theorem g_il {σ : L2.St} {H : Hp} {K : PySem.W.Frag} {tl : TE} {R : It → Hp → Prop} (h : tl σ H fun x H1 => ∃ a, x = .ref a ∧ (∃ xs, SqL K H1 a xs) ∧ R (Itl K a) H1) : iList K tl σ H R := h
theorem g_it {σ : L2.St} {H : Hp} {K : PySem.W.Frag} {tl : TE} {R : It → Hp → Prop} (h : tl σ H fun x H1 => ∃ a, x = .ref a ∧ (∃ xs, SqT K H1 a xs) ∧ R (Itt K a) H1) : iTup K tl σ H R := h
theorem g_lc {σ : L2.St} {H : Hp} {wi : TI} {g : TG} {tt : TT} {te : TE} {vs : List Nat} {Q : VK} (h : wi σ H fun J H1 => ∀ D, H1 D = none → ∃ W : Nat → Nat → Hp → Prop, (∃ m, W 0 m (upd H1 D (.lst []))) ∧ ∀ i m H, W i m H →
    (J.stop i H ∧ Q (.ref D) H) ∨ (J.go i H ∧ ∃ Nx : Hp → Prop, (∀ H', Nx H' → ∃ m', m' < m ∧ W (i + 1) m' H') ∧ ∀ x H', J.yld i H x H' → g x (wipe σ vs) H' fun σ2 H2 => wipe σ2 vs = wipe σ vs ∧ tt σ2 H2 fun b H3 =>
      if b = true then te σ2 H3 fun y H4 => ∃ acc, H4 D = some (.lst acc) ∧ acc.length < sizeLine ∧ Nx (upd H4 D (.lst (acc ++ [y]))) else Nx H3)) : tLc wi g tt te vs σ H Q := h
theorem g_yes {σ : L2.St} {H : Hp} {QT : Bool → Hp → Prop} (h : QT true H) : tYes σ H QT := h
theorem g_ixL {K : PySem.W.Frag} {H : Hp} {p : Addr} {xs : List V} {i : Int} {v : V} {Q : VK} (hs : SqL K H p xs) (ha : atI xs i = some v) (h : Q v H) : rIxL K (.ref p) (.int i) H Q := ⟨p, xs, i, v, rfl, rfl, hs, ha, h⟩
theorem g_ixT {K : PySem.W.Frag} {H : Hp} {p : Addr} {xs : List V} {i : Int} {v : V} {Q : VK} (hs : SqT K H p xs) (ha : atI xs i = some v) (h : Q v H) : rIxT K (.ref p) (.int i) H Q := ⟨p, xs, i, v, rfl, rfl, hs, ha, h⟩
theorem g_app {H : Hp} {l : Addr} {xs : List V} {y : V} {Q : VK} (h : H l = some (.lst xs)) (sz : xs.length < sizeLine) (q : Q .non (upd H l (.lst (xs ++ [y])))) : rAppend (.ref l) [y] H Q := ⟨l, xs, y, rfl, rfl, h, sz, q⟩
theorem ty_l {K : PySem.W.Frag} {H : Hp} {l : Addr} {xs : List V} (h : H l = some (.lst xs)) : tyV K "list" (.ref l) H := .inl ⟨rfl, _, SqL.of h⟩
theorem map_app {ds : List Int} {d : Int} : ds.map V.int ++ [V.int d] = (ds ++ [d]).map V.int := by rw [List.map_append]; rfl
theorem g_nn {R : Prop} (h : R) : V.non = V.non ∧ R := ⟨rfl, h⟩
theorem g_ifset {D : Ends} {σ : L2.St} {H : Hp} {te : TE} {i : Nat} {b : Bool} (x old : V) (ho : σ[i]? = some (some old)) (ht : ∀ Q : VK, Q x H → te σ H Q) (h : D.nx (σ.set i (some (if b = true then x else old))) H) : if b = true then tAsg te (gName i) D σ H else tNext D σ H := by
  cases b with
  | true => rw [if_pos rfl]; exact ht _ h
  | false =>
    rw [if_neg Bool.false_ne_true]
    rw [if_neg Bool.false_ne_true] at h
    have e : σ.set i (some old) = σ := by
      obtain ⟨hi, e⟩ := List.getElem?_eq_some_iff.mp ho
      rw [← e]; exact List.set_getElem_self hi
    rw [e] at h; exact h
theorem ite_int {b : Bool} {m n : Int} : (if b = true then V.int m else V.int n) = V.int (if b = true then m else n) := by cases b <;> rfl
theorem g_oi {n : Int} {R : Int → Prop} (h : R n) : ∃ i, V.int n = .int i ∧ R i := ⟨n, rfl, h⟩
theorem g_cat {H : Hp} {Q : VK} {l b : Addr} {xs zs : List Int} (h1 : H l = some (.lst (xs.map V.int))) (h2 : H b = some (.lst (zs.map V.int))) (sz : xs.length + zs.length ≤ 100000)
    (h : ∀ p H', H p = none → Same H H' → H' p = some (.lst ((xs ++ zs).map V.int)) → Q (.ref p) H') : rCat (.ref l) (.ref b) H Q :=
  ⟨l, b, _, _, rfl, rfl, h1, h2, by rw [List.length_map, List.length_map]; rw [sizeLine_eq]; omega, fun p np => h p _ np (L2.Same.new np) (by rw [upd_same, List.map_append])⟩
/-! ### items -/
theorem at_int {ss : List Int} {o : Nat} (h : o < ss.length) : atI (ss.map V.int) (o : Int) = some (.int (ss.getD o 0)) := by
  refine atI_nat ?_
  rw [List.getElem?_map, List.getElem?_eq_getElem h, List.getD_eq_getElem?_getD, List.getElem?_eq_getElem h]; rfl

theorem getD_app {l : List Int} {v : Int} {i : Nat} : (l ++ [v]).getD i 0 = if i < l.length then l.getD i 0 else if i = l.length then v else 0 := by
  rw [List.getD_eq_getElem?_getD]
  by_cases h : i < l.length
  · rw [List.getElem?_append_left h, if_pos h, List.getD_eq_getElem?_getD]
  · rw [if_neg h, List.getElem?_append_right (by omega)]
    by_cases h2 : i = l.length
    · subst h2; simp
    · rw [if_neg h2, List.getElem?_eq_none (by simp; omega)]; rfl
theorem sl1000 {n : Nat} (h : n ≤ 100000) : n ≤ sizeLine := by rw [sizeLine_eq]; omega
theorem slt1000 {n : Nat} (h : n ≤ 100000) : n < sizeLine := by rw [sizeLine_eq]; omega
/-! ### exceptions whose context is None, short -/
theorem takes_ofN {X : Cx} {E : XK} (hs : X.stack = X.env :: X.outer) (hf : X.env.frame = some X.env.locals) (hex : X.ex = []) {E₁ : Value → Shared → Prop}
    (hx : X.xe = fun e s' => wpAny (model X.prog X.w) X.A (leaving X.env e) (fun _ s'' => L2N.CX X.prog X.w X.outer X.H_0 X.s_0 E e s'') E₁ s') : L2N.Takes X (fun cls d _ H => E cls d H) := L2N.takes_of hs hf hex hx
theorem passes_callN {X : Cx} {E : XK} (tk : L2N.Takes X (fun cls d _ H => E cls d H)) : L2.Passes (L2N.CX X.prog X.w) X E := L2N.passes_call tk (fun _ _ _ _ h => h)
theorem passN {X : Cx} : L2.Passes (L2N.CX X.prog X.w) X E0 := fun _ _ _ _ _ _ _ h => by
  obtain ⟨_, _, _, _, _, _, _, _, _, _, _, _, z⟩ := h
  exact z.elim
theorem takes0N {X : Cx} : L2N.Takes X (fun _ _ _ _ => False) := fun _ _ x => by
  obtain ⟨_, _, _, _, _, _, _, _, _, _, _, _, _, _, _, _, z⟩ := x
  exact z.elim
theorem pass0S {X : Cx} {σ : L2.St} {E : XK} : PassesAt CX0 X σ E := fun _ _ _ _ _ _ h => h.elim
theorem passes_ofN {X : Cx} {K : Value → Shared → Prop} {E₁ : Value → Shared → Prop} (hx : X.xe = fun e s' => wpAny (model X.prog X.w) X.A (leaving X.env e) (fun _ s'' => K e s'') E₁ s') : PassesOwn (model X.prog X.w) X.A X.env X.xe := passes_of hx
/-- as Fun.ok, for a def that may raise; the context of what is raised is None -/
theorem okN {P : Program} {w : World} {K : PySem.W.Frag} {mg : Str → Option Value} {base : Heap} {x qual : Str} {st : Stmt} {f : Addr} {fd : FuncData} {N ps : List Str} {k : Nat} {sp : Sp} (F : Fun K x qual st f fd) (S : FnScope N ps (defScope st)) (len : ∀ vs H Q E, sp vs H Q E → vs.length = ps.length)
    (hbody : ∀ (cdv : Value) (A : Around) (outer : List Env) (s : Shared) (H : Hp) (vs : List V) (Q : VK) (E : XK), Room k (A.deeper (envOfC qual (defScope st) s.heap.objs.size f cdv)) → sp vs H Q E →
      ∃ t, PSs (cxOf (L2N.CX P w) P w K mg base N qual (defScope st) f cdv A outer s H E) (defBody st) t ∧ t { nx := fun _ H' => Q .non H', rt := Q } (L2.start N vs) H) : FnOk P w K mg base (L2N.CX P w) (k + 1) f fd ps sp := by
  obtain ⟨oc, od, kV, doc, pm, an, cdv, ct, osl, rfl, lk, hcd⟩ := F.ex
  exact fn_of lk hcd S len fun A outer s H vs Q E hr hsp => hbody cdv A outer s H vs Q E hr hsp
/-- .. called within an except suite; nothing leaves it -/
theorem okH {P : Program} {w : World} {K : PySem.W.Frag} {mg : Str → Option Value} {base : Heap} {x qual : Str} {st : Stmt} {f : Addr} {fd : FuncData} {N ps : List Str} {k : Nat} {sp : Sp} (F : Fun K x qual st f fd) (S : FnScope N ps (defScope st)) (len : ∀ vs H Q E, sp vs H Q E → vs.length = ps.length)
    (hbody : ∀ (cdv : Value) (A : Around) (outer : List Env) (s : Shared) (H : Hp) (vs : List V) (Q : VK) (E : XK) (p : Addr × Obj), L2H.Hot1 A p → L2H.RoomH k (A.deeper (envOfC qual (defScope st) s.heap.objs.size f cdv)) → sp vs H Q E →
      ∃ t, PSs (L2H.cxH CX0 P w K mg base N qual (defScope st) f cdv A outer s H E p) (defBody st) t ∧ t { nx := fun _ H' => Q .non H', rt := Q } (L2.start N vs) H) : L2H.FnH P w K mg base CX0 (k + 1) f fd ps sp := by
  obtain ⟨oc, od, kV, doc, pm, an, cdv, ct, osl, rfl, lk, hcd⟩ := F.ex
  exact L2H.fn_ofH lk hcd S len fun A outer s H vs Q E p hot hr hsp => hbody cdv A outer s H vs Q E p hot hr hsp
structure DefOkH (P : Program) (w : World) (K : PySem.W.Frag) (mg : Str → Option Value) (base : Heap) (CX : CXT) (k : Nat) (x : Str) (ps : List Str) (sp : Sp) : Prop where
  ex : ∃ (f : Addr) (fd : FuncData), mg x = some (.ref f) ∧ PySem.W.keepIn K (.ref f) = true ∧ L2H.FnH P w K mg base CX k f fd ps sp ∧ L2.Binds K fd ps []
theorem pe_callHD {X : Cx} {CX : CXT} {k : Nat} {x : Str} {ps : List Str} {sp : Sp} {E : L2.St → XK} {p pos : Pos} {e : Expr} {es : List Expr} {t : TA} (D : DefOkH X.prog X.w X.K X.mg X.base CX k x ps sp) (hr : L2H.RoomH k X.A) (hc : L2H.HotC X) (hx : ∀ σ : L2.St, PassesAt CX X σ (E σ)) (ha : PA X (e :: es) t) (hg : Gl X x := by rfl) (hdb : (x == ("__debug__" : Str)) = false := by decide)
    (he : starEach (e :: es) X.env = (false, eval e X.env) :: starEach es X.env := by rfl) (hpl : (backTo pos (starEach es X.env)).any (·.1) = false := by rfl) : PE X (.Call (.Name x p) (e :: es) [] pos) (tCallS sp E t) := by
  obtain ⟨f, fd, a, b, c, d⟩ := D.ex
  exact L2H.pe_callH c hr hc hg a b d hx ha hdb he hpl
theorem hotC_of {X : Cx} {a : Addr} {oe : Obj} {cls : Value} {d : Option Addr} {pn : List (Addr × Obj)} (hz : L2N.Zn cls d oe) (hf : ∃ vs, oe.data = .fields vs) : L2H.HotC (X.suite a ((a, oe) :: pn)) := by
  obtain ⟨vs, e⟩ := hf
  exact ⟨(a, oe), ⟨rfl, vs, e, hz.2.2 vs e⟩, List.mem_cons_self⟩

/-! ### own exceptions with one field; len, making of an instance: by what is known of the def -/
def spExc1 (K : PySem.W.Frag) (C : Addr) (fld : Str) : Sp := fun vs H Q _ => ∃ (a : Addr) (v : V), vs = [.ref a, v] ∧ H a = some (exo a C none) ∧ OexC K C ∧ PySem.W.findIn K (.ref C) fld = some none ∧
  ∀ dx : Addr, H dx = none → dx ≠ a → Q .non (upd (upd H dx (exd dx [(fld, v)])) a (exo a C (some dx)))
structure ExcDef (P : Program) (w : World) (K : PySem.W.Frag) (mg : Str → Option Value) (base : Heap) (x : Str) (C : Addr) (fld : Str) : Prop where
  ex : ∃ (fI : Addr) (fd : FuncData), OexC K C ∧ PySem.W.findIn K (.ref C) "__init__" = some (some (.ref fI)) ∧ PySem.W.typeIn K (.ref fI) = some (.type "function") ∧ FnOk P w K mg base CX0 1 fI fd ["self", fld] (spExc1 K C fld) ∧ L2.Binds K fd ["self", fld] [] ∧ mg x = some (.ref C) ∧ PySem.W.findIn K (.ref C) fld = some none
theorem pmk_D {X : Cx} {x : Str} {e : Expr} {es : List Expr} {ta : TA} {p pos : Pos} {C : Addr} {fld : Str} (D : ExcDef X.prog X.w X.K X.mg X.base x C fld) (hr : Room 2 X.A) (ha : PA X (e :: es) ta) (hg : Gl X x := by rfl)
    (hdb : (x == ("__debug__" : Str)) = false := by decide) (he : starEach (e :: es) X.env = (false, eval e X.env) :: starEach es X.env := by rfl) (hpl : (backTo pos (starEach es X.env)).any (·.1) = false := by rfl) :
    L2N.PMk X (.Call (.Name x p) (e :: es) [] pos) (tMkO C (spExc1 X.K C fld) [] ta) := by
  obtain ⟨fI, fd, T, iC, tI, F, b, m, no⟩ := D.ex
  exact pmk_oexN T iC tI F hr b pass0 hg m ha hdb he hpl
def MkO (C : Addr) (sp : Sp) (vs : List V) (H1 : Hp) (Q : XK) : Prop := vs.length ≤ 1000 ∧ ∀ a, H1 a = none → sp (.ref a :: (vs ++ [])) (upd H1 a (exo a C none))
  (fun v H2 => v = .non ∧ ∃ (d : Addr) (fs : List (Str × V)), H2 a = some (exo a C (some d)) ∧ H2 d = some (exd d fs) ∧ H1 d = none ∧ Q (.ref C) (some d) (upd (del H2 a) d (.xd fs))) (fun _ _ _ => False)
theorem g_mko {C : Addr} {sp : Sp} {aa : TA} {σ : L2.St} {H : Hp} {Q : XK} (h : aa σ H fun vs H1 => MkO C sp vs H1 Q) : tMkO C sp [] aa σ H Q := h
theorem mk1 {K : PySem.W.Frag} {C : Addr} {fld : Str} {v : V} {H : Hp} {Q : XK} (T : OexC K C) (no : PySem.W.findIn K (.ref C) fld = some none)
    (h : ∀ d H', H d = none → Same H H' → H' d = some (.xd [(fld, v)]) → Q (.ref C) (some d) H') : MkO C (spExc1 K C fld) [v] H Q := by
  refine ⟨by simp, fun a na => ⟨a, v, rfl, upd_same, T, no, fun dx hdx ne => ⟨rfl, dx, [(fld, v)], upd_same, ?_, ?_, ?_⟩⟩⟩
  · rw [upd_ne ne, upd_same]
  · rw [upd_ne ne] at hdx; exact hdx
  · rw [upd_ne ne] at hdx
    refine h dx _ hdx (fun b o hb => ?_) upd_same
    have nb : b ≠ dx := ne_of_none hb hdx
    have na' : b ≠ a := ne_of_none hb na
    rw [upd_ne nb, del_ne na', upd_ne na', upd_ne nb, upd_ne na']
    exact hb
structure LenD (P : Program) (w : World) (K : PySem.W.Frag) (mg : Str → Option Value) (base : Heap) (C : Addr) (sp : Sp) : Prop where
  ex : ∃ (f : Addr) (fd : FuncData), LenC K C f ∧ FnOk P w K mg base CX0 1 f fd ["self"] sp ∧ L2.Binds K fd ["self"] []
theorem call_lenD {X : Cx} {C : Addr} {sp : Sp} (D : LenD X.prog X.w X.K X.mg X.base C sp) (hr : Room 2 X.A) : CallR X (.builtin "len") (rLenO C sp E0) := by
  obtain ⟨f, fd, a, b, c⟩ := D.ex
  exact call_lenO a b hr c pass0
structure CtorD (P : Program) (w : World) (K : PySem.W.Frag) (mg : Str → Option Value) (base : Heap) (CX : CXT) (k : Nat) (x : Str) (C : Addr) (n : Nat) (ks : List Str) (gV : List V → List V → List V) (sp : Sp) : Prop where
  ex : ∃ (f : Addr) (fd : FuncData) (ps : List Str) (g : List Value → List Value → List Value), mg x = some (.ref C) ∧ Mk K C f ∧ FnOk P w K mg base CX k f fd ps sp ∧ KBn K fd ps (n + 1) ks g gV
theorem pe_makeD {X : Cx} {CX : CXT} {k n : Nat} {C : Addr} {ks : List Str} {sp : Sp} {E : XK} {x : Str} {p pos : Pos} {e : Expr} {es : List Expr} {kws : List Keyword} {t tk : TA} {gV : List V → List V → List V}
    (D : CtorD X.prog X.w X.K X.mg X.base CX k x C n ks gV sp) (hr : Room (k + 1) X.A) (hx : L2.Passes CX X E) (ha : PA X (e :: es) t) (hkw : PK X kws tk) (hg : Gl X x := by rfl)
    (hall : (backToKw pos (keywordEach kws X.env)).all (·.1.isSome) = true := by rfl) (hks : (backToKw pos (keywordEach kws X.env)).filterMap (·.1) = ks := by rfl) (hdb : (x == ("__debug__" : Str)) = false := by decide)
    (he : starEach (e :: es) X.env = (false, eval e X.env) :: starEach es X.env := by rfl) (hpl : ((backTo pos (starEach (e :: es) X.env)).any (·.1) || (backToKw pos (keywordEach kws X.env)).any (·.1.isNone)) = false := by rfl) :
    PE X (.Call (.Name x p) (e :: es) kws pos) (tMakeK C n ks.length sp gV E t tk) := by
  obtain ⟨f, fd, ps, g, m, M, F, b⟩ := D.ex
  exact pe_makeK M F hr hg m b hx ha hkw hall hks hdb he hpl
def NewRg (a b : Int) (H : Hp) (Q : VK) : Prop := RgOk a b ∧ ∀ q, H q = none → Q (.ref q) (upd H q (.lst (rgV a b)))
theorem g_lrg {te : L2.St → Hp → (Int → Int → Hp → Prop) → Prop} {σ : L2.St} {H : Hp} {Q : VK} (h : te σ H fun a b H1 => NewRg a b H1 Q) : tLstRg te σ H Q := h
theorem g_tr1 {ta : TE} {σ : L2.St} {H : Hp} {Q : Int → Int → Hp → Prop} (h : ta σ H fun x H1 => ∃ n, x = .int n ∧ Q 0 n H1) : tRg1 ta σ H Q := h
theorem g_tr2 {ta tb : TE} {σ : L2.St} {H : Hp} {Q : Int → Int → Hp → Prop} (h : ta σ H fun x H1 => tb σ H1 fun y H2 => ∃ i j, x = .int i ∧ y = .int j ∧ Q i j H2) : tRg2 ta tb σ H Q := h
theorem g_oi2 {n m : Int} {R : Int → Int → Prop} (h : R n m) : ∃ i j, V.int n = .int i ∧ V.int m = .int j ∧ R i j := ⟨n, m, rfl, rfl, h⟩
theorem newRg {a b : Nat} {H : Hp} {Q : VK} (h0 : a ≤ 100000) (h1 : b ≤ 100000) (h : ∀ p H', H p = none → Same H H' → H' p = some (.lst ((List.range (b - a)).map fun i => V.int ((a + i : Nat) : Int))) → Q (.ref p) H') : NewRg (a : Int) (b : Int) H Q := by
  refine ⟨RgOk.of_le (by omega) (by omega) (by omega) (by omega), fun q nq => h q _ nq (L2.Same.new nq) ?_⟩
  rw [upd_same]
  unfold rgV
  rw [show ((b : Int) - (a : Int)).toNat = b - a by omega]
  have e : (fun i : Nat => V.int ((a : Int) + (i : Int))) = fun i : Nat => V.int ((a + i : Nat) : Int) := by funext i; rw [Int.natCast_add]
  rw [e]
def MakeK (C : Addr) (sp : Sp) (n m : Nat) (gV : List V → List V → List V) (E : XK) (vs zs : List V) (H2 : Hp) (Q : VK) : Prop := vs.length = n ∧ zs.length = m ∧ ∀ x dx, H2 x = none → H2 dx = none → dx ≠ x →
  sp (gV (.ref x :: vs) zs) (upd (upd H2 dx (.own x)) x (.ins C dx [])) (fun v H3 => v = .non ∧ Q (.ref x) H3) E
theorem g_mk {C : Addr} {n m : Nat} {sp : Sp} {gV : List V → List V → List V} {E : XK} {t tk : TA} {σ : L2.St} {H : Hp} {Q : VK} (h : t σ H fun vs H1 => tk σ H1 fun zs H2 => MakeK C sp n m gV E vs zs H2 Q) : tMakeK C n m sp gV E t tk σ H Q := h
theorem pmk_u {t : L2.St → Hp → XK → Prop} {W : WX} {D : Ends} {σ : L2.St} {H : Hp} (h : t σ H fun cls d H' => W cls d σ H') : (fun (_ : Ends) σ H => t σ H fun cls d H' => W cls d σ H') D σ H := h
theorem g_sfld {K : PySem.W.Frag} {ta tv : TE} {f : Str} {D : Ends} {σ : L2.St} {H : Hp} (h : tv σ H fun y H1 => ta σ H1 fun x H2 => ∃ a C dx fs, x = .ref a ∧ H2 a = some (.ins C dx fs) ∧ Cls K C ∧ NoAttr K C f ∧ fs.length < 1000 ∧ D.nx σ (upd H2 a (.ins C dx (putF f y fs)))) : sFld K ta tv f D σ H := h
theorem g_ost {K : PySem.W.Frag} {f : Str} {to te : TE} {D : Ends} {σ : L2.St} {H : Hp} (h : te σ H fun y H1 => to σ H1 fun x H2 => ∃ a C : Addr, x = .ref a ∧ OexC K C ∧ PySem.W.findIn K (.ref C) f = some none ∧
  ((H2 a = some (exo a C none) ∧ ∀ dx, H2 dx = none → dx ≠ a → D.nx σ (upd (upd H2 dx (exd dx [(f, y)])) a (exo a C (some dx)))) ∨
    ∃ (dx : Addr) (fs : List (Str × V)), H2 a = some (exo a C (some dx)) ∧ H2 dx = some (exd dx fs) ∧ fs.length ≤ 900 ∧ D.nx σ (upd H2 dx (exd dx ((f, y) :: fs))))) : tOst K f to te D σ H := h

/-! ### the rules with the written part named (within a comprehension it must not hang on the block) -/
section
variable {X : Cx} (K : PySem.W.Frag)
theorem ix_tupK (h : X.K = K := by rfl) : IxR X (rIxT K) := by subst h; exact ix_tup
theorem ix_listK (h : X.K = K := by rfl) : IxR X (rIxL K) := by subst h; exact ix_list
theorem ix_seqK (h : X.K = K := by rfl) : IxR X (rIx K) := by subst h; exact ix_seq
theorem sl_listK (h : X.K = K := by rfl) : SlR X (rSlL K) := by subst h; exact sl_list
theorem sl_tupK (h : X.K = K := by rfl) : SlR X (rSlA K) := by subst h; exact sl_tupA
theorem cr_sumK (hc : X.calm = true) (h : X.K = K := by rfl) : CallR X (.builtin "sum") (rSum K) := by subst h; exact cr_sum hc
theorem call_isiQ (h : X.K = K := by rfl) : CallR X (.builtin "isinstance") (rIsi K) := by subst h; exact call_isi
def rLenQ (K : PySem.W.Frag) : List V → Hp → VK → Prop := fun xs H Q => ∃ p ys, xs = [.ref p] ∧ (SqL K H p ys ∨ SqT K H p ys) ∧ Q (.int ys.length) H
def rListO (K : PySem.W.Frag) : List V → Hp → VK → Prop := fun xs H Q => ∃ p ys, xs = [.ref p] ∧ (SqL K H p ys ∨ SqT K H p ys) ∧ ∀ l, H l = none → Q (.ref l) (upd H l (.lst ys))
def rTupO (K : PySem.W.Frag) : List V → Hp → VK → Prop := fun xs H Q => ∃ p ys, xs = [.ref p] ∧ ((SqL K H p ys ∧ ∀ l, H l = none → Q (.ref l) (upd H l (.tup ys))) ∨ (SqT K H p ys ∧ Q (.ref p) H))
theorem call_lenK (h : X.K = K := by rfl) : CallR X (.builtin "len") (rLenQ K) := by subst h; exact call_len_seq
theorem call_listK (h : X.K = K := by rfl) : CallR X (.type "list") (rListO K) := by subst h; exact call_list_of
theorem call_tupleK (h : X.K = K := by rfl) : CallR X (.type "tuple") (rTupO K) := by subst h; exact call_tuple_of
theorem op_repTK (h : X.K = K := by rfl) : OpR X (binaryOp .Mult) (rRepT K) := by subst h; exact op_repT
theorem op_catTK (h : X.K = K := by rfl) : OpR X (binaryOp .Add) (rCatT K) := by subst h; exact op_catT
theorem op_eqDK (hu : X.A.units + 64 < cLine) (h : X.K = K := by rfl) : OpR X (compareOp .Eq) (rEqD K) := by subst h; exact op_eqD hu
theorem op_neDK (hu : X.A.units + 64 < cLine) (h : X.K = K := by rfl) : OpR X (compareOp .NotEq) (rNeD K) := by subst h; exact op_neD hu
variable {e o l : Expr} {te ta tv tl : TE} {f : Str} {pos pos' apos cpos : Pos} {tg : Expr} {es : List Expr} {t : TA} {T id : String} {r : V → List V → Hp → VK → Prop} {name : Str} {value : Expr}
theorem pe_fldK (he : PE X e ta) (hb : attributeBase e f X.env (eval e X.env) = eval e X.env) (h : X.K = K := by rfl) : PE X (.Attribute e f pos) (tFld K ta f) := by subst h; exact pe_fld he hb
theorem pi_listK (hl : PE X l tl) (h : X.K = K := by rfl) : PI X tg l (iList K tl) := by subst h; exact pi_list hl
theorem pi_tupK (hl : PE X l tl) (h : X.K = K := by rfl) : PI X tg l (iTup K tl) := by subst h; exact pi_tup hl
theorem ps_fldK (ha : PE X o ta) (hv : PE X value tv) (hs : swapsWith value (some (.Attribute o f pos')) pos.line X.env = pure false) (h : X.K = K := by rfl) : PS X (.Assign [.Attribute o f pos'] value pos) (sFld K ta tv f) := by subst h; exact ps_fld ha hv hs
theorem ps_ostK (ho : PE X o ta) (he : PE X e te) (hs : swapsWith e (some (.Attribute o f pos')) pos.line X.env = pure false := by rfl) (h : X.K = K := by rfl) : PS X (.Assign [.Attribute o f pos'] e pos) (tOst K f ta te) := by subst h; exact ps_ost ho he hs
theorem pe_appK {e : Expr} (ho : PE X o ta) (ha : PA X (e :: es) t) (h : X.K = K := by rfl)
    (hbase : attributeBase o "append" X.env (eval o X.env) = eval o X.env := by rfl)
    (hfew : ((backTo cpos (starEach (e :: es) X.env)).all (fun x => !x.1) && (backToKw cpos (keywordEach [] X.env)).all (fun x => x.1.isSome)
      && decide ((e :: es).length + ([] : List Keyword).length + (if ([] : List Keyword).isEmpty then 0 else 1) < 30)) = true := by rfl)
    (hline : (apos.endLine == cpos.line) = true := by rfl) (hs : starEach (e :: es) X.env = (false, eval e X.env) :: starEach es X.env := by rfl) (hplain : (backTo cpos (starEach es X.env)).any (·.1) = false := by rfl) :
    PE X (.Call (.Attribute o "append" apos) (e :: es) [] cpos) (tBM K "list" rAppend ta t) := by
  subst h; exact pe_bm PySem.F.plainAttrs_list PySem.F.slot_list_append PySem.F.type_list_append mt_append ho ha hbase hfew hline hs hplain
end
theorem g_xf {a : Addr} {cls : Value} {d : Option Addr} {C : Addr} {f : Str} {te : TE} {σ : L2.St} {H : Hp} {Q : VK} (h : te σ H fun x H1 => x = .ref a ∧ cls = .ref C ∧ ∃ (dd : Addr) (fs : List (Str × V)) (v : V), d = some dd ∧ H1 dd = some (.xd fs) ∧ fs.lookup f = some v ∧ Q v H1) : tXf a cls d C f te σ H Q := h
theorem g_lo {K : PySem.W.Frag} {H : Hp} {p : Addr} {ys : List V} {Q : VK} (hs : SqL K H p ys ∨ SqT K H p ys) (h : ∀ l H', H l = none → Same H H' → H' l = some (.lst ys) → Q (.ref l) H') : rListO K [.ref p] H Q := ⟨p, ys, rfl, hs, fun l nl => h l _ nl (L2.Same.new nl) upd_same⟩
theorem g_tt {A B : Prop} (h : A) : if true = true then A else B := by rw [if_pos rfl]; exact h
theorem g_ff {A B : Prop} (h : B) : if false = true then A else B := by rw [if_neg Bool.false_ne_true]; exact h
theorem g_nt {A B : Prop} (h : B) : if (!true) = true then A else B := g_ff h
theorem g_nf {A B : Prop} (h : A) : if (!false) = true then A else B := g_tt h
theorem g_drn {a : Addr} {A B : Prop} (h : B) : if decide (V.ref a = V.non) = true then A else B := g_ff h
theorem g_din {a : Int} {A B : Prop} (h : B) : if decide (V.int a = V.non) = true then A else B := g_ff h
theorem g_dnn {A B : Prop} (h : A) : if decide (V.non = V.non) = true then A else B := g_tt h
theorem g_nrn {a : Addr} {A B : Prop} (h : A) : if (!decide (V.ref a = V.non)) = true then A else B := g_tt h
theorem g_nin {a : Int} {A B : Prop} (h : A) : if (!decide (V.int a = V.non)) = true then A else B := g_tt h
theorem g_nnn {A B : Prop} (h : B) : if (!decide (V.non = V.non)) = true then A else B := g_ff h
end Rt
set_option Elab.async false
set_option linter.all false
set_option maxRecDepth 100000
set_option maxHeartbeats 4000000
/-! The mathematics: runs, trains, reaches over plain lists. -/
namespace Rt
open PySem PySem.Spec L2
theorem tw_all {α : Type} {q : α → Bool} : ∀ {l : List α}, (∀ x ∈ l, q x = true) → l.takeWhile q = l
  | [], _ => rfl
  | a :: l, h => by
    rw [List.takeWhile_cons, if_pos (h a List.mem_cons_self), tw_all fun x hx => h x (List.mem_cons_of_mem _ hx)]
theorem tw_stop {α : Type} {q : α → Bool} : ∀ {l : List α} {i : Nat} {x : α}, (∀ y ∈ l.take i, q y = true) → l[i]? = some x → q x = false → l.takeWhile q = l.take i
  | [], i, x, _, h, _ => by simp at h
  | a :: l, 0, x, _, h, hq => by
    have e : a = x := Option.some.inj h
    subst e
    rw [List.takeWhile_cons, if_neg (by rw [hq]; exact Bool.false_ne_true)]; rfl
  | a :: l, i + 1, x, ha, h, hq => by
    rw [List.takeWhile_cons, if_pos (ha a (by rw [List.take_succ_cons]; exact List.mem_cons_self)), List.take_succ_cons,
      tw_stop (l := l) (i := i) (x := x) (fun y hy => ha y (by rw [List.take_succ_cons]; exact List.mem_cons_of_mem _ hy)) h hq]
theorem take_more {α : Type} : ∀ {l : List α} {i : Nat} {x : α}, l[i]? = some x → l.take (i + 1) = l.take i ++ [x]
  | [], i, x, h => by simp at h
  | a :: l, 0, x, h => by
    have e : a = x := Option.some.inj h
    subst e
    rfl
  | a :: l, i + 1, x, h => by
    have ih := take_more (l := l) (i := i) (x := x) h
    show a :: l.take (i + 1) = a :: l.take i ++ [x]
    rw [ih]; rfl
/-- the run after the place p, among n places -/
def run (r : Bool) (n p : Nat) : List Nat := (List.range (n - (p + 1))).map (fun i => p + 1 + i) ++ (if r = true then List.range p else [])
theorem run_at {r : Bool} {n p i : Nat} (hp : p < n) (hi : i + 1 < n) : (run r n p)[i]? = if p + 1 + i < n then some (p + 1 + i) else if r = true then some (p + 1 + i - n) else none := by
  unfold run
  by_cases h : p + 1 + i < n
  · rw [if_pos h, List.getElem?_append_left (by rw [List.length_map, List.length_range]; omega), List.getElem?_map, List.getElem?_range (by omega)]; rfl
  · rw [if_neg h, List.getElem?_append_right (by rw [List.length_map, List.length_range]; omega), List.length_map, List.length_range]
    cases r with
    | true =>
      rw [if_pos rfl, if_pos rfl, List.getElem?_range (by omega)]
      congr 1; omega
    | false => simp
theorem run_len {r : Bool} {n p : Nat} (hp : p < n) : (run r n p).length = if r = true then n - 1 else n - (p + 1) := by
  unfold run
  cases r with
  | true => rw [if_pos rfl, if_pos rfl, List.length_append, List.length_map, List.length_range, List.length_range]; omega
  | false => simp
theorem run_lt {r : Bool} {n p : Nat} (hp : p < n) : ∀ o ∈ run r n p, o < n := by
  intro o ho
  unfold run at ho
  rcases List.mem_append.mp ho with h | h
  · obtain ⟨i, hi, rfl⟩ := List.mem_map.mp h
    have := List.mem_range.mp hi; omega
  · cases r with
    | true => rw [if_pos rfl] at h; have := List.mem_range.mp h; omega
    | false => simp at h
abbrev nI (l : List Nat) : List V := l.map fun (k : Nat) => V.int (k : Int)
abbrev iI (l : List Nat) : List Int := l.map fun (k : Nat) => (k : Int)
theorem nI_eq (l : List Nat) : nI l = (iI l).map V.int := by unfold nI iI; rw [List.map_map]; rfl
def wk (ss : List Int) (p : Nat) : Nat → Bool := fun o => decide (ss.getD o 0 < ss.getD p 0)
/-- the train of the bead at p -/
def trn (r : Bool) (ss : List Int) (p : Nat) : List Nat := (run r ss.length p).takeWhile (wk ss p)
def stp (r : Bool) (ss : List Int) (p : Nat) : Option Nat := (run r ss.length p)[(trn r ss p).length]?
def oV : Option Nat → V
  | none => .non
  | some o => .int (o : Int)
def rch (r : Bool) (ss ls : List Int) (p : Nat) : Int := ls.getD p 0 + ((trn r ss p).map fun o => ls.getD o 0).sum
theorem trn_lt {r : Bool} {ss : List Int} {p : Nat} (hp : p < ss.length) : ∀ o ∈ trn r ss p, o < ss.length := fun o ho => run_lt hp o ((List.takeWhile_sublist _).subset ho)
theorem trn_len {r : Bool} {ss : List Int} {p : Nat} : (trn r ss p).length ≤ (run r ss.length p).length := (List.takeWhile_sublist _).length_le
theorem run_le {r : Bool} {n p : Nat} (hp : p < n) : (run r n p).length < n := by
  rw [run_len hp]; split <;> omega
theorem sum_app (l : List Int) (x : Int) : (l ++ [x]).sum = l.sum + x := by
  rw [List.sum_append, List.sum_cons, List.sum_nil]; omega
theorem sum_le {l : List Int} {b : Int} (h : ∀ x ∈ l, x ≤ b) : l.sum ≤ b * l.length := by
  induction l with
  | nil => simp
  | cons a l ih =>
    have h1 := h a List.mem_cons_self
    have h2 := ih fun x hx => h x (List.mem_cons_of_mem _ hx)
    rw [List.sum_cons, List.length_cons, Int.natCast_add, Int.mul_add]
    omega
theorem sum_ge {l : List Int} (h : ∀ x ∈ l, 0 ≤ x) : 0 ≤ l.sum := by
  induction l with
  | nil => simp
  | cons a l ih =>
    have h1 := h a List.mem_cons_self
    have h2 := ih fun x hx => h x (List.mem_cons_of_mem _ hx)
    rw [List.sum_cons]; omega
theorem getD_mem {l : List Int} {i : Nat} (h : i < l.length) : l.getD i 0 ∈ l := by
  rw [List.getD_eq_getElem?_getD, List.getElem?_eq_getElem h]
  exact List.getElem_mem h
theorem ext_getD {l m : List Int} (hl : l.length = m.length) (h : ∀ i, i < l.length → l.getD i 0 = m.getD i 0) : l = m := by
  refine List.ext_getElem hl fun i h1 h2 => ?_
  have := h i h1
  rw [List.getD_eq_getElem?_getD, List.getD_eq_getElem?_getD, List.getElem?_eq_getElem h1, List.getElem?_eq_getElem h2] at this
  exact this

/-! ### the walk of a law along a run -/
structure Wkd (r : Bool) (ss : List Int) (p i : Nat) : Prop where
  all : ∀ y ∈ (run r ss.length p).take i, wk ss p y = true
  le : i ≤ (run r ss.length p).length
theorem Wkd.zero {r : Bool} {ss : List Int} {p : Nat} : Wkd r ss p 0 := ⟨fun y h => by simp at h, Nat.zero_le _⟩
theorem Wkd.more {r : Bool} {ss : List Int} {p i o : Nat} (w : Wkd r ss p i) (ho : (run r ss.length p)[i]? = some o) (hw : wk ss p o = true) : Wkd r ss p (i + 1) := by
  refine ⟨fun y h => ?_, (List.getElem?_eq_some_iff.mp ho).1⟩
  rw [take_more ho] at h
  rcases List.mem_append.mp h with z | z
  · exact w.all y z
  · have e : y = o := by simpa using z
    subst e; exact hw
theorem Wkd.full {r : Bool} {ss : List Int} {p i : Nat} (w : Wkd r ss p i) (h : (run r ss.length p).length ≤ i) : trn r ss p = (run r ss.length p).take i ∧ stp r ss p = none := by
  have e : (run r ss.length p).take i = run r ss.length p := List.take_of_length_le h
  have t : trn r ss p = run r ss.length p := tw_all fun x hx => w.all x (by rw [e]; exact hx)
  refine ⟨t.trans e.symm, ?_⟩
  unfold stp
  rw [t, List.getElem?_eq_none (Nat.le_refl _)]
theorem Wkd.stop {r : Bool} {ss : List Int} {p i o : Nat} (w : Wkd r ss p i) (ho : (run r ss.length p)[i]? = some o) (hw : wk ss p o = false) : trn r ss p = (run r ss.length p).take i ∧ stp r ss p = some o := by
  have t : trn r ss p = (run r ss.length p).take i := tw_stop w.all ho hw
  refine ⟨t, ?_⟩
  unfold stp
  rw [t, List.length_take, Nat.min_eq_left w.le, ho]
theorem sum_more {r : Bool} {n p i o : Nat} {ls : List Int} (ho : (run r n p)[i]? = some o) : (((run r n p).take (i + 1)).map fun o => ls.getD o 0).sum = (((run r n p).take i).map fun o => ls.getD o 0).sum + ls.getD o 0 := by
  rw [take_more ho, List.map_append]
  exact sum_app _ _
theorem wk_eq {ss : List Int} {p o : Nat} : wk ss p o = decide (ss.getD o 0 < ss.getD p 0) := rfl
theorem wk_f {ss : List Int} {p o : Nat} (h : decide (ss.getD p 0 ≤ ss.getD o 0) = true) : wk ss p o = false := by
  have := of_decide_eq_true h; rw [wk_eq]; exact decide_eq_false (by omega)
theorem wk_t {ss : List Int} {p o : Nat} (h : decide (ss.getD p 0 ≤ ss.getD o 0) = false) : wk ss p o = true := by
  have := of_decide_eq_false h; rw [wk_eq]; exact decide_eq_true (by omega)
/-! ### lists of ints -/
theorem at_toNat {zs : List Int} {f : Int} (h0 : 0 ≤ f) (h1 : f < (zs.length : Int)) : atI (zs.map V.int) f = some (.int (zs.getD f.toNat 0)) := by
  have e : f = ((f.toNat : Nat) : Int) := by omega
  rw [e]
  have := at_int (ss := zs) (o := f.toNat) (by omega)
  rw [Int.toNat_natCast]
  exact this
theorem rep_flat {α : Type} (x : α) : ∀ k : Nat, (List.replicate k [x]).flatten = List.replicate k x
  | 0 => rfl
  | k + 1 => by rw [List.replicate_succ, List.flatten_cons, rep_flat x k, List.replicate_succ]; rfl
theorem cut1 (xs : List V) (h : 0 < xs.length) : cutV xs (some 1) none = xs.drop 1 := by
  unfold cutV
  have e1 : HT.sIx xs.length 0 (some 1) = 1 := by
    unfold HT.sIx; simp; omega
  have e2 : HT.sIx xs.length xs.length none = xs.length := by
    unfold HT.sIx; rfl
  rw [e1, e2]
  exact List.take_of_length_le (by rw [List.length_drop]; omega)
structure Dr (ns ds : List Int) : Prop where
  len : ds.length = ns.length
  at_ : ∀ i, i < ns.length → 0 ≤ ds.getD i 0 ∧ ds.getD i 0 < ns.getD i 0
theorem getD_drop1 (ds : List Int) (i : Nat) : (ds.drop 1).getD i 0 = ds.getD (i + 1) 0 := by
  rw [List.getD_eq_getElem?_getD, List.getD_eq_getElem?_getD, List.getElem?_drop, Nat.add_comm]
theorem Dr.tail {m : Int} {ms ds : List Int} (h : Dr (m :: ms) ds) : Dr ms (ds.drop 1) := by
  refine ⟨by rw [List.length_drop, h.len]; rfl, fun i hi => ?_⟩
  rw [getD_drop1]
  have := h.at_ (i + 1) (by rw [List.length_cons]; omega)
  exact this
theorem getD_map {l : List Int} {g : Int → Int} {i : Nat} (h : i < l.length) : (l.map g).getD i 0 = g (l.getD i 0) := by
  rw [List.getD_eq_getElem?_getD, List.getElem?_map, List.getElem?_eq_getElem h, List.getD_eq_getElem?_getD, List.getElem?_eq_getElem h]; rfl
theorem getD_rep {n : Nat} {x : Int} {i : Nat} (h : i < n) : (List.replicate n x).getD i 0 = x := by
  rw [List.getD_eq_getElem?_getD, List.getElem?_replicate, if_pos h]; rfl
theorem mem_getD {l : List Int} {x : Int} (h : x ∈ l) : ∃ i, i < l.length ∧ l.getD i 0 = x := by
  obtain ⟨i, hi, e⟩ := List.mem_iff_getElem.mp h
  exact ⟨i, hi, by rw [List.getD_eq_getElem?_getD, List.getElem?_eq_getElem hi]; exact e⟩

theorem g_rep1 {H : Hp} {Q : VK} {l : Addr} {x : Int} {k : Nat} (h1 : H l = some (.lst [V.int x])) (sz : k ≤ 100000)
    (h : ∀ p H', H p = none → Same H H' → H' p = some (.lst ((List.replicate k x).map V.int)) → Q (.ref p) H') : rRep (.ref l) (.int (k : Int)) H Q :=
  ⟨l, (k : Int), [V.int x], rfl, rfl, h1, by omega, by omega, by rw [Int.toNat_natCast, sizeLine_eq, List.length_singleton]; omega, fun p np => h p _ np (L2.Same.new np) (by rw [upd_same, Int.toNat_natCast, rep_flat, List.map_replicate])⟩
theorem g_sl1 {K : PySem.W.Frag} {H : Hp} {Q : VK} {l : Addr} {xs : List Int} (h1 : SqL K H l (xs.map V.int)) (h0 : 0 < xs.length)
    (h : ∀ p H', H p = none → Same H H' → H' p = some (.lst ((xs.drop 1).map V.int)) → Q (.ref p) H') : rSlL K (.ref l) (some 1) none H Q :=
  ⟨l, _, rfl, h1, fun p np => h p _ np (L2.Same.new np) (by rw [upd_same, cut1 _ (by rw [List.length_map]; exact h0), List.map_drop])⟩
/-! ### comprehensions over ints -/
theorem lc_ints {K : PySem.W.Frag} {a : Addr} {xs : List Int} {g : TG} {te : TE} {vs : List Nat} {σ : L2.St} {H1 : Hp} {D : Addr} {Qd : Hp → Prop} (f : Int → Int) (hs : SqL K H1 a (xs.map V.int)) (hD : H1 D = none) (sz : xs.length ≤ 100000)
    (turn : ∀ (i : Nat) (x : Int) (H' : Hp), xs[i]? = some x → Same H1 H' → ∀ Q : VK, (∀ H2, Same H' H2 → Q (.int (f x)) H2) → g (.int x) (wipe σ vs) H' fun σ2 H2 => wipe σ2 vs = wipe σ vs ∧ te σ2 H2 Q)
    (done : ∀ H', Same H1 H' → H' D = some (.lst ((xs.map f).map V.int)) → Qd H') :
    ∃ W : Nat → Nat → Hp → Prop, (∃ m, W 0 m (upd H1 D (.lst []))) ∧ ∀ i m H, W i m H →
      ((Itl K a).stop i H ∧ Qd H) ∨ ((Itl K a).go i H ∧ ∃ Nx : Hp → Prop, (∀ H', Nx H' → ∃ m', m' < m ∧ W (i + 1) m' H') ∧ ∀ x H', (Itl K a).yld i H x H' → g x (wipe σ vs) H' fun σ2 H2 => wipe σ2 vs = wipe σ vs ∧ tYes σ2 H2 fun b H3 =>
        if b = true then te σ2 H3 fun y H4 => ∃ acc, H4 D = some (.lst acc) ∧ acc.length < sizeLine ∧ Nx (upd H4 D (.lst (acc ++ [y]))) else Nx H3) := by
  refine lc_list (xs := xs.map V.int) (fun i H' => Same H1 H' ∧ H' D = some (.lst (((xs.take i).map f).map V.int))) ⟨Same.new hD, upd_same⟩ (fun i H' _ h => h.1.seq hs) ?_ ?_
  · rintro i y H' hi ⟨S1, hd⟩
    obtain ⟨x, hx, rfl⟩ : ∃ x, xs[i]? = some x ∧ y = V.int x := by
      rw [List.getElem?_map] at hi
      cases e : xs[i]? with
      | none => rw [e] at hi; cases hi
      | some x => rw [e] at hi; exact ⟨x, rfl, (Option.some.inj hi).symm⟩
    have hil : i < xs.length := (List.getElem?_eq_some_iff.mp hx).1
    refine turn i x H' hx S1 _ fun H2 S2 => ⟨_, S2 _ _ hd, ?_, (S1.trans S2).mut hD, ?_⟩
    · rw [List.length_map, List.length_map, List.length_take]; exact slt1000 (by omega)
    · rw [upd_same, take_more hx, List.map_append, List.map_append]; rfl
  · rintro H' ⟨S1, hd⟩
    rw [List.length_map, List.take_length] at hd
    exact done H' S1 hd
theorem lc_rangeI {lo : Int} {n : Nat} {g : TG} {te : TE} {vs : List Nat} {σ : L2.St} {H1 : Hp} {D : Addr} {Qd : Hp → Prop} (f : Nat → Int) (hD : H1 D = none) (sz : n ≤ 100000)
    (turn : ∀ (i : Nat) (H' : Hp), i < n → Same H1 H' → ∀ Q : VK, (∀ H2, Same H' H2 → Q (.int (f i)) H2) → g (.int (lo + i)) (wipe σ vs) H' fun σ2 H2 => wipe σ2 vs = wipe σ vs ∧ te σ2 H2 Q)
    (done : ∀ H', Same H1 H' → H' D = some (.lst (((List.range n).map f).map V.int)) → Qd H') :
    ∃ W : Nat → Nat → Hp → Prop, (∃ m, W 0 m (upd H1 D (.lst []))) ∧ ∀ i m H, W i m H →
      ((Itr lo n).stop i H ∧ Qd H) ∨ ((Itr lo n).go i H ∧ ∃ Nx : Hp → Prop, (∀ H', Nx H' → ∃ m', m' < m ∧ W (i + 1) m' H') ∧ ∀ x H', (Itr lo n).yld i H x H' → g x (wipe σ vs) H' fun σ2 H2 => wipe σ2 vs = wipe σ vs ∧ tYes σ2 H2 fun b H3 =>
        if b = true then te σ2 H3 fun y H4 => ∃ acc, H4 D = some (.lst acc) ∧ acc.length < sizeLine ∧ Nx (upd H4 D (.lst (acc ++ [y]))) else Nx H3) := by
  refine lc_range (fun i H' => Same H1 H' ∧ H' D = some (.lst (((List.range i).map f).map V.int))) ⟨Same.new hD, upd_same⟩ ?_ ?_
  · rintro i H' hi ⟨S1, hd⟩
    refine turn i H' hi S1 _ fun H2 S2 => ⟨_, S2 _ _ hd, ?_, (S1.trans S2).mut hD, ?_⟩
    · rw [List.length_map, List.length_map, List.length_range]; exact slt1000 (by omega)
    · rw [upd_same, List.range_succ, List.map_append, List.map_append]; rfl
  · rintro H' ⟨S1, hd⟩
    exact done H' S1 hd
/-! ### data -/
theorem canI : ∀ xs : List Int, PyData.canLayAll0 (xs.map PyData.int) = true
  | [] => rfl
  | x :: xs => by simp [PyData.canLayAll0, PyData.canLay0, canI xs]
theorem depI : ∀ xs : List Int, PyData.depthAll (xs.map PyData.int) = 0
  | [] => rfl
  | x :: xs => by simp [PyData.depthAll, PyData.depth, depI xs]
theorem dpI {K : PySem.W.Frag} {H : Hp} : ∀ xs : List Int, DpAll K H (xs.map V.int) (xs.map PyData.int)
  | [] => .nil
  | x :: xs => .cons (.int x) (dpI xs)
/-- [xs, ys] == [xs, ys] -/
theorem g_eq2 {K : PySem.W.Frag} {H : Hp} {Q : VK} {a b a1 a2 b1 b2 : Addr} {xs ys : List Int} (ha : SqL K H a [.ref a1, .ref a2]) (hb : SqL K H b [.ref b1, .ref b2]) (h1 : SqL K H a1 (xs.map V.int)) (h2 : SqL K H a2 (ys.map V.int)) (h3 : SqL K H b1 (xs.map V.int)) (h4 : SqL K H b2 (ys.map V.int))
    (q : Q (.bl true) H) : rEqD K (.ref a) (.ref b) H Q := by
  have can : PyData.canLay0 (.list [.list (xs.map PyData.int), .list (ys.map PyData.int)]) = true := by simp [PyData.canLay0, PyData.canLayAll0, canI]
  have sh : SeqAt.shaped (.list [.list (xs.map PyData.int), .list (ys.map PyData.int)]) = true := by
    unfold SeqAt.shaped
    rw [can]
    simp [PyData.depth, PyData.depthAll, depI]
  exact ⟨_, _, .lst ha (.cons (.lst h1 (dpI xs)) (.cons (.lst h2 (dpI ys)) .nil)), .lst hb (.cons (.lst h3 (dpI xs)) (.cons (.lst h4 (dpI ys)) .nil)), sh, sh, by rw [SeqAt.eqv_refl _ can]; exact q⟩
end Rt
set_option Elab.async false
set_option linter.all false
set_option maxRecDepth 100000
set_option maxHeartbeats 4000000
/-! The mathematics of sweeping a row: one bead woken until it is still, from the last place to the first. -/
namespace Rt
open PySem PySem.Spec L2
theorem tw_congr {α : Type} {q r : α → Bool} : ∀ {l : List α}, (∀ x ∈ l, q x = r x) → l.takeWhile q = l.takeWhile r
  | [], _ => rfl
  | a :: l, h => by
    rw [List.takeWhile_cons, List.takeWhile_cons, h a List.mem_cons_self, tw_congr fun x hx => h x (List.mem_cons_of_mem _ hx)]
theorem tw_mono {α : Type} {q r : α → Bool} : ∀ {l : List α}, (∀ x ∈ l, q x = true → r x = true) → (l.takeWhile q).length ≤ (l.takeWhile r).length
  | [], _ => Nat.le_refl _
  | a :: l, h => by
    rw [List.takeWhile_cons, List.takeWhile_cons]
    by_cases c : q a = true
    · rw [if_pos c, if_pos (h a List.mem_cons_self c), List.length_cons, List.length_cons]
      exact Nat.succ_le_succ (tw_mono fun x hx => h x (List.mem_cons_of_mem _ hx))
    · rw [if_neg c]; exact Nat.zero_le _
theorem tw_take {α : Type} {q : α → Bool} : ∀ {l : List α}, l.takeWhile q = l.take (l.takeWhile q).length
  | [] => rfl
  | a :: l => by
    rw [List.takeWhile_cons]
    by_cases c : q a = true
    · rw [if_pos c, List.length_cons, List.take_succ_cons, ← tw_take]
    · rw [if_neg c]; rfl
theorem tw_ge {α : Type} {q : α → Bool} : ∀ {l : List α} {k : Nat}, k ≤ l.length → (∀ x ∈ l.take k, q x = true) → k ≤ (l.takeWhile q).length
  | _, 0, _, _ => Nat.zero_le _
  | [], k + 1, h, _ => by simp at h
  | a :: l, k + 1, h, ha => by
    rw [List.takeWhile_cons, if_pos (ha a (by rw [List.take_succ_cons]; exact List.mem_cons_self)), List.length_cons]
    exact Nat.succ_le_succ (tw_ge (by simpa using h) fun x hx => ha x (by rw [List.take_succ_cons]; exact List.mem_cons_of_mem _ hx))
/-- where the longest beginning ends, the test fails -/
theorem tw_next {α : Type} {q : α → Bool} : ∀ {l : List α} {x : α}, l[(l.takeWhile q).length]? = some x → q x = false
  | [], x, h => by simp at h
  | a :: l, x, h => by
    rw [List.takeWhile_cons] at h
    by_cases c : q a = true
    · rw [if_pos c, List.length_cons, List.getElem?_cons_succ] at h
      exact tw_next h
    · rw [if_neg c] at h
      have e : a = x := Option.some.inj h
      subst e
      cases e2 : q a with
      | true => exact absurd e2 c
      | false => rfl
theorem tw_mem {α : Type} {q : α → Bool} : ∀ {l : List α} {x : α}, x ∈ l.takeWhile q → q x = true
  | [], x, h => by cases h
  | a :: l, x, h => by
    rw [List.takeWhile_cons] at h
    by_cases c : q a = true
    · rw [if_pos c] at h
      rcases List.mem_cons.mp h with z | z
      · rw [z]; exact c
      · exact tw_mem z
    · rw [if_neg c] at h; cases h
def sm (ls : List Int) (l : List Nat) : Int := (l.map fun o => ls.getD o 0).sum
theorem sm_app (ls : List Int) (a b : List Nat) : sm ls (a ++ b) = sm ls a + sm ls b := by unfold sm; rw [List.map_append, List.sum_append]
theorem sm_cons (ls : List Int) (a : Nat) (b : List Nat) : sm ls (a :: b) = ls.getD a 0 + sm ls b := by unfold sm; rw [List.map_cons, List.sum_cons]
theorem sm_nn {ls : List Int} {n : Nat} (hp : ∀ o, o < n → 1 ≤ ls.getD o 0) : ∀ l : List Nat, (∀ o ∈ l, o < n) → 0 ≤ sm ls l
  | [], _ => by unfold sm; simp
  | a :: l, h => by
    rw [sm_cons]
    have h1 := hp a (h a List.mem_cons_self)
    have h2 := sm_nn hp l fun o ho => h o (List.mem_cons_of_mem _ ho)
    omega
theorem sm_pos {ls : List Int} {n : Nat} (hp : ∀ o, o < n → 1 ≤ ls.getD o 0) : ∀ l : List Nat, (∀ o ∈ l, o < n) → l ≠ [] → 1 ≤ sm ls l
  | [], _, h => absurd rfl h
  | a :: l, h, _ => by
    rw [sm_cons]
    have h1 := hp a (h a List.mem_cons_self)
    have h2 := sm_nn hp l fun o ho => h o (List.mem_cons_of_mem _ ho)
    omega
theorem take_split {α : Type} {l : List α} {k m : Nat} (h : k ≤ m) : l.take m = l.take k ++ (l.drop k).take (m - k) := by
  rw [← List.take_append_drop k (l.take m), List.take_take, Nat.min_eq_left h, List.drop_take]
/-- the run of a row, short -/
abbrev rn (n p : Nat) : List Nat := run false n p
theorem rn_at {n p i : Nat} (h : p + 1 + i < n) : (rn n p)[i]? = some (p + 1 + i) := by
  have := run_at (r := false) (n := n) (p := p) (i := i) (by omega) (by omega)
  rw [if_pos h] at this; exact this
theorem rn_len {n p : Nat} (h : p < n) : (rn n p).length = n - (p + 1) := by
  have := run_len (r := false) h; rw [if_neg Bool.false_ne_true] at this; exact this
theorem rn_ge {n p : Nat} : ∀ o ∈ rn n p, p < o := by
  intro o ho
  unfold rn run at ho
  rw [if_neg Bool.false_ne_true, List.append_nil] at ho
  obtain ⟨i, _, rfl⟩ := List.mem_map.mp ho
  omega
theorem rn_drop {n p i : Nat} (h : p + 1 + i < n) : (rn n p).drop (i + 1) = rn n (p + 1 + i) := by
  refine List.ext_getElem? fun k => ?_
  rw [List.getElem?_drop]
  by_cases c : p + 1 + i + 1 + k < n
  · rw [rn_at (show p + 1 + (i + 1 + k) < n by omega), rn_at c]; congr 1; omega
  · rw [List.getElem?_eq_none (by rw [rn_len (by omega)]; omega), List.getElem?_eq_none (by rw [rn_len h]; omega)]
theorem getD_set {l : List Int} {p o : Nat} {v : Int} (hp : p < l.length) : (l.set p v).getD o 0 = if o = p then v else l.getD o 0 := by
  rw [List.getD_eq_getElem?_getD, List.getElem?_set]
  by_cases h : p = o
  · subst h; rw [if_pos rfl, if_pos hp, if_pos rfl]; rfl
  · rw [if_neg h, if_neg (fun z => h z.symm), List.getD_eq_getElem?_getD]
/-- the train of the bead at p, were its strength s -/
def tk (ss : List Int) (p : Nat) (s : Int) : List Nat := (rn ss.length p).takeWhile fun o => decide (ss.getD o 0 < s)
theorem tk_self (ss : List Int) (p : Nat) : trn false ss p = tk ss p (ss.getD p 0) := rfl
theorem tk_set {ss : List Int} {p : Nat} {v s : Int} (hp : p < ss.length) : tk (ss.set p v) p s = tk ss p s := by
  unfold tk
  rw [List.length_set]
  refine tw_congr fun o ho => ?_
  have := rn_ge o ho
  rw [getD_set hp, if_neg (by omega)]
def W (ss ls : List Int) (p : Nat) (s : Int) : Int := ls.getD p 0 + sm ls (tk ss p s)
theorem W_self (ss ls : List Int) (p : Nat) : rch false ss ls p = W ss ls p (ss.getD p 0) := rfl
theorem W_set {ss ls : List Int} {p : Nat} {v s : Int} (hp : p < ss.length) : W (ss.set p v) ls p s = W ss ls p s := by unfold W; rw [tk_set hp]
theorem W_new {ss ls : List Int} {p : Nat} {v : Int} (hp : p < ss.length) : rch false (ss.set p v) ls p = W ss ls p v := by
  rw [W_self, W_set hp, getD_set hp, if_pos rfl]
theorem tk_take (ss : List Int) (p : Nat) (s : Int) : tk ss p s = (rn ss.length p).take (tk ss p s).length := tw_take
theorem tk_le (ss : List Int) (p : Nat) (s : Int) : (tk ss p s).length ≤ (rn ss.length p).length := (List.takeWhile_sublist _).length_le
theorem tk_mono {ss : List Int} {p : Nat} {s s' : Int} (h : s ≤ s') : (tk ss p s).length ≤ (tk ss p s').length := by
  refine tw_mono fun x _ hx => ?_
  have := of_decide_eq_true hx
  exact decide_eq_true (by omega)
theorem tk_same {ss : List Int} {p : Nat} {s s' : Int} (h : (tk ss p s).length = (tk ss p s').length) : tk ss p s = tk ss p s' := by
  rw [tk_take ss p s, tk_take ss p s', h]
structure Pos' (ss ls : List Int) : Prop where
  len : ls.length = ss.length
  pos : ∀ o, o < ss.length → 1 ≤ ls.getD o 0
theorem Pos'.set {ss ls : List Int} {p : Nat} {v : Int} (h : Pos' ss ls) : Pos' (ss.set p v) ls := ⟨by rw [List.length_set]; exact h.len, by rw [List.length_set]; exact h.pos⟩
theorem W_pos {ss ls : List Int} (h : Pos' ss ls) {p : Nat} (hp : p < ss.length) (s : Int) : 1 ≤ W ss ls p s := by
  have h1 := h.pos p hp
  have h2 := sm_nn (n := ss.length) h.pos (tk ss p s) fun o ho => run_lt hp o ((List.takeWhile_sublist _).subset ho)
  unfold W; omega
def Rest (ss ls : List Int) (p : Nat) : Prop := ∀ o, p ≤ o → o < ss.length → rch false ss ls o = ss.getD o 0
/-- what lies before p makes no difference to the reach of p -/
theorem rch_local {ss ss' ls : List Int} {p : Nat} (hl : ss.length = ss'.length) (h : ∀ o, p ≤ o → ss.getD o 0 = ss'.getD o 0) : rch false ss ls p = rch false ss' ls p := by
  rw [W_self, W_self]
  unfold W tk
  rw [hl, h p (Nat.le_refl _)]
  congr 2
  refine tw_congr fun o ho => ?_
  rw [h o (Nat.le_of_lt (rn_ge o ho))]
theorem Rest.set {ss ls : List Int} {p q : Nat} {v : Int} (h : Rest ss ls p) (hq : q < p) (hp : q < ss.length) : Rest (ss.set q v) ls p := by
  intro o ho hol
  rw [List.length_set] at hol
  rw [getD_set hp, if_neg (by omega), ← h o ho hol]
  refine rch_local (by rw [List.length_set]) fun z hz => ?_
  rw [getD_set hp, if_neg (by omega)]
/-- lowered beside beads at rest: its train stays -/
theorem lowered {ss ls : List Int} {p : Nat} (P : Pos' ss ls) (hp : p < ss.length) (R : Rest ss ls (p + 1)) (hlow : rch false ss ls p < ss.getD p 0) : tk ss p (rch false ss ls p) = tk ss p (ss.getD p 0) := by
  refine tk_same (Nat.le_antisymm (tk_mono (by omega)) ?_)
  refine tw_ge (tk_le _ _ _) fun o ho => ?_
  rw [← tk_take] at ho
  obtain ⟨i, hi, ei⟩ := List.mem_iff_getElem.mp ho
  have hil := tk_le ss p (ss.getD p 0)
  rw [rn_len hp] at hil
  have hin : p + 1 + i < ss.length := by omega
  have eo : o = p + 1 + i := by
    have h1 : (tk ss p (ss.getD p 0))[i]? = some o := by rw [List.getElem?_eq_getElem hi, ei]
    rw [tk_take, List.getElem?_take_of_lt hi, rn_at hin] at h1
    exact (Option.some.inj h1).symm
  subst eo
  have hw : ss.getD (p + 1 + i) 0 < ss.getD p 0 := by
    have := tw_mem ho
    exact of_decide_eq_true this
  -- the retinue of that bead lies within the train
  have hk : (trn false ss (p + 1 + i)).length ≤ (tk ss p (ss.getD p 0)).length - (i + 1) := by
    rcases Nat.lt_or_ge ((tk ss p (ss.getD p 0)).length - (i + 1)) (trn false ss (p + 1 + i)).length with c | c
    · exfalso
      have hlt : (tk ss p (ss.getD p 0)).length - (i + 1) < (rn ss.length (p + 1 + i)).length := Nat.lt_of_lt_of_le c (List.takeWhile_sublist _).length_le
      obtain ⟨x, hget⟩ : ∃ x, (rn ss.length (p + 1 + i))[(tk ss p (ss.getD p 0)).length - (i + 1)]? = some x := ⟨_, List.getElem?_eq_getElem hlt⟩
      have h2 : (rn ss.length p)[(tk ss p (ss.getD p 0)).length]? = some x := by
        have := hget
        rw [← rn_drop hin, List.getElem?_drop, show i + 1 + ((tk ss p (ss.getD p 0)).length - (i + 1)) = (tk ss p (ss.getD p 0)).length by omega] at this
        exact this
      have h3 := tw_next (q := fun o => decide (ss.getD o 0 < ss.getD p 0)) h2
      have h4 : (trn false ss (p + 1 + i))[(tk ss p (ss.getD p 0)).length - (i + 1)]? = some x := by
        have e := tk_self ss (p + 1 + i)
        rw [e, tk_take, List.getElem?_take_of_lt (by rw [← e]; exact c)]
        exact hget
      have h5 := tw_mem (List.mem_of_getElem? h4)
      have h6 := of_decide_eq_false h3
      have h7 := of_decide_eq_true h5
      omega
    · exact c
  have hs : ss.getD (p + 1 + i) 0 ≤ sm ls (tk ss p (ss.getD p 0)) := by
    have e1 := R (p + 1 + i) (by omega) hin
    rw [← e1]
    have e2 : rch false ss ls (p + 1 + i) = sm ls ((p + 1 + i) :: trn false ss (p + 1 + i)) := by rw [sm_cons]; rfl
    rw [e2]
    have e3 : tk ss p (ss.getD p 0) = (rn ss.length p).take i ++ ((p + 1 + i) :: ((rn ss.length (p + 1 + i)).take ((tk ss p (ss.getD p 0)).length - (i + 1)))) := by
      conv => lhs; rw [tk_take]
      rw [take_split (show i + 1 ≤ (tk ss p (ss.getD p 0)).length from hi), rn_drop hin, take_more (rn_at hin), List.append_assoc]; rfl
    rw [e3, sm_app, sm_cons, sm_cons]
    have e4 : (rn ss.length (p + 1 + i)).take ((tk ss p (ss.getD p 0)).length - (i + 1)) = trn false ss (p + 1 + i) ++ ((rn ss.length (p + 1 + i)).drop (trn false ss (p + 1 + i)).length).take ((tk ss p (ss.getD p 0)).length - (i + 1) - (trn false ss (p + 1 + i)).length) := by
      rw [take_split hk]
      congr 1
      rw [tk_self, ← tk_take]
    rw [e4, sm_app]
    have n1 := sm_nn (n := ss.length) P.pos ((rn ss.length p).take i) fun o ho => run_lt hp o (List.mem_of_mem_take ho)
    have n2 := sm_nn (n := ss.length) P.pos (((rn ss.length (p + 1 + i)).drop (trn false ss (p + 1 + i)).length).take ((tk ss p (ss.getD p 0)).length - (i + 1) - (trn false ss (p + 1 + i)).length)) fun o ho => run_lt hin o (List.mem_of_mem_drop (List.mem_of_mem_take ho))
    omega
  have hpp := P.pos p hp
  have : rch false ss ls p = ls.getD p 0 + sm ls (tk ss p (ss.getD p 0)) := rfl
  exact decide_eq_true (by omega)
def settle : Nat → List Int → List Int → Nat → List Int × Nat
  | 0, ss, _, _ => (ss, 0)
  | k + 1, ss, ls, p => if rch false ss ls p = ss.getD p 0 then (ss, 0) else ((settle k (ss.set p (rch false ss ls p)) ls p).1, (settle k (ss.set p (rch false ss ls p)) ls p).2 + 1)
theorem settle_still {ss ls : List Int} {p : Nat} (h : rch false ss ls p = ss.getD p 0) : ∀ k, settle k ss ls p = (ss, 0)
  | 0 => rfl
  | k + 1 => by unfold settle; rw [if_pos h]
theorem settle_more {ss ls : List Int} {p : Nat} (h : rch false ss ls p ≠ ss.getD p 0) (k : Nat) : settle (k + 1) ss ls p = ((settle k (ss.set p (rch false ss ls p)) ls p).1, (settle k (ss.set p (rch false ss ls p)) ls p).2 + 1) := by
  conv => lhs; unfold settle
  rw [if_neg h]
theorem settle_low {ss ls : List Int} {p : Nat} (P : Pos' ss ls) (hp : p < ss.length) (R : Rest ss ls (p + 1)) (hlow : rch false ss ls p < ss.getD p 0) (k : Nat) : settle (k + 1) ss ls p = (ss.set p (rch false ss ls p), 1) := by
  have h : rch false (ss.set p (rch false ss ls p)) ls p = (ss.set p (rch false ss ls p)).getD p 0 := by
    rw [W_new hp, getD_set hp, if_pos rfl]
    unfold W
    rw [lowered P hp R hlow]
    rfl
  unfold settle
  rw [if_neg (by omega), settle_still h]
theorem settle_len : ∀ (k : Nat) (ss ls : List Int) (p : Nat), (settle k ss ls p).1.length = ss.length
  | 0, _, _, _ => rfl
  | k + 1, ss, ls, p => by
    unfold settle
    split
    · rfl
    · rw [settle_len k, List.length_set]
theorem settle_cnt : ∀ (k : Nat) (ss ls : List Int) (p : Nat), (settle k ss ls p).2 ≤ k
  | 0, _, _, _ => Nat.le_refl _
  | k + 1, ss, ls, p => by
    unfold settle
    split
    · exact Nat.zero_le _
    · exact Nat.succ_le_succ (settle_cnt k _ _ _)
theorem settle_other : ∀ (k : Nat) (ss ls : List Int) (p o : Nat), p < ss.length → o ≠ p → (settle k ss ls p).1.getD o 0 = ss.getD o 0
  | 0, _, _, _, _, _, _ => rfl
  | k + 1, ss, ls, p, o, hp, ho => by
    unfold settle
    split
    · rfl
    · rw [settle_other k _ _ _ _ (by rw [List.length_set]; exact hp) ho, getD_set hp, if_neg ho]
theorem settle_nn : ∀ (k : Nat) (ss ls : List Int) (p : Nat), Pos' ss ls → p < ss.length → (∀ x ∈ ss, 0 ≤ x) → ∀ x ∈ (settle k ss ls p).1, 0 ≤ x
  | 0, _, _, _, _, _, h => h
  | k + 1, ss, ls, p, P, hp, h => by
    unfold settle
    split
    · exact h
    · refine settle_nn k _ _ _ P.set (by rw [List.length_set]; exact hp) fun x hx => ?_
      rcases List.mem_or_eq_of_mem_set hx with z | z
      · exact h x z
      · have := W_pos P hp (ss.getD p 0)
        rw [← W_self] at this
        omega
theorem settles : ∀ (k : Nat) (ss ls : List Int) (p : Nat), Pos' ss ls → p < ss.length → Rest ss ls (p + 1) → (rn ss.length p).length - (tk ss p (ss.getD p 0)).length + 1 ≤ k →
    rch false (settle k ss ls p).1 ls p = (settle k ss ls p).1.getD p 0
  | 0, _, _, _, _, _, _, h => by omega
  | k + 1, ss, ls, p, P, hp, R, h => by
    by_cases c : rch false ss ls p = ss.getD p 0
    · rw [settle_still c]; exact c
    · rcases Int.lt_or_gt_of_ne c with d | d
      · rw [settle_low P hp R d]
        show rch false (ss.set p (rch false ss ls p)) ls p = (ss.set p (rch false ss ls p)).getD p 0
        rw [W_new hp, getD_set hp, if_pos rfl]
        unfold W
        rw [lowered P hp R d]; rfl
      · have hm := tk_mono (ss := ss) (p := p) (s := ss.getD p 0) (s' := rch false ss ls p) (by omega)
        have hl := tk_le ss p (rch false ss ls p)
        have e1 : (ss.set p (rch false ss ls p)).getD p 0 = rch false ss ls p := by rw [getD_set hp, if_pos rfl]
        have e2 : settle (k + 1) ss ls p = ((settle k (ss.set p (rch false ss ls p)) ls p).1, (settle k (ss.set p (rch false ss ls p)) ls p).2 + 1) := by
          conv => lhs; unfold settle
          rw [if_neg c]
        rw [e2]
        by_cases e : (tk ss p (ss.getD p 0)).length = (tk ss p (rch false ss ls p)).length
        · have st : rch false (ss.set p (rch false ss ls p)) ls p = (ss.set p (rch false ss ls p)).getD p 0 := by
            rw [W_new hp, e1]; unfold W; rw [← tk_same e]; rfl
          rw [settle_still st]; exact st
        · refine settles k _ _ _ P.set (by rw [List.length_set]; exact hp) (R.set (by omega) hp) ?_
          rw [e1, tk_set hp, List.length_set]
          omega
/-- a place that a further waking of one bead keeps: still, or its train grows -/
theorem settle_step {ss ls : List Int} {p f : Nat} (P : Pos' ss ls) (hp : p < ss.length) (R : Rest ss ls (p + 1)) (c : rch false ss ls p ≠ ss.getD p 0) (h : (rn ss.length p).length - (tk ss p (ss.getD p 0)).length ≤ f) :
    rch false (ss.set p (rch false ss ls p)) ls p = (ss.set p (rch false ss ls p)).getD p 0 ∨ (1 ≤ f ∧ (rn (ss.set p (rch false ss ls p)).length p).length - (tk (ss.set p (rch false ss ls p)) p ((ss.set p (rch false ss ls p)).getD p 0)).length ≤ f - 1) := by
  have e1 : (ss.set p (rch false ss ls p)).getD p 0 = rch false ss ls p := by rw [getD_set hp, if_pos rfl]
  rcases Int.lt_or_gt_of_ne c with d | d
  · refine Or.inl ?_
    rw [W_new hp, e1]
    unfold W
    rw [lowered P hp R d]; rfl
  · have hm := tk_mono (ss := ss) (p := p) (s := ss.getD p 0) (s' := rch false ss ls p) (by omega)
    have hl := tk_le ss p (rch false ss ls p)
    by_cases e : (tk ss p (ss.getD p 0)).length = (tk ss p (rch false ss ls p)).length
    · refine Or.inl ?_
      rw [W_new hp, e1]; unfold W; rw [← tk_same e]; rfl
    · refine Or.inr ?_
      rw [e1, tk_set hp, List.length_set]
      omega
structure Sw where
  now : List Int
  ord : List Nat
  low : List Nat
def sw (ls : List Int) : Nat → List Int → Sw
  | 0, ss => ⟨ss, [], []⟩
  | i + 1, ss => ⟨(settle (ss.length + 2) (sw ls i ss).now ls (ss.length - 1 - i)).1, (sw ls i ss).ord ++ List.replicate (settle (ss.length + 2) (sw ls i ss).now ls (ss.length - 1 - i)).2 (ss.length - 1 - i),
      if rch false (sw ls i ss).now ls (ss.length - 1 - i) < (sw ls i ss).now.getD (ss.length - 1 - i) 0 then (sw ls i ss).low ++ [ss.length - 1 - i] else (sw ls i ss).low⟩
structure SwOk (ss ls : List Int) (i : Nat) : Prop where
  len : (sw ls i ss).now.length = ss.length
  rest : Rest (sw ls i ss).now ls (ss.length - i)
  nn : ∀ x ∈ (sw ls i ss).now, 0 ≤ x
  ordge : ∀ o ∈ (sw ls i ss).ord, ss.length - i ≤ o ∧ o < ss.length
  lowge : ∀ o ∈ (sw ls i ss).low, ss.length - i ≤ o ∧ o < ss.length
  once : ∀ p ∈ (sw ls i ss).low, ((sw ls i ss).ord.filter fun o => o == p).length = 1
  few : (sw ls i ss).ord.length ≤ i * (ss.length + 2)
  fewl : (sw ls i ss).low.length ≤ i
theorem sw_ok {ss ls : List Int} (P : Pos' ss ls) (h0 : ∀ x ∈ ss, 0 ≤ x) : ∀ i, i ≤ ss.length → SwOk ss ls i
  | 0, _ => by
    refine ⟨rfl, ?_, h0, ?_, ?_, ?_, ?_, ?_⟩
    · intro o ho hol
      have h1 : o < ss.length := hol
      have h2 : ss.length - 0 ≤ o := ho
      omega
    · intro o ho; exact absurd ho List.not_mem_nil
    · intro o ho; exact absurd ho List.not_mem_nil
    · intro o ho; exact absurd ho List.not_mem_nil
    · exact Nat.zero_le _
    · exact Nat.zero_le _
  | i + 1, hi => by
    have O := sw_ok P h0 i (by omega)
    have hp : ss.length - 1 - i < (sw ls i ss).now.length := by rw [O.len]; omega
    have P' : Pos' (sw ls i ss).now ls := ⟨by rw [O.len]; exact P.len, by rw [O.len]; exact P.pos⟩
    have R' : Rest (sw ls i ss).now ls (ss.length - 1 - i + 1) := by
      have e : ss.length - 1 - i + 1 = ss.length - i := by omega
      rw [e]; exact O.rest
    have S := settles (ss.length + 2) (sw ls i ss).now ls (ss.length - 1 - i) P' hp R' (by rw [rn_len hp, O.len]; omega)
    have cnt := settle_cnt (ss.length + 2) (sw ls i ss).now ls (ss.length - 1 - i)
    have notin : ∀ p, p = ss.length - 1 - i → ((sw ls i ss).ord.filter fun o => o == p) = [] := fun p e => by
      refine List.filter_eq_nil_iff.mpr fun o ho => ?_
      have := O.ordge o ho
      simp; omega
    refine ⟨?_, ?_, ?_, ?_, ?_, ?_, ?_, ?_⟩
    · show (settle _ _ _ _).1.length = _
      rw [settle_len, O.len]
    · intro o ho hol
      show rch false (settle (ss.length + 2) (sw ls i ss).now ls (ss.length - 1 - i)).1 ls o = _
      have hol' : o < (sw ls i ss).now.length := by
        have : o < (settle (ss.length + 2) (sw ls i ss).now ls (ss.length - 1 - i)).1.length := hol
        rw [settle_len] at this; exact this
      by_cases c : o = ss.length - 1 - i
      · rw [c]; exact S
      · have e1 := settle_other (ss.length + 2) (sw ls i ss).now ls (ss.length - 1 - i) o hp c
        have e2 : rch false (settle (ss.length + 2) (sw ls i ss).now ls (ss.length - 1 - i)).1 ls o = rch false (sw ls i ss).now ls o := by
          refine rch_local (by rw [settle_len]) fun z hz => ?_
          exact settle_other _ _ _ _ _ hp (by omega)
        rw [e2, O.rest o (by omega) hol']
        exact e1.symm
    · exact settle_nn _ _ _ _ P' hp O.nn
    · intro o ho
      rcases List.mem_append.mp ho with z | z
      · have := O.ordge o z; omega
      · have := List.eq_of_mem_replicate z; omega
    · intro o ho
      have ho' : o ∈ if rch false (sw ls i ss).now ls (ss.length - 1 - i) < (sw ls i ss).now.getD (ss.length - 1 - i) 0 then (sw ls i ss).low ++ [ss.length - 1 - i] else (sw ls i ss).low := ho
      split at ho'
      · rcases List.mem_append.mp ho' with z | z
        · have := O.lowge o z; omega
        · have : o = ss.length - 1 - i := by simpa using z
          omega
      · have := O.lowge o ho'; omega
    · intro p hpm
      show (((sw ls i ss).ord ++ List.replicate _ _).filter _).length = 1
      rw [List.filter_append, List.length_append]
      have hp' : p ∈ if rch false (sw ls i ss).now ls (ss.length - 1 - i) < (sw ls i ss).now.getD (ss.length - 1 - i) 0 then (sw ls i ss).low ++ [ss.length - 1 - i] else (sw ls i ss).low := hpm
      by_cases c : p = ss.length - 1 - i
      · split at hp'
        · rename_i hlow
          rw [notin p c, settle_low P' hp R' hlow, c]
          simp
        · have := O.lowge p hp'; omega
      · have hin : p ∈ (sw ls i ss).low := by
          split at hp'
          · rcases List.mem_append.mp hp' with z | z
            · exact z
            · exact absurd (by simpa using z) c
          · exact hp'
        have e : ((List.replicate (settle (ss.length + 2) (sw ls i ss).now ls (ss.length - 1 - i)).2 (ss.length - 1 - i)).filter fun o => o == p) = [] := by
          refine List.filter_eq_nil_iff.mpr fun o ho => ?_
          have := List.eq_of_mem_replicate ho
          simp; omega
        rw [O.once p hin, e]; rfl
    · show ((sw ls i ss).ord ++ List.replicate _ _).length ≤ _
      rw [List.length_append, List.length_replicate, Nat.succ_mul]
      have := O.few
      omega
    · show (if rch false (sw ls i ss).now ls (ss.length - 1 - i) < (sw ls i ss).now.getD (ss.length - 1 - i) 0 then (sw ls i ss).low ++ [ss.length - 1 - i] else (sw ls i ss).low).length ≤ _
      have := O.fewl
      split
      · rw [List.length_append]; simp; omega
      · omega
/-- a row at rest is left as it is -/
theorem sw_rest {ss ls : List Int} (R : Rest ss ls 0) : ∀ i, i ≤ ss.length → sw ls i ss = ⟨ss, [], []⟩
  | 0, _ => rfl
  | i + 1, hi => by
    have e := sw_rest R i (by omega)
    have st := R (ss.length - 1 - i) (by omega) (by omega)
    unfold sw
    rw [e]
    show (⟨(settle _ ss ls _).1, [] ++ List.replicate (settle _ ss ls _).2 _, if rch false ss ls _ < ss.getD _ 0 then _ else _⟩ : Sw) = _
    rw [settle_still st, if_neg (by omega)]
    rfl
end Rt
set_option Elab.async false
set_option linter.all false
set_option maxRecDepth 100000
set_option maxHeartbeats 4000000
/-! More rules of our own: methods known by their promise, unpacking, reversed ranges, tuples joined and cut. -/
namespace Rt
open PySem PySem.Spec L2
theorem FnOk.or {P : Program} {w : World} {K : PySem.W.Frag} {mg : Str → Option Value} {base : Heap} {CX : CXT} {k : Nat} {f : Addr} {fd : FuncData} {ps : List Str} {sp sp' : Sp} (F : FnOk P w K mg base CX k f fd ps sp) (G : FnOk P w K mg base CX k f fd ps sp') :
    FnOk P w K mg base CX k f fd ps (fun vs H Q E => sp vs H Q E ∨ sp' vs H Q E) :=
  ⟨fun vs H Q E z => z.elim (F.len vs H Q E) (G.len vs H Q E), fun A outer s H args us vs Q E hr he hb hv z => z.elim (F.run A outer s H args us vs Q E hr he hb hv) (G.run A outer s H args us vs Q E hr he hb hv)⟩
structure MethD (P : Program) (w : World) (K : PySem.W.Frag) (mg : Str → Option Value) (base : Heap) (CX : CXT) (k : Nat) (C : Addr) (m : Str) (ps : List Str) (sp : Sp) : Prop where
  cl : Cls K C
  ex : ∃ (f : Addr) (fd : FuncData), Meth K C m f ∧ FnOk P w K mg base CX k f fd ps sp ∧ L2.Binds K fd ps []
theorem pe_methD {X : Cx} {CX : CXT} {k : Nat} {C : Addr} {m : Str} {ps : List Str} {sp : Sp} {E : XK} {o e : Expr} {es : List Expr} {ta : TE} {t : TA} {apos pos : Pos} {pl : Sem Bool} (D : MethD X.prog X.w X.K X.mg X.base CX k C m ps sp) (hr : Room k X.A) (hx : L2.Passes CX X E) (he : PE X o ta) (ha : PA X (e :: es) t)
    (hst : starEach (e :: es) X.env = (false, eval e X.env) :: starEach es X.env := by rfl) (hpl : (backTo pos (starEach es X.env)).any (·.1) = false := by rfl)
    (ht : eval (.Call (.Attribute o m apos) (e :: es) [] pos) X.env = (do
      let ov ← eval o X.env
      standAt apos.atName
      let (f, first) ← holding [ov] (getMethod ov m pl)
      callWith pos f first (backTo pos (starEach (e :: es) X.env)) (backToKw pos (keywordEach [] X.env))) := by rfl) :
    PE X (.Call (.Attribute o m apos) (e :: es) [] pos) (tMeth C m sp [] E ta t) := by
  obtain ⟨f, fd, a, b, c⟩ := D.ex
  exact pe_meth he D.cl a b hr c .nil hx ha hst hpl ht
theorem g_meth {C : Addr} {m : Str} {sp : Sp} {E : XK} {ta : TE} {t : TA} {σ : L2.St} {H : Hp} {Q : VK} (h : ta σ H fun x H1 => ∃ a dx fs, x = .ref a ∧ H1 a = some (.ins C dx fs) ∧ fs.lookup m = none ∧ t σ H1 fun vs H2 => sp (x :: vs) H2 Q E) : tMeth C m sp [] E ta t σ H Q := by
  have e : (fun x H1 => ∃ a dx fs, x = V.ref a ∧ H1 a = some (.ins C dx fs) ∧ fs.lookup m = none ∧ t σ H1 fun vs H2 => sp (x :: (vs ++ [])) H2 Q E) = fun x H1 => ∃ a dx fs, x = V.ref a ∧ H1 a = some (.ins C dx fs) ∧ fs.lookup m = none ∧ t σ H1 fun vs H2 => sp (x :: vs) H2 Q E := by
    funext x H1; simp only [List.append_nil]
  show ta σ H fun x H1 => ∃ a dx fs, x = V.ref a ∧ H1 a = some (.ins C dx fs) ∧ fs.lookup m = none ∧ t σ H1 fun vs H2 => sp (x :: (vs ++ [])) H2 Q E
  rw [e]; exact h
theorem g_gtup {K : PySem.W.Frag} {t : TGs} {a : Addr} {xs : List V} {n : Nat} {σ : L2.St} {H : Hp} {QS : L2.St → Hp → Prop} (hs : SqT K H a xs) (hn : xs.length = n) (h : t xs σ H QS) : gTup K n t (.ref a) σ H QS := ⟨a, xs, rfl, hs, hn, h⟩
theorem g_gcons {t : TG} {u : TGs} {v : V} {r : List V} {σ : L2.St} {H : Hp} {QS : L2.St → Hp → Prop} (h : t v σ H fun σ' H' => u r σ' H' QS) : gCons t u (v :: r) σ H QS := ⟨v, r, rfl, h⟩
theorem g_gnil {σ : L2.St} {H : Hp} {QS : L2.St → Hp → Prop} (h : QS σ H) : gNil [] σ H QS := ⟨rfl, h⟩
def RevOk (a b : Int) (R : It → Hp → Prop) (H1 : Hp) : Prop := -(2 ^ 62) ≤ a ∧ a < 2 ^ 62 ∧ -(2 ^ 62) ≤ b ∧ b < 2 ^ 62 ∧ R (Itc (a + (((b - a).toNat : Nat) : Int) - 1) (-1) (b - a).toNat) H1
theorem g_rev {tr : L2.St → Hp → (Int → Int → Hp → Prop) → Prop} {σ : L2.St} {H : Hp} {R : It → Hp → Prop} (h : tr σ H fun a b H1 => RevOk a b R H1) : iRevR tr σ H R := h
/-- counting down: what holds before each turn -/
theorem for_down {lo c : Int} {n : Nat} {g : TG} {tb : TS} {D : Ends} {σ0 : L2.St} {H0 : Hp} (Pv : Nat → L2.St → Hp → Prop) (first : Pv 0 σ0 H0)
    (step : ∀ i σ H, i < n → Pv i σ H → g (.int (lo + i * c)) σ H fun σ2 H2 => tb { D with nx := Pv (i + 1), ct := Pv (i + 1), bk := D.nx } σ2 H2) (last : ∀ σ H, Pv n σ H → D.nx σ H) :
    ∃ W : Nat → Nat → L2.St → Hp → Prop, (∃ m, W 0 m σ0 H0) ∧ ∀ i m σ H, W i m σ H →
      ((Itc lo c n).stop i H ∧ D.nx σ H) ∨ ((Itc lo c n).go i H ∧ ∃ N : L2.St → Hp → Prop, (∀ σ' H', N σ' H' → ∃ m', m' < m ∧ W (i + 1) m' σ' H') ∧ ∀ x H', (Itc lo c n).yld i H x H' → g x σ H' fun σ2 H2 => tb { D with nx := N, ct := N, bk := D.nx } σ2 H2) := by
  refine ⟨fun i m σ H => i + m = n ∧ Pv i σ H, ⟨n, Nat.zero_add n, first⟩, fun i m σ H w => ?_⟩
  cases m with
  | zero =>
    have e : i = n := w.1
    rw [e] at w ⊢
    exact Or.inl ⟨Nat.le_refl n, last σ H w.2⟩
  | succ m =>
    have lt : i < n := by have := w.1; omega
    refine Or.inr ⟨lt, Pv (i + 1), fun σ' H' q => ⟨m, Nat.lt_succ_self m, by have := w.1; omega, q⟩, fun x H' y => ?_⟩
    have e1 : H' = H := y.1
    have e2 : x = V.int (lo + i * c) := y.2
    rw [e1, e2]
    exact step i σ H lt w.2
/-! ### tuples of ints -/
theorem cut_to {xs : List V} {p : Nat} (h : p < xs.length) : cutV xs none (some (p : Int)) = xs.take p := by
  unfold cutV
  rw [HT.sIx_none, HT.sIx_nat, Nat.min_eq_left (Nat.le_of_lt h), List.drop_zero, Nat.sub_zero]
theorem cut_from {xs : List V} {p : Nat} (h : p < xs.length) : cutV xs (some ((p : Int) + 1)) none = xs.drop (p + 1) := by
  unfold cutV
  rw [show ((p : Int) + 1) = ((p + 1 : Nat) : Int) by omega, HT.sIx_none, HT.sIx_nat, Nat.min_eq_left h]
  exact List.take_of_length_le (by rw [List.length_drop]; omega)
theorem g_tto {K : PySem.W.Frag} {H : Hp} {Q : VK} {a : Addr} {xs : List Int} {p : Nat} (h1 : SqT K H a (xs.map V.int)) (hp : p < xs.length)
    (h : ∀ q H', H q = none → Same H H' → H' q = some (.tup ((xs.take p).map V.int)) → Q (.ref q) H') : rSlA K (.ref a) none (some (p : Int)) H Q := by
  have hl : p < (xs.map V.int).length := by rw [List.length_map]; exact hp
  refine ⟨a, _, rfl, h1, fun z => ?_, fun _ q nq => h q _ nq (L2.Same.new nq) (by rw [upd_same, cut_to hl, List.map_take])⟩
  have := z.2
  rw [HT.sIx_nat] at this
  omega
theorem g_tfrom {K : PySem.W.Frag} {H : Hp} {Q : VK} {a : Addr} {xs : List Int} {p : Nat} (h1 : SqT K H a (xs.map V.int)) (hp : p < xs.length)
    (h : ∀ q H', H q = none → Same H H' → H' q = some (.tup ((xs.drop (p + 1)).map V.int)) → Q (.ref q) H') : rSlA K (.ref a) (some ((p : Int) + 1)) none H Q := by
  have hl : p < (xs.map V.int).length := by rw [List.length_map]; exact hp
  refine ⟨a, _, rfl, h1, fun z => ?_, fun _ q nq => h q _ nq (L2.Same.new nq) (by rw [upd_same, cut_from hl, List.map_drop])⟩
  have := z.1
  rw [show ((p : Int) + 1) = ((p + 1 : Nat) : Int) by omega, HT.sIx_nat] at this
  omega
theorem g_tcat {K : PySem.W.Frag} {H : Hp} {Q : VK} {a b : Addr} {xs zs : List Int} (h1 : H a = some (.tup (xs.map V.int))) (h2 : H b = some (.tup (zs.map V.int))) (sz : xs.length + zs.length ≤ 100000)
    (h : ∀ p H', Same H H' → H' p = some (.tup ((xs ++ zs).map V.int)) → Q (.ref p) H') : rCatA K (.ref a) (.ref b) H Q := by
  refine ⟨a, b, _, _, rfl, rfl, SqT.of h1, SqT.of h2, by rw [List.length_map, List.length_map]; exact sl1000 sz, fun e => ?_, fun _ e => ?_, fun _ _ p np => h p _ (L2.Same.new np) (by rw [upd_same, List.map_append])⟩
  · have e' : xs = [] := List.map_eq_nil_iff.mp e
    exact h b H (Same.refl _) (by rw [e', List.nil_append]; exact h2)
  · have e' : zs = [] := List.map_eq_nil_iff.mp e
    exact h a H (Same.refl _) (by rw [e', List.append_nil]; exact h1)
theorem take_set_drop : ∀ {l : List Int} {p : Nat} {v : Int}, p < l.length → l.take p ++ [v] ++ l.drop (p + 1) = l.set p v
  | [], _, _, h => absurd h (Nat.not_lt_zero _)
  | a :: l, 0, v, _ => rfl
  | a :: l, p + 1, v, h => by
    have := take_set_drop (l := l) (p := p) (v := v) (by simpa using h)
    rw [List.take_succ_cons, List.drop_succ_cons, List.set_cons_succ, ← this]; rfl
section
variable {X : Cx} (K : PySem.W.Frag)
theorem op_catAK (h : X.K = K := by rfl) : OpR X (binaryOp .Add) (rCatA K) := by subst h; exact op_catA
variable {o : Expr} {ta : TE} {t : TA} {apos cpos : Pos} {es : List Expr}
theorem pe_extK {e : Expr} (ho : PE X o ta) (ha : PA X (e :: es) t) (h : X.K = K := by rfl)
    (hbase : attributeBase o "extend" X.env (eval o X.env) = eval o X.env := by rfl)
    (hfew : ((backTo cpos (starEach (e :: es) X.env)).all (fun x => !x.1) && (backToKw cpos (keywordEach [] X.env)).all (fun x => x.1.isSome)
      && decide ((e :: es).length + ([] : List Keyword).length + (if ([] : List Keyword).isEmpty then 0 else 1) < 30)) = true := by rfl)
    (hline : (apos.endLine == cpos.line) = true := by rfl) (hs : starEach (e :: es) X.env = (false, eval e X.env) :: starEach es X.env := by rfl) (hplain : (backTo cpos (starEach es X.env)).any (·.1) = false := by rfl) :
    PE X (.Call (.Attribute o "extend" apos) (e :: es) [] cpos) (tBM K "list" rExtend ta t) := by
  subst h; exact pe_bm PySem.F.plainAttrs_list PySem.F.slot_list_extend PySem.F.type_list_extend mt_extend ho ha hbase hfew hline hs hplain
end
theorem g_ext {H : Hp} {l b : Addr} {xs zs : List V} {Q : VK} (h : H l = some (.lst xs)) (h2 : H b = some (.lst zs)) (sz : xs.length + zs.length ≤ 100000) (q : Q .non (upd H l (.lst (xs ++ zs)))) : rExtend (.ref l) [.ref b] H Q := ⟨l, b, xs, zs, rfl, rfl, h, h2, sl1000 sz, q⟩
theorem g_rept {H : Hp} {Q : VK} {l : Addr} {x : V} {k : Nat} (h1 : H l = some (.lst [x])) (sz : k ≤ 100000)
    (h : ∀ p H', H p = none → Same H H' → H' p = some (.lst (List.replicate k x)) → Q (.ref p) H') : rRep (.ref l) (.int (k : Int)) H Q :=
  ⟨l, (k : Int), [x], rfl, rfl, h1, by omega, by omega, by rw [Int.toNat_natCast, sizeLine_eq, List.length_singleton]; omega, fun p np => h p _ np (L2.Same.new np) (by rw [upd_same, Int.toNat_natCast, rep_flat])⟩
theorem g_isB' {a b : Bool} {H : Hp} {Q : VK} (h : Q (.bl (decide (a = b))) H) : rIsB (.bl a) (.bl b) H Q := ⟨a, b, rfl, rfl, h⟩
/-- an item of a list is replaced -/
theorem g_set {H : Hp} {l : Addr} {xs : List Int} {i : Nat} {v : Int} {R : Hp → Prop} (h : H l = some (.lst (xs.map V.int))) (hi : i < xs.length) (q : R (upd H l (.lst ((xs.set i v).map V.int)))) : rSetL (.ref l) (.int (i : Int)) (.int v) H R := by
  refine ⟨l, _, (i : Int), i, rfl, rfl, h, ?_, by rw [← List.map_set]; exact q⟩
  rw [List.length_map]
  unfold ixN
  simp; omega
theorem g_gsub {to ti : TE} {t : TSet} {v : V} {σ : L2.St} {H : Hp} {QS : L2.St → Hp → Prop} (h : to σ H fun o H1 => ti σ H1 fun i H2 => t o i v H2 fun H3 => QS σ H3) : gSub to ti t v σ H QS := h
/-! ### an order of wakings: tuples of one place each -/
def Ord (H : Hp) (xs : List V) (os : List Nat) : Prop := xs.length = os.length ∧ ∀ (j o : Nat), os[j]? = some o → ∃ t : Addr, xs[j]? = some (V.ref t) ∧ H t = some (.tup [V.int (o : Int)])
theorem Ord.nil {H : Hp} : Ord H [] [] := ⟨rfl, fun j o h => by simp at h⟩
theorem Ord.mono {H H' : Hp} {xs : List V} {os : List Nat} (h : Ord H xs os) (S : ∀ t ys, H t = some (.tup ys) → H' t = some (.tup ys)) : Ord H' xs os :=
  ⟨h.1, fun j o e => let ⟨t, a, b⟩ := h.2 j o e; ⟨t, a, S _ _ b⟩⟩
theorem Ord.more {H : Hp} {xs : List V} {os : List Nat} {t : Addr} {o : Nat} (h : Ord H xs os) (ht : H t = some (.tup [V.int (o : Int)])) : ∀ k : Nat, Ord H (xs ++ List.replicate k (V.ref t)) (os ++ List.replicate k o) := fun k => by
  refine ⟨by rw [List.length_append, List.length_append, List.length_replicate, List.length_replicate, h.1], fun j o' e => ?_⟩
  by_cases c : j < os.length
  · rw [List.getElem?_append_left c] at e
    obtain ⟨t', a, b⟩ := h.2 j o' e
    exact ⟨t', by rw [List.getElem?_append_left (by rw [h.1]; exact c)]; exact a, b⟩
  · rw [List.getElem?_append_right (by omega), List.getElem?_replicate] at e
    split at e
    · rename_i c2
      have e' : o = o' := Option.some.inj e
      subst e'
      refine ⟨t, ?_, ht⟩
      rw [List.getElem?_append_right (by rw [h.1]; omega), List.getElem?_replicate, h.1, if_pos c2]
    · cases e
end Rt
set_option Elab.async false
set_option linter.all false
set_option maxRecDepth 100000
set_option maxHeartbeats 4000000
/-! list(reversed(range(..))). -/
namespace Rt
open PySem PySem.Spec L2 PyProof.Rows
theorem rit_nolen : typeLookup (.type "range_iterator") "__len__" = pure none := by
  first | kernel_rfl | (rw [typeLookup_fast]; kernel_rfl)
section
variable {prog : Program} {w : World} {A : Around} {E : Value → Shared → Prop} {s : Shared}
theorem rit_left {it : Addr} {a n c : Int} {Q : Value → Shared → Prop} (ho : IsRangeIter s.heap it a n c) (h : ∀ t, Q (.int n t) { s with toks := s.toks + 1 }) : wpAny (model prog w) A (call (.builtin "range_iterator.__length_hint__") [.ref it]) Q E s := by
  have ty : s.TypeIs (.ref it) "range_iterator" := ⟨_, ho, rfl⟩
  refine wpAny_call_entry F.slot_range_iterator_length_hint ty F.entry_range_iterator_length_hint ?_ (F.args_range_iterator_length_hint_1 _)
  obtain ⟨hp, g, d, tk, os⟩ := s
  wp_walk using AutoSeq1.wpAny_loadPart' ho
  exact ⟨_, rfl, h _⟩
theorem rit_hint {it : Addr} {a n c : Int} {Q : Bool → Shared → Prop} (ho : IsRangeIter s.heap it a n c) (h0 : 0 ≤ n) (h1 : n ≤ 2 ^ 24) (h : ∀ t, Q false { s with toks := t }) : wpAny (model prog w) A (Builtin.List.listLengthHint (.ref it)) Q E s := by
  have ty : s.TypeIs (.ref it) "range_iterator" := ⟨_, ho, rfl⟩
  unfold Builtin.List.listLengthHint
  refine wpAny_bind (wpAny_specialOf ty rit_nolen ?_)
  refine wpAny_ite_split (fun z => absurd z (by decide +kernel)) (fun _ => ?_)
  refine wpAny_ite_split (fun z => absurd z (by decide)) (fun _ => ?_)
  refine wpAny_bind (wpAny_specialOf ty PySem.F.slot_range_iterator_length_hint.lookup ?_)
  generalize hid : ("range_iterator.__length_hint__" : String) = id0
  wp_delta
  rw [show splitId id0 = some ("range_iterator", "__length_hint__") from by subst hid; decide +kernel]
  subst hid
  refine wpAny_bind (wpAny_isInstance (T := "range_iterator") (b := true) ty (by rw [isSubtype_type]; kernel_rfl) ?_)
  refine wpAny_ite_split (fun z => absurd z (by decide)) (fun _ => ?_)
  refine wpAny_ite_split (fun _ => ?_) (fun z => absurd (by decide +kernel) z)
  refine wpAny_ite_split (fun _ => ?_) (fun z => absurd (by decide +kernel) z)
  refine wpAny_bind (rit_left ho fun t => ?_)
  refine wpAny_bind (m := asInt? _) (wpAny_pure ?_)
  have tl : Builtin.List.listTooLong n.toNat = false := by simp [Builtin.List.listTooLong, sizeLine]; omega
  exact wpAny_ite_split (fun z => absurd z (by rw [tl]; decide)) (fun _ => wpAny_pure (h _))
/-- what such an iterator gives, put behind an empty list -/
theorem rit_into {R : Result → Shared → Prop} {it S : Addr} {a c : Int} {n k0 : Nat} (hh : A.handled = none) (ho : IsRangeIter s.heap it a n c) (small : n ≤ 2 ^ 24) (hS : s.heap.get? S = some { cls := .type "list", data := .seq #[] k0 }) (ne : S ≠ it)
    (fin : ∀ (h' : Heap) (tk : Nat) (acc : Array Value) (k : Nat), (∀ b o, b ≠ S → b ≠ it → s.heap.get? b = some o → h'.get? b = some o) → h'.get? S = some { cls := .type "list", dict := none, data := .seq acc k, slots := #[] } →
      ItemsOf (fun i v => ∃ t, v = .int (a + i * c) t) acc n → R (.ok (.ret .none)) { s with heap := h', toks := tk }) :
    wpAny (model prog w) A.in1 (Builtin.List.listExtendWith (.ref S) (.ref it) .none)
      (fun r s' => match r with | .done f => R (.ok f) s' | .again c' => c'.quiet = true ∧ codeAny (model prog w) A c' R s') (fun e s' => R (.error e) s') s := by
  have ty : s.TypeIs (.ref it) "range_iterator" := ⟨_, ho, rfl⟩
  have loop : ∀ (s1 : Shared), s1.gens = s.gens → s1.drawn = s.drawn → s1.os = s.os → (∀ b o, s.heap.get? b = some o → b ≠ S → s1.heap.get? b = some o) → (∃ k, s1.heap.get? S = some { cls := .type "list", data := .seq #[] k }) → codeAny (model prog w) A (.builtin "list.extend.loop" ⟨[.ref S, .ref it, .none], []⟩) R s1 := by
    rintro s1 eg ed eo keep ⟨k, hS1⟩
    have st : IsRangeIter s1.heap it (a + ((0 : Nat) : Int) * c) ((n : Int) - ((0 : Nat) : Int)) c := by
      have := keep it _ ho ne.symm
      simpa using this
    refine codeAny_extend_loopS (Walks.range (prog := prog) (w := w) (A := A.in1) hh it a c n).toS (by rw [sizeLine_eq]; omega) S (by simpa using ne) .none n 0 s1 #[] k rfl (Nat.zero_le _) st hS1 (ItemsOf.nil _) fun s' acc k' mv hS' items => ?_
    have e := mv.eq_with
    have e2 : s' = { s with heap := s'.heap, toks := s'.toks } := by
      rw [e]
      obtain ⟨q1, q2, q3, q4, q5⟩ := s1
      simp only at eg ed eo
      subst eg ed eo
      rfl
    rw [e2]
    refine fin s'.heap s'.toks acc k' (fun b o n1 n2 hb => mv.heap b o (fun m => ?_) (keep b o hb n1)) hS' items
    rcases List.mem_cons.mp m with z | z
    · exact n1 z
    · exact n2 (List.mem_singleton.mp z)
  unfold Builtin.List.listExtendWith
  refine wpAny_bind (wpAny_typeOf ty ?_)
  have n1 : Builtin.List.listSameRef (.ref S) (.ref it) = false := by simp [Builtin.List.listSameRef, ne]
  have n2 : (Value.type "range_iterator" == Value.type "list") = false := by decide
  have n3 : (Value.type "range_iterator" == Value.type "tuple") = false := by decide
  simp only [n1, n2, n3, Bool.or_false, Bool.false_eq_true, if_false]
  refine wpAny_bind (wpAny_pyIter_rangeiter ho ?_)
  refine wpAny_bind (wpAny_holding (rit_hint ho (by omega) (by omega) fun t => ?_))
  refine wpAny_ite_split (fun z => absurd z (by decide)) (fun _ => wpAny_pure ⟨plainId_quiet F.plain_extend_loop _, ?_⟩)
  exact loop { s with toks := t } rfl rfl rfl (fun b o hb _ => hb) ⟨k0, hS⟩
theorem rit_list {Q : Value → Shared → Prop} {it : Addr} {a c : Int} {n : Nat} (hh : A.handled = none) (ho : IsRangeIter s.heap it a n c) (small : n ≤ 2 ^ 24)
    (fin : ∀ (h' : Heap) (tk : Nat) (acc : Array Value) (k : Nat), (∀ b o, b ≠ it → s.heap.get? b = some o → h'.get? b = some o) → h'.get? s.heap.objs.size = some { cls := .type "list", dict := none, data := .seq acc k, slots := #[] } →
      ItemsOf (fun i v => ∃ t, v = .int (a + i * c) t) acc n → Q (.ref s.heap.objs.size) { s with heap := h', toks := tk }) :
    wpAny (model prog w) A (call (.type "list") [.ref it]) Q E s := by
  have lt : it < s.heap.objs.size := Heap.lt_size ho
  refine callType_codes (Q₁ := fun obj s₁ => obj = .ref s.heap.objs.size ∧ s₁ = { s with heap := s.heap.push { cls := .type "list", data := .seq #[] } }) F.called_list (F.typeCall_list_1 _) F.entry_list_init
    (code_list_new _ ⟨rfl, rfl⟩) fun obj s₁ made => ?_
  obtain ⟨rfl, rfl⟩ := made
  have hS : (s.heap.push { cls := .type "list", data := .seq #[] }).get? s.heap.objs.size = some { cls := .type "list", data := .seq #[] } := Heap.get?_push_size _ rfl
  refine ⟨⟨_, hS, rfl⟩, F.args_list_init_2 _ _, ?_⟩
  show wpAny _ _ (do let old ← Builtin.List.listItems (.ref s.heap.objs.size); Builtin.List.listUpdate (.ref s.heap.objs.size) (fun _ => #[]); letGo old.toList.reverse; Builtin.List.listExtendWith (.ref s.heap.objs.size) (.ref it) .none) _ _ _
  refine wpAny_bind ?_
  unfold Builtin.List.listItems
  refine wpAny_bind (wpAny_seqItems hS rfl (wpAny_pure ?_))
  show wpAny _ _ (updateSeq s.heap.objs.size (fun _ => #[]) >>= fun _ => letGo (#[] : Array Value).toList.reverse >>= fun _ => Builtin.List.listExtendWith (.ref s.heap.objs.size) (.ref it) .none) _ _ _
  refine wpAny_bind (wpAny_updateSeq hS rfl ?_)
  have other : ∀ b o, b ≠ s.heap.objs.size → s.heap.get? b = some o → ((s.heap.push { cls := .type "list", data := .seq #[] }).update s.heap.objs.size (Obj.mapSeq (fun _ => (#[] : Array Value)))).get? b = some o :=
    fun b o nb hb => (Heap.get?_update_other _ _ (Ne.symm nb)).trans (Heap.get?_push_of_some _ hb)
  refine wpAny_bind (wpAny_letGo ?_)
  refine rit_into (A := A.in1) hh (other it _ (Nat.ne_of_lt lt) ho) small (Heap.get?_update_self (Obj.mapSeq (fun _ => (#[] : Array Value))) hS rfl) (Nat.ne_of_gt lt) fun h' tk acc k keep hS' items => ?_
  exact ⟨rfl, fin h' tk acc k (fun b o nb hb => keep b o (Nat.ne_of_lt (Heap.lt_size hb)) nb (other b o (Nat.ne_of_lt (Heap.lt_size hb)) hb)) hS' items⟩
end
/-! ### the rule -/
def dnV (a b : Int) : List V := (List.range (b - a).toNat).map fun i => V.int (b - 1 - (i : Nat))
theorem vals_dn {a b : Int} {acc : Array Value} (h : ItemsOf (fun i v => ∃ t, v = .int (a + (((b - a).toNat : Nat) : Int) - 1 + i * (-1)) t) acc (b - a).toNat) : Vals (dnV a b) acc.toList := by
  have hn : (b - a).toNat = acc.toList.length := by rw [Array.length_toList]; exact h.1.symm
  unfold dnV
  rw [hn]
  refine vals_of_get acc.toList _ fun j u hj => ?_
  have hlt : j < acc.toList.length := (List.getElem?_eq_some_iff.mp hj).1
  obtain ⟨t, e⟩ := h.2 j u (by rw [← hj, Array.getElem?_toList])
  refine ⟨t, ?_⟩
  rw [e]
  congr 1
  omega
def LRevOk (a b : Int) (H1 : Hp) (Q : VK) : Prop := RgOk a b ∧ ∀ q, H1 q = none → Q (.ref q) (upd H1 q (.lst (dnV a b)))
def tLstRev (tr : L2.St → Hp → (Int → Int → Hp → Prop) → Prop) : TE := fun σ H Q => tr σ H fun a b H1 => LRevOk a b H1 Q
theorem pe_listRevR {X : Cx} {e : Expr} {tr : L2.St → Hp → (Int → Int → Hp → Prop) → Prop} {p p2 pos pos2 : Pos} (hc : X.calm = true) (hg : Gl X "list") (hm : X.mg "list" = none) (hg2 : Gl X "reversed") (hm2 : X.mg "reversed" = none) (he : PRg X e tr)
    (hs : starEach [e] X.env = (false, eval e X.env) :: starEach [] X.env := by rfl)
    (hs2 : starEach [.Call (.Name "reversed" p2) [e] [] pos2] X.env = (false, eval (.Call (.Name "reversed" p2) [e] [] pos2) X.env) :: starEach [] X.env := by rfl) :
    PE X (.Call (.Name "list" p) [.Call (.Name "reversed" p2) [e] [] pos2] [] pos) (tLstRev tr) := by
  refine ⟨fun pins s σ H Q I h => ?_⟩
  refine Call_ (ld_blt I hg hm PyProof.Rows.boot_list (PyProof.Rows.callWith_type1 (args_cons (Call_ (ld_blt I hg2 hm2 PyProof.Rows.boot_reversed (PyProof.Rows.callWith_type1 (args_cons (thn (he pins s σ H _ I h) fun u s1 hx => args_nil ?_) hs) hs rfl))) hs2) hs2 rfl))
  obtain ⟨r, a, b, t, w1, v, H1, eu, hr, I1, ok, q⟩ := hx
  subst eu
  obtain ⟨b1, b2, b3, b4, b5⟩ := ok
  have hn : Builtin.Range.rangeSize a b 1 = (((b - a).toNat : Nat) : Int) := rangeSize_nat a b
  refine call_reversed_range hr (smallRev_one b1 b2 b3 b4) (args_nil ?_)
  have I2 : L2.Inv X pins σ H1 { s1 with heap := s1.heap.push (rngRevObj a b 1) } := I1.kept (t' := s1.toks) fun b o z => Heap.get?_push_of_some _ z
  have fp : L2.FpOk X pins H1 s1.heap.objs.size := I1.fpOk (Nat.le_refl _) (I1.hok.fresh (Nat.le_refl _))
  have at_ : IsRangeIter (s1.heap.push (rngRevObj a b 1)) s1.heap.objs.size (a + (((b - a).toNat : Nat) : Int) - 1) (((b - a).toNat : Nat) : Int) (-1) := by
    have z : (s1.heap.push (rngRevObj a b 1)).get? s1.heap.objs.size = some (rngRevObj a b 1) := Heap.get?_push_size _ rfl
    have e1 : a + ((((b - a).toNat : Nat) : Int) - 1) * 1 = a + (((b - a).toNat : Nat) : Int) - 1 := by omega
    have eo : rngRevObj a b 1 = { cls := .type "range_iterator", dict := none, data := .fields #[rawInt (a + (((b - a).toNat : Nat) : Int) - 1), rawInt (((b - a).toNat : Nat) : Int), rawInt (-1)], slots := #[] } := by
      unfold rngRevObj
      rw [hn, e1]
    exact z.trans (congrArg some eo)
  refine rit_list (s := { s1 with heap := s1.heap.push (rngRevObj a b 1) }) (n := (b - a).toNat) (I2.ok.hd hc) at_ b5 fun h' tk acc k keep hS items => ?_
  refine ⟨.ref (s1.heap.push (rngRevObj a b 1)).objs.size, upd H1 (s1.heap.push (rngRevObj a b 1)).objs.size (.lst (dnV a b)), I2.turnedNew (t' := tk) (ch := [s1.heap.objs.size]) (fun x o hx ho => keep x o (fun z => hx (by rw [z]; exact List.mem_singleton.mpr rfl)) ho) (fun x hx => by rw [List.mem_singleton.mp hx]; exact fp) (Nat.le_refl _)
    (show ObjOk X.prog X.w _ _ _ (.lst (dnV a b)) from ⟨?_, acc.toList, k, vals_dn items, ?_⟩), rfl, q _ (I2.hok.fresh (Nat.le_refl _))⟩
  · unfold dnV; rw [List.length_map, List.length_range, sizeLine_eq]; omega
  · rw [Array.toArray_toList]; exact hS
theorem g_lrev {tr : L2.St → Hp → (Int → Int → Hp → Prop) → Prop} {σ : L2.St} {H : Hp} {Q : VK} (h : tr σ H fun a b H1 => LRevOk a b H1 Q) : tLstRev tr σ H Q := h
/-- a list of the places a .. b - 1, from the last -/
theorem newDn {a b : Nat} {H : Hp} {Q : VK} (h0 : a ≤ 100000) (h1 : b ≤ 100000) (h : ∀ p H', H p = none → Same H H' → H' p = some (.lst (nI ((List.range (b - a)).map fun i => a + i).reverse)) → Q (.ref p) H') : LRevOk (a : Int) (b : Int) H Q := by
  refine ⟨RgOk.of_le (by omega) (by omega) (by omega) (by omega), fun q nq => h q _ nq (L2.Same.new nq) ?_⟩
  rw [upd_same]
  unfold dnV nI
  rw [show ((b : Int) - (a : Int)).toNat = b - a by omega]
  congr 2
  refine List.ext_getElem? fun j => ?_
  by_cases c : j < b - a
  · rw [List.getElem?_map, List.getElem?_range c, List.getElem?_map, List.getElem?_reverse (by simpa using c), List.length_map, List.length_range, List.getElem?_map, List.getElem?_range (by omega)]
    show some (V.int ((b : Int) - 1 - (j : Int))) = some (V.int ((a + (b - a - 1 - j) : Nat) : Int))
    congr 2
    omega
  · rw [List.getElem?_eq_none (by simp; omega), List.getElem?_eq_none (by simp; omega)]
end Rt
set_option Elab.async false
set_option linter.all false
set_option maxRecDepth 100000
set_option maxHeartbeats 4000000
/-! The mathematics of retinues that nest, of lords and of leaders. -/
namespace Rt
open PySem PySem.Spec L2
theorem tw_at {α : Type} {q : α → Bool} : ∀ {l : List α} {x : α}, x ∈ l.takeWhile q ↔ ∃ k : Nat, l[k]? = some x ∧ ∀ k' : Nat, k' ≤ k → ∀ y, l[k']? = some y → q y = true
  | [], x => by simp
  | a :: l, x => by
    rw [List.takeWhile_cons]
    by_cases c : q a = true
    · rw [if_pos c]
      constructor
      · intro h
        rcases List.mem_cons.mp h with e | h
        · subst e
          refine ⟨0, rfl, fun k' hk y hy => ?_⟩
          have e0 : k' = 0 := by omega
          subst e0
          have e1 : x = y := Option.some.inj hy
          rw [← e1]; exact c
        · obtain ⟨k, h1, h2⟩ := tw_at.mp h
          refine ⟨k + 1, h1, fun k' hk y hy => ?_⟩
          cases k' with
          | zero =>
            have e1 : a = y := Option.some.inj hy
            rw [← e1]; exact c
          | succ k' => exact h2 k' (by omega) y hy
      · rintro ⟨k, h1, h2⟩
        cases k with
        | zero =>
          have e1 : a = x := Option.some.inj h1
          rw [← e1]; exact List.mem_cons_self
        | succ k => exact List.mem_cons_of_mem _ (tw_at.mpr ⟨k, h1, fun k' hk y hy => h2 (k' + 1) (by omega) y hy⟩)
    · rw [if_neg c]
      constructor
      · intro h; cases h
      · rintro ⟨k, h1, h2⟩
        exact absurd (h2 0 (Nat.zero_le _) a rfl) c
/-- q is in the train of p: so many beads on, and all on the way weaker -/
theorem mem_trn {r : Bool} {ss : List Int} {p q : Nat} : q ∈ trn r ss p ↔ ∃ k : Nat, (run r ss.length p)[k]? = some q ∧ ∀ k' : Nat, k' ≤ k → ∀ o, (run r ss.length p)[k']? = some o → ss.getD o 0 < ss.getD p 0 := by
  unfold trn
  rw [tw_at]
  constructor
  · rintro ⟨k, h1, h2⟩
    exact ⟨k, h1, fun k' hk o ho => by have := h2 k' hk o ho; rw [wk_eq] at this; exact of_decide_eq_true this⟩
  · rintro ⟨k, h1, h2⟩
    exact ⟨k, h1, fun k' hk o ho => by rw [wk_eq]; exact decide_eq_true (h2 k' hk o ho)⟩
theorem run_idx {r : Bool} {n p k o : Nat} (hp : p < n) (h : (run r n p)[k]? = some o) : k + 1 < n ∧ ((p + 1 + k < n ∧ o = p + 1 + k) ∨ (r = true ∧ n ≤ p + 1 + k ∧ o + n = p + 1 + k)) := by
  have h1 : k < (run r n p).length := (List.getElem?_eq_some_iff.mp h).1
  have h2 := run_le (r := r) hp
  have hk : k + 1 < n := by omega
  rw [run_at hp hk] at h
  refine ⟨hk, ?_⟩
  by_cases c : p + 1 + k < n
  · rw [if_pos c] at h
    exact Or.inl ⟨c, (Option.some.inj h).symm⟩
  · rw [if_neg c] at h
    by_cases d : r = true
    · rw [if_pos d] at h
      have := Option.some.inj h
      exact Or.inr ⟨d, by omega, by omega⟩
    · rw [if_neg d] at h; cases h
theorem run_get {r : Bool} {n p k o : Nat} (hp : p < n) (hk : k + 1 < n) (h : (p + 1 + k < n ∧ o = p + 1 + k) ∨ (r = true ∧ n ≤ p + 1 + k ∧ o + n = p + 1 + k)) : (run r n p)[k]? = some o := by
  rw [run_at hp hk]
  rcases h with ⟨c, e⟩ | ⟨d, c, e⟩
  · rw [if_pos c, e]
  · rw [if_neg (by omega), if_pos d]; congr 1; omega
/-- the retinue of a bead of the train lies within the train -/
theorem trn_sub {r : Bool} {ss : List Int} {p q x : Nat} (hp : p < ss.length) (hq : q ∈ trn r ss p) (hx : x ∈ trn r ss q) : x ∈ trn r ss p := by
  obtain ⟨i, i1, i2⟩ := mem_trn.mp hq
  obtain ⟨k, k1, k2⟩ := mem_trn.mp hx
  have hql := trn_lt hp q hq
  have wq := i2 i (Nat.le_refl _) q i1
  obtain ⟨a1, a2⟩ := run_idx hp i1
  obtain ⟨b1, b2⟩ := run_idx hql k1
  -- the way round does not reach p
  have short : i + 1 + k + 1 < ss.length := by
    refine Nat.lt_of_not_le fun c => ?_
    have e : (run r ss.length q)[ss.length - 2 - i]? = some p := by
      refine run_get hql (by omega) ?_
      rcases a2 with ⟨c1, c2⟩ | ⟨d, c1, c2⟩
      · refine Or.inr ⟨?_, by omega, by omega⟩
        rcases b2 with ⟨e1, _⟩ | ⟨e1, _⟩
        · omega
        · exact e1
      · exact Or.inl ⟨by omega, by omega⟩
    have := k2 (ss.length - 2 - i) (by omega) p e
    omega
  have comb : ∀ j o, (run r ss.length q)[j]? = some o → j ≤ k → (run r ss.length p)[i + 1 + j]? = some o := by
    intro j o hj hjk
    obtain ⟨d1, d2⟩ := run_idx hql hj
    refine run_get hp (by omega) ?_
    rcases a2 with ⟨c1, c2⟩ | ⟨d, c1, c2⟩ <;> rcases d2 with ⟨e1, e2⟩ | ⟨e0, e1, e2⟩
    · exact Or.inl ⟨by omega, by omega⟩
    · exact Or.inr ⟨e0, by omega, by omega⟩
    · exact Or.inr ⟨d, by omega, by omega⟩
    · omega
  refine mem_trn.mpr ⟨i + 1 + k, comb k x k1 (Nat.le_refl _), fun k' hk' o ho => ?_⟩
  by_cases c : k' ≤ i
  · exact i2 k' c o ho
  · obtain ⟨j, rfl⟩ : ∃ j, k' = i + 1 + j := ⟨k' - (i + 1), by omega⟩
    have hjl : j < (run r ss.length q).length := by
      have := (List.getElem?_eq_some_iff.mp k1).1
      omega
    have hj := List.getElem?_eq_getElem hjl
    have e := comb j _ hj (by omega)
    rw [e] at ho
    have := k2 j (by omega) o (by rw [hj]; exact ho)
    omega
/-- two retinues that meet nest -/
theorem trn_meet {r : Bool} {ss : List Int} {p q x : Nat} (hp : p < ss.length) (hq : q < ss.length) (ne : p ≠ q) (h1 : x ∈ trn r ss p) (h2 : x ∈ trn r ss q) : p ∈ trn r ss q ∨ q ∈ trn r ss p := by
  have half : ∀ {p q : Nat}, p < ss.length → q < ss.length → ∀ {i j : Nat}, (run r ss.length p)[i]? = some x → (∀ k' : Nat, k' ≤ i → ∀ o, (run r ss.length p)[k']? = some o → ss.getD o 0 < ss.getD p 0) → (run r ss.length q)[j]? = some x → j < i → q ∈ trn r ss p := by
    intro p q hp hq i j i1 i2 j1 hlt
    obtain ⟨a1, a2⟩ := run_idx hp i1
    obtain ⟨b1, b2⟩ := run_idx hq j1
    refine mem_trn.mpr ⟨i - j - 1, run_get hp (by omega) ?_, fun k' hk' o ho => i2 k' (by omega) o ho⟩
    rcases a2 with ⟨c1, c2⟩ | ⟨d, c1, c2⟩ <;> rcases b2 with ⟨e1, e2⟩ | ⟨e0, e1, e2⟩
    · exact Or.inl ⟨by omega, by omega⟩
    · omega
    · by_cases c : p + 1 + (i - j - 1) < ss.length
      · exact Or.inl ⟨c, by omega⟩
      · exact Or.inr ⟨d, by omega, by omega⟩
    · exact Or.inl ⟨by omega, by omega⟩
  obtain ⟨i, i1, i2⟩ := mem_trn.mp h1
  obtain ⟨j, j1, j2⟩ := mem_trn.mp h2
  rcases Nat.lt_trichotomy i j with c | c | c
  · exact Or.inl (half hq hp j1 j2 i1 c)
  · subst c
    obtain ⟨a1, a2⟩ := run_idx hp i1
    obtain ⟨b1, b2⟩ := run_idx hq j1
    exact absurd (by omega) ne
  · exact Or.inr (half hp hq i1 i2 j1 c)
theorem trn_self {r : Bool} {ss : List Int} {p : Nat} (hp : p < ss.length) : p ∉ trn r ss p := fun h => by
  obtain ⟨k, h1, h2⟩ := mem_trn.mp h
  have := h2 k (Nat.le_refl _) p h1
  omega
/-- what lies before a place, the nearest first -/
def bef (r : Bool) (n p : Nat) : List Nat := (List.range p).reverse ++ (if r = true then ((List.range (n - (p + 1))).map fun i => p + 1 + i).reverse else [])
theorem rev_at {n i : Nat} (h : i < n) : (List.range n).reverse[i]? = some (n - 1 - i) := by
  rw [List.getElem?_reverse (by simpa using h), List.length_range, List.getElem?_range (by omega)]
theorem bef_at {r : Bool} {n p i : Nat} (hp : p < n) (hi : i + 1 < n) : (bef r n p)[i]? = if i < p then some (p - 1 - i) else if r = true then some (p + n - 1 - i) else none := by
  unfold bef
  by_cases c : i < p
  · rw [if_pos c, List.getElem?_append_left (by simpa using c), rev_at c]
  · rw [if_neg c, List.getElem?_append_right (by simp; omega), List.length_reverse, List.length_range]
    by_cases d : r = true
    · rw [if_pos d, if_pos d, List.getElem?_reverse (by simp; omega), List.length_map, List.length_range, List.getElem?_map, List.getElem?_range (by omega)]
      show some (p + 1 + _) = _
      congr 1; omega
    · rw [if_neg d, if_neg d]; rfl
theorem bef_len {r : Bool} {n p : Nat} (hp : p < n) : (bef r n p).length = if r = true then n - 1 else p := by
  unfold bef
  rw [List.length_append, List.length_reverse, List.length_range]
  by_cases d : r = true
  · rw [if_pos d, if_pos d, List.length_reverse, List.length_map, List.length_range]; omega
  · rw [if_neg d, if_neg d]; rfl
theorem bef_lt {r : Bool} {n p i o : Nat} (hp : p < n) (h : (bef r n p)[i]? = some o) : i + 1 < n ∧ o < n := by
  have h1 := (List.getElem?_eq_some_iff.mp h).1
  rw [bef_len hp] at h1
  have hi : i + 1 < n := by split at h1 <;> omega
  rw [bef_at hp hi] at h
  refine ⟨hi, ?_⟩
  split at h
  · have := Option.some.inj h; omega
  · split at h
    · have := Option.some.inj h; omega
    · cases h
/-- the nearest stronger one before: the nearest whose train holds the place -/
theorem lord_step {r : Bool} {ss : List Int} {p i o : Nat} (hp : p < ss.length) (h : (bef r ss.length p)[i]? = some o) (weak : ∀ j : Nat, j < i → ∀ y, (bef r ss.length p)[j]? = some y → ss.getD y 0 ≤ ss.getD p 0) :
    p ∈ trn r ss o ↔ ss.getD p 0 < ss.getD o 0 := by
  obtain ⟨hi, ho⟩ := bef_lt hp h
  have hb := h
  rw [bef_at hp hi] at hb
  have back : ∀ k, k < i → ∀ y, (run r ss.length o)[k]? = some y → (bef r ss.length p)[i - 1 - k]? = some y := by
    intro k hk y hy
    obtain ⟨k1, k2⟩ := run_idx ho hy
    rw [bef_at hp (by omega)]
    split at hb
    · have e := Option.some.inj hb
      rw [if_pos (by omega)]
      congr 1
      rcases k2 with ⟨_, e2⟩ | ⟨_, e1, _⟩ <;> omega
    · split at hb
      · rename_i c1 c2
        have e := Option.some.inj hb
        by_cases c : i - 1 - k < p
        · rw [if_pos c]
          congr 1
          rcases k2 with ⟨e1, e2⟩ | ⟨_, e1, e2⟩ <;> omega
        · rw [if_neg c, if_pos c2]
          congr 1
          rcases k2 with ⟨e1, e2⟩ | ⟨_, e1, e2⟩ <;> omega
      · cases hb
  have fwd : (run r ss.length o)[i]? = some p := by
    refine run_get ho hi ?_
    split at hb
    · have e := Option.some.inj hb
      exact Or.inl ⟨by omega, by omega⟩
    · split at hb
      · rename_i c1 c2
        have e := Option.some.inj hb
        exact Or.inr ⟨c2, by omega, by omega⟩
      · cases hb
  constructor
  · intro hm
    exact of_decide_eq_true (tw_mem (q := wk ss o) hm)
  · intro hs
    refine mem_trn.mpr ⟨i, fwd, fun k' hk' y hy => ?_⟩
    by_cases c : k' < i
    · have := weak (i - 1 - k') (by omega) y (back k' c y hy)
      omega
    · have e : k' = i := by omega
      subst e
      rw [fwd] at hy
      have := Option.some.inj hy
      subst this; exact hs
def lrd (r : Bool) (ss : List Int) (p : Nat) : Option Nat := (bef r ss.length p).find? fun o => decide (ss.getD p 0 < ss.getD o 0)
theorem find_at {α : Type} {q : α → Bool} : ∀ {l : List α} {i : Nat} {x : α}, l[i]? = some x → q x = true → (∀ j : Nat, j < i → ∀ y, l[j]? = some y → q y = false) → l.find? q = some x
  | [], i, x, h, _, _ => by simp at h
  | a :: l, 0, x, h, hx, _ => by
    have e : a = x := Option.some.inj h
    subst e
    rw [List.find?_cons, hx]
  | a :: l, i + 1, x, h, hx, hb => by
    rw [List.find?_cons, hb 0 (Nat.zero_lt_succ _) a rfl]
    exact find_at (l := l) (i := i) h hx fun j hj y hy => hb (j + 1) (by omega) y hy
theorem find_no {α : Type} {q : α → Bool} {l : List α} (h : ∀ j : Nat, j < l.length → ∀ y, l[j]? = some y → q y = false) : l.find? q = none := by
  rw [List.find?_eq_none]
  intro x hx
  obtain ⟨i, hi, e⟩ := List.mem_iff_getElem.mp hx
  have := h i hi x (by rw [List.getElem?_eq_getElem hi, e])
  rw [this]; decide
theorem lrd_some {r : Bool} {ss : List Int} {p o : Nat} (hp : p < ss.length) (h : lrd r ss p = some o) : o < ss.length ∧ ss.getD p 0 < ss.getD o 0 := by
  have h1 := List.find?_some h
  have h2 := List.mem_of_find?_eq_some h
  obtain ⟨i, hi, e⟩ := List.mem_iff_getElem.mp h2
  exact ⟨(bef_lt hp (i := i) (by rw [List.getElem?_eq_getElem hi, e])).2, of_decide_eq_true h1⟩
theorem lrd_none_ring {ss : List Int} {p o : Nat} (hp : p < ss.length) (h : lrd true ss p = none) (ho : o < ss.length) : ss.getD o 0 ≤ ss.getD p 0 := by
  by_cases e : o = p
  · rw [e]; exact Int.le_refl _
  · unfold lrd at h
    rw [List.find?_eq_none] at h
    have hm : o ∈ bef true ss.length p := by
      unfold bef
      rw [if_pos rfl]
      refine List.mem_append.mpr ?_
      by_cases c : o < p
      · exact Or.inl (List.mem_reverse.mpr (List.mem_range.mpr c))
      · refine Or.inr (List.mem_reverse.mpr (List.mem_map.mpr ⟨o - (p + 1), List.mem_range.mpr (by omega), by omega⟩))
    have := h o hm
    simp at this
    exact this
/-- how many are stronger -/
def up (ss : List Int) (p : Nat) : Nat := ((List.range ss.length).filter fun o => decide (ss.getD p 0 < ss.getD o 0)).length
theorem filter_lt {α : Type} {q s : α → Bool} : ∀ {l : List α} {x : α}, (∀ y ∈ l, q y = true → s y = true) → x ∈ l → s x = true → q x = false → (l.filter q).length < (l.filter s).length
  | [], x, _, hx, _, _ => by cases hx
  | a :: l, x, h, hx, h1, h2 => by
    have mono : ∀ (m : List α), (∀ y ∈ m, q y = true → s y = true) → (m.filter q).length ≤ (m.filter s).length := by
      intro m
      induction m with
      | nil => intro _; exact Nat.le_refl _
      | cons b m ih =>
        intro hm
        have := ih fun y hy => hm y (List.mem_cons_of_mem _ hy)
        rw [List.filter_cons, List.filter_cons]
        by_cases c : q b = true
        · rw [if_pos c, if_pos (hm b List.mem_cons_self c), List.length_cons, List.length_cons]; omega
        · rw [if_neg c]
          split
          · rw [List.length_cons]; omega
          · exact this
    have hl : ∀ y ∈ l, q y = true → s y = true := fun y hy => h y (List.mem_cons_of_mem _ hy)
    rcases List.mem_cons.mp hx with e | e
    · subst e
      rw [List.filter_cons, List.filter_cons, h2, h1, if_neg Bool.false_ne_true, if_pos rfl, List.length_cons]
      have := mono l hl
      omega
    · have := filter_lt hl e h1 h2
      rw [List.filter_cons, List.filter_cons]
      by_cases c : q a = true
      · rw [if_pos c, if_pos (h a List.mem_cons_self c), List.length_cons, List.length_cons]; omega
      · rw [if_neg c]
        split
        · rw [List.length_cons]; omega
        · exact this
theorem up_lt {ss : List Int} {p o : Nat} (ho : o < ss.length) (h : ss.getD p 0 < ss.getD o 0) : up ss o < up ss p := by
  unfold up
  refine filter_lt (x := o) (fun y _ hy => ?_) (List.mem_range.mpr ho) (decide_eq_true h) (decide_eq_false (by omega))
  have := of_decide_eq_true hy
  exact decide_eq_true (by omega)
theorem up_le {ss : List Int} {p : Nat} (hp : p < ss.length) : up ss p + 1 ≤ ss.length := by
  have h := filter_lt (q := fun o => decide (ss.getD p 0 < ss.getD o 0)) (s := fun _ => true) (l := List.range ss.length) (x := p) (fun _ _ _ => rfl) (List.mem_range.mpr hp) rfl (decide_eq_false (by omega))
  rw [List.filter_eq_self.mpr (fun _ _ => rfl), List.length_range] at h
  exact h
end Rt
set_option Elab.async false
set_option linter.all false
set_option maxRecDepth 100000
set_option maxHeartbeats 4000000
/-! Lists of any values built over a range or an enumeration; in, max, enumerate with the written part named. -/
namespace Rt
open PySem PySem.Spec L2
theorem lc_rangeV {lo : Int} {n : Nat} {g : TG} {te : TE} {vs : List Nat} {σ : L2.St} {H1 : Hp} {D : Addr} {Qd : Hp → Prop} (f : Nat → V) (hD : H1 D = none) (sz : n ≤ 100000)
    (turn : ∀ (i : Nat) (H' : Hp), i < n → Same H1 H' → ∀ Q : VK, (∀ H2, Same H' H2 → Q (f i) H2) → g (.int (lo + i)) (wipe σ vs) H' fun σ2 H2 => wipe σ2 vs = wipe σ vs ∧ te σ2 H2 Q)
    (done : ∀ H', Same H1 H' → H' D = some (.lst ((List.range n).map f)) → Qd H') :
    ∃ W : Nat → Nat → Hp → Prop, (∃ m, W 0 m (upd H1 D (.lst []))) ∧ ∀ i m H, W i m H →
      ((Itr lo n).stop i H ∧ Qd H) ∨ ((Itr lo n).go i H ∧ ∃ Nx : Hp → Prop, (∀ H', Nx H' → ∃ m', m' < m ∧ W (i + 1) m' H') ∧ ∀ x H', (Itr lo n).yld i H x H' → g x (wipe σ vs) H' fun σ2 H2 => wipe σ2 vs = wipe σ vs ∧ tYes σ2 H2 fun b H3 =>
        if b = true then te σ2 H3 fun y H4 => ∃ acc, H4 D = some (.lst acc) ∧ acc.length < sizeLine ∧ Nx (upd H4 D (.lst (acc ++ [y]))) else Nx H3) := by
  refine lc_range (fun i H' => Same H1 H' ∧ H' D = some (.lst ((List.range i).map f))) ⟨Same.new hD, upd_same⟩ ?_ ?_
  · rintro i H' hi ⟨S1, hd⟩
    refine turn i H' hi S1 _ fun H2 S2 => ⟨_, S2 _ _ hd, ?_, (S1.trans S2).mut hD, ?_⟩
    · rw [List.length_map, List.length_range]; exact slt1000 (by omega)
    · rw [upd_same, List.range_succ, List.map_append]; rfl
  · rintro H' ⟨S1, hd⟩
    exact done H' S1 hd
theorem lc_enum {K : PySem.W.Frag} {a : Addr} {xs : List V} {g : TG} {tt : TT} {te : TE} {vs : List Nat} {σ : L2.St} {H1 : Hp} {D : Addr} {Qd : Hp → Prop} (Pv : Nat → Hp → Prop) (h0 : Pv 0 (upd H1 D (.lst []))) (hl : ∀ i H, Pv i H → SqL K H a xs)
    (turn : ∀ (i : Nat) (x : V) (T : Addr) (H : Hp), xs[i]? = some x → Pv i H → H T = none → g (.ref T) (wipe σ vs) (upd H T (.tup [.int (i : Nat), x])) fun σ2 H2 => wipe σ2 vs = wipe σ vs ∧ tt σ2 H2 fun b H3 =>
      if b = true then te σ2 H3 fun y H4 => ∃ acc, H4 D = some (.lst acc) ∧ acc.length < sizeLine ∧ Pv (i + 1) (upd H4 D (.lst (acc ++ [y]))) else Pv (i + 1) H3) (done : ∀ H, Pv xs.length H → Qd H) :
    ∃ W : Nat → Nat → Hp → Prop, (∃ m, W 0 m (upd H1 D (.lst []))) ∧ ∀ i m H, W i m H →
      ((Ite K a).stop i H ∧ Qd H) ∨ ((Ite K a).go i H ∧ ∃ Nx : Hp → Prop, (∀ H', Nx H' → ∃ m', m' < m ∧ W (i + 1) m' H') ∧ ∀ x H', (Ite K a).yld i H x H' → g x (wipe σ vs) H' fun σ2 H2 => wipe σ2 vs = wipe σ vs ∧ tt σ2 H2 fun b H3 =>
        if b = true then te σ2 H3 fun y H4 => ∃ acc, H4 D = some (.lst acc) ∧ acc.length < sizeLine ∧ Nx (upd H4 D (.lst (acc ++ [y]))) else Nx H3) := by
  refine ⟨fun i m H => i + m = xs.length ∧ Pv i H, ⟨xs.length, Nat.zero_add _, h0⟩, fun i m H w => ?_⟩
  have sq := hl i H w.2
  cases m with
  | zero =>
    have e : i = xs.length := w.1
    exact Or.inl ⟨⟨xs, sq, by omega⟩, done H (by rw [← e]; exact w.2)⟩
  | succ m =>
    have lt : i < xs.length := by have := w.1; omega
    refine Or.inr ⟨⟨xs, xs[i], sq, List.getElem?_eq_getElem lt⟩, Pv (i + 1), fun H' z => ⟨m, Nat.lt_succ_self m, by have := w.1; omega, z⟩, fun x H' y => ?_⟩
    obtain ⟨T, v, e1, e2, e3, e4⟩ := y
    rw [e1, e3]
    exact turn i v T H (e4 xs sq) w.2 e2
theorem g_enum {σ : L2.St} {H : Hp} {K : PySem.W.Frag} {ta : TA} {R : It → Hp → Prop} (h : ta σ H fun vs H1 => ∃ a xs, vs = [.ref a] ∧ SqL K H1 a xs ∧ R (Ite K a) H1) : iEnum K ta σ H R := h
section
variable {X : Cx} (K : PySem.W.Frag)
theorem op_inK (h : X.K = K := by rfl) : OpR X (compareOp .In) (rIn K false) := by subst h; exact op_in_seq
theorem cr_maxK (hc : X.calm = true) (h : X.K = K := by rfl) : CallR X (.builtin "max") (rMax K) := by subst h; exact cr_max hc
theorem pi_enumK {e : Expr} {ta : TA} {p pos tpos : Pos} {elts : List Expr} {kk : Nat} (hg : Gl X "enumerate") (hm : X.mg "enumerate" = none) (ha : PA X [e] ta) (hs : starEach [e] X.env = [(false, eval e X.env)] := by rfl) (h : X.K = K := by rfl) :
    PI X (.Tuple elts kk tpos) (.Call (.Name "enumerate" p) [e] [] pos) (iEnum K ta) := by subst h; exact pi_enum hg hm ha hs
end
theorem all_flat : ∀ os : List Nat, (nI os).all flatV = true
  | [] => rfl
  | o :: os => by
    show (flatV (V.int (o : Int)) && (nI os).all flatV) = true
    rw [all_flat os]; rfl
theorem inV_nI {q : Nat} : ∀ os : List Nat, inV (V.int (q : Int)) (nI os) = decide (q ∈ os)
  | [] => rfl
  | o :: os => by
    have ih := inV_nI (q := q) os
    unfold inV nI at ih ⊢
    rw [List.map_cons, List.any_cons, ih]
    show (((o : Int) == (q : Int)) || decide (q ∈ os)) = decide (q ∈ o :: os)
    by_cases c : o = q
    · subst c; simp
    · have c2 : ¬ (o : Int) = (q : Int) := by omega
      have c3 : ((o : Int) == (q : Int)) = false := by simpa using c2
      rw [c3, Bool.false_or]
      have c4 : ¬ q = o := fun z => c z.symm
      simp [c4]
theorem g_inI {K : PySem.W.Frag} {H : Hp} {Q : VK} {a : Addr} {os : List Nat} {q : Nat} (h : H a = some (.lst (nI os))) (hq : Q (.bl (decide (q ∈ os))) H) : rIn K false (.int (q : Int)) (.ref a) H Q :=
  ⟨a, _, rfl, .inl (SqL.of h), rfl, all_flat os, by rw [inV_nI]; exact hq⟩
theorem nI_at {os : List Nat} {i : Nat} {x : V} (h : (nI os)[i]? = some x) : ∃ o : Nat, os[i]? = some o ∧ x = V.int (o : Int) := by
  unfold nI at h
  rw [List.getElem?_map] at h
  cases e : os[i]? with
  | none => rw [e] at h; cases h
  | some o => rw [e] at h; exact ⟨o, rfl, (Option.some.inj h).symm⟩
theorem oV_non {x : Option Nat} : decide (oV x = V.non) = x.isNone := by
  cases x with
  | none => exact decide_eq_true rfl
  | some o => exact decide_eq_false (fun z => by cases z)
theorem g_and2 {c d : Bool} {uu : TT} {σ : L2.St} {H : Hp} {QT : Bool → Hp → Prop} (hu : ∀ Q : Bool → Hp → Prop, Q d H → uu σ H Q) (h : QT (c && d) H) : if c = true then uu σ H QT else QT false H := by
  cases c with
  | true => exact hu QT h
  | false => exact h
theorem g_or2 {c d : Bool} {tb : TE} {σ : L2.St} {H : Hp} {Q : VK} (hu : ∀ Q : VK, Q (.bl d) H → tb σ H Q) (h : Q (.bl (c || d)) H) : if c = true then Q (.bl true) H else tb σ H Q := by
  cases c with
  | true => exact h
  | false => exact hu Q h
theorem ite_blV {b m n : Bool} : (if b = true then V.bl m else V.bl n) = V.bl (if b = true then m else n) := by cases b <;> rfl
def flV (r : Bool) (ss : List Int) (i : Nat) : List V := (List.range ss.length).map fun at' => V.bl (decide (at' ∈ trn r ss i))
theorem flV_at {r : Bool} {ss : List Int} {i x : Nat} (hx : x < ss.length) : (flV r ss i)[x]? = some (.bl (decide (x ∈ trn r ss i))) := by
  unfold flV; rw [List.getElem?_map, List.getElem?_range hx]; rfl
def FlP (H : Hp) (r : Bool) (ss : List Int) (fa : Addr) (xs : List V) (i : Nat) : Prop := xs.length = i ∧ ∀ j : Nat, j < i → ∃ t : Addr, xs[j]? = some (V.ref t) ∧ t ≠ fa ∧ H t = some (.lst (flV r ss j))
theorem FlP.mono {H H' : Hp} {r : Bool} {ss : List Int} {fa : Addr} {xs : List V} {i : Nat} (h : FlP H r ss fa xs i) (S : Same H H') : FlP H' r ss fa xs i := ⟨h.1, fun j hj => let ⟨t, a, n, b⟩ := h.2 j hj; ⟨t, a, n, S _ _ b⟩⟩
theorem FlP.upd {H : Hp} {r : Bool} {ss : List Int} {fa : Addr} {xs : List V} {i : Nat} {o : HO} (h : FlP H r ss fa xs i) : FlP (upd H fa o) r ss fa xs i := ⟨h.1, fun j hj => let ⟨t, a, n, b⟩ := h.2 j hj; ⟨t, a, n, by rw [upd_ne n]; exact b⟩⟩
theorem FlP.more {H : Hp} {r : Bool} {ss : List Int} {fa : Addr} {xs : List V} {i : Nat} {t : Addr} (h : FlP H r ss fa xs i) (n : t ≠ fa) (ht : H t = some (.lst (flV r ss i))) : FlP H r ss fa (xs ++ [V.ref t]) (i + 1) := by
  refine ⟨by rw [List.length_append, h.1]; rfl, fun j hj => ?_⟩
  by_cases c : j < i
  · obtain ⟨u, a, m, b⟩ := h.2 j c
    exact ⟨u, by rw [List.getElem?_append_left (by rw [h.1]; exact c)]; exact a, m, b⟩
  · have e : j = i := by omega
    subst e
    exact ⟨t, by rw [List.getElem?_append_right (by rw [h.1]; exact Nat.le_refl _), h.1, Nat.sub_self]; rfl, n, ht⟩
end Rt
set_option Elab.async false
set_option linter.all false
set_option maxRecDepth 100000
set_option maxHeartbeats 4000000
/-! The mathematics of what a bead could have been before its last waking (k29). -/
namespace Rt
open PySem PySem.Spec L2
/-- the train of the bead at p, were its strength c, ring or row -/
def tkr (r : Bool) (ss : List Int) (p : Nat) (c : Int) : List Nat := (run r ss.length p).takeWhile fun o => decide (ss.getD o 0 < c)
def wr (r : Bool) (ss ls : List Int) (p : Nat) (c : Int) : Int := ls.getD p 0 + sm ls (tkr r ss p c)
theorem trn_set {r : Bool} {ss : List Int} {p : Nat} {c : Int} (hp : p < ss.length) : trn r (ss.set p c) p = tkr r ss p c := by
  unfold trn tkr
  rw [List.length_set]
  refine tw_congr fun o ho => ?_
  have ne : o ≠ p := fun e => by
    obtain ⟨i, hi, e2⟩ := List.mem_iff_getElem.mp ho
    have := run_idx hp (k := i) (o := o) (by rw [List.getElem?_eq_getElem hi, e2])
    omega
  rw [wk_eq, getD_set hp, getD_set hp, if_neg ne, if_pos rfl]
theorem rch_set {r : Bool} {ss ls : List Int} {p : Nat} {c : Int} (hp : p < ss.length) : rch r (ss.set p c) ls p = wr r ss ls p c := by
  unfold rch wr
  rw [trn_set hp]; rfl
/-- lengths are positive: a greater beginning has a greater sum -/
theorem sm_take_lt {ls : List Int} {l : List Nat} (h : ∀ o ∈ l, 1 ≤ ls.getD o 0) {i j : Nat} (hij : i < j) (hj : j ≤ l.length) : sm ls (l.take i) < sm ls (l.take j) := by
  induction j with
  | zero => omega
  | succ j ih =>
    have hjl : j < l.length := by omega
    have e : l.take (j + 1) = l.take j ++ [l[j]] := take_more (List.getElem?_eq_getElem hjl)
    have p1 := h _ (List.getElem_mem hjl)
    rw [e, sm_app]
    have e2 : sm ls [l[j]] = ls.getD l[j] 0 := by rw [sm_cons]; unfold sm; simp
    rw [e2]
    by_cases c : i = j
    · subst c; omega
    · have := ih (by omega) (by omega)
      omega
/-- the reach is so much exactly if the train has so many beads -/
theorem wr_iff {r : Bool} {ss ls : List Int} {p k : Nat} {c f : Int} (pos : ∀ o ∈ run r ss.length p, 1 ≤ ls.getD o 0) (hk : k ≤ (run r ss.length p).length) (hf : f = ls.getD p 0 + sm ls ((run r ss.length p).take k)) : wr r ss ls p c = f ↔ (tkr r ss p c).length = k := by
  have ht : tkr r ss p c = (run r ss.length p).take (tkr r ss p c).length := tw_take
  have hl : (tkr r ss p c).length ≤ (run r ss.length p).length := (List.takeWhile_sublist _).length_le
  unfold wr
  rw [hf]
  constructor
  · intro h
    rcases Nat.lt_trichotomy (tkr r ss p c).length k with d | d | d
    · have := sm_take_lt pos d hk
      rw [← ht] at this; omega
    · exact d
    · have := sm_take_lt pos d hl
      rw [← ht] at this; omega
  · intro h
    rw [← h, ← ht]
/-- the train has so many beads exactly if the first so many are weaker, and the next one is not -/
theorem tkr_iff {r : Bool} {ss : List Int} {p k : Nat} {c : Int} (hk : k ≤ (run r ss.length p).length) : (tkr r ss p c).length = k ↔ (∀ o ∈ (run r ss.length p).take k, ss.getD o 0 < c) ∧ ∀ o, (run r ss.length p)[k]? = some o → c ≤ ss.getD o 0 := by
  constructor
  · intro h
    refine ⟨fun o ho => ?_, fun o ho => ?_⟩
    · have e : (run r ss.length p).take k = tkr r ss p c := by rw [← h]; exact tw_take.symm
      rw [e] at ho
      exact of_decide_eq_true (tw_mem (q := fun o => decide (ss.getD o 0 < c)) ho)
    · rw [← h] at ho
      have := of_decide_eq_false (tw_next (q := fun o => decide (ss.getD o 0 < c)) ho)
      omega
  · rintro ⟨h1, h2⟩
    have ge := tw_ge (q := fun o => decide (ss.getD o 0 < c)) hk fun o ho => decide_eq_true (h1 o ho)
    refine Nat.le_antisymm (Nat.le_of_not_lt fun d => ?_) ge
    have hd : k < (run r ss.length p).length := Nat.lt_of_lt_of_le d (List.takeWhile_sublist _).length_le
    have e := List.getElem?_eq_getElem hd
    have m : (run r ss.length p)[k] ∈ tkr r ss p c := by
      have ht : tkr r ss p c = (run r ss.length p).take (tkr r ss p c).length := tw_take
      rw [ht]
      exact List.mem_iff_getElem?.mpr ⟨k, by rw [List.getElem?_take_of_lt d, e]⟩
    have a := of_decide_eq_true (tw_mem (q := fun o => decide (ss.getD o 0 < c)) m)
    have b := h2 _ e
    omega
end Rt
set_option Elab.async false
set_option linter.all false
set_option maxRecDepth 100000
set_option maxHeartbeats 4000000
/-! The mathematics of rounds: no strength falls after round 1, changes have no gaps, all ends after as many rounds as there are beads. -/
namespace Rt
open PySem PySem.Spec L2
variable {r : Bool} {ss ls : List Int} {p q : Nat}
def rnd (r : Bool) (ls ss : List Int) : List Int := (List.range ss.length).map fun p => rch r ss ls p
theorem rnd_len : (rnd r ls ss).length = ss.length := by unfold rnd; rw [List.length_map, List.length_range]
theorem rnd_at (hp : p < ss.length) : (rnd r ls ss).getD p 0 = rch r ss ls p := by
  unfold rnd
  rw [List.getD_eq_getElem?_getD, List.getElem?_map, List.getElem?_range hp]; rfl
def row (r : Bool) (ls ss : List Int) : Nat → List Int
  | 0 => ss
  | k + 1 => rnd r ls (row r ls ss k)
theorem row_len : ∀ k : Nat, (row r ls ss k).length = ss.length
  | 0 => rfl
  | k + 1 => by
    show (rnd r ls (row r ls ss k)).length = _
    rw [rnd_len, row_len k]
theorem run_nd {n : Nat} (hp : p < n) : (run r n p).Nodup := by
  unfold run
  refine List.nodup_append.mpr ⟨List.pairwise_map.mpr (List.nodup_range.imp fun {a b} h z => h (by omega)), ?_, fun a ha b hb => ?_⟩
  · cases r
    · exact List.nodup_nil
    · exact List.nodup_range
  · obtain ⟨i, hi, rfl⟩ := List.mem_map.mp ha
    cases r
    · cases hb
    · have := List.mem_range.mp hb
      omega
theorem trn_nd (hp : p < ss.length) : (trn r ss p).Nodup := (run_nd hp).sublist (List.takeWhile_sublist _)
theorem sm_perm {a b : List Nat} (h : a.Perm b) : sm ls a = sm ls b := by
  induction h with
  | nil => rfl
  | cons x _ ih => rw [sm_cons, sm_cons, ih]
  | swap x y l => rw [sm_cons, sm_cons, sm_cons, sm_cons]; omega
  | trans _ _ i1 i2 => exact i1.trans i2
theorem sm_ge0 : ∀ b : List Nat, (∀ x ∈ b, 0 ≤ ls.getD x 0) → 0 ≤ sm ls b
  | [], _ => by unfold sm; simp
  | x :: b, h => by
    rw [sm_cons]
    have := sm_ge0 b fun y hy => h y (List.mem_cons_of_mem _ hy)
    have := h x List.mem_cons_self
    omega
theorem sm_sub : ∀ (a b : List Nat), a.Nodup → (∀ x ∈ a, x ∈ b) → (∀ x ∈ b, 0 ≤ ls.getD x 0) → sm ls a ≤ sm ls b
  | [], b, _, _, h => by
    have := sm_ge0 (ls := ls) b h
    show (([] : List Nat).map fun o => ls.getD o 0).sum ≤ _
    simpa using this
  | x :: a, b, nd, sub, h => by
    have hx := sub x List.mem_cons_self
    have nd' := List.nodup_cons.mp nd
    rw [sm_perm (List.perm_cons_erase hx), sm_cons, sm_cons]
    have := sm_sub a (b.erase x) nd'.2 (fun y hy => (List.mem_erase_of_ne (fun z => nd'.1 (by rw [← z]; exact hy))).mpr (sub y (List.mem_cons_of_mem _ hy))) (fun y hy => h y (List.mem_of_mem_erase hy))
    omega
theorem rch_eq : rch r ss ls p = ls.getD p 0 + sm ls (trn r ss p) := rfl
/-- a bead of the train has less, by the length of the bead -/
theorem rch_in (P : Pos' ss ls) (hp : p < ss.length) (h : q ∈ trn r ss p) : rch r ss ls q + ls.getD p 0 ≤ rch r ss ls p := by
  have hq := trn_lt hp q h
  have := sm_sub (ls := ls) (q :: trn r ss q) (trn r ss p) (List.nodup_cons.mpr ⟨trn_self hq, trn_nd hq⟩) (fun x hx => by
    rcases List.mem_cons.mp hx with z | z
    · rw [z]; exact h
    · exact trn_sub hp h z) (fun x hx => by have := P.pos x (trn_lt hp x hx); omega)
  rw [sm_cons] at this
  rw [rch_eq, rch_eq]
  omega
/-- how many beads the train has -/
def tl (r : Bool) (ss : List Int) (p : Nat) : Nat := (trn r ss p).length
/-- the length of a bead and the first k of its run -/
def sk (r : Bool) (ls : List Int) (n p k : Nat) : Int := ls.getD p 0 + sm ls ((run r n p).take k)
theorem trn_tk : trn r ss p = (run r ss.length p).take (tl r ss p) := tw_take
theorem rch_sk : rch r ss ls p = sk r ls ss.length p (tl r ss p) := by
  rw [rch_eq]
  unfold sk
  rw [← trn_tk]
theorem tl_le : tl r ss p ≤ (run r ss.length p).length := trn_len
theorem sk_lt (P : Pos' ss ls) (hp : p < ss.length) {i j : Nat} (h : i < j) (hj : j ≤ (run r ss.length p).length) : sk r ls ss.length p i < sk r ls ss.length p j := by
  unfold sk
  have := sm_take_lt (ls := ls) (l := run r ss.length p) (fun o ho => P.pos o (run_lt hp o ho)) h hj
  omega
theorem Pos'.rnd {ss ls : List Int} (r : Bool) (P : Pos' ss ls) : Pos' (rnd r ls ss) ls := ⟨by rw [rnd_len]; exact P.len, by rw [rnd_len]; exact P.pos⟩
theorem Pos'.row {ss ls : List Int} (r : Bool) (P : Pos' ss ls) (k : Nat) : Pos' (row r ls ss k) ls := ⟨by rw [row_len]; exact P.len, by rw [row_len]; exact P.pos⟩
theorem rnd_in (P : Pos' ss ls) (hp : p < ss.length) (h : q ∈ trn r ss p) : (rnd r ls ss).getD q 0 < (rnd r ls ss).getD p 0 := by
  have hq := trn_lt hp q h
  rw [rnd_at hq, rnd_at hp]
  have := rch_in P hp h
  have := P.pos p hp
  omega
/-- after a round no train is shorter -/
theorem tl_up (P : Pos' ss ls) (hp : p < ss.length) : tl r ss p ≤ tl r (rnd r ls ss) p := by
  have e : trn r (rnd r ls ss) p = (run r ss.length p).takeWhile (wk (rnd r ls ss) p) := by unfold trn; rw [rnd_len]
  unfold tl
  rw [e]
  refine tw_ge trn_len fun x hx => ?_
  have e2 : (run r ss.length p).take (trn r ss p).length = trn r ss p := trn_tk.symm
  rw [e2] at hx
  exact decide_eq_true (rnd_in P hp hx)
theorem tl_row (P : Pos' ss ls) (hp : p < ss.length) (k : Nat) : tl r (row r ls ss k) p ≤ tl r (row r ls ss (k + 1)) p := tl_up (P.row r k) (by rw [row_len]; exact hp)
theorem row_at (hp : p < ss.length) (k : Nat) : (row r ls ss (k + 1)).getD p 0 = sk r ls ss.length p (tl r (row r ls ss k) p) := by
  show (rnd r ls (row r ls ss k)).getD p 0 = _
  rw [rnd_at (by rw [row_len]; exact hp), rch_sk, row_len]
/-- no strength falls after round 1 -/
theorem row_le (P : Pos' ss ls) (hp : p < ss.length) (k : Nat) : (row r ls ss (k + 1)).getD p 0 ≤ (row r ls ss (k + 2)).getD p 0 := by
  rw [row_at hp, row_at hp]
  rcases Nat.lt_or_eq_of_le (tl_row (r := r) P hp k) with h | h
  · have := sk_lt (r := r) P hp h (by have := tl_le (r := r) (ss := row r ls ss (k + 1)) (p := p); rw [row_len] at this; exact this)
    omega
  · rw [h]; exact Int.le_refl _
theorem row_ne (P : Pos' ss ls) (hp : p < ss.length) (k : Nat) : (row r ls ss (k + 2)).getD p 0 ≠ (row r ls ss (k + 1)).getD p 0 ↔ tl r (row r ls ss k) p < tl r (row r ls ss (k + 1)) p := by
  rw [row_at hp, row_at hp]
  constructor
  · intro h
    rcases Nat.lt_or_eq_of_le (tl_row (r := r) P hp k) with z | z
    · exact z
    · rw [z] at h; exact absurd rfl h
  · intro h
    have := sk_lt (r := r) P hp h (by have := tl_le (r := r) (ss := row r ls ss (k + 1)) (p := p); rw [row_len] at this; exact this)
    omega
/-- a bead that changes in round k + 3 changes in round k + 2; its stopper before is no stronger than what it gains -/
theorem chg_stp (P : Pos' ss ls) (hp : p < ss.length) (k : Nat) (h : tl r (row r ls ss k) p < tl r (row r ls ss (k + 1)) p) :
    ∃ q, (run r ss.length p)[tl r (row r ls ss k) p]? = some q ∧ (row r ls ss k).getD p 0 ≤ (row r ls ss k).getD q 0 ∧ (row r ls ss (k + 1)).getD q 0 < (row r ls ss (k + 1)).getD p 0 := by
  have l1 := tl_le (r := r) (ss := row r ls ss (k + 1)) (p := p)
  rw [row_len] at l1
  have hk : tl r (row r ls ss k) p < (run r ss.length p).length := by omega
  refine ⟨_, List.getElem?_eq_getElem hk, ?_, ?_⟩
  · have e : (run r (row r ls ss k).length p)[((run r (row r ls ss k).length p).takeWhile (wk (row r ls ss k) p)).length]? = some ((run r ss.length p)[tl r (row r ls ss k) p]) := by
      show (run r (row r ls ss k).length p)[tl r (row r ls ss k) p]? = _
      rw [row_len]
      exact List.getElem?_eq_getElem hk
    have := of_decide_eq_false (tw_next (q := wk (row r ls ss k) p) e)
    omega
  · have m : (run r ss.length p)[tl r (row r ls ss k) p] ∈ trn r (row r ls ss (k + 1)) p := by
      rw [trn_tk, row_len]
      exact List.mem_iff_getElem?.mpr ⟨_, by rw [List.getElem?_take_of_lt h]; exact List.getElem?_eq_getElem hk⟩
    exact of_decide_eq_true (tw_mem (q := wk (row r ls ss (k + 1)) p) m)
theorem chg_back (P : Pos' ss ls) (hp : p < ss.length) (k : Nat) (h : tl r (row r ls ss (k + 1)) p < tl r (row r ls ss (k + 2)) p) : tl r (row r ls ss k) p < tl r (row r ls ss (k + 1)) p := by
  obtain ⟨q, e, a, b⟩ := chg_stp P hp (k + 1) h
  have hq := run_lt hp q (List.mem_of_getElem? e)
  have c := row_le (r := r) P hq k
  have ne : (row r ls ss (k + 2)).getD p 0 ≠ (row r ls ss (k + 1)).getD p 0 := by
    have b' : (row r ls ss (k + 2)).getD q 0 < (row r ls ss (k + 2)).getD p 0 := b
    omega
  exact (row_ne P hp k).mp ne
theorem tl_grow (P : Pos' ss ls) (hp : p < ss.length) : ∀ k, tl r (row r ls ss k) p < tl r (row r ls ss (k + 1)) p → k + 1 ≤ tl r (row r ls ss (k + 1)) p
  | 0, h => by omega
  | k + 1, h => by
    have := tl_grow P hp k (chg_back P hp k h)
    omega
theorem row_end (P : Pos' ss ls) (h0 : 0 < ss.length) : row r ls ss (ss.length + 1) = row r ls ss ss.length := by
  obtain ⟨m, hm⟩ : ∃ m, ss.length = m + 1 := ⟨ss.length - 1, by omega⟩
  have key : row r ls ss (m + 2) = row r ls ss (m + 1) := by
    refine ext_getD (by rw [row_len, row_len]) fun p hp => ?_
    rw [row_len] at hp
    refine Decidable.byContradiction fun ne => ?_
    have g := tl_grow P hp m ((row_ne P hp m).mp ne)
    have l1 := tl_le (r := r) (ss := row r ls ss (m + 1)) (p := p)
    rw [row_len] at l1
    have := run_le (r := r) hp
    omega
  rw [hm]; exact key
/-- after N rounds nothing changes any more, and not before -/
structure Stop (r : Bool) (ls ss : List Int) (N : Nat) : Prop where
  fix : row r ls ss (N + 1) = row r ls ss N
  mov : ∀ k, k < N → row r ls ss (k + 1) ≠ row r ls ss k
theorem stops (P : Pos' ss ls) (h0 : 0 < ss.length) : ∃ N, N ≤ ss.length ∧ Stop r ls ss N := by
  have key : ∀ m : Nat, (∀ k, k < m → row r ls ss (k + 1) ≠ row r ls ss k) ∨ ∃ N, N < m ∧ Stop r ls ss N := by
    intro m
    induction m with
    | zero => exact .inl fun k h => absurd h (Nat.not_lt_zero _)
    | succ m ih =>
      rcases ih with h | ⟨N, a, b⟩
      · by_cases c : row r ls ss (m + 1) = row r ls ss m
        · exact .inr ⟨m, Nat.lt_succ_self _, c, h⟩
        · refine .inl fun k hk => ?_
          rcases Nat.lt_succ_iff_lt_or_eq.mp hk with z | z
          · exact h k z
          · rw [z]; exact c
      · exact .inr ⟨N, by omega, b⟩
  rcases key (ss.length + 1) with h | ⟨N, a, b⟩
  · exact absurd (row_end P h0) (h _ (Nat.lt_succ_self _))
  · exact ⟨N, by omega, b⟩
theorem Stop.uniq {N M : Nat} (a : Stop r ls ss N) (b : Stop r ls ss M) : N = M := by
  rcases Nat.lt_trichotomy N M with h | h | h
  · exact absurd a.fix (b.mov N h)
  · exact h
  · exact absurd b.fix (a.mov M h)
theorem Stop.stay {N : Nat} (a : Stop r ls ss N) : ∀ k, row r ls ss (N + k) = row r ls ss N
  | 0 => rfl
  | k + 1 => by
    have ih := a.stay k
    show rnd r ls (row r ls ss (N + k)) = _
    rw [ih]
    exact a.fix
/-- once at rest, at rest: rows that begin at the end -/
theorem Stop.last {N : Nat} (a : Stop r ls ss N) : Stop r ls (row r ls ss N) 0 := ⟨a.fix, fun k h => absurd h (Nat.not_lt_zero _)⟩
/-- the last number at which f changes, up to N -/
def lstc (f : Nat → Int) : Nat → Nat
  | 0 => 0
  | k + 1 => if f (k + 1) ≠ f k then k + 1 else lstc f k
theorem lstc_le (f : Nat → Int) : ∀ N, lstc f N ≤ N
  | 0 => Nat.le_refl _
  | k + 1 => by
    unfold lstc
    have := lstc_le f k
    split <;> omega
theorem lstc_chg (f : Nat → Int) : ∀ N, 0 < lstc f N → f (lstc f N) ≠ f (lstc f N - 1)
  | 0, h => absurd h (Nat.lt_irrefl _)
  | k + 1, h => by
    unfold lstc at h ⊢
    split
    · rename_i c
      exact c
    · rename_i c
      rw [if_neg c] at h
      exact lstc_chg f k h
theorem lstc_max (f : Nat → Int) : ∀ N k, lstc f N < k → k ≤ N → f k = f (k - 1)
  | 0, k, h, h2 => by omega
  | N + 1, k, h, h2 => by
    unfold lstc at h
    split at h
    · omega
    · rename_i c
      have c' : f (N + 1) = f N := Decidable.byContradiction fun z => c z
      by_cases e : k = N + 1
      · rw [e]; exact c'
      · exact lstc_max f N k h (by omega)
/-- the changes of a bead have no gap: its strengths rise up to the last one -/
theorem row_asc (P : Pos' ss ls) (hp : p < ss.length) : ∀ (j i : Nat), tl r (row r ls ss j) p < tl r (row r ls ss (j + 1)) p → i ≤ j → (row r ls ss (i + 1)).getD p 0 < (row r ls ss (i + 2)).getD p 0
  | 0, i, h, hi => by
    have e : i = 0 := by omega
    subst e
    have a := row_le (r := r) P hp 0
    have b := (row_ne P hp 0).mpr h
    omega
  | j + 1, i, h, hi => by
    by_cases e : i = j + 1
    · subst e
      have a := row_le (r := r) P hp (j + 1)
      have b := (row_ne P hp (j + 1)).mpr h
      omega
    · exact row_asc P hp j i (chg_back P hp j h) (by omega)
/-- the book of a bead -/
def book (r : Bool) (ls ss : List Int) (N p : Nat) : List Int := (List.range (max 1 (lstc (fun k => (row r ls ss k).getD p 0) N))).map fun i => (row r ls ss (min (i + 1) N)).getD p 0
theorem book_len {N : Nat} : (book r ls ss N p).length = max 1 (lstc (fun k => (row r ls ss k).getD p 0) N) := by unfold book; rw [List.length_map, List.length_range]
theorem book_at {N i : Nat} (h : i < (book r ls ss N p).length) : (book r ls ss N p).getD i 0 = (row r ls ss (min (i + 1) N)).getD p 0 := by
  rw [book_len] at h
  unfold book
  rw [List.getD_eq_getElem?_getD, List.getElem?_map, List.getElem?_range h]; rfl
theorem book_asc (P : Pos' ss ls) (hp : p < ss.length) {N k : Nat} (h1 : 1 ≤ k) (h2 : k < (book r ls ss N p).length) : (book r ls ss N p).getD (k - 1) 0 < (book r ls ss N p).getD k 0 := by
  have hl := book_len (r := r) (ls := ls) (ss := ss) (p := p) (N := N)
  rw [book_at (by omega), book_at h2]
  have le := lstc_le (fun k => (row r ls ss k).getD p 0) N
  have hk : k + 1 ≤ lstc (fun k => (row r ls ss k).getD p 0) N := by omega
  have ch := lstc_chg (fun k => (row r ls ss k).getD p 0) N (by omega)
  generalize lstc (fun k => (row r ls ss k).getD p 0) N = L at ch le hk
  obtain ⟨j, rfl⟩ : ∃ j, L = j + 2 := ⟨L - 2, by omega⟩
  have t := (row_ne P hp j).mp ch
  have := row_asc P hp j (k - 1) t (by omega)
  rw [show min (k - 1 + 1) N = k - 1 + 1 by omega, show min (k + 1) N = k - 1 + 2 by omega]
  exact this
end Rt
set_option Elab.async false
set_option linter.all false
set_option maxRecDepth 100000
set_option maxHeartbeats 4000000
/-! What a bead could have been before its last waking: the bounds, and what lies within. -/
namespace Rt
open PySem PySem.Spec L2
variable {r : Bool} {ss ls : List Int} {p q : Nat}
/-- how many of its run the span of the bead has -/
def kOf (r : Bool) (ss ls : List Int) (p : Nat) : Option Nat := (List.range ((run r ss.length p).length + 1)).find? fun k => decide (ss.getD p 0 = sk r ls ss.length p k)
theorem kOf_some {k : Nat} (h : kOf r ss ls p = some k) : k ≤ (run r ss.length p).length ∧ ss.getD p 0 = sk r ls ss.length p k := by
  have a := List.mem_of_find?_eq_some h
  have b := List.find?_some h
  have := List.mem_range.mp a
  exact ⟨by omega, of_decide_eq_true b⟩
theorem kOf_none (h : kOf r ss ls p = none) : ∀ k, k ≤ (run r ss.length p).length → ss.getD p 0 ≠ sk r ls ss.length p k := fun k hk e => by
  have := List.find?_eq_none.mp h k (List.mem_range.mpr (by omega))
  exact this (decide_eq_true e)
theorem kOf_of (P : Pos' ss ls) (hp : p < ss.length) {k : Nat} (hk : k ≤ (run r ss.length p).length) (e : ss.getD p 0 = sk r ls ss.length p k) : kOf r ss ls p = some k := by
  cases h : kOf r ss ls p with
  | none => exact absurd e (kOf_none h k hk)
  | some j =>
    obtain ⟨hj, ej⟩ := kOf_some h
    rcases Nat.lt_trichotomy j k with d | d | d
    · have := sk_lt (r := r) P hp d hk; omega
    · rw [d]
    · have := sk_lt (r := r) P hp d hj; omega
/-- the greatest of them, or -1 -/
def mx (ns : List Int) : Int := ns.foldl max (-1)
theorem fold_mx : ∀ (ns : List Int) (n : Int), (ns.foldl max n = n ∨ ns.foldl max n ∈ ns) ∧ n ≤ ns.foldl max n ∧ ∀ y ∈ ns, y ≤ ns.foldl max n
  | [], n => ⟨.inl rfl, Int.le_refl _, fun y h => by cases h⟩
  | a :: ns, n => by
    obtain ⟨i1, i2, i3⟩ := fold_mx ns (max n a)
    have e : (a :: ns).foldl max n = ns.foldl max (max n a) := rfl
    rw [e]
    refine ⟨?_, by omega, fun y hy => ?_⟩
    · rcases i1 with z | z
      · rcases Int.le_total n a with d | d
        · exact .inr (by rw [z, Int.max_eq_right d]; exact List.mem_cons_self)
        · exact .inl (by rw [z, Int.max_eq_left d])
      · exact .inr (List.mem_cons_of_mem _ z)
    · rcases List.mem_cons.mp hy with z | z
      · subst z; omega
      · exact i3 y z
theorem mx_of {ns : List Int} {m : Int} (h : m ∈ ns) (g : ∀ y ∈ ns, y ≤ m) (h0 : 0 ≤ m) : mx ns = m := by
  obtain ⟨a, b, c⟩ := fold_mx ns (-1)
  have := c m h
  unfold mx
  rcases a with z | z
  · omega
  · have := g _ z; omega
theorem mx_lt {ns : List Int} {c : Int} (h0 : 0 ≤ c) : mx ns < c ↔ ∀ y ∈ ns, y < c := by
  obtain ⟨a, b, d⟩ := fold_mx ns (-1)
  unfold mx
  constructor
  · intro h y hy
    have := d y hy; omega
  · intro h
    rcases a with z | z
    · omega
    · exact h _ z
theorem mx_ge {ns : List Int} : -1 ≤ mx ns := (fold_mx ns (-1)).2.1
/-- the bounds -/
def bnd (r : Bool) (ss ls : List Int) (p : Nat) : Option (Int × Option Int) := match kOf r ss ls p with
  | none => none
  | some k => match (run r ss.length p)[k]? with
    | none => some (1 + mx (((run r ss.length p).take k).map fun o => ss.getD o 0), none)
    | some o => if 1 + mx (((run r ss.length p).take k).map fun o => ss.getD o 0) ≤ ss.getD o 0 then some (1 + mx (((run r ss.length p).take k).map fun o => ss.getD o 0), some (ss.getD o 0)) else none
/-- c lies within -/
def inB (b : Option (Int × Option Int)) (c : Int) : Bool := match b with
  | none => false
  | some (lo, none) => decide (lo ≤ c)
  | some (lo, some hi) => decide (lo ≤ c) && decide (c ≤ hi)
theorem bnd_ok {b : Option (Int × Option Int)} (h : bnd r ss ls p = b) : (∀ lo hi, b = some (lo, hi) → 0 ≤ lo ∧ ∀ h, hi = some h → lo ≤ h) := by
  rintro lo hi rfl
  unfold bnd at h
  cases e : kOf r ss ls p with
  | none => rw [e] at h; cases h
  | some k =>
    rw [e] at h
    simp only at h
    have g := mx_ge (ns := ((run r ss.length p).take k).map fun o => ss.getD o 0)
    split at h
    · cases h
      exact ⟨by omega, fun h z => by cases z⟩
    · split at h
      · cases h
        rename_i c
        exact ⟨by omega, fun h z => by cases z; exact c⟩
      · cases h
theorem fits_iff (P : Pos' ss ls) (hp : p < ss.length) {c : Int} (h0 : 0 ≤ c) : (wr r ss ls p c = ss.getD p 0) ↔ inB (bnd r ss ls p) c = true := by
  have pos : ∀ o ∈ run r ss.length p, 1 ≤ ls.getD o 0 := fun o ho => P.pos o (run_lt hp o ho)
  unfold bnd
  cases e : kOf r ss ls p with
  | none =>
    constructor
    · intro h
      have ht : tkr r ss p c = (run r ss.length p).take (tkr r ss p c).length := tw_take
      have hl : (tkr r ss p c).length ≤ (run r ss.length p).length := (List.takeWhile_sublist _).length_le
      refine absurd ?_ (kOf_none e _ hl)
      rw [← h]
      unfold wr sk
      rw [← ht]
    · intro h; cases h
  | some k =>
    obtain ⟨hk, ek⟩ := kOf_some e
    rw [wr_iff (ss := ss) (c := c) pos hk (show ss.getD p 0 = ls.getD p 0 + sm ls ((run r ss.length p).take k) from ek), tkr_iff hk]
    have m := mx_lt (ns := ((run r ss.length p).take k).map fun o => ss.getD o 0) h0
    have m' : (∀ o ∈ (run r ss.length p).take k, ss.getD o 0 < c) ↔ mx (((run r ss.length p).take k).map fun o => ss.getD o 0) < c := by
      rw [m]
      constructor
      · rintro h y hy
        obtain ⟨o, ho, rfl⟩ := List.mem_map.mp hy
        exact h o ho
      · intro h o ho
        exact h _ (List.mem_map.mpr ⟨o, ho, rfl⟩)
    rw [m']
    simp only
    cases e2 : (run r ss.length p)[k]? with
    | none =>
      simp only [inB, decide_eq_true_eq, reduceCtorEq, false_implies, implies_true, and_true]
      omega
    | some o =>
      simp only [Option.some.injEq, forall_eq']
      split
      · simp only [inB, Bool.and_eq_true, decide_eq_true_eq]
        omega
      · simp only [inB, Bool.false_eq_true, iff_false]
        omega
/-- the bounds leave more than the strength that the bead has -/
def mvB (b : Option (Int × Option Int)) (s : Int) : Bool := decide (b ≠ none) && decide (b ≠ some (s, some s))
theorem mv_of {b : Option (Int × Option Int)} {s c : Int} (h : inB b c = true) (ne : c ≠ s) : mvB b s = true := by
  unfold mvB
  rw [Bool.and_eq_true]
  refine ⟨decide_eq_true fun z => ?_, decide_eq_true fun z => ?_⟩
  · rw [z] at h; cases h
  · rw [z] at h
    simp only [inB, Bool.and_eq_true, decide_eq_true_eq] at h
    omega
theorem mv_has {b : Option (Int × Option Int)} {s m : Int} (h : mvB b s = true) (ok : ∀ lo hi, b = some (lo, hi) → 0 ≤ lo ∧ ∀ h, hi = some h → lo ≤ h) (hm : s < m) {ns : List Int} (h1 : m ∈ ns) (h2 : ∀ lo hi, b = some (lo, hi) → lo ∈ ns ∧ ∀ h, hi = some h → h ∈ ns) : ∃ c ∈ ns, inB b c = true ∧ c ≠ s := by
  unfold mvB at h
  rw [Bool.and_eq_true] at h
  obtain ⟨a1, a2⟩ := h
  have a1 := of_decide_eq_true a1
  have a2 := of_decide_eq_true a2
  cases b with
  | none => exact absurd rfl a1
  | some z =>
    obtain ⟨lo, hi⟩ := z
    obtain ⟨m1, m2⟩ := h2 lo hi rfl
    obtain ⟨k1, k2⟩ := ok lo hi rfl
    cases hi with
    | none =>
      by_cases c : lo = s
      · exact ⟨m, h1, decide_eq_true (by omega), by omega⟩
      · exact ⟨lo, m1, decide_eq_true (Int.le_refl _), c⟩
    | some hi =>
      have le := k2 hi rfl
      by_cases c : lo = s
      · have ne : hi ≠ s := fun z => a2 (by rw [c, z])
        exact ⟨hi, m2 hi rfl, by simp only [inB, Bool.and_eq_true, decide_eq_true_eq]; omega, ne⟩
      · exact ⟨lo, m1, by simp only [inB, Bool.and_eq_true, decide_eq_true_eq]; omega, c⟩
end Rt
set_option Elab.async false
set_option linter.all false
set_option maxRecDepth 100000
set_option maxHeartbeats 4000000
/-! Outcomes: spans that nest, depths, the origin (k26). -/
namespace Rt
open PySem PySem.Spec L2
variable {r : Bool} {ss ls : List Int} {n : Nat} {kf : Nat → Nat} {p q o : Nat}
/-- the spans nest: what is in a span ends in it -/
def Nest (r : Bool) (n : Nat) (kf : Nat → Nat) : Prop := ∀ p, p < n → ∀ i q, i < kf p → (run r n p)[i]? = some q → i + 1 + kf q ≤ kf p
def Fit (r : Bool) (n : Nat) (kf : Nat → Nat) : Prop := ∀ p, p < n → kf p ≤ (run r n p).length
/-- the others in the span of p -/
def inn (r : Bool) (n : Nat) (kf : Nat → Nat) (p : Nat) : List Nat := (run r n p).take (kf p)
theorem mem_inn : o ∈ inn r n kf p ↔ ∃ i, i < kf p ∧ (run r n p)[i]? = some o := by
  unfold inn
  constructor
  · intro h
    obtain ⟨i, hi⟩ := List.mem_iff_getElem?.mp h
    have hl := (List.getElem?_eq_some_iff.mp hi).1
    rw [List.length_take] at hl
    rw [List.getElem?_take_of_lt (by omega)] at hi
    exact ⟨i, by omega, hi⟩
  · rintro ⟨i, h1, h2⟩
    exact List.mem_iff_getElem?.mpr ⟨i, by rw [List.getElem?_take_of_lt h1]; exact h2⟩
/-- where o stands in the run of p -/
theorem run_ix (hp : p < n) {i : Nat} (h : (run r n p)[i]? = some o) : (o = p + 1 + i ∧ o < n) ∨ (r = true ∧ n ≤ p + 1 + i ∧ o + n = p + 1 + i ∧ o < p) := by
  have il := (List.getElem?_eq_some_iff.mp h).1
  have lr := run_le (r := r) hp
  rw [run_at hp (by omega)] at h
  split at h
  · cases h
    exact .inl ⟨rfl, by assumption⟩
  · split at h
    · cases h
      have l2 := run_len (r := r) hp
      rename_i c d
      rw [if_pos d] at l2
      exact .inr ⟨d, by omega, by omega, by omega⟩
    · cases h
theorem ix_run (hp : p < n) {i : Nat} (h : (o = p + 1 + i ∧ o < n) ∨ (r = true ∧ o + n = p + 1 + i ∧ o < p)) : (run r n p)[i]? = some o := by
  rcases h with ⟨a, b⟩ | ⟨a, b, c⟩
  · rw [run_at hp (by omega), if_pos (by omega), a]
  · rw [run_at hp (by omega), if_neg (by omega), if_pos a]
    congr 1; omega
theorem fit_le (F : Fit r n kf) (hp : p < n) : kf p + 1 ≤ n := by have := F p hp; have := run_le (r := r) hp; omega
/-- what is in the span of p is in each span that p is in -/
theorem inn_trans (F : Fit r n kf) (N : Nest r n kf) {x : Nat} (hx : x < n) (hp : p < n) (h1 : p ∈ inn r n kf x) (h2 : o ∈ inn r n kf p) : o ∈ inn r n kf x := by
  obtain ⟨i, hi, ei⟩ := mem_inn.mp h1
  obtain ⟨j, hj, ej⟩ := mem_inn.mp h2
  have nx := N x hx i p hi ei
  have fx := fit_le F hx
  refine mem_inn.mpr ⟨i + 1 + j, by omega, ix_run hx ?_⟩
  rcases run_ix hx ei with ⟨a, b⟩ | ⟨a, b, c, d⟩ <;> rcases run_ix hp ej with ⟨a', b'⟩ | ⟨a', b', c', d'⟩
  · exact .inl ⟨by omega, b'⟩
  · exact .inr ⟨a', by omega, by omega⟩
  · exact .inr ⟨a, by omega, by omega⟩
  · omega
theorem inn_self (hp : p < n) : p ∉ inn r n kf p := fun h => by
  obtain ⟨i, _, e⟩ := mem_inn.mp h
  rcases run_ix hp e with ⟨a, _⟩ | ⟨_, _, _, d⟩ <;> omega
/-- a span that holds the bead after the span of p holds p -/
theorem inn_next (F : Fit r n kf) (N : Nest r n kf) {x : Nat} (hx : x < n) (hp : p < n) (ho : (run r n p)[kf p]? = some o) (h : o ∈ inn r n kf x) : p ∈ inn r n kf x := by
  obtain ⟨j, hj, ej⟩ := mem_inn.mp h
  have fx := fit_le F hx
  have fp := fit_le F hp
  have rp := run_ix hp ho
  have rx := run_ix hx ej
  have bad : ∀ m, m < kf p → (run r n p)[m]? = some x → m + 1 + j = kf p → False := fun m h1 h2 h3 => by
    have := N p hp m x h1 h2
    omega
  rcases Nat.lt_trichotomy x p with c | c | c
  · by_cases d : p - x - 1 < j
    · exact mem_inn.mpr ⟨p - x - 1, by omega, ix_run hx (.inl ⟨by omega, hp⟩)⟩
    · exfalso
      rcases rp with ⟨a, b⟩ | ⟨a, b, e, f⟩ <;> rcases rx with ⟨a', b'⟩ | ⟨a', b', e', f'⟩
      · omega
      · omega
      · exact bad (n - p - 1 + x) (by omega) (ix_run hp (.inr ⟨a, by omega, c⟩)) (by omega)
      · omega
  · exfalso
    subst c
    rcases rp with ⟨a, b⟩ | ⟨a, b, e, f⟩ <;> rcases rx with ⟨a', b'⟩ | ⟨a', b', e', f'⟩ <;> omega
  · by_cases d : x - p - 1 < kf p
    · exfalso
      rcases rp with ⟨a, b⟩ | ⟨a, b, e, f⟩ <;> rcases rx with ⟨a', b'⟩ | ⟨a', b', e', f'⟩
      · exact bad (x - p - 1) d (ix_run hp (.inl ⟨by omega, hx⟩)) (by omega)
      · omega
      · omega
      · exact bad (x - p - 1) d (ix_run hp (.inl ⟨by omega, hx⟩)) (by omega)
    · rcases rp with ⟨a, b⟩ | ⟨a, b, e, f⟩ <;> rcases rx with ⟨a', b'⟩ | ⟨a', b', e', f'⟩
      · omega
      · exact mem_inn.mpr ⟨n - x - 1 + p, by omega, ix_run hx (.inr ⟨a', by omega, c⟩)⟩
      · omega
      · exact mem_inn.mpr ⟨n - x - 1 + p, by omega, ix_run hx (.inr ⟨a', by omega, c⟩)⟩
/-- in how many other spans -/
def dpt (r : Bool) (n : Nat) (kf : Nat → Nat) (q : Nat) : Nat := ((List.range n).filter fun p => decide (q ∈ inn r n kf p)).length
theorem flen_le {α : Type} {f g : α → Bool} : ∀ {l : List α}, (∀ x ∈ l, f x = true → g x = true) → (l.filter f).length ≤ (l.filter g).length
  | [], _ => Nat.le_refl _
  | a :: l, h => by
    have ih := flen_le (l := l) fun x hx => h x (List.mem_cons_of_mem _ hx)
    rw [List.filter_cons, List.filter_cons]
    cases ea : f a with
    | true =>
      rw [if_pos rfl, if_pos (h a List.mem_cons_self ea)]
      simpa using ih
    | false =>
      rw [if_neg (by decide)]
      split
      · rw [List.length_cons]; omega
      · exact ih
theorem flen_lt {α : Type} {f g : α → Bool} {y : α} : ∀ {l : List α}, (∀ x ∈ l, f x = true → g x = true) → y ∈ l → f y = false → g y = true → (l.filter f).length < (l.filter g).length
  | [], _, h, _, _ => by cases h
  | a :: l, h, hy, f0, g1 => by
    have hl : ∀ x ∈ l, f x = true → g x = true := fun x hx => h x (List.mem_cons_of_mem _ hx)
    rw [List.filter_cons, List.filter_cons]
    rcases List.mem_cons.mp hy with z | z
    · subst z
      rw [f0, g1, if_neg (by decide), if_pos rfl, List.length_cons]
      have := flen_le hl
      omega
    · have ih := flen_lt hl z f0 g1
      cases ea : f a with
      | true =>
        rw [if_pos rfl, if_pos (h a List.mem_cons_self ea)]
        simpa using ih
      | false =>
        rw [if_neg (by decide)]
        split
        · rw [List.length_cons]; omega
        · exact ih
theorem dpt_in (F : Fit r n kf) (N : Nest r n kf) (hp : p < n) (h : o ∈ inn r n kf p) : dpt r n kf p < dpt r n kf o :=
  flen_lt (y := p) (fun x hx e => decide_eq_true (inn_trans F N (List.mem_range.mp hx) hp (of_decide_eq_true e) h)) (List.mem_range.mpr hp) (decide_eq_false (inn_self hp)) (decide_eq_true h)
theorem dpt_next (F : Fit r n kf) (N : Nest r n kf) (hp : p < n) (h : (run r n p)[kf p]? = some o) : dpt r n kf o ≤ dpt r n kf p :=
  flen_le fun x hx e => decide_eq_true (inn_next F N (List.mem_range.mp hx) hp h (of_decide_eq_true e))
/-- the origin's trains are the spans -/
theorem org_trn (F : Fit r n kf) (N : Nest r n kf) {gs : List Int} {D : Int} (hl : gs.length = n) (hg : ∀ q, q < n → gs.getD q 0 = D - (dpt r n kf q : Int)) (hp : p < n) : trn r gs p = inn r n kf p := by
  have wkt : ∀ y ∈ (run r n p).take (kf p), wk gs p y = true := fun y hy => by
    have hy' : y ∈ inn r n kf p := hy
    have yl : y < n := run_lt hp y (List.mem_of_mem_take hy)
    have := dpt_in F N hp hy'
    exact decide_eq_true (by rw [hg y yl, hg p hp]; omega)
  unfold trn
  rw [hl]
  have fl := F p hp
  by_cases c : kf p < (run r n p).length
  · have e : (run r n p)[kf p]? = some (run r n p)[kf p] := List.getElem?_eq_getElem c
    have yl := run_lt hp _ (List.getElem_mem c)
    have := dpt_next F N hp e
    exact tw_stop wkt e (decide_eq_false (by rw [hg _ yl, hg p hp]; omega))
  · have e : (run r n p).take (kf p) = run r n p := List.take_of_length_le (by omega)
    rw [e] at wkt
    unfold inn
    rw [e]
    exact tw_all wkt
/-- after a round the spans are the trains, and they nest -/
theorem nest_tl : Nest r ss.length (fun p => tl r ss p) := fun p hp i q hi e => by
  have hq := run_lt hp q (List.mem_of_getElem? e)
  have e' : (run r ss.length p)[i]? = some q := e
  have lp := tl_le (r := r) (ss := ss) (p := p)
  have lq := tl_le (r := r) (ss := ss) (p := q)
  have rp := run_len (r := r) hp
  have rq := run_len (r := r) hq
  have qin : q ∈ trn r ss p := by
    rw [trn_tk]
    exact List.mem_iff_getElem?.mpr ⟨i, by rw [List.getElem?_take_of_lt hi]; exact e'⟩
  have wq : ss.getD q 0 < ss.getD p 0 := of_decide_eq_true (tw_mem (q := wk ss p) qin)
  refine Nat.le_of_not_lt fun lt => ?_
  have lt' : tl r ss p < i + 1 + tl r ss q := lt
  have hi' : i < tl r ss p := hi
  have inq : ∀ m x, m < tl r ss q → (run r ss.length q)[m]? = some x → ss.getD x 0 < ss.getD q 0 := fun m x h1 h2 => by
    have : x ∈ trn r ss q := by
      rw [trn_tk]
      exact List.mem_iff_getElem?.mpr ⟨m, by rw [List.getElem?_take_of_lt h1]; exact h2⟩
    exact of_decide_eq_true (tw_mem (q := wk ss q) this)
  by_cases c : tl r ss p < (run r ss.length p).length
  · have es : (run r ss.length p)[tl r ss p]? = some (run r ss.length p)[tl r ss p] := List.getElem?_eq_getElem c
    have stop : ¬ ss.getD (run r ss.length p)[tl r ss p] 0 < ss.getD p 0 := of_decide_eq_false (tw_next (q := wk ss p) es)
    generalize (run r ss.length p)[tl r ss p] = x at es stop
    have := inq (tl r ss p - i - 1) x (by omega) (by
      refine ix_run hq ?_
      rcases run_ix hp e' with ⟨a, b⟩ | ⟨a, b, d, f⟩ <;> rcases run_ix hp es with ⟨a', b'⟩ | ⟨a', b', d', f'⟩
      · exact .inl ⟨by omega, b'⟩
      · exact .inr ⟨a', by omega, by omega⟩
      · omega
      · exact .inl ⟨by omega, by omega⟩)
    omega
  · cases r
    · simp only [Bool.false_eq_true, if_false] at rp rq
      rcases run_ix hp e' with ⟨a, b⟩ | ⟨a, _⟩
      · omega
      · cases a
    · simp only [if_true] at rp rq
      have := inq (ss.length - 2 - i) p (by omega) (by
        refine ix_run hq ?_
        rcases run_ix hp e' with ⟨a, b⟩ | ⟨a, b, d, f⟩
        · exact .inr ⟨rfl, by omega, by omega⟩
        · exact .inl ⟨by omega, hp⟩)
      omega
end Rt
set_option Elab.async false
set_option linter.all false
set_option maxRecDepth 100000
set_option maxHeartbeats 4000000
/-! max with a default, max and min of two, slices of lists, comparing lists and tuples of ints, lists of rows. -/
namespace Rt
open PySem PySem.Spec L2 PyProof.Rows
theorem reads_ints {h : Heap} : ∀ {us : List Value} {ns : List Int}, IntsAre us ns → ReadsAll h us (ns.map PyData.int) []
  | _, _, .nil => .nil
  | _, _, .cons n t r => ReadsAll.cons (as := []) (bs := []) (Reads.int n t) (reads_ints r)
theorem fold_max : ∀ (ns : List Int) (n : Int), (ns.foldl max n = n ∨ ns.foldl max n ∈ ns) ∧ n ≤ ns.foldl max n ∧ ∀ y ∈ ns, y ≤ ns.foldl max n
  | [], n => ⟨.inl rfl, Int.le_refl _, fun y hy => absurd hy (by simp)⟩
  | k :: ns, n => by
    obtain ⟨a, b, c⟩ := fold_max ns (max n k)
    rw [List.foldl_cons]
    refine ⟨?_, by omega, fun y hy => ?_⟩
    · rcases a with a | a
      · by_cases h : n ≤ k
        · exact .inr (by rw [a]; have : max n k = k := by omega
                         rw [this]; exact List.mem_cons_self)
        · exact .inl (by rw [a]; omega)
      · exact .inr (List.mem_cons_of_mem _ a)
    · rcases List.mem_cons.mp hy with z | z
      · omega
      · exact c y z
def rMaxDf (K : PySem.W.Frag) : List V → List V → Hp → VK → Prop := fun vs zs H Q => ∃ (a : Addr) (ns : List Int) (d : Int), vs = [.ref a] ∧ zs = [.int d] ∧ SqL K H a (ns.map V.int) ∧ (ns = [] → Q (.int d) H) ∧ ∀ m, m ∈ ns → (∀ y ∈ ns, y ≤ m) → Q (.int m) H
section
variable {X : Cx} (K : PySem.W.Frag)
theorem cr_maxDf (hc : X.calm = true) (hu : X.A.units + 64 < cLine) (hK : X.K = K := by rfl) : CallRK X (.builtin "max") [Str.ofString "default"] (rMaxDf K) := by
  subst hK
  intro pins s σ H vs zs us ws Q I rv rz h
  obtain ⟨a, ns, d, rfl, rfl, hs, q0, q⟩ := h
  obtain ⟨its, ri, hl, hz⟩ := I.list hs
  rw [Vals.ref1 rv]
  obtain ⟨w1, rfl, e1⟩ := vals1 rz
  obtain ⟨t, e2⟩ := (show ∃ t, w1 = Value.int d t from e1)
  subst e2
  refine PySem.W.max_list_default (xs := ns.map PyData.int) (I.ok.hd hc) hl.isList (reads_ints (by simpa using ri.ints)) ⟨?_, ?_⟩ (by rw [depI]; omega) (fun e h' tk k => ?_) (fun y ys i v h' tk bs e hv hr k => ?_)
  · intro x hx y hy
    obtain ⟨i, _, rfl⟩ := List.mem_map.mp hx
    obtain ⟨j, _, rfl⟩ := List.mem_map.mp hy
    rfl
  · intro x hx z
    obtain ⟨i, _, rfl⟩ := List.mem_map.mp hx
    cases z
  · exact ⟨.int d, H, I.kept k, ⟨t, rfl⟩, q0 (List.map_eq_nil_iff.mp e)⟩
  · cases ns with
    | nil => cases e
    | cons n ns =>
      rw [List.map_cons] at e
      cases e
      rw [PySem.W.maxD_ints] at hr
      obtain ⟨t2, e3⟩ : ∃ t2, v = Value.int (ns.foldl max n) t2 := by
        cases hr
        exact ⟨_, rfl⟩
      subst e3
      obtain ⟨a1, a2, a3⟩ := fold_max ns n
      refine ⟨.int (ns.foldl max n), H, I.kept k, ⟨t2, rfl⟩, q _ ?_ fun y hy => ?_⟩
      · rcases a1 with z | z
        · rw [z]; exact List.mem_cons_self
        · exact List.mem_cons_of_mem _ z
      · rcases List.mem_cons.mp hy with z | z
        · rw [z]; exact a2
        · exact a3 y z
def rMax2 : List V → Hp → VK → Prop := fun xs H Q => ∃ i j : Int, xs = [.int i, .int j] ∧ Q (.int (max i j)) H
def rMin2 : List V → Hp → VK → Prop := fun xs H Q => ∃ i j : Int, xs = [.int i, .int j] ∧ Q (.int (min i j)) H
theorem cr_max2 (hc : X.calm = true) : CallR X (.builtin "max") rMax2 := by
  intro pins s σ H vs us Q I r h
  obtain ⟨i, j, e, q⟩ := h
  refine call_max2 hc pins s σ H vs us Q I r ⟨i, j, e, ?_⟩
  have : (if j > i then j else i) = max i j := by split <;> omega
  rw [this]; exact q
theorem cr_min2 (hc : X.calm = true) : CallR X (.builtin "min") rMin2 := by
  intro pins s σ H vs us Q I r h
  obtain ⟨i, j, e, q⟩ := h
  refine call_min2 hc pins s σ H vs us Q I r ⟨i, j, e, ?_⟩
  have : (if j < i then j else i) = min i j := by split <;> omega
  rw [this]; exact q
end
theorem g_max2 {i j : Int} {H : Hp} {Q : VK} (h : Q (.int (max i j)) H) : rMax2 [.int i, .int j] H Q := ⟨i, j, rfl, h⟩
theorem g_min2 {i j : Int} {H : Hp} {Q : VK} (h : Q (.int (min i j)) H) : rMin2 [.int i, .int j] H Q := ⟨i, j, rfl, h⟩
theorem g_ckw {r : List V → List V → Hp → VK → Prop} {t tk : TA} {σ : L2.St} {H : Hp} {Q : VK} (h : t σ H fun vs H1 => tk σ H1 fun zs H2 => r vs zs H2 Q) : tCKw r t tk σ H Q := h
/-! ### slices of lists -/
theorem g_cut {K : PySem.W.Frag} {H : Hp} {Q : VK} {a : Addr} {xs : List V} {lo hi : Option Int} (hs : SqL K H a xs) (h : ∀ p H', H p = none → Same H H' → H' p = some (.lst (cutV xs lo hi)) → Q (.ref p) H') : rSlL K (.ref a) lo hi H Q :=
  ⟨a, xs, rfl, hs, fun p np => h p _ np (L2.Same.new np) upd_same⟩
theorem cut_lo {xs : List V} {k : Nat} (h : k ≤ xs.length) : cutV xs (some (k : Int)) none = xs.drop k := by
  unfold cutV
  rw [HT.sIx_none, HT.sIx_nat, Nat.min_eq_left h, List.take_of_length_le (by rw [List.length_drop]; omega)]
theorem cut_hi {xs : List V} {k : Nat} (h : k ≤ xs.length) : cutV xs none (some (k : Int)) = xs.take k := by
  unfold cutV
  rw [HT.sIx_none, HT.sIx_nat, Nat.min_eq_left h, List.drop_zero, Nat.sub_zero]
theorem cut_end {xs : List V} (h : 0 < xs.length) : cutV xs (some (-1)) none = xs.drop (xs.length - 1) := by
  unfold cutV
  rw [HT.sIx_none]
  have e : HT.sIx xs.length 0 (some (-1)) = xs.length - 1 := by
    unfold HT.sIx
    simp only [show ((-1 : Int) < 0) from by decide, if_true]
    omega
  rw [e, List.take_of_length_le (by rw [List.length_drop]; omega)]
theorem at_last {α : Type} {xs : List α} {v : α} (h : xs[xs.length - 1]? = some v) : atI xs (-1) = some v := by
  have hl : xs.length - 1 < xs.length := (List.getElem?_eq_some_iff.mp h).1
  unfold atI ixN
  rw [if_neg (by decide), if_pos (by omega)]
  show xs[((-1 : Int) + (xs.length : Int)).toNat]? = _
  rw [show ((-1 : Int) + (xs.length : Int)).toNat = xs.length - 1 by omega]
  exact h
/-! ### comparing -/
theorem eqvI : ∀ xs ys : List Int, PyData.eqvAll (xs.map PyData.int) (ys.map PyData.int) = decide (xs = ys)
  | [], [] => by simp [PyData.eqvAll]
  | [], y :: ys => by simp [PyData.eqvAll]
  | x :: xs, [] => by simp [PyData.eqvAll]
  | x :: xs, y :: ys => by
    rw [List.map_cons, List.map_cons, PyData.eqvAll, eqvI xs ys, PyData.eqv]
    by_cases a : x = y
    · by_cases b : xs = ys <;> simp [a, b]
    · have : (x == y) = false := by simpa using a
      rw [this, Bool.false_and]
      exact (decide_eq_false fun z => a (by injection z)).symm
theorem shI (xs : List Int) : SeqAt.shaped (.list (xs.map PyData.int)) = true ∧ SeqAt.shaped (.tuple (xs.map PyData.int)) = true := by
  have c1 : PyData.canLay0 (.list (xs.map PyData.int)) = true := by simp [PyData.canLay0, canI]
  have c2 : PyData.canLay0 (.tuple (xs.map PyData.int)) = true := by simp [PyData.canLay0, canI]
  constructor
  · unfold SeqAt.shaped; rw [c1]; simp [PyData.depth, depI]
  · unfold SeqAt.shaped; rw [c2]; simp [PyData.depth, depI]
theorem g_neT {K : PySem.W.Frag} {H : Hp} {Q : VK} {a b : Addr} {xs ys : List Int} (ha : H a = some (.tup (xs.map V.int))) (hb : H b = some (.tup (ys.map V.int))) (h : Q (.bl (!decide (xs = ys))) H) : rNeD K (.ref a) (.ref b) H Q :=
  ⟨_, _, .tup (SqT.of ha) (dpI xs), .tup (SqT.of hb) (dpI ys), (shI xs).2, (shI ys).2, by rw [PyData.eqv, eqvI]; exact h⟩
theorem g_eqL {K : PySem.W.Frag} {H : Hp} {Q : VK} {a b : Addr} {xs ys : List Int} (ha : SqL K H a (xs.map V.int)) (hb : SqL K H b (ys.map V.int)) (h : Q (.bl (decide (xs = ys))) H) : rEqD K (.ref a) (.ref b) H Q :=
  ⟨_, _, .lst ha (dpI xs), .lst hb (dpI ys), (shI xs).1, (shI ys).1, by rw [PyData.eqv, eqvI]; exact h⟩
/-! ### lists of rows -/
/-- the items are lists (b: tuples) of the ints f 0 .. f (n - 1), at addresses with N -/
def RA (N : Addr → Prop) (b : Bool) (H : Hp) (xs : List V) (n : Nat) (f : Nat → List Int) : Prop :=
  xs.length = n ∧ ∀ k : Nat, k < n → ∃ t : Addr, xs[k]? = some (V.ref t) ∧ N t ∧ H t = some (if b = true then .tup ((f k).map V.int) else .lst ((f k).map V.int))
section
variable {N M : Addr → Prop} {b : Bool} {H H' : Hp} {xs : List V} {n : Nat} {f g : Nat → List Int}
theorem RA.nil : RA N b H [] 0 f := ⟨rfl, fun k h => absurd h (Nat.not_lt_zero _)⟩
theorem RA.mono (h : RA N b H xs n f) (S : Same H H') : RA N b H' xs n f := ⟨h.1, fun k hk => let ⟨t, a, c, d⟩ := h.2 k hk; ⟨t, a, c, S _ _ d⟩⟩
theorem RA.weak (h : RA N b H xs n f) (w : ∀ t, N t → M t) : RA M b H xs n f := ⟨h.1, fun k hk => let ⟨t, a, c, d⟩ := h.2 k hk; ⟨t, a, w _ c, d⟩⟩
theorem RA.congr (h : RA N b H xs n f) (e : ∀ k, k < n → f k = g k) : RA N b H xs n g := ⟨h.1, fun k hk => let ⟨t, a, c, d⟩ := h.2 k hk; ⟨t, a, c, by rw [← e k hk]; exact d⟩⟩
theorem RA.upd {l : Addr} {o : HO} (h : RA N b H xs n f) (w : ∀ t, N t → t ≠ l) : RA N b (upd H l o) xs n f := ⟨h.1, fun k hk => let ⟨t, a, c, d⟩ := h.2 k hk; ⟨t, a, c, by rw [upd_ne (w t c)]; exact d⟩⟩
theorem RA.more {t : Addr} (h : RA N b H xs n f) (c : N t) (ht : H t = some (if b = true then .tup ((f n).map V.int) else .lst ((f n).map V.int))) : RA N b H (xs ++ [V.ref t]) (n + 1) f := by
  refine ⟨by rw [List.length_append, h.1]; rfl, fun k hk => ?_⟩
  by_cases e : k < n
  · obtain ⟨u, a, d, m⟩ := h.2 k e
    exact ⟨u, by rw [List.getElem?_append_left (by rw [h.1]; exact e)]; exact a, d, m⟩
  · have e2 : k = n := by omega
    subst e2
    exact ⟨t, by rw [List.getElem?_append_right (by rw [h.1]; exact Nat.le_refl _), h.1, Nat.sub_self]; rfl, c, ht⟩
theorem RA.drop (h : RA N b H xs n f) {j : Nat} (hj : j ≤ n) : RA N b H (xs.drop j) (n - j) (fun k => f (j + k)) :=
  ⟨by rw [List.length_drop, h.1], fun k hk => let ⟨t, a, c, d⟩ := h.2 (j + k) (by omega); ⟨t, by rw [List.getElem?_drop]; exact a, c, d⟩⟩
theorem RA.take (h : RA N b H xs n f) {j : Nat} (hj : j ≤ n) : RA N b H (xs.take j) j f :=
  ⟨by rw [List.length_take, h.1]; omega, fun k hk => let ⟨t, a, c, d⟩ := h.2 k (by omega); ⟨t, by rw [List.getElem?_take_of_lt hk]; exact a, c, d⟩⟩
end
/-- a list comprehension over a range that makes rows -/
theorem lc_rows {lo : Int} {n : Nat} {g : TG} {te : TE} {vs : List Nat} {σ : L2.St} {H1 : Hp} {D : Addr} {Qd : Hp → Prop} (f : Nat → List Int) (hD : H1 D = none) (sz : n ≤ 100000)
    (turn : ∀ (i : Nat) (H' : Hp), i < n → Same H1 H' → ∀ Q : VK, (∀ (t : Addr) (H2 : Hp), H' t = none → Same H' H2 → H2 t = some (.lst ((f i).map V.int)) → Q (.ref t) H2) → g (.int (lo + i)) (wipe σ vs) H' fun σ2 H2 => wipe σ2 vs = wipe σ vs ∧ te σ2 H2 Q)
    (done : ∀ H' xs, Same H1 H' → H' D = some (.lst xs) → RA (fun t => H1 t = none ∧ t ≠ D) false H' xs n f → Qd H') :
    ∃ W : Nat → Nat → Hp → Prop, (∃ m, W 0 m (upd H1 D (.lst []))) ∧ ∀ i m H, W i m H →
      ((Itr lo n).stop i H ∧ Qd H) ∨ ((Itr lo n).go i H ∧ ∃ Nx : Hp → Prop, (∀ H', Nx H' → ∃ m', m' < m ∧ W (i + 1) m' H') ∧ ∀ x H', (Itr lo n).yld i H x H' → g x (wipe σ vs) H' fun σ2 H2 => wipe σ2 vs = wipe σ vs ∧ tYes σ2 H2 fun b H3 =>
        if b = true then te σ2 H3 fun y H4 => ∃ acc, H4 D = some (.lst acc) ∧ acc.length < sizeLine ∧ Nx (upd H4 D (.lst (acc ++ [y]))) else Nx H3) := by
  refine lc_range (fun i H' => ∃ xs, Same H1 H' ∧ H' D = some (.lst xs) ∧ RA (fun t => H1 t = none ∧ t ≠ D) false H' xs i f) ⟨[], Same.new hD, upd_same, RA.nil⟩ ?_ ?_
  · rintro i H' hi ⟨xs, S1, hd, hR⟩
    refine turn i H' hi S1 _ fun t H2 nt S2 ht => ⟨xs, S2 _ _ hd, ?_, xs ++ [V.ref t], (S1.trans S2).mut hD, upd_same, ?_⟩
    · rw [hR.1]; exact slt1000 (by omega)
    · have ne : t ≠ D := fun z => by rw [z, hd] at nt; cases nt
      exact ((hR.mono S2).more ⟨S1.free nt, ne⟩ ht).upd fun t c => c.2
  · rintro H' ⟨xs, S1, hd, hR⟩
    exact done H' xs S1 hd hR
end Rt
set_option Elab.async false
set_option linter.all false
set_option maxRecDepth 100000
set_option maxHeartbeats 4000000
/-! isinstance(e, C) in an except suite, e an instance of an own exception class that has a dict. -/
namespace Rt
open PySem PySem.Spec L2 PyProof.Rows
open PySem.W (Frag findIn subIn InstAt)
section
variable {prog : Program} {w : World} {A : Around} {E : Value → Shared → Prop} {s : Shared} {K : Frag} {x D : Addr} {ox : Obj} {od : Obj}
theorem exd_class {Q : Option Value → Shared → Prop} (C : ExcC K D) (X : K.In s.heap) (I : InstAt s.heap x ox D (some od)) (h : Q (some (.ref D)) { s with toks := s.toks + 1 }) : wpAny (model prog w) A (getAttr? (.ref x) "__class__") Q E s := by
  have found : PySem.W.findObj K D (some od) "__class__" = some (.bind (.builtin "getset_descriptor.__get__") (.builtin "object.__class__")) :=
    PySem.W.findObj_data (by obtain ⟨cd, hc, _⟩ := PySem.W.any_some C.hd; rw [hc]; rfl) C.ha C.hn C.ht
  obtain ⟨hp, g, d, t, os⟩ := s
  have l0 := I.type (M := model prog w); have l1 := PySem.W.looks_findIn (M := model prog w) X C.hg
  have l2 := PySem.W.looks_findIn (M := model prog w) X C.hk; have l3 := PySem.W.looks_find (M := model prog w) X I found
  have below : PySem.W.Looks (model prog w) hp (isInstance (.ref x) (.type "BaseException")) true := l0.andThen (PySem.W.looks_subIn X C.hs)
  have z2 : (Value.builtin "BaseException.__getattribute__" == Value.builtin "object.__getattribute__") = false := by decide +kernel
  have z1 : (onTheHeap (Value.ref D) && Value.builtin "BaseException.__getattribute__" == Value.builtin "object.__getattribute__") = false := by rw [z2]; rfl
  unfold getAttr? getAttrBy? getAttrBy; refine wpAny_bind (wpAny_mkText (wpAny_bind (wpAny_attempt (wpAny_holding (wpAny_bind (l0.at (wpAny_bind (l1.at ?_))))))))
  show wpAny _ _ (if (onTheHeap (Value.ref D) && Value.builtin "BaseException.__getattribute__" == Value.builtin "object.__getattribute__") = true then _ else _) _ _ _; rw [z1, if_neg Bool.false_ne_true]
  unfold getAttrByItsOwn hookBefore; refine wpAny_bind ?_
  rw [if_pos (show onTheHeap (Value.ref D) = true from rfl)]; refine l2.at ?_
  refine wpAny_bind (wpAny_attempt (wpAny_holding ?_)); unfold callGetattribute
  rw [show (false && onTheHeap (Value.builtin "BaseException.__getattribute__")) = false from rfl, if_neg Bool.false_ne_true]; unfold boundAndCalled
  rw [PySem.F.excAttr_ValueError.ga.bind (.ref x)]; refine wpAny_bind (wpAny_pure ?_)
  show wpAny _ _ (call (.builtin "BaseException.__getattribute__") [.ref x, .str "__class__" t]) _ _ _; refine wpAny_call (codeAny_call_builtin PySem.F.excAttr_ValueError.ga.plain PySem.F.entry_bexc_ga ?_)
  refine @PySem.W.check_slot (model prog w) _ _ ⟨hp, g, d, t + 1, os⟩ "BaseException.__getattribute__" "BaseException" "__getattribute__" (.ref x) [.str "__class__" t] [] _ (by decide +kernel) (by decide +kernel) below (PySem.F.args_bexc_ga (.ref x) (.str "__class__" t)) ?_
  unfold Builtin.«object.__getattribute__»; refine wpAny_bind (wpAny_of_eq (a := ((Value.ref x : Value), [Value.str "__class__" t])) (by first | rfl | (simp only [slotArgs]; rfl)) ?_)
  refine wpAny_bind (wpAny_pure (wpAny_bind (l0.at (wpAny_bind (l3.at ?_)))))
  show wpAny _ _ (holding [Value.builtin "object.__class__"] (call (.builtin "getset_descriptor.__get__") [.builtin "object.__class__", .ref x, .ref D]) >>= ret) _ _ _; refine wpAny_bind (wpAny_holding (wpAny_call (PySem.W.class_get (s := ⟨hp, g, d, t + 1, os⟩) (ox := ox) (od := some od) X I C.hm ?_)))
  refine wpAny_pure ?_; show wpAny _ _ (handedOut (.ref D)) _ _ _
  rw [PySem.W.handedOut_of (v := .ref D) rfl]
  first | exact wpAny_pure (wpAny_pure h) | exact wpAny_pure h | exact wpAny_pure (wpAny_bind (wpAny_pure (wpAny_pure h)))
theorem exd_kit (C : ExcC K D) : PySem.W.KitX K (.ref x) (.ref D) (fun h => InstAt h x ox D (some od)) where
  ty := fun _ _ _ I => I.type
  it := fun _ _ X _ => by
    obtain ⟨cdD, e, _⟩ := PySem.W.any_some C.hd
    unfold PySem.W.clsIn at e; split at e
    · rename_i c1 d1 cd1 sl1 at1
      intro A' Q' E' s' k q; unfold isType loadHead
      exact wpAny_bind (wpAny_loadPart (k _ _ (X _ _ at1)) (wpAny_pure q))
    · cases e
  ne := fun h tp dd its n sl X at2 => by
    obtain ⟨cdD, e, _⟩ := PySem.W.any_some C.hd
    refine Bool.eq_false_iff.mpr fun q => ?_
    have same : D = tp := Value.ref.inj (beq_iff_eq.mp q)
    subst same; unfold PySem.W.clsIn at e
    split at e
    · rename_i c1 d1 cd1 sl1 at1
      exact absurd ((X _ _ at1).symm.trans at2) (by intro z; cases z)
    · cases e
  ca := fun X I k => exd_class C X I k
end
/-- isinstance(e, c), e the exception of the suite, its class D, its dict at dd -/
def rIsX (K : Frag) (a : Addr) (cls : Value) (d : Option Addr) : List V → Hp → VK → Prop := fun xs H Q => ∃ (D dd : Addr) (fs : List (Str × V)) (c : V) (cv : Value) (b : Bool), xs = [.ref a, c] ∧ cls = .ref D ∧ d = some dd ∧ H dd = some (.xd fs) ∧ ExcC K D ∧ (∀ u, RelV c u → u = cv) ∧ PySem.W.kitOne K (.ref D) cv = some b ∧ Q (.bl b) H
theorem call_isX {X : Cx} {a : Addr} {oe : Obj} {cls : Value} {d : Option Addr} {pn : List (Addr × Obj)} (K : Frag) (hz : Zc cls d oe) (hf : ∃ vs, oe.data = .fields vs) (hK : X.K = K := by rfl) : CallR (X.suite a ((a, oe) :: pn)) (.builtin "isinstance") (rIsX K a cls d) := by
  subst hK
  intro pins s σ H xs us Q I r h
  obtain ⟨D, dd, fs, c, cv, b, rfl, rfl, rfl, hdd, C, hcv, e, q⟩ := h
  cases r with
  | cons rx rr =>
    cases rr with
    | cons rt rr =>
      cases rr
      obtain rfl : _ = Value.ref a := rx
      have ec := hcv _ rt
      subst ec
      obtain ⟨here, _⟩ := I.pin (a, oe) (List.mem_append_left _ List.mem_cons_self)
      obtain ⟨vs, hd⟩ := hf
      have ok : ObjOk X.prog X.w H s.heap dd (.xd fs) := I.hok dd _ hdd
      obtain ⟨mA, hns, _⟩ := ok
      obtain ⟨od, ho, _⟩ := lookIn_ns hns
      have J : InstAt s.heap a oe D (some od) := ⟨here, hz.1, by unfold PySem.W.notCls; rw [hd] <;> rfl, by rw [hz.2]; exact ho⟩
      exact PySem.W.kia_one (exd_kit C) I.kIn J e (fun z => nomatch z) fun tk => ⟨.bl b, H, I.kept (t' := tk) fun _ _ z => z, rfl, q⟩
/-- the facts of a class, in one Bool -/
def isxB (K : Frag) (D : Addr) : Bool := decide (findIn K (.ref D) "__getattribute__" = some (some (.builtin "BaseException.__getattribute__"))) && (decide (findIn K (.ref D) "__getattr__" = some none) && (decide (subIn K (.ref D) (.type "BaseException") = some true) && (PySem.W.hasDictIn K D &&
  (decide (findIn K (.ref D) "__class__" = some (some (.builtin "object.__class__"))) && (decide (PySem.W.specialIn K (.builtin "object.__class__") "__get__" = some (some (.builtin "getset_descriptor.__get__"))) && (decide (PySem.W.takesIn K (.builtin "object.__class__") = some true) && decide (PySem.W.mroIn K D (.type "object") = some true)))))))
theorem isxB_ok {K : Frag} {D : Addr} (h : isxB K D = true) : ExcC K D := by
  unfold isxB at h
  simp only [Bool.and_eq_true, decide_eq_true_eq] at h
  obtain ⟨h1, h2, h3, h4, h5, h6, h7, h8⟩ := h
  exact ⟨h1, h2, h3, h4, h5, h6, h7, h8⟩
theorem g_isX {K : Frag} {a D dd : Addr} {fs : List (Str × V)} {c : Addr} {b : Bool} {H : Hp} {Q : VK} (hd : H dd = some (.xd fs)) (C : ExcC K D) (e : PySem.W.kitOne K (.ref D) (.ref c) = some b) (q : Q (.bl b) H) : rIsX K a (.ref D) (some dd) [.ref a, .ref c] H Q :=
  ⟨D, dd, fs, .ref c, .ref c, b, rfl, rfl, rfl, hd, C, fun u hu => hu, e, q⟩
theorem g_isXT {K : Frag} {a D dd : Addr} {fs : List (Str × V)} {n : String} {b : Bool} {H : Hp} {Q : VK} (hd : H dd = some (.xd fs)) (C : ExcC K D) (e : PySem.W.kitOne K (.ref D) (.type n) = some b) (q : Q (.bl b) H) : rIsX K a (.ref D) (some dd) [.ref a, .ty n] H Q :=
  ⟨D, dd, fs, .ty n, .type n, b, rfl, rfl, rfl, hd, C, fun u hu => hu, e, q⟩
end Rt
namespace Rt
open PySem PySem.Spec L2 PyProof.Rows
/-! ### xs[i], by values; an item of a list is replaced; lists of ints compared -/
def rGetL (K : PySem.W.Frag) : V → V → Hp → VK → Prop := fun o i H Q => ∃ (p : Addr) (xs : List V) (k : Nat) (v : V), o = .ref p ∧ i = .int (k : Int) ∧ SqL K H p xs ∧ xs[k]? = some v ∧ Q v H
theorem pget_ixK {X : Cx} (K : PySem.W.Frag) (h : X.K = K := by rfl) : PGet X (rGetL K) := by
  subst h
  intro pins s σ H o i ov iv Q I ro ri h
  obtain ⟨p, xs, k, v, rfl, rfl, hs, hk, q⟩ := h
  obtain rfl : ov = Value.ref p := ro
  obtain ⟨t, rfl⟩ := ri
  obtain ⟨its, r, pl, hz⟩ := I.list hs
  obtain ⟨w, ew, rw'⟩ := r.get hk
  have hl := r.length
  have hn := line63
  have lt := (List.getElem?_eq_some_iff.mp hk).1
  exact wpAny_getItem_list pl.isList (by omega) (by omega) (by simpa using ew) ⟨v, H, I, rw', q⟩
theorem g_setV {H : Hp} {l : Addr} {xs : List V} {i : Nat} {v : V} {R : Hp → Prop} (h : H l = some (.lst xs)) (hi : i < xs.length) (q : R (upd H l (.lst (xs.set i v)))) : rSetL (.ref l) (.int (i : Int)) v H R := by
  refine ⟨l, _, (i : Int), i, rfl, rfl, h, ?_, q⟩
  unfold ixN
  simp; omega
theorem g_augS {to ti te : TE} {tget : V → V → Hp → VK → Prop} {tip : TIp} {tset : TSet} {D : Ends} {σ : L2.St} {H : Hp} (h : to σ H fun o H1 => ti σ H1 fun i H2 => tget o i H2 fun x H3 => te σ H3 fun y H4 => tip x y H4 fun z H5 => tset o i z H5 fun H6 => D.nx σ H6) : tAugS to ti te tget tip tset D σ H := h
theorem g_neL {K : PySem.W.Frag} {H : Hp} {Q : VK} {a b : Addr} {xs ys : List Int} (ha : SqL K H a (xs.map V.int)) (hb : SqL K H b (ys.map V.int)) (h : Q (.bl (!decide (xs = ys))) H) : rNeD K (.ref a) (.ref b) H Q :=
  ⟨_, _, .lst ha (dpI xs), .lst hb (dpI ys), (shI xs).1, (shI ys).1, by rw [PyData.eqv, eqvI]; exact h⟩
end Rt
namespace Rt
open PySem PySem.Spec L2 PyProof.Rows
/-! ### e.f in an except suite, the class told by the reading -/
def tXfG (K : PySem.W.Frag) (a : Addr) (cls : Value) (d : Option Addr) (f : Str) (te : TE) : TE := fun σ H Q => te σ H fun x H1 => x = .ref a ∧ ∃ (C dd : Addr) (fs : List (Str × V)) (v : V), cls = .ref C ∧ XfC K C ∧ PySem.W.findIn K (.ref C) f = some none ∧ d = some dd ∧ H1 dd = some (.xd fs) ∧ fs.lookup f = some v ∧ Q v H1
theorem pe_xfG {X : Cx} {a : Addr} {oe : Obj} {cls : Value} {d : Option Addr} {pn : List (Addr × Obj)} {e : Expr} {te : TE} {pos : Pos} {n : Str} (K : PySem.W.Frag) (hz : Zc cls d oe) (hf : ∃ vs, oe.data = .fields vs) (he : PE (X.suite a ((a, oe) :: pn)) e te) (hb : attributeBase e n X.env (eval e X.env) = eval e X.env := by rfl) (hK : X.K = K := by rfl) :
    PE (X.suite a ((a, oe) :: pn)) (.Attribute e n pos) (tXfG K a cls d n te) := by
  subst hK
  refine ⟨fun pins s σ H Q I h => attr_of hb (thn (he.run pins s σ H _ I h) fun u s1 got => ?_)⟩
  obtain ⟨x, H1, I1, rx, ex, C, dd, fs, v, ec, xc, no, ed, ea, l, q⟩ := got
  subst ex ec ed
  obtain rfl : u = Value.ref a := rx
  obtain ⟨here, _⟩ := I1.pin (a, oe) (List.mem_append_left _ List.mem_cons_self); obtain ⟨vs, hd⟩ := hf
  have ok : ObjOk X.prog X.w H1 s1.heap dd (.xd fs) := I1.hok dd _ ea
  obtain ⟨mA, hns, hr⟩ := ok; obtain ⟨od, ho, hl⟩ := lookIn_ns hns
  obtain ⟨u, hu, ru⟩ := RelO.some_of (v := v) (o := mA n) (by rw [← l]; exact hr n)
  have at_ : PySem.W.InstAt s1.heap a oe C (some od) := ⟨here, hz.1, by unfold PySem.W.notCls; rw [hd] <;> rfl, by rw [hz.2]; exact ho⟩
  exact HandSPX.exc_get I1.kIn at_ xc.ga xc.gg xc.exC (PySem.W.findObj_own xc.hdC no rfl (by rw [hl, hu])) (handed_of ru) ⟨v, H1, I1.tok _, ru, q⟩
theorem g_xfG {K : PySem.W.Frag} {a C dd : Addr} {f : Str} {te : TE} {σ : L2.St} {H : Hp} {Q : VK} (h : te σ H fun x H1 => x = .ref a ∧ ∃ (C' dd' : Addr) (fs : List (Str × V)) (v : V), (Value.ref C : Value) = .ref C' ∧ XfC K C' ∧ PySem.W.findIn K (.ref C') f = some none ∧ (some dd : Option Addr) = some dd' ∧ H1 dd' = some (.xd fs) ∧ fs.lookup f = some v ∧ Q v H1) : tXfG K a (.ref C) (some dd) f te σ H Q := h
end Rt
set_option Elab.async false
set_option linter.all false
set_option maxRecDepth 100000
set_option maxHeartbeats 4000000
/-! The mathematics of heads: the beads in no train, and which of them stay heads in the next round. -/
namespace Rt
open PySem PySem.Spec L2
variable {r : Bool} {ss ls : List Int} {p q : Nat}
/-- the places in no train -/
def hdT (r : Bool) (ss : List Int) : List Nat := (List.range ss.length).filter fun q => decide (∀ p, p < ss.length → q ∉ trn r ss p)
theorem mem_hdT : q ∈ hdT r ss ↔ q < ss.length ∧ ∀ p, p < ss.length → q ∉ trn r ss p := by
  unfold hdT
  rw [List.mem_filter, List.mem_range, decide_eq_true_eq]
theorem hdT_asc : (hdT r ss).Pairwise (· < ·) := List.Pairwise.filter _ List.pairwise_lt_range
theorem asc_ext : ∀ {l m : List Nat}, l.Pairwise (· < ·) → m.Pairwise (· < ·) → (∀ x, x ∈ l ↔ x ∈ m) → l = m
  | [], [], _, _, _ => rfl
  | [], b :: m, _, _, h => absurd ((h b).mpr List.mem_cons_self) (by simp)
  | a :: l, [], _, _, h => absurd ((h a).mp List.mem_cons_self) (by simp)
  | a :: l, b :: m, hl, hm, h => by
    obtain ⟨l1, l2⟩ := List.pairwise_cons.mp hl
    obtain ⟨m1, m2⟩ := List.pairwise_cons.mp hm
    have e : a = b := by
      rcases List.mem_cons.mp ((h a).mp List.mem_cons_self) with z | z
      · exact z
      · rcases List.mem_cons.mp ((h b).mpr List.mem_cons_self) with y | y
        · exact y.symm
        · have := m1 a z; have := l1 b y; omega
    subst e
    rw [asc_ext l2 m2 fun x => ?_]
    constructor
    · intro hx
      rcases List.mem_cons.mp ((h x).mp (List.mem_cons_of_mem _ hx)) with z | z
      · have := l1 x hx; omega
      · exact z
    · intro hx
      rcases List.mem_cons.mp ((h x).mpr (List.mem_cons_of_mem _ hx)) with z | z
      · have := m1 x hx; omega
      · exact z
theorem trn_wk (h : q ∈ trn r ss p) : ss.getD q 0 < ss.getD p 0 := of_decide_eq_true (tw_mem (q := wk ss p) h)
theorem trn_fwd (h : q ∈ trn false ss p) : p < q := rn_ge q ((List.takeWhile_sublist _).subset h)
/-- something stronger before: in some train -/
theorem covered {x o : Nat} (hx : x < ss.length) (ho : o < ss.length) (hb : r = true ∨ o < x) (hs : ss.getD x 0 < ss.getD o 0) : ∃ p, p < ss.length ∧ x ∈ trn r ss p := by
  have hm : o ∈ bef r ss.length x := by
    unfold bef
    refine List.mem_append.mpr ?_
    by_cases c : o < x
    · exact Or.inl (List.mem_reverse.mpr (List.mem_range.mpr c))
    · have hr : r = true := hb.resolve_right c
      have ne : o ≠ x := fun z => by rw [z] at hs; omega
      rw [if_pos hr]
      exact Or.inr (List.mem_reverse.mpr (List.mem_map.mpr ⟨o - (x + 1), List.mem_range.mpr (by omega), by omega⟩))
  obtain ⟨i, hi, e⟩ := List.mem_iff_getElem.mp hm
  have key : ∀ m : Nat, (∀ j, j < m → ∀ y, (bef r ss.length x)[j]? = some y → ss.getD y 0 ≤ ss.getD x 0) ∨ ∃ p, p < ss.length ∧ x ∈ trn r ss p := by
    intro m
    induction m with
    | zero => exact .inl fun j h => absurd h (Nat.not_lt_zero _)
    | succ m ih =>
      rcases ih with h | h
      · by_cases c : ∀ y, (bef r ss.length x)[m]? = some y → ss.getD y 0 ≤ ss.getD x 0
        · refine .inl fun j hj y hy => ?_
          rcases Nat.lt_succ_iff_lt_or_eq.mp hj with z | z
          · exact h j z y hy
          · rw [z] at hy; exact c y hy
        · have ⟨y, hy, hys⟩ : ∃ y, (bef r ss.length x)[m]? = some y ∧ ¬ ss.getD y 0 ≤ ss.getD x 0 := by
            refine Decidable.byContradiction fun z => c fun y hy => Decidable.byContradiction fun w => z ⟨y, hy, w⟩
          exact .inr ⟨y, (bef_lt hx hy).2, (lord_step hx hy h).mpr (by omega)⟩
      · exact .inr h
  rcases key (i + 1) with h | h
  · have := h i (Nat.lt_succ_self _) o (by rw [List.getElem?_eq_getElem hi, e])
    omega
  · exact h
/-- each bead is a head or in the train of a head -/
theorem top_head : ∀ (m p : Nat), up ss p ≤ m → p < ss.length → p ∈ hdT r ss ∨ ∃ h, h ∈ hdT r ss ∧ p ∈ trn r ss h
  | 0, p, hu, hp => by
    refine .inl (mem_hdT.mpr ⟨hp, fun p1 h1 hm => ?_⟩)
    have := up_lt h1 (trn_wk hm)
    omega
  | m + 1, p, hu, hp => by
    by_cases c : ∀ p1, p1 < ss.length → p ∉ trn r ss p1
    · exact .inl (mem_hdT.mpr ⟨hp, c⟩)
    · have ⟨p1, h1, hm⟩ : ∃ p1, p1 < ss.length ∧ p ∈ trn r ss p1 := by
        refine Decidable.byContradiction fun z => c fun p1 h1 hm => z ⟨p1, h1, hm⟩
      have lt := up_lt h1 (trn_wk hm)
      rcases top_head m p1 (by omega) h1 with h | ⟨h, hh, h2⟩
      · exact .inr ⟨p1, h, hm⟩
      · exact .inr ⟨h, hh, trn_sub (mem_hdT.mp hh).1 h2 hm⟩
theorem trn_grow (P : Pos' ss ls) (hp : p < ss.length) (h : q ∈ trn r ss p) : q ∈ trn r (rnd r ls ss) p := by
  have up := tl_up (r := r) P hp
  have e1 := trn_tk (r := r) (ss := ss) (p := p)
  have e2 := trn_tk (r := r) (ss := rnd r ls ss) (p := p)
  rw [rnd_len] at e2
  rw [e1] at h
  rw [e2]
  have : (run r ss.length p).take (tl r ss p) = ((run r ss.length p).take (tl r (rnd r ls ss) p)).take (tl r ss p) := by rw [List.take_take, Nat.min_eq_left up]
  rw [this] at h
  exact List.mem_of_mem_take h
theorem next_head (P : Pos' ss ls) : q ∈ hdT r (rnd r ls ss) ↔ q ∈ hdT r ss ∧ ∀ o, o ∈ hdT r ss → (r = true ∨ o < q) → (rnd r ls ss).getD o 0 ≤ (rnd r ls ss).getD q 0 := by
  constructor
  · intro h
    obtain ⟨hq, hn⟩ := mem_hdT.mp h
    rw [rnd_len] at hq hn
    refine ⟨mem_hdT.mpr ⟨hq, fun p hp hm => hn p hp (trn_grow P hp hm)⟩, fun o ho hb => ?_⟩
    refine Decidable.byContradiction fun z => ?_
    obtain ⟨p, hp, hm⟩ := covered (r := r) (ss := rnd r ls ss) (x := q) (o := o) (by rw [rnd_len]; exact hq) (by rw [rnd_len]; exact (mem_hdT.mp ho).1) hb (by omega)
    rw [rnd_len] at hp
    exact hn p hp hm
  · rintro ⟨h, hk⟩
    obtain ⟨hq, hn⟩ := mem_hdT.mp h
    refine mem_hdT.mpr ⟨by rw [rnd_len]; exact hq, fun p hp hm => ?_⟩
    rw [rnd_len] at hp
    have s1 := trn_wk hm
    have f1 : r = true ∨ p < q := by
      cases r
      · exact .inr (trn_fwd hm)
      · exact .inl rfl
    rcases top_head (r := r) (ss := ss) (up ss p) p (Nat.le_refl _) hp with hd | ⟨h0, hd, h2⟩
    · have := hk p hd f1
      omega
    · have s2 := rnd_in P (mem_hdT.mp hd).1 h2
      have f2 : r = true ∨ h0 < q := by
        cases r
        · have := trn_fwd h2
          rcases f1 with z | z
          · cases z
          · exact .inr (by omega)
        · exact .inl rfl
      have := hk h0 hd f2
      omega
/-- which heads stay, by their places in the list of heads -/
def kept (r : Bool) (H : List Nat) (s : List Int) : List Nat := ((List.range H.length).filter fun k => decide (∀ j, j < H.length → (r = true ∨ j < k) → s.getD (H.getD j 0) 0 ≤ s.getD (H.getD k 0) 0)).map fun k => H.getD k 0
theorem asc_lt {H : List Nat} (h : H.Pairwise (· < ·)) {i j : Nat} (hij : i < j) (hj : j < H.length) : H.getD i 0 < H.getD j 0 := by
  rw [List.getD_eq_getElem?_getD, List.getD_eq_getElem?_getD, List.getElem?_eq_getElem (by omega), List.getElem?_eq_getElem hj]
  exact List.pairwise_iff_getElem.mp h i j (by omega) hj hij
theorem mem_at {H : List Nat} {x : Nat} : x ∈ H ↔ ∃ k, k < H.length ∧ H.getD k 0 = x := by
  constructor
  · intro h
    obtain ⟨k, hk, e⟩ := List.mem_iff_getElem.mp h
    exact ⟨k, hk, by rw [List.getD_eq_getElem?_getD, List.getElem?_eq_getElem hk]; exact e⟩
  · rintro ⟨k, hk, rfl⟩
    rw [List.getD_eq_getElem?_getD, List.getElem?_eq_getElem hk]
    exact List.getElem_mem hk
theorem kept_heads (P : Pos' ss ls) : kept r (hdT r ss) (rnd r ls ss) = hdT r (rnd r ls ss) := by
  refine asc_ext ?_ hdT_asc fun x => ?_
  · unfold kept
    rw [List.pairwise_map]
    have pw : ((List.range (hdT r ss).length).filter fun k => decide (∀ j, j < (hdT r ss).length → (r = true ∨ j < k) → (rnd r ls ss).getD ((hdT r ss).getD j 0) 0 ≤ (rnd r ls ss).getD ((hdT r ss).getD k 0) 0)).Pairwise (· < ·) := List.Pairwise.filter _ List.pairwise_lt_range
    refine pw.imp_of_mem fun {a b} _ hb hab => asc_lt hdT_asc hab ?_
    exact List.mem_range.mp (List.mem_filter.mp hb).1
  · rw [next_head P]
    unfold kept
    rw [List.mem_map]
    constructor
    · rintro ⟨k, hk, rfl⟩
      obtain ⟨k1, k2⟩ := List.mem_filter.mp hk
      have k1 := List.mem_range.mp k1
      have k2 := of_decide_eq_true k2
      refine ⟨mem_at.mpr ⟨k, k1, rfl⟩, fun o ho hb => ?_⟩
      obtain ⟨j, hj, rfl⟩ := mem_at.mp ho
      refine k2 j hj ?_
      rcases hb with z | z
      · exact .inl z
      · refine .inr (Nat.lt_of_not_le fun w => ?_)
        rcases Nat.lt_or_eq_of_le w with y | y
        · have := asc_lt (hdT_asc (r := r) (ss := ss)) y hj; omega
        · rw [y] at z; omega
    · rintro ⟨hx, hk⟩
      obtain ⟨k, k1, rfl⟩ := mem_at.mp hx
      refine ⟨k, List.mem_filter.mpr ⟨List.mem_range.mpr k1, decide_eq_true fun j hj hb => hk _ (mem_at.mpr ⟨j, hj, rfl⟩) ?_⟩, rfl⟩
      rcases hb with z | z
      · exact .inl z
      · exact .inr (asc_lt hdT_asc z k1)
/-- at the end the heads stay -/
theorem hdT_fix (P : Pos' ss ls) (e : rnd r ls (rnd r ls ss) = rnd r ls ss) : hdT r (rnd r ls ss) = hdT r ss := by
  have same : ∀ p, p < ss.length → trn r (rnd r ls ss) p = trn r ss p := fun p hp => by
    have a := rnd_at (r := r) (ls := ls) (ss := rnd r ls ss) (p := p) (by rw [rnd_len]; exact hp)
    rw [e, rnd_at hp, rch_sk, rch_sk, rnd_len] at a
    have tle : tl r (rnd r ls ss) p = tl r ss p := by
      have up := tl_up (r := r) P hp
      rcases Nat.lt_or_eq_of_le up with z | z
      · have l1 := tl_le (r := r) (ss := rnd r ls ss) (p := p)
        rw [rnd_len] at l1
        have := sk_lt (r := r) P hp z l1
        omega
      · exact z.symm
    rw [trn_tk, trn_tk, tle, rnd_len]
  unfold hdT
  rw [rnd_len]
  refine List.filter_congr fun x hx => ?_
  refine decide_eq_decide.mpr ⟨fun h p hp => by rw [← same p hp]; exact h p hp, fun h p hp => by rw [same p hp]; exact h p hp⟩
end Rt
set_option Elab.async false
set_option linter.all false
set_option maxRecDepth 100000
set_option maxHeartbeats 4000000
/-! The mathematics of opened rings and of the ends of rows: their books are those of the whole. -/
namespace Rt
open PySem PySem.Spec L2
variable {r : Bool} {ss ls : List Int} {p q h n : Nat}
theorem tw_map {α β : Type} {f : α → β} {q : β → Bool} : ∀ {l : List α}, (l.map f).takeWhile q = (l.takeWhile fun x => q (f x)).map f
  | [] => rfl
  | a :: l => by
    rw [List.map_cons, List.takeWhile_cons, List.takeWhile_cons, tw_map]
    cases q (f a) <;> rfl
theorem tw_pre {α : Type} {q : α → Bool} : ∀ {l : List α} {m : Nat}, (l.takeWhile q).length ≤ m → l.takeWhile q = (l.take m).takeWhile q
  | [], m, _ => by simp
  | a :: l, 0, hm => by
    have : (a :: l).takeWhile q = [] := List.eq_nil_of_length_eq_zero (by omega)
    rw [this]; rfl
  | a :: l, m + 1, hm => by
    rw [List.take_succ_cons, List.takeWhile_cons, List.takeWhile_cons]
    cases e : q a with
    | false => rfl
    | true =>
      rw [List.takeWhile_cons, e] at hm
      rw [if_pos rfl, if_pos rfl, tw_pre (l := l) (m := m) (by simpa using hm)]
/-- the place behind h by i, around -/
def cyc (n h i : Nat) : Nat := if h + i < n then h + i else h + i - n
theorem cyc_lt (hh : h < n) {i : Nat} (hi : i < n) : cyc n h i < n := by unfold cyc; split <;> omega
def rot (h : Nat) (l : List Int) : List Int := l.drop h ++ l.take h
theorem rot_len {l : List Int} : (rot h l).length = l.length := by unfold rot; rw [List.length_append, List.length_drop, List.length_take]; omega
theorem rot_at {l : List Int} {i : Nat} (hh : h ≤ l.length) (hi : i < l.length) : (rot h l).getD i 0 = l.getD (cyc l.length h i) 0 := by
  unfold rot cyc
  rw [List.getD_eq_getElem?_getD, List.getD_eq_getElem?_getD]
  by_cases c : h + i < l.length
  · rw [if_pos c, List.getElem?_append_left (by rw [List.length_drop]; omega), List.getElem?_drop]
  · rw [if_neg c, List.getElem?_append_right (by rw [List.length_drop]; omega), List.length_drop, List.getElem?_take_of_lt (by omega), show i - (l.length - h) = h + i - l.length by omega]
/-- a train carried over: the reach is the same -/
theorem rch_carry {s s' l l' : List Int} {r r' : Bool} {f : Nat → Nat} {i : Nat} (hl : l'.getD i 0 = l.getD (f i) 0) (ht : trn r s (f i) = (trn r' s' i).map f) (hf : ∀ j, j ∈ trn r' s' i → l'.getD j 0 = l.getD (f j) 0) : rch r' s' l' i = rch r s l (f i) := by
  rw [rch_eq, rch_eq, ht, hl]
  congr 1
  unfold sm
  rw [List.map_map]
  congr 1
  exact List.map_congr_left fun j hj => hf j hj
/-! ### a ring opened at a head -/
theorem trn_open (hh : h < ss.length) {i : Nat} (hi : i < ss.length) (no : h ∉ trn true ss (cyc ss.length h i)) : trn true ss (cyc ss.length h i) = (trn false (rot h ss) i).map (cyc ss.length h) := by
  have hp := cyc_lt hh hi
  have rl := run_len (r := true) hp
  rw [if_pos rfl] at rl
  have fl := run_len (r := false) (n := ss.length) hi
  rw [if_neg Bool.false_ne_true] at fl
  have at_ : ∀ k, k < ss.length - (i + 1) → (run true ss.length (cyc ss.length h i))[k]? = some (cyc ss.length h (i + 1 + k)) := fun k hk => by
    rw [run_at hp (by omega)]
    by_cases c1 : h + i < ss.length
    · rw [show cyc ss.length h i = h + i from if_pos c1]
      by_cases c2 : h + (i + 1 + k) < ss.length
      · rw [show cyc ss.length h (i + 1 + k) = _ from if_pos c2, if_pos (by omega)]; congr 1; omega
      · rw [show cyc ss.length h (i + 1 + k) = _ from if_neg c2, if_neg (by omega), if_pos rfl]; congr 1; omega
    · rw [show cyc ss.length h i = h + i - ss.length from if_neg c1, show cyc ss.length h (i + 1 + k) = _ from if_neg (show ¬ h + (i + 1 + k) < ss.length by omega), if_pos (by omega)]; congr 1; omega
  have pre : (run true ss.length (cyc ss.length h i)).take (ss.length - (i + 1)) = (run false ss.length i).map (cyc ss.length h) := by
    refine List.ext_getElem? fun k => ?_
    by_cases c : k < ss.length - (i + 1)
    · rw [List.getElem?_take_of_lt c, at_ k c, List.getElem?_map, run_at hi (by omega), if_pos (by omega)]; rfl
    · rw [List.getElem?_eq_none (by rw [List.length_take]; omega), List.getElem?_eq_none (by rw [List.length_map]; omega)]
  have few : tl true ss (cyc ss.length h i) ≤ ss.length - (i + 1) := by
    refine Nat.le_of_not_lt fun z => no ?_
    have t1 := tl_le (r := true) (ss := ss) (p := cyc ss.length h i)
    have hm : (run true ss.length (cyc ss.length h i))[ss.length - (i + 1)]? = some h := by
      rw [run_at hp (by omega)]
      by_cases c1 : h + i < ss.length
      · rw [show cyc ss.length h i = h + i from if_pos c1, if_neg (by omega), if_pos rfl]; congr 1; omega
      · rw [show cyc ss.length h i = h + i - ss.length from if_neg c1, if_pos (by omega)]; congr 1; omega
    rw [trn_tk]
    exact List.mem_iff_getElem?.mpr ⟨_, by rw [List.getElem?_take_of_lt z]; exact hm⟩
  have e1 : trn true ss (cyc ss.length h i) = ((run true ss.length (cyc ss.length h i)).take (ss.length - (i + 1))).takeWhile (wk ss (cyc ss.length h i)) := tw_pre few
  rw [e1, pre, tw_map]
  unfold trn
  rw [rot_len]
  congr 1
  refine tw_congr fun j hj => ?_
  have jl := run_lt hi j hj
  rw [wk_eq, wk_eq, rot_at (by omega) jl, rot_at (by omega) hi]
theorem rnd_open (P : Pos' ss ls) (hh : h ∈ hdT true ss) : rnd false (rot h ls) (rot h ss) = rot h (rnd true ls ss) := by
  obtain ⟨hl, no⟩ := mem_hdT.mp hh
  refine ext_getD (by rw [rnd_len, rot_len, rot_len, rnd_len]) fun i hi => ?_
  rw [rnd_len, rot_len] at hi
  have ll := P.len
  have hc := cyc_lt hl hi
  rw [rnd_at (by rw [rot_len]; exact hi), rot_at (by rw [rnd_len]; omega) (by rw [rnd_len]; exact hi), rnd_len, rnd_at hc]
  refine rch_carry (f := cyc ss.length h) ?_ (trn_open hl hi (no _ hc)) fun j hj => ?_
  · rw [rot_at (by omega) (by omega), ll]
  · have jl := trn_lt (ss := rot h ss) (by rw [rot_len]; exact hi) j hj
    rw [rot_len] at jl
    rw [rot_at (by omega) (by omega), ll]
theorem row_open (P : Pos' ss ls) : ∀ k, (∀ j, j < k → h ∈ hdT true (row true ls ss j)) → row false (rot h ls) (rot h ss) k = rot h (row true ls ss k)
  | 0, _ => rfl
  | k + 1, hj => by
    show rnd false (rot h ls) (row false (rot h ls) (rot h ss) k) = rot h (rnd true ls (row true ls ss k))
    rw [row_open P k fun j hk => hj j (by omega), rnd_open (P.row true k) (hj k (Nat.lt_succ_self _))]
/-- a head at the end has been a head in all rounds -/
theorem head_all {N : Nat} (P : Pos' ss ls) (hS : Stop r ls ss N) (hh : h ∈ hdT r (row r ls ss (max 1 N - 1))) : ∀ j, h ∈ hdT r (row r ls ss j) := by
  have down : ∀ m j, h ∈ hdT r (row r ls ss (j + m)) → h ∈ hdT r (row r ls ss j) := by
    intro m
    induction m with
    | zero => exact fun j hj => hj
    | succ m ih => exact fun j hj => ih j ((next_head (P.row r (j + m))).mp hj).1
  have up : ∀ m, h ∈ hdT r (row r ls ss (max 1 N - 1 + m)) := by
    intro m
    induction m with
    | zero => exact hh
    | succ m ih =>
      have st1 := hS.stay (max 1 N - 1 + m + 1 - N)
      have st2 := hS.stay (max 1 N - 1 + m + 2 - N)
      rw [show N + (max 1 N - 1 + m + 1 - N) = max 1 N - 1 + m + 1 by omega] at st1
      rw [show N + (max 1 N - 1 + m + 2 - N) = max 1 N - 1 + m + 2 by omega] at st2
      have e3 : rnd r ls (rnd r ls (row r ls ss (max 1 N - 1 + m))) = rnd r ls (row r ls ss (max 1 N - 1 + m)) := st2.trans st1.symm
      show h ∈ hdT r (rnd r ls (row r ls ss (max 1 N - 1 + m)))
      rw [hdT_fix (P.row r _) e3]
      exact ih
  intro j
  rcases Nat.lt_or_ge j (max 1 N - 1) with z | z
  · exact down (max 1 N - 1 - j) j (by rw [show j + (max 1 N - 1 - j) = max 1 N - 1 by omega]; exact hh)
  · have := up (j - (max 1 N - 1))
    rw [show max 1 N - 1 + (j - (max 1 N - 1)) = j by omega] at this
    exact this
/-! ### the end of a row -/
theorem run_end {k i : Nat} (hk : k ≤ n) (hi : i < n - k) : run false n (k + i) = (run false (n - k) i).map (fun j => k + j) := by
  unfold run
  simp only [Bool.false_eq_true, if_false, List.append_nil, List.map_map]
  rw [show n - (k + i + 1) = n - k - (i + 1) by omega]
  exact List.map_congr_left fun j _ => by show k + i + 1 + j = k + (i + 1 + j); omega
theorem drop_at {l : List Int} {k i : Nat} : (l.drop k).getD i 0 = l.getD (k + i) 0 := by rw [List.getD_eq_getElem?_getD, List.getD_eq_getElem?_getD, List.getElem?_drop]
theorem rnd_end {k : Nat} (hk : k ≤ ss.length) (hl : ls.length = ss.length) : rnd false (ls.drop k) (ss.drop k) = (rnd false ls ss).drop k := by
  refine ext_getD (by rw [rnd_len, List.length_drop, List.length_drop, rnd_len]) fun i hi => ?_
  rw [rnd_len, List.length_drop] at hi
  rw [rnd_at (by rw [List.length_drop]; exact hi), drop_at, rnd_at (by omega)]
  refine rch_carry (f := fun j => k + j) drop_at ?_ fun j _ => drop_at
  unfold trn
  rw [List.length_drop, run_end hk hi, tw_map]
  congr 1
  exact tw_congr fun j _ => by rw [wk_eq, wk_eq, drop_at, drop_at]
theorem row_end_ {k : Nat} (hk : k ≤ ss.length) (hl : ls.length = ss.length) : ∀ m, row false (ls.drop k) (ss.drop k) m = (row false ls ss m).drop k
  | 0 => rfl
  | m + 1 => by
    show rnd false (ls.drop k) (row false (ls.drop k) (ss.drop k) m) = (rnd false ls (row false ls ss m)).drop k
    rw [row_end_ hk hl m, rnd_end (by rw [row_len]; exact hk) (by rw [row_len]; exact hl)]
/-! ### equal strengths, equal books -/
theorem lstc_stay {f : Nat → Int} {N : Nat} (h : ∀ j, f (N + j) = f N) : ∀ k, lstc f (N + k) = lstc f N
  | 0 => rfl
  | k + 1 => by
    show lstc f (N + k + 1) = _
    unfold lstc
    rw [if_neg (fun z => z (by rw [show N + k + 1 = N + (k + 1) by omega, h, h])), lstc_stay h k]
    cases N <;> rfl
theorem book_le {f : Nat → Int} {N M : Nat} (hNM : N ≤ M) (h : ∀ j, f (N + j) = f N) : ((List.range (max 1 (lstc f N))).map fun i => f (min (i + 1) N)) = ((List.range (max 1 (lstc f M))).map fun i => f (min (i + 1) M)) := by
  have e := lstc_stay h (M - N)
  rw [show N + (M - N) = M by omega] at e
  rw [e]
  refine List.map_congr_left fun i _ => ?_
  by_cases c : i + 1 ≤ N
  · rw [Nat.min_eq_left c, Nat.min_eq_left (by omega)]
  · rw [Nat.min_eq_right (by omega)]
    have := h (min (i + 1) M - N)
    rw [show N + (min (i + 1) M - N) = min (i + 1) M by omega] at this
    exact this.symm
theorem book_ext {r' : Bool} {ss' ls' : List Int} {N N' p p' : Nat} (hS : Stop r ls ss N) (hS' : Stop r' ls' ss' N') (h : ∀ j, (row r' ls' ss' j).getD p' 0 = (row r ls ss j).getD p 0) : book r' ls' ss' N' p' = book r ls ss N p := by
  unfold book
  have ef : (fun k => (row r' ls' ss' k).getD p' 0) = fun k => (row r ls ss k).getD p 0 := funext h
  have e1 : ((List.range (max 1 (lstc (fun k => (row r' ls' ss' k).getD p' 0) N'))).map fun i => (row r' ls' ss' (min (i + 1) N')).getD p' 0) = ((List.range (max 1 (lstc (fun k => (row r ls ss k).getD p 0) N'))).map fun i => (row r ls ss (min (i + 1) N')).getD p 0) := by
    rw [ef]
    exact List.map_congr_left fun i _ => h _
  rw [e1]
  have a1 : ∀ j, (row r ls ss (N + j)).getD p 0 = (row r ls ss N).getD p 0 := fun j => by rw [hS.stay]
  have a2 : ∀ j, (row r ls ss (N' + j)).getD p 0 = (row r ls ss N').getD p 0 := fun j => by rw [← h, ← h, hS'.stay]
  rcases Nat.le_total N N' with z | z
  · exact (book_le (f := fun k => (row r ls ss k).getD p 0) z a1).symm
  · exact book_le (f := fun k => (row r ls ss k).getD p 0) z a2
end Rt
set_option Elab.async false
set_option linter.all false
set_option maxRecDepth 100000
set_option maxHeartbeats 4000000
/-! How late a change can come: Fibonacci's numbers, and the rows that reach them. -/
namespace Rt
open PySem PySem.Spec L2
variable {r : Bool} {ss ls : List Int} {p q : Nat}
def fb : Nat → Nat × Nat
  | 0 => (0, 1)
  | k + 1 => ((fb k).2, (fb k).1 + (fb k).2)
def F (k : Nat) : Nat := (fb k).1
theorem F_add (k : Nat) : F (k + 2) = F k + F (k + 1) := rfl
theorem F_two (k : Nat) : (fb k).2 = F (k + 1) := rfl
theorem F_mono1 : ∀ k : Nat, F k ≤ F (k + 1)
  | 0 => by decide
  | 1 => by decide
  | k + 2 => by
    have := F_mono1 k
    have := F_mono1 (k + 1)
    have := F_add k
    have := F_add (k + 1)
    have e : F (k + 2 + 1) = F (k + 1) + F (k + 1 + 1) := F_add (k + 1)
    omega
theorem F_pos : ∀ k : Nat, 1 ≤ F (k + 1)
  | 0 => by decide
  | k + 1 => Nat.le_trans (F_pos k) (F_mono1 (k + 1))
theorem F_lt1 (k : Nat) : F (k + 2) < F (k + 3) := by
  have e : F (k + 3) = F (k + 1) + F (k + 2) := F_add (k + 1)
  have := F_pos k
  omega
theorem F_mono {i j : Nat} (h : i ≤ j) : F i ≤ F j := by
  induction h with
  | refl => exact Nat.le_refl _
  | step _ ih => exact Nat.le_trans ih (F_mono1 _)
theorem F_lt {i j : Nat} (h : i < j) : F (i + 2) < F (j + 2) := Nat.lt_of_lt_of_le (F_lt1 i) (F_mono (by omega))
/-- the least total of a number -/
def lN (k : Nat) : Int := if k ≤ 1 then (k : Int) else (F (k + 2) : Int)
theorem lN_lt {i j : Nat} (h1 : 1 ≤ i) (h : i < j) : lN i < lN j := by
  unfold lN
  rw [if_neg (by omega : ¬ j ≤ 1)]
  by_cases c : i ≤ 1
  · rw [if_pos c]
    have := F_mono (i := 4) (j := j + 2) (by omega)
    have e : F 4 = 3 := by decide
    omega
  · rw [if_neg c]
    have := F_lt h
    omega
theorem lN_le {i j : Nat} (h1 : 1 ≤ i) (h : i ≤ j) : lN i ≤ lN j := by
  rcases Nat.lt_or_eq_of_le h with z | z
  · exact Int.le_of_lt (lN_lt h1 z)
  · rw [z]; exact Int.le_refl _
theorem lN_add {k : Nat} (h : 2 ≤ k) : lN (k + 2) = lN (k + 1) + lN k := by
  unfold lN
  rw [if_neg (by omega), if_neg (by omega), if_neg (by omega)]
  have e : F (k + 2 + 2) = F (k + 2) + F (k + 2 + 1) := F_add (k + 2)
  have e2 : F (k + 1 + 2) = F (k + 2 + 1) := rfl
  omega
/-- the greatest number whose least total is not greater -/
structure Top (t : Int) (M : Nat) : Prop where
  one : 1 ≤ M
  le : lN M ≤ t
  gt : t < lN (M + 1)
theorem Top.uniq {t : Int} {M N : Nat} (a : Top t M) (b : Top t N) : M = N := by
  have h1 := a.one
  have h2 := b.one
  rcases Nat.lt_trichotomy M N with h | h | h
  · have := lN_le (i := M + 1) (j := N) (by omega) h
    have := a.gt; have := b.le; omega
  · exact h
  · have := lN_le (i := N + 1) (j := M) (by omega) h
    have := b.gt; have := a.le; omega
theorem Top.ge {t : Int} {M k : Nat} (a : Top t M) (h : lN k ≤ t) : k ≤ M := Nat.le_of_not_lt fun z => by
  have := lN_le (i := M + 1) (j := k) (by omega) z
  have := a.gt; omega
theorem Top.lt {t : Int} {M k : Nat} (a : Top t M) (h : t < lN k) : M < k := Nat.lt_of_not_le fun z => by
  rcases Nat.eq_zero_or_pos k with e | e
  · subst e
    have e0 : lN 0 = 0 := rfl
    have := lN_le (i := 1) (j := M) (by omega) a.one
    have e1 : lN 1 = 1 := rfl
    have := a.le; omega
  have := lN_le (i := k) (j := M) e z
  have := a.le; omega
/-! ### growth -/
theorem trn_ix {s : List Int} {x : Nat} (h : x ∈ trn r s p) : ∃ m, m < tl r s p ∧ (run r s.length p)[m]? = some x := by
  rw [trn_tk] at h
  obtain ⟨m, hm⟩ := List.mem_iff_getElem?.mp h
  have hl := (List.getElem?_eq_some_iff.mp hm).1
  rw [List.length_take] at hl
  refine ⟨m, by omega, ?_⟩
  rw [List.getElem?_take_of_lt (by omega)] at hm
  exact hm
theorem ix_trn {s : List Int} {x m : Nat} (hm : m < tl r s p) (h : (run r s.length p)[m]? = some x) : x ∈ trn r s p := by
  rw [trn_tk]
  exact List.mem_iff_getElem?.mpr ⟨m, by rw [List.getElem?_take_of_lt hm]; exact h⟩
theorem grow (P : Pos' ss ls) (hp : p < ss.length) (k : Nat) (h : tl r (row r ls ss k) p < tl r (row r ls ss (k + 1)) p) :
    ∃ q, q < ss.length ∧ (row r ls ss k).getD p 0 ≤ (row r ls ss k).getD q 0 ∧ (row r ls ss (k + 1)).getD p 0 + (row r ls ss (k + 1)).getD q 0 ≤ (row r ls ss (k + 2)).getD p 0 ∧ (row r ls ss (k + 1)).getD q 0 < (row r ls ss (k + 1)).getD p 0 := by
  obtain ⟨q, e, a, b⟩ := chg_stp P hp k h
  have hq := run_lt hp q (List.mem_of_getElem? e)
  refine ⟨q, hq, a, ?_, b⟩
  have P0 := P.row r k
  have P1 := P.row r (k + 1)
  have hp0 : p < (row r ls ss k).length := by rw [row_len]; exact hp
  have hq0 : q < (row r ls ss k).length := by rw [row_len]; exact hq
  have hp1 : p < (row r ls ss (k + 1)).length := by rw [row_len]; exact hp
  have hq1 : q < (row r ls ss (k + 1)).length := by rw [row_len]; exact hq
  have e1 : (row r ls ss (k + 1)).getD p 0 = rch r (row r ls ss k) ls p := rnd_at hp0
  have e2 : (row r ls ss (k + 1)).getD q 0 = rch r (row r ls ss k) ls q := rnd_at hq0
  have e3 : (row r ls ss (k + 2)).getD p 0 = rch r (row r ls ss (k + 1)) ls p := rnd_at hp1
  have up : ∀ x o, o < ss.length → x ∈ trn r (row r ls ss k) o → x ∈ trn r (row r ls ss (k + 1)) o := fun x o ho hx => trn_grow P0 (by rw [row_len]; exact ho) hx
  have qin : q ∈ trn r (row r ls ss (k + 1)) p := ix_trn h (by rw [row_len]; exact e)
  have pno : p ∉ trn r (row r ls ss k) q := fun z => by
    have := trn_wk (up p q hq z)
    omega
  have dis : ∀ x, x ∈ trn r (row r ls ss k) p → x ∉ trn r (row r ls ss k) q := fun x h1 h2 => by
    obtain ⟨j, hj, xj⟩ := trn_ix h1
    obtain ⟨m, hm, xm⟩ := trn_ix h2
    rw [row_len] at xj xm
    have lp := run_len (r := r) hp
    have lq := run_len (r := r) hq
    have il := (List.getElem?_eq_some_iff.mp e).1
    have ml := (List.getElem?_eq_some_iff.mp xm).1
    have lp2 := run_le (r := r) hp
    have lq2 := run_le (r := r) hq
    rw [run_at hp (by omega)] at e xj
    rw [run_at hq (by omega)] at xm
    cases r
    · simp only [Bool.false_eq_true, if_false] at e xj xm lp lq
      split at e <;> split at xj <;> split at xm <;> simp only [Option.some.injEq, reduceCtorEq] at e xj xm
      omega
    · refine pno (ix_trn (m := ss.length - 2 - tl true (row true ls ss k) p) ?_ ?_)
      · simp only [if_true] at e xj xm lp lq
        split at e <;> split at xj <;> split at xm <;> simp only [Option.some.injEq] at e xj xm <;> omega
      · rw [row_len, run_at hq (by simp only [if_true] at lp; omega)]
        simp only [if_true] at e lp ⊢
        split at e <;> simp only [Option.some.injEq] at e <;> split <;> congr 1 <;> omega
  have qno : q ∉ trn r (row r ls ss k) p := fun z => by
    have := trn_wk z
    omega
  have key := sm_sub (ls := ls) (trn r (row r ls ss k) p ++ q :: trn r (row r ls ss k) q) (trn r (row r ls ss (k + 1)) p)
    (List.nodup_append.mpr ⟨trn_nd hp0, List.nodup_cons.mpr ⟨trn_self hq0, trn_nd hq0⟩, fun x hx y hy z => by
      subst z
      rcases List.mem_cons.mp hy with z | z
      · exact qno (by rw [← z]; exact hx)
      · exact dis x hx z⟩)
    (fun x hx => by
      rcases List.mem_append.mp hx with z | z
      · exact up x p hp z
      · rcases List.mem_cons.mp z with y | y
        · rw [y]; exact qin
        · exact trn_sub hp1 qin (up x q hq y)) (fun x hx => by have := P1.pos x (trn_lt hp1 x hx); omega)
  rw [sm_app, sm_cons] at key
  rw [e1, e2, e3, rch_eq, rch_eq, rch_eq]
  omega
theorem row_ge1 (P : Pos' ss ls) (hp : p < ss.length) (k : Nat) : 1 ≤ (row r ls ss (k + 1)).getD p 0 := by
  have hp0 : p < (row r ls ss k).length := by rw [row_len]; exact hp
  have e1 : (row r ls ss (k + 1)).getD p 0 = rch r (row r ls ss k) ls p := rnd_at hp0
  rw [e1, rch_eq]
  have := P.pos p hp
  have := sm_ge0 (ls := ls) (trn r (row r ls ss k) p) fun x hx => by have := (P.row r k).pos x (trn_lt hp0 x hx); omega
  omega
theorem late (P : Pos' ss ls) : ∀ (k p : Nat), p < ss.length → tl r (row r ls ss k) p < tl r (row r ls ss (k + 1)) p → (F (k + 3) : Int) ≤ (row r ls ss (k + 1)).getD p 0 ∧ (F (k + 4) : Int) ≤ (row r ls ss (k + 2)).getD p 0
  | 0, p, hp, h => by
    obtain ⟨q, hq, a, b, c⟩ := grow P hp 0 h
    have := row_ge1 (r := r) P hq 0
    have f3 : F (0 + 3) = 2 := by decide
    have f4 : F (0 + 4) = 3 := by decide
    omega
  | k + 1, p, hp, h => by
    obtain ⟨i1, i2⟩ := late P k p hp (chg_back P hp k h)
    obtain ⟨q, hq, a, b, c⟩ := grow P hp (k + 1) h
    have d := row_le (r := r) P hq k
    have e : F (k + 1 + 4) = F (k + 3) + F (k + 4) := F_add (k + 3)
    have e2 : F (k + 1 + 3) = F (k + 4) := rfl
    have b' : (row r ls ss (k + 2)).getD p 0 + (row r ls ss (k + 2)).getD q 0 ≤ (row r ls ss (k + 1 + 2)).getD p 0 := b
    have i2' : (F (k + 4) : Int) ≤ (row r ls ss (k + 1 + 1)).getD p 0 := i2
    have i1' : (F (k + 3) : Int) ≤ (row r ls ss (k + 1)).getD p 0 := i1
    omega
theorem sm_all : sm ls (List.range ls.length) = ls.sum := by
  unfold sm
  congr 1
  refine ext_getD (by rw [List.length_map, List.length_range]) fun i hi => ?_
  rw [List.length_map, List.length_range] at hi
  rw [List.getD_eq_getElem?_getD, List.getElem?_map, List.getElem?_range hi]; rfl
theorem row_le_sum (P : Pos' ss ls) (hp : p < ss.length) (k : Nat) : (row r ls ss (k + 1)).getD p 0 ≤ ls.sum := by
  have hp0 : p < (row r ls ss k).length := by rw [row_len]; exact hp
  have e1 : (row r ls ss (k + 1)).getD p 0 = rch r (row r ls ss k) ls p := rnd_at hp0
  have len := P.len
  have := sm_sub (ls := ls) (p :: trn r (row r ls ss k) p) (List.range ls.length) (List.nodup_cons.mpr ⟨trn_self hp0, trn_nd hp0⟩) (fun x hx => List.mem_range.mpr (by
    rcases List.mem_cons.mp hx with z | z
    · omega
    · have := trn_lt hp0 x z
      rw [row_len] at this; omega)) (fun x hx => by have := P.pos x (by have := List.mem_range.mp hx; omega); omega)
  rw [sm_cons, sm_all] at this
  rw [e1, rch_eq]
  omega
theorem sum_ge1 {l : List Int} (h : ∀ x ∈ l, 1 ≤ x) (h0 : 0 < l.length) : 1 ≤ l.sum := by
  cases l with
  | nil => cases h0
  | cons a l =>
    rw [List.sum_cons]
    have := h a List.mem_cons_self
    have := sum_ge (l := l) fun x hx => by have := h x (List.mem_cons_of_mem _ hx); omega
    omega
/-- the last round is not too late for the total -/
theorem stop_total {N : Nat} (P : Pos' ss ls) (h0 : 0 < ss.length) (hS : Stop r ls ss N) : lN N ≤ ls.sum := by
  have len := P.len
  have s1 : 1 ≤ ls.sum := sum_ge1 (fun x hx => by
    obtain ⟨i, hi, rfl⟩ := mem_getD hx
    exact P.pos i (by omega)) (by omega)
  unfold lN
  by_cases c : N ≤ 1
  · rw [if_pos c]; omega
  · rw [if_neg c]
    obtain ⟨k, rfl⟩ : ∃ k, N = k + 2 := ⟨N - 2, by omega⟩
    have ne := hS.mov (k + 1) (by omega)
    refine Decidable.byContradiction fun z => ne ?_
    refine ext_getD (by rw [row_len, row_len]) fun p hp => ?_
    rw [row_len] at hp
    refine Decidable.byContradiction fun y => z ?_
    have := (late P k p hp ((row_ne P hp k).mp y)).2
    have := row_le_sum (r := r) P hp (k + 1)
    have e : F (k + 2 + 2) = F (k + 4) := rfl
    have t : (row r ls ss (k + 1 + 1)).getD p 0 = (row r ls ss (k + 2)).getD p 0 := rfl
    omega
/-! ### the rows that reach them -/
def fil (m : Nat) : List Int := (List.range m).map fun i => if i = 0 then 2 else (F (i + 1) : Int)
theorem fil_len {m : Nat} : (fil m).length = m := by unfold fil; rw [List.length_map, List.length_range]
theorem fil_at {m i : Nat} (h : i < m) : (fil m).getD i 0 = if i = 0 then 2 else (F (i + 1) : Int) := by
  unfold fil
  rw [List.getD_eq_getElem?_getD, List.getElem?_map, List.getElem?_range h]; rfl
theorem fil_more {m : Nat} (h : 1 ≤ m) : fil (m + 1) = fil m ++ [(F (m + 1) : Int)] := by
  unfold fil
  rw [List.range_succ, List.map_append]
  show _ = _ ++ [_]
  congr 1
  simp only [List.map_cons, List.map_nil]
  rw [if_neg (by omega)]
theorem fil_sum : ∀ m : Nat, (fil (m + 1)).sum = (F (m + 3) : Int)
  | 0 => by decide
  | m + 1 => by
    rw [fil_more (by omega), List.sum_append, fil_sum m]
    have e : F (m + 1 + 3) = F (m + 2) + F (m + 3) := F_add (m + 2)
    show _ + ((F (m + 1 + 1) : Int) + 0) = _
    have e2 : F (m + 1 + 1) = F (m + 2) := rfl
    omega
theorem fil_ge {m : Nat} : ∀ x ∈ fil m, 1 ≤ x := fun x hx => by
  obtain ⟨i, hi, rfl⟩ := mem_getD hx
  rw [fil_len] at hi
  rw [fil_at hi]
  have := F_pos i
  split <;> omega
/-- what the rounds make of it -/
def filR (m k : Nat) : List Int := (List.range m).map fun i => if i = 0 then (F (k + 2) : Int) else (F (i + 1) : Int)
theorem filR_len {m k : Nat} : (filR m k).length = m := by unfold filR; rw [List.length_map, List.length_range]
theorem filR_at {m k i : Nat} (h : i < m) : (filR m k).getD i 0 = if i = 0 then (F (k + 2) : Int) else (F (i + 1) : Int) := by
  unfold filR
  rw [List.getD_eq_getElem?_getD, List.getElem?_map, List.getElem?_range h]; rfl
theorem run_row {n p i : Nat} (h : p + 1 + i < n) : (run false n p)[i]? = some (p + 1 + i) := by
  rw [run_at (by omega) (by omega), if_pos h]
theorem trn_nil {s : List Int} (h : p + 1 < s.length → s.getD p 0 ≤ s.getD (p + 1) 0) (hp : p < s.length) : trn false s p = [] := by
  unfold trn
  by_cases c : p + 1 < s.length
  · have e := run_row (n := s.length) (p := p) (i := 0) (by omega)
    exact tw_stop (i := 0) (fun y hy => by simp at hy) e (decide_eq_false (by have := h c; simp only [Nat.add_zero]; omega))
  · have e : run false s.length p = [] := List.length_eq_zero_iff.mp (by rw [run_len hp]; simp only [Bool.false_eq_true, if_false]; omega)
    rw [e]; rfl
theorem rch_nil {s : List Int} (h : p + 1 < s.length → s.getD p 0 ≤ s.getD (p + 1) 0) (hp : p < s.length) : rch false s ls p = ls.getD p 0 := by
  rw [rch_eq, trn_nil h hp]
  show _ + sm ls [] = _
  unfold sm; simp
theorem fil_one {m : Nat} (h : 1 ≤ m) : row false (fil m) (List.replicate m 0) 1 = filR m 1 := by
  refine ext_getD (by rw [row_len, List.length_replicate, filR_len]) fun i hi => ?_
  rw [row_len, List.length_replicate] at hi
  show (rnd false (fil m) (List.replicate m 0)).getD i 0 = _
  rw [rnd_at (by rw [List.length_replicate]; exact hi), rch_nil (fun c => by rw [List.length_replicate] at c; rw [getD_rep c, getD_rep (by omega)]; exact Int.le_refl _) (by rw [List.length_replicate]; exact hi), filR_at hi, fil_at hi]
  have e : F (1 + 2) = 2 := by decide
  rw [e]; rfl
theorem fil_sk {m : Nat} : ∀ k : Nat, k < m → (fil m).getD 0 0 + sm (fil m) ((run false m 0).take k) = (F (k + 3) : Int)
  | 0, h => by
    rw [fil_at h, List.take_zero]
    show (2 : Int) + sm _ [] = _
    unfold sm
    have e : F (0 + 3) = 2 := by decide
    rw [e]; rfl
  | k + 1, h => by
    have e := run_row (n := m) (p := 0) (i := k) (by omega)
    rw [take_more e, sm_app, ← Int.add_assoc, fil_sk k (by omega)]
    have e2 : sm (fil m) [0 + 1 + k] = (F (k + 2) : Int) := by
      unfold sm
      simp only [List.map_cons, List.map_nil, List.sum_cons, List.sum_nil]
      rw [fil_at (by omega), if_neg (by omega)]
      have : 0 + 1 + k + 1 = k + 2 := by omega
      rw [this]; omega
    rw [e2]
    have e3 : F (k + 1 + 3) = F (k + 2) + F (k + 3) := F_add (k + 2)
    omega
theorem fil_step {m k : Nat} (h1 : 1 ≤ k) (h : k < m) : rnd false (fil m) (filR m k) = filR m (k + 1) := by
  refine ext_getD (by rw [rnd_len, filR_len, filR_len]) fun i hi => ?_
  rw [rnd_len, filR_len] at hi
  rw [rnd_at (by rw [filR_len]; exact hi), filR_at hi]
  by_cases c : i = 0
  · subst c
    rw [if_pos rfl, rch_sk]
    have lr := run_len (r := false) (n := m) (p := 0) (by omega)
    simp only [Bool.false_eq_true, if_false] at lr
    have et : tl false (filR m k) 0 = k := by
      unfold tl trn
      rw [filR_len]
      have wkt : ∀ y ∈ (run false m 0).take k, wk (filR m k) 0 y = true := fun y hy => by
        obtain ⟨j, hj⟩ := List.mem_iff_getElem?.mp hy
        have hjl := (List.getElem?_eq_some_iff.mp hj).1
        rw [List.length_take] at hjl
        rw [List.getElem?_take_of_lt (by omega), run_row (by omega)] at hj
        cases hj
        refine decide_eq_true ?_
        rw [filR_at (by omega), filR_at (by omega), if_neg (by omega), if_pos rfl]
        have := F_lt (i := j) (j := k) (by omega)
        have e : F (0 + 1 + j + 1) = F (j + 2) := congrArg F (by omega)
        omega
      by_cases d : k + 1 < m
      · rw [tw_stop wkt (run_row (n := m) (p := 0) (i := k) (by omega)) (decide_eq_false (by
          rw [filR_at (by omega), filR_at (by omega), if_neg (by omega), if_pos rfl]
          have e : F (0 + 1 + k + 1) = F (k + 2) := congrArg F (by omega)
          omega)), List.length_take]
        omega
      · have e : (run false m 0).take k = run false m 0 := List.take_of_length_le (by omega)
        rw [e] at wkt
        rw [tw_all wkt]; omega
    unfold sk
    rw [et, filR_len, fil_sk k h]
  · rw [if_neg c, rch_nil (fun d => by
      rw [filR_len] at d
      rw [filR_at hi, filR_at d, if_neg c, if_neg (by omega)]
      have := F_mono1 (i + 1)
      omega) (by rw [filR_len]; exact hi), fil_at hi, if_neg c]
theorem fil_row {m : Nat} : ∀ k : Nat, k < m → row false (fil m) (List.replicate m 0) (k + 1) = filR m (k + 1)
  | 0, h => fil_one h
  | k + 1, h => by
    show rnd false (fil m) (row false (fil m) (List.replicate m 0) (k + 1)) = _
    rw [fil_row k (by omega), fil_step (by omega) h]
theorem fil_moves {m k : Nat} (h : k < m) : (row false (fil m) (List.replicate m 0) (k + 1)).getD 0 0 ≠ (row false (fil m) (List.replicate m 0) k).getD 0 0 := by
  rw [fil_row k h, filR_at (by omega), if_pos rfl]
  cases k with
  | zero =>
    show _ ≠ (List.replicate m (0 : Int)).getD 0 0
    rw [getD_rep (by omega)]
    have := F_pos 2
    have e : F (0 + 1 + 2) = F (2 + 1) := rfl
    omega
  | succ k =>
    rw [fil_row k (by omega), filR_at (by omega), if_pos rfl]
    have := F_lt (i := k + 1) (j := k + 1 + 1) (by omega)
    omega
/-- what is built of a total -/
def filled (t : Int) (m : Nat) : List Int := if m = 1 then [t] else if (F (m + 2) : Int) < t then (t - (F (m + 2) : Int)) :: fil m else fil m
theorem filled_ok {t : Int} {m : Nat} (a : Top t m) : (filled t m).sum = t ∧ (∀ x ∈ filled t m, 1 ≤ x) ∧ 1 ≤ (filled t m).length ∧ (filled t m).length ≤ m + 1 := by
  have h1 := a.one
  have hle := a.le
  have t1 : 1 ≤ t := by
    have := lN_le (i := 1) (j := m) (by omega) h1
    have e1 : lN 1 = 1 := rfl
    omega
  unfold filled
  by_cases c : m = 1
  · rw [if_pos c]
    exact ⟨by simp, fun x hx => by rw [List.mem_singleton.mp hx]; exact t1, Nat.le_refl _, by simp⟩
  · rw [if_neg c]
    have es : (fil m).sum = (F (m + 2) : Int) := by
      obtain ⟨k, rfl⟩ : ∃ k, m = k + 1 := ⟨m - 1, by omega⟩
      exact fil_sum k
    unfold lN at hle
    rw [if_neg (by omega)] at hle
    by_cases d : (F (m + 2) : Int) < t
    · rw [if_pos d]
      refine ⟨by rw [List.sum_cons, es]; omega, fun x hx => ?_, by simp, by simp [fil_len]⟩
      rcases List.mem_cons.mp hx with z | z
      · omega
      · exact fil_ge x z
    · rw [if_neg d]
      exact ⟨by omega, fil_ge, by rw [fil_len]; omega, by rw [fil_len]; omega⟩
theorem filled_stop {t : Int} {m N : Nat} (a : Top t m) (hS : Stop false (filled t m) (List.replicate (filled t m).length 0) N) : N = m := by
  obtain ⟨es, ge, l1, l2⟩ := filled_ok a
  have P : Pos' (List.replicate (filled t m).length 0) (filled t m) := ⟨by rw [List.length_replicate], fun o ho => ge _ (getD_mem (by rw [List.length_replicate] at ho; exact ho))⟩
  have up : N ≤ m := a.ge (by have := stop_total P (by rw [List.length_replicate]; exact l1) hS; omega)
  refine Nat.le_antisymm up (Nat.le_of_not_lt fun lt => ?_)
  have fix := hS.fix
  unfold filled at fix
  by_cases c : m = 1
  · rw [if_pos c] at fix
    subst c
    have z : N = 0 := by omega
    subst z
    have e1 : row false [t] (List.replicate ([t] : List Int).length 0) (0 + 1) = [t] := by
      show [t + ([] : List Int).sum] = [t]
      simp
    rw [e1] at fix
    have e0 : row false [t] (List.replicate ([t] : List Int).length 0) 0 = [0] := rfl
    rw [e0] at fix
    have t1 : lN 1 ≤ t := a.le
    have e2 : lN 1 = 1 := rfl
    have : t = 0 := by simpa using fix
    omega
  · rw [if_neg c] at fix
    by_cases d : (F (m + 2) : Int) < t
    · rw [if_pos d] at fix
      have e := congrArg (fun l => (l.drop 1).getD 0 0) fix
      have r1 := row_end_ (ss := List.replicate ((t - (F (m + 2) : Int)) :: fil m).length 0) (ls := (t - (F (m + 2) : Int)) :: fil m) (k := 1) (by rw [List.length_replicate]; simp) (by rw [List.length_replicate])
      simp only [← r1] at e
      have e2 : (List.replicate ((t - (F (m + 2) : Int)) :: fil m).length (0 : Int)).drop 1 = List.replicate m 0 := by
        rw [List.length_cons, fil_len]; rfl
      rw [e2] at e
      exact fil_moves lt e
    · rw [if_neg d, fil_len] at fix
      exact fil_moves lt (congrArg (fun l => l.getD 0 0) fix)
/-! ### each bead's rows -/
theorem clocked {N k : Nat} (P : Pos' ss ls) (hp : p < ss.length) (h : (row r ls ss (k + 3)).getD p 0 ≠ (row r ls ss (k + 2)).getD p 0) : (row r ls ss (k + 2)).getD p 0 ≠ (row r ls ss (k + 1)).getD p 0 :=
  (row_ne P hp k).mpr (chg_back P hp k ((row_ne P hp (k + 1)).mp h))
end Rt
set_option Elab.async false
set_option linter.all false
set_option maxRecDepth 100000
set_option maxHeartbeats 4000000
/-! The place of a number in a list; a pair of names set at once; the join of a branch. -/
namespace Rt
open PySem PySem.Spec L2
section
variable {X : Cx} (K : PySem.W.Frag)
variable {o : Expr} {ta : TE} {t : TA} {apos cpos : Pos} {es : List Expr}
theorem pe_ixof {e : Expr} (ho : PE X o ta) (ha : PA X (e :: es) t) (h : X.K = K := by rfl)
    (hbase : attributeBase o "index" X.env (eval o X.env) = eval o X.env := by rfl)
    (hfew : ((backTo cpos (starEach (e :: es) X.env)).all (fun x => !x.1) && (backToKw cpos (keywordEach [] X.env)).all (fun x => x.1.isSome)
      && decide ((e :: es).length + ([] : List Keyword).length + (if ([] : List Keyword).isEmpty then 0 else 1) < 30)) = true := by rfl)
    (hline : (apos.endLine == cpos.line) = true := by rfl) (hs : starEach (e :: es) X.env = (false, eval e X.env) :: starEach es X.env := by rfl) (hplain : (backTo cpos (starEach es X.env)).any (·.1) = false := by rfl) :
    PE X (.Call (.Attribute o "index" apos) (e :: es) [] cpos) (tBM K "list" (rIndex K) ta t) := by
  subst h; exact pe_bm PySem.F.plainAttrs_list PySem.F.slot_list_index PySem.F.type_list_index mt_index ho ha hbase hfew hline hs hplain
end
section
variable {X : Cx} {CX : CXT} {k : Nat} {x : Str} {ps : List Str} {sp : Sp} {E : XK} {p pos : Pos}
theorem pe_callD0 (D : DefOk X.prog X.w X.K X.mg X.base CX k x ps sp) (hr : Room k X.A) (hx : Passes CX X E) (hg : Gl X x := by rfl) (hdb : (x == ("__debug__" : Str)) = false := by decide) : PE X (.Call (.Name x p) [] [] pos) (tCall sp [] E tNil) := by
  obtain ⟨f, fd, a, b, c, d⟩ := D.ex
  exact pe_call0 c hr hg a b d .nil hx hdb
end
theorem flatI : ∀ ns : List Int, (ns.map V.int).all flatV = true := fun ns => List.all_eq_true.mpr fun x hx => by
  obtain ⟨i, _, rfl⟩ := List.mem_map.mp hx
  rfl
theorem first_at : ∀ {ns : List Int} {k : Int}, k ∈ ns → ∃ j, j < ns.length ∧ ns.getD j 0 = k ∧ ∀ m, m < j → ns.getD m 0 ≠ k
  | [], _, h => by cases h
  | a :: ns, k, h => by
    by_cases c : a = k
    · exact ⟨0, by simp, by simpa using c, fun m hm => absurd hm (Nat.not_lt_zero _)⟩
    · rcases List.mem_cons.mp h with z | z
      · exact absurd z.symm c
      · obtain ⟨j, h1, h2, h3⟩ := first_at z
        refine ⟨j + 1, by simpa using h1, by simpa using h2, fun m hm => ?_⟩
        cases m with
        | zero => simpa using c
        | succ m => simpa using h3 m (by omega)
theorem eqVI (i j : Int) : eqV (.int i) (.int j) = decide (i = j) := by
  by_cases c : i = j
  · subst c; simp [eqV]
  · simp [eqV, c]
theorem g_ixof {K : PySem.W.Frag} {H : Hp} {Q : VK} {a : Addr} {ns : List Int} {k : Int} (hs : SqL K H a (ns.map V.int)) (hk : k ∈ ns) (q : ∀ j : Nat, j < ns.length → ns.getD j 0 = k → Q (.int (j : Int)) H) : rIndex K (.ref a) [.int k] H Q := by
  obtain ⟨j, h1, h2, h3⟩ := first_at hk
  have at_ : ∀ m, m < ns.length → (ns.map V.int)[m]? = some (.int (ns.getD m 0)) := fun m hm => by
    rw [List.getElem?_map, List.getElem?_eq_getElem hm, List.getD_eq_getElem?_getD, List.getElem?_eq_getElem hm]; rfl
  refine ⟨a, _, .int k, j, .int (ns.getD j 0), rfl, rfl, hs, rfl, flatI ns, at_ j h1, by rw [eqVI]; exact decide_eq_true h2, fun m z hm hz => ?_, q j h1 h2⟩
  rw [at_ m (by omega)] at hz
  cases hz
  rw [eqVI]
  exact decide_eq_false (h3 m hm)
theorem g_join {D : Ends} {σ : L2.St} {H : Hp} {t : TS} (R : L2.St → Hp → Prop) (h1 : ∀ D' : Ends, (∀ σ' H', R σ' H' → D'.nx σ' H') → t D' σ H) (h : ∀ σ' H', R σ' H' → D.nx σ' H') : t D σ H := h1 D h
end Rt
set_option Elab.async false
set_option linter.all false
set_option maxRecDepth 100000
set_option maxHeartbeats 4000000
/-! A set of a list of numbers; sorted; a thing in a tuple of things of any depth. -/
namespace Rt
open PySem PySem.Spec PyProof.Rows L2 SS
/-- the empty set object, as it is laid -/
abbrev o0 (w : World) : Obj := { cls := .type "set", dict := none, data := .set #[] 0 (.fresh 0 0 (!w.params.followText "set-order")) }
section
variable {P : Program} {w : World} {A : Around} {E : Value → Shared → Prop} {s : Shared}
set_option maxHeartbeats 3200000 in
theorem set_of_list {l : Addr} {its : Array Value} (ns : List Int) {Q : Value → Shared → Prop} (hh : A.handled = none) (hl : s.heap.IsList l its) (hit : IntsAre its.toList ns) (hb : ns.length + 1 < scanBound)
    (h : ∀ (h' : Heap) (tk c : Nat), SetR w h' s.heap.objs.size (fun j => decide (j ∈ ns)) c → c ≤ ns.length → (∀ b o, s.heap.get? b = some o → h'.get? b = some o) → Q (.ref s.heap.objs.size) { s with heap := h', toks := tk }) :
    wpAny (model P w) A (call (.type "set") [.ref l]) Q E s := by
  have hsz : its.size = ns.length := by have q := IntsAre.length hit; rw [Array.length_toList] at q; exact q
  obtain ⟨c, tl, hmro⟩ := F.called_set.mro; have hmade := F.called_set.made; have hsub := F.called_set.sub
  refine wpAny_call (codeAny_of_tree ?_); show wpAny _ _ (callAny (.type "set") _) _ _ _
  refine wpAny_pure ⟨Code.quiet_builtin _ (by decide +kernel), codeAny_builtin F.entry_type_call ?_⟩; rw [Around.under_plain (weight_type_call_type "set" [.ref l] []) rfl]
  have h1 := F.called_set.notType; have h2 := F.called_set.canCreate; have hct := F.typeCall_set_1 (.ref l)
  repeat (any_goals (first | assumption | wp_step))
  refine codeAny_mono (code_set_led1 (.ref l) (E := E) (Q₁ := fun obj s₁ => obj = .ref s.heap.objs.size ∧ s₁ = { s with heap := s.heap.push (o0 w) }) ⟨rfl, rfl⟩) fun r s₁ hr => ?_
  cases r with
  | error e => exact hr
  | ok fl =>
    cases fl with
    | ret obj =>
      obtain ⟨rfl, rfl⟩ := hr
      have hS : (s.heap.push (o0 w)).get? s.heap.objs.size = some (o0 w) := Heap.get?_push_size _ rfl
      have hT : Shared.TypeIs { s with heap := s.heap.push (o0 w) } (.ref s.heap.objs.size) "set" := ⟨_, hS, rfl⟩
      have hli := F.called_set.init.lookup; have hbi := F.called_set.init.bind (.ref s.heap.objs.size)
      repeat (any_goals (first | assumption | wp_step))
      refine codeAny_mono (codeAny_call_builtin (R := wants (fun r s₂ => r = .none ∧ ∃ h' tk c, s₂ = { s with heap := h', toks := tk } ∧ SetR w h' s.heap.objs.size (fun j => decide (j ∈ ns)) c ∧ c ≤ ns.length ∧ (∀ b o, s.heap.get? b = some o → h'.get? b = some o)) E)
        F.called_set.init.plain F.entry_set_init (check_set_init_1 hT ?_)) fun r₂ s₂ hr₂ => ?_
      · obtain ⟨⟨oc, od, oda, osl⟩, hol, hcl, nl, hdl⟩ := hl
        simp only at hcl hdl; subst hcl; subst hdl
        have hol' : (s.heap.push (o0 w)).get? l = some { cls := .type "list", dict := od, data := .seq its nl, slots := osl } := Heap.get?_push_of_some _ hol
        have hsls := F.sub_list_set; have hslf := F.sub_list_frozenset; have hne : (Value.type "list" == Value.type "dict") = false := by decide
        have hl1 : (s.heap.push (o0 w)).IsList l its := ⟨_, hol', rfl, nl, rfl⟩
        unfold Builtin.«set.__init__» noKeywords Builtin.Frozenset.updateFrom; generalize hPI : pyIter = PI; wp_walk; subst hPI
        refine wpAny_pyIter_list hl1 ?_; refine wpAny_bind (wpAny_runValue ?_)
        have hlS : l < s.heap.objs.size := Heap.lt_size hol; have hh3 : A.in1.in1.in1.handled = none := by simp [hh]
        have hneI : l ≠ (s.heap.push (o0 w)).objs.size := by rw [Heap.size_push]; exact Nat.ne_of_lt (Nat.lt_succ_of_lt hlS)
        have hSf : s.heap.objs.size ∉ [(s.heap.push (o0 w)).objs.size, l] := by
          rw [Heap.size_push]; simp only [List.mem_cons, List.mem_singleton, List.not_mem_nil, or_false, not_or]; exact ⟨Nat.ne_of_lt (Nat.lt_succ_self _), Nat.ne_of_gt hlS⟩
        have hval : ∀ (i : Nat) (v : Value), its[i]? = some v → ∃ k t, ns[i]? = some k ∧ v = .int k t := fun i v hv => by
          have hi : i < ns.length := by rw [← hsz]; exact (Array.getElem?_eq_some_iff.mp hv).1
          obtain ⟨t, e⟩ := IntsAre.int_at hit i v (by rw [Array.getElem?_toList]; exact hv)
          refine ⟨ns[i], t, List.getElem?_eq_getElem hi, ?_⟩; rw [e, List.getD_eq_getElem?_getD, List.getElem?_eq_getElem hi] <;> rfl
        refine set_update_ints ((Walks.list hh3 _ l hneI its).toS) s.heap.objs.size hSf ns hsz hb hval (its.size - 0) 0 _ (by omega) (Nat.zero_le _) ⟨⟨_, Heap.get?_push_size _ rfl, rfl, rfl⟩, (hl1.push _)⟩ ?hS0 ?hR
        case hS0 =>
          have hg : ((s.heap.push (o0 w)).push { cls := .type "list_iterator", data := .fields #[.ref l, .int 0 0] }).get? s.heap.objs.size = some (o0 w) := Heap.get?_push_of_some _ hS
          exact ⟨0, Nat.le_refl 0, setR_new_at hg⟩
        case hR =>
          intro s' c' hm hc' hS'
          obtain ⟨h', g2, d', tk', os'⟩ := s'
          have eg : g2 = s.gens := hm.gens; have ed : d' = s.drawn := hm.drawn; have eo : os' = s.os := hm.os
          subst eg; subst ed; subst eo; show wpAny _ _ _ _ _ _
          refine wpAny_pure ?_; show wpAny _ _ (ret Value.none) _ _ _
          rw [hsz] at hc'
          refine wpAny_pure ⟨rfl, h', tk', c', rfl, hS', hc', fun b o e => ?_⟩
          have hb0 : b < s.heap.objs.size := Heap.lt_size e; have hb1 : b ≠ s.heap.objs.size := Nat.ne_of_lt hb0
          have hb2 : b ≠ (s.heap.push (o0 w)).objs.size := by rw [Heap.size_push]; exact Nat.ne_of_lt (Nat.lt_succ_of_lt hb0)
          exact hm.heap b o (by simp only [List.mem_cons, List.mem_singleton, List.not_mem_nil, or_false, not_or]; exact ⟨hb1, hb2⟩) (Heap.get?_push_of_some _ (Heap.get?_push_of_some _ e))
      · cases r₂ with
        | error e => exact hr₂
        | ok fl₂ =>
          cases fl₂ with
          | ret r =>
            obtain ⟨rfl, h', tk, c', rfl, hS', hc', hk'⟩ := hr₂; repeat (any_goals (first | assumption | wp_step))
            exact h _ _ _ hS' hc' hk'
          | _ => exact hr₂.elim
    | _ => exact hr.elim
end
section
variable {X : Cx} (K : PySem.W.Frag)
def rSetL (K : PySem.W.Frag) (w : World) : List V → Hp → VK → Prop := fun vs H Q => ∃ (a : Addr) (ns : List Int), vs = [.ref a] ∧ SqL K H a (ns.map V.int) ∧ ns.length < 1000 ∧
  ∀ (p : Addr) (c : Nat), H p = none → c ≤ ns.length → Q (.ref p) (upd H p (SetO w p (fun j => decide (j ∈ ns)) c))
theorem cr_setL (hc : X.calm = true) (hw : X.w = w := by rfl) (h : X.K = K := by rfl) : CallR X (.type "set") (rSetL K w) := by
  subst h; subst hw
  intro pins s σ H vs us Q I r h
  obtain ⟨a, ns, rfl, hs, hn, q⟩ := h
  rw [Vals.ref1 r]
  obtain ⟨its, rv, pl, hz⟩ := I.list hs
  refine set_of_list ns (I.ok.hd hc) pl.isList (by simpa using rv.ints) (by unfold scanBound; omega) fun h' tk c R hcn k => ?_
  exact ⟨.ref s.heap.objs.size, upd H s.heap.objs.size (SetO X.w s.heap.objs.size (fun j => decide (j ∈ ns)) c), I.laid (t' := tk) k (Nat.le_refl _) (setO_new R), rfl, q _ c (I.hok.fresh (Nat.le_refl _)) hcn⟩
theorem cr_sortedS (hc : X.calm = true) (hw : X.w = w := by rfl) : CallR X (.builtin "sorted") (rSortedSet w) := by subst hw; exact cr_sortedSet hc
theorem room65 {k : Nat} {A : Around} (r : Room k A) : A.units + 65 < cLine := by have := r.un; omega
def rNotInT (K : PySem.W.Frag) : R2 := fun x y H Q => ∃ d ds, Dp K H x d ∧ Dp K H y (.tuple ds) ∧ SeqAt.shaped d = true ∧ SeqAt.shaped (.tuple ds) = true ∧ Q (.bl (!ds.any fun z => PyData.eqv z d)) H
theorem op_notInT (hu : X.A.units + 65 < cLine) (h : X.K = K := by rfl) : OpR X (compareOp .NotIn) (rNotInT K) := by
  subst h
  intro pins s σ H x y v u Q I rx ry h
  obtain ⟨d, ds, hd, he, sd, se, q⟩ := h
  obtain ⟨a1, r1⟩ := Dp.reads I d x v hd rx
  obtain ⟨a2, r2⟩ := Dp.reads I (.tuple ds) y u he ry
  exact SeqAt.notIn_tuple_reads r2 r1 (SeqAt.canLay_of_shaped se) (SeqAt.canLay_of_shaped sd) (room_in_shaped sd hu) ⟨.bl _, H, I, rfl, q⟩
end
end Rt
set_option Elab.async false
set_option linter.all false
set_option maxRecDepth 100000
set_option maxHeartbeats 4000000
/-! enumerate of a tuple. -/
namespace Rt
open PySem PySem.Spec PyProof.Rows L2
open Sem (wp)
open AutoSeq1 (wpAny_loadPart')
/-- the iterator of the tuple at l, new; the enumerate over the iterator at i, new -/
abbrev tit (l : Addr) : Obj := { cls := .type "tuple_iterator", data := .fields #[.ref l, .int 0 0] }
abbrev enu (i : Addr) : Obj := { cls := .type "enumerate", data := .fields #[.none, .bool false, .ref i, rawInt 0, .none, .none] }
theorem new_enuT (l : Addr) (its : Array Value) (n : Nat) (dct : Option Addr) (sl : Array (Option Value)) :
    Meets (Builtin.«enumerate.__new__» ⟨[.type "enumerate", .ref l], []⟩) (fun _ R s => s.heap.get? l = some { cls := .type "tuple", dict := dct, data := .seq its n, slots := sl } ∧
      R (.ok (.ret (.ref (s.heap.push (tit l)).objs.size))) { s with heap := (s.heap.push (tit l)).push (enu s.heap.objs.size) }) :=
  .of_wp fun prog w A R s h => by
    obtain ⟨hp, g, d, tk, os⟩ := s; obtain ⟨hl, h⟩ := h
    have hsub := sub_enumerate
    have hL : Heap.IsTuple (Shared.heap ⟨hp, g, d, tk, os⟩) l its := ⟨_, hl, rfl, n, rfl⟩
    wp_walk using wpAny_loadPart' hl
    refine wpAny_stack_any fun st => wpAny_pure ?_; split
    · rename_i c _ _ _ _ _
      cases (c == Value.type "enumerate")
      · wp_walk using wpAny_loadPart' hl, wpAny_pyIter_tuple hL
        exact ⟨_, rfl, h⟩
      · wp_walk using wpAny_loadPart' hl, wpAny_pyIter_tuple hL
        exact ⟨_, rfl, h⟩
    · wp_walk using wpAny_loadPart' hl, wpAny_pyIter_tuple hL
      exact ⟨_, rfl, h⟩
section
variable {prog : Program} {w : World} {A : Around} {E : Value → Shared → Prop} {s : Shared}
theorem call_enuT {l : Addr} {its : Array Value} {Q : Value → Shared → Prop} (hL : s.heap.IsTuple l its)
    (h : ∀ h', IsEnum h' (s.heap.objs.size + 1) s.heap.objs.size 0 .none → h'.IsTupleIter s.heap.objs.size l 0 → (∀ b o, s.heap.get? b = some o → h'.get? b = some o) → Q (.ref (s.heap.objs.size + 1)) { s with heap := h' }) :
    wpAny (model prog w) A (call (.type "enumerate") [.ref l]) Q E s := by
  obtain ⟨⟨c, dct, dt, sl⟩, hl, hc, n, hd⟩ := hL
  replace hc : c = .type "tuple" := hc
  replace hd : dt = .seq its n := hd
  subst hc hd
  refine callType_new F.called_enumerate (by decide) (F.typeCall_enumerate_1 _) (F.newCall_enumerate_1 _) (fun obj => F.args_object_init_2 obj _) F.entry_enumerate_new (new_enuT l its n dct sl) ⟨hl, ?_⟩
  have hz : (s.heap.push (tit l)).objs.size = s.heap.objs.size + 1 := Heap.size_push ..
  show _ ∧ _; rw [hz]
  have he : IsEnum ((s.heap.push (tit l)).push (enu s.heap.objs.size)) (s.heap.objs.size + 1) s.heap.objs.size 0 .none := by
    have := Heap.get?_push_size (s.heap.push (tit l)) (o := enu s.heap.objs.size) rfl
    rw [hz] at this; exact this
  exact ⟨⟨_, he, rfl⟩, h _ he ⟨_, Heap.get?_push_of_some _ (Heap.get?_push_size _ rfl), rfl, rfl⟩ fun b o x => Heap.get?_push_of_some _ (Heap.get?_push_of_some _ x)⟩
end
/-- the tuple at a, each item in a new pair -/
def IteT (K : PySem.W.Frag) (a : Addr) : It :=
  ⟨fun i H => ∃ (xs : List V) (x : V), SqT K H a xs ∧ xs[i]? = some x, fun i H v H' => ∃ T x, v = .ref T ∧ H T = none ∧ H' = upd H T (.tup [.int (i : Nat), x]) ∧ ∀ xs, SqT K H a xs → xs[i]? = some x, fun i H => ∃ xs : List V, SqT K H a xs ∧ xs.length ≤ i⟩
theorem turn_enuT {P : Program} {w : World} {K : PySem.W.Frag} {elts : List Expr} {kk : Nat} {tpos : Pos} (a e it : Addr) (hai : a ≠ it) (hae : a ≠ e) :
    Turn P w K (.Tuple elts kk tpos) (IteT K a) [e, it] e (fun i h => (∃ old, IsEnum h e it ((i : Nat) : Int) old) ∧ h.IsTupleIter it a i ∧ e ≠ it) where
  mem := by simp
  obj := fun i h st b hb => by
    obtain ⟨⟨old, he⟩, ⟨o, ho, hc, hd⟩, _⟩ := st
    rcases (show b = e ∨ b = it by simpa using hb) with z | z
    · rw [z]; exact ⟨_, he, fun v q => nomatch q⟩
    · rw [z]; exact ⟨o, ho, fun v q => by rw [hd] at q; cases q⟩
  keep := fun i h h' st k => let ⟨⟨old, he⟩, hi, hne⟩ := st; ⟨⟨old, k e (by simp) _ he⟩, hi.at fun o q => k it (by simp) o q, hne⟩
  item := by
    intro X hP hw hK hc i pins s σ H E I hf st hg
    subst hP hw hK
    obtain ⟨⟨old, he⟩, hit, hne⟩ := st
    obtain ⟨xs, x, hq, hx⟩ := hg
    obtain ⟨its, rv, p, hz⟩ := I.tuple hq
    obtain ⟨u, hu, ru⟩ := rv.get hx
    have hel : e < s.heap.objs.size := Heap.lt_size he
    have hil : it < s.heap.objs.size := by obtain ⟨_, q, _⟩ := hit; exact Heap.lt_size q
    have hlt : i < its.toArray.size := by have := (List.getElem?_eq_some_iff.mp hu).1; simpa using this
    have hh : X.A.in1.in1.handled = none := by have := I.ok.hd hc; simpa using this
    refine wpAny_pyNext_enum_itemD (Draws.tuple (prog := X.prog) (w := X.w) (A := X.A.in1) hh it a hai its.toArray) he ⟨hit, show s.heap.IsTuple a its.toArray from p⟩ hlt hne (by simp; exact ⟨hne, hae.symm⟩) fun y h' tk hy ho hst hT hsz hk => ?_
    have ey : y = u := by
      have : its.toArray[i]? = some u := by simpa using hu
      rw [this] at hy; cases hy; rfl
    subst ey
    refine ⟨_, rfl, wpAny_letOwnedTupleGo_enum (s := { s with heap := h', toks := tk + 1 }) ho fun h'' he' sb => ?_⟩
    have hT2 : h''.get? s.heap.objs.size = some { cls := .type "tuple", data := .seq #[.int i tk, y] } := (sb.2 _ (Nat.ne_of_gt hel)).trans hT
    have new : ObjOk X.prog X.w (upd H s.heap.objs.size (.tup [.int (i : Nat), x])) h'' s.heap.objs.size (.tup [.int (i : Nat), x]) := ⟨by show 2 ≤ sizeLine; decide, [.int i tk, y], .cons ⟨_, rfl⟩ (.cons ru .nil), ⟨_, hT2, rfl, _, rfl⟩⟩
    have I1 : Inv X pins σ (upd H s.heap.objs.size (.tup [.int (i : Nat), x])) { s with heap := h'', toks := tk + 1 } :=
      I.turnedNew (ch := [e, it]) (fun b ob hb q => (sb.2 b (fun z => hb (by simp [z]))).trans (hk b ob (fun z => hb (by simp [z])) (fun z => hb (by simp [z])) q)) hf (Nat.le_refl _) new
    refine ⟨.ref s.heap.objs.size, _, I1, rfl, ⟨_, x, rfl, I.hok.fresh (Nat.le_refl _), rfl, fun ys hy => by rw [I.tuple_inj hy hq]; exact hx⟩, ⟨⟨y, ?_⟩, hst.1.at fun o q => (sb.2 it (Ne.symm hne)).trans q, hne⟩, fun b hb => ?_⟩
    · rw [show ((i + 1 : Nat) : Int) = (i : Int) + 1 by omega]; exact he'
    · have hb' : b < s.heap.objs.size := by
        rcases (show b = e ∨ b = it by simpa using hb) with z | z
        · rw [z]; exact hel
        · rw [z]; exact hil
      rw [upd_ne (Nat.ne_of_lt hb')]; exact (hf b hb).1
  done := by
    intro X hP hw hK hc i pins s σ H E I hf st hg
    subst hP hw hK
    obtain ⟨⟨old, he⟩, hit, hne⟩ := st
    obtain ⟨xs, hq, hx⟩ := hg
    obtain ⟨its, rv, p, hz⟩ := I.tuple hq
    obtain ⟨f0, f1, f2, f3, f4, f5⟩ := hf it (by simp)
    have hl := rv.length
    have hh : X.A.in1.in1.handled = none := by have := I.ok.hd hc; simpa using this
    have D0 := Draws.tuple (prog := X.prog) (w := X.w) (A := X.A.in1) hh it a hai its.toArray
    have D1 : Draws X.prog X.w X.A.in1 it [it, a] i (fun _ _ => True) (fun j h => (h.IsTupleIter it a j ∧ h.IsTuple a its.toArray) ∧ j = i) := ⟨fun j h st => D0.live j h st.1, fun j h h' st k => ⟨D0.frame j h h' st.1 k, st.2⟩, fun j s Q E hj st => absurd st.2 (by omega), fun s Q E st hE => wpAny_nextOf_tuple_end hh st.1.1 st.1.2 (by simp; omega) hE⟩
    exact wpAny_pyNext_enum_endD D1 he ⟨⟨hit, show s.heap.IsTuple a its.toArray from p⟩, rfl⟩ fun h' eb => ⟨rfl, I.turned (t' := s.toks) (fun b o hb q => eb b o hb q) f0 f1 f3 f4 f5⟩
  self := fun A i s Q E st h => let ⟨⟨_, he⟩, _⟩ := st; wpAny_pyIter_enum he h
def iEnuT (K : PySem.W.Frag) (ta : TA) : TI := fun σ H R => ta σ H fun vs H1 => ∃ a xs, vs = [.ref a] ∧ SqT K H1 a xs ∧ R (IteT K a) H1
theorem pi_enuT {X : Cx} (K : PySem.W.Frag) {e : Expr} {ta : TA} {p pos tpos : Pos} {elts : List Expr} {kk : Nat} (hg : Gl X "enumerate") (hm : X.mg "enumerate" = none) (ha : PA X [e] ta) (hs : starEach [e] X.env = [(false, eval e X.env)] := by rfl) (h : X.K = K := by rfl) :
    PI X (.Tuple elts kk tpos) (.Call (.Name "enumerate" p) [e] [] pos) (iEnuT K ta) := by
  subst h
  refine ⟨fun pins s σ H R I h => ?_⟩
  refine Call_ (ld_blt I hg hm boot_enumerate (PyProof.Rows.callWith_type1 (thn (ha.run pos pins s σ H _ I h) fun us s1 ⟨vs, H1, I1, r1, q1⟩ => ?_) hs rfl))
  obtain ⟨a, xs, ex, hq, q⟩ := q1
  subst ex
  cases r1 with
  | cons r rr =>
    cases rr
    cases r
    obtain ⟨its, rv, p', hz⟩ := I1.tuple hq
    have pt : s1.heap.IsTuple a its.toArray := p'
    have la : a < s1.heap.objs.size := by obtain ⟨_, q, _⟩ := pt; exact Heap.lt_size q
    refine call_enuT pt fun h' he hit hk => wpAny_pyIter_enum he ?_
    have I2 : Inv X pins σ H1 { s1 with heap := h' } := I1.kept (t' := s1.toks) hk
    refine ⟨s1.heap.objs.size + 1, [s1.heap.objs.size + 1, s1.heap.objs.size], _, _, H1, rfl, I2, turn_enuT a (s1.heap.objs.size + 1) s1.heap.objs.size (Nat.ne_of_lt la) (Nat.ne_of_lt (Nat.lt_succ_of_lt la)), ⟨⟨.none, he⟩, hit, Nat.succ_ne_self _⟩, fun b hb => ?_, q⟩
    have hle : s1.heap.objs.size ≤ b := by
      rcases (show b = s1.heap.objs.size + 1 ∨ b = s1.heap.objs.size by simpa using hb) with z | z
      · rw [z]; exact Nat.le_add_right _ _
      · rw [z]; exact Nat.le_refl _
    exact I1.fpOk hle (I1.hok.fresh hle)
theorem g_enuT {σ : L2.St} {H : Hp} {K : PySem.W.Frag} {ta : TA} {R : It → Hp → Prop} (h : ta σ H fun vs H1 => ∃ a xs, vs = [.ref a] ∧ SqT K H1 a xs ∧ R (IteT K a) H1) : iEnuT K ta σ H R := h
/-- a loop over the pairs (place, item) of a tuple -/
theorem for_enuT {K : PySem.W.Frag} {a : Addr} {xs : List V} {g : TG} {tb : TS} {D : Ends} {σ : L2.St} {H : Hp} (Pv : Nat → L2.St → Hp → Prop) (h0 : Pv 0 σ H) (hl : ∀ i σ H, Pv i σ H → SqT K H a xs)
    (hs : ∀ i x T σ H, xs[i]? = some x → Pv i σ H → H T = none → g (.ref T) σ (upd H T (.tup [.int (i : Nat), x])) fun σ2 H2 => tb { D with nx := Pv (i + 1), ct := Pv (i + 1), bk := D.nx } σ2 H2) (hd : ∀ σ H, Pv xs.length σ H → D.nx σ H) :
    ∃ W : Nat → Nat → L2.St → Hp → Prop, (∃ m, W 0 m σ H) ∧ ∀ i m σ H, W i m σ H →
      ((IteT K a).stop i H ∧ D.nx σ H) ∨ ((IteT K a).go i H ∧ ∃ N : L2.St → Hp → Prop, (∀ σ' H', N σ' H' → ∃ m', m' < m ∧ W (i + 1) m' σ' H') ∧ ∀ x H', (IteT K a).yld i H x H' → g x σ H' fun σ2 H2 => tb { D with nx := N, ct := N, bk := D.nx } σ2 H2) := by
  refine ⟨fun i m σ H => i + m = xs.length ∧ Pv i σ H, ⟨xs.length, Nat.zero_add _, h0⟩, fun i m σ H w => ?_⟩
  have sq := hl i σ H w.2
  cases m with
  | zero =>
    have e : i = xs.length := w.1
    exact Or.inl ⟨⟨xs, sq, by omega⟩, hd σ H (by rw [← e]; exact w.2)⟩
  | succ m =>
    have lt : i < xs.length := by have := w.1; omega
    refine Or.inr ⟨⟨xs, xs[i], sq, List.getElem?_eq_getElem lt⟩, Pv (i + 1), fun σ' H' z => ⟨m, Nat.lt_succ_self m, by have := w.1; omega, z⟩, fun x H' y => ?_⟩
    obtain ⟨T, v, e1, e2, e3, e4⟩ := y
    rw [e1, e3]
    exact hs i v T σ H (e4 xs sq) w.2 e2
end Rt
set_option Elab.async false
set_option linter.all false
set_option maxRecDepth 100000
set_option maxHeartbeats 4000000
/-! iter of a tuple as a value; list(o) of an instance whose class has __iter__, which returns such an iterator, and __len__. -/
namespace Rt
open PySem PySem.Spec PyProof.Rows L2
/-- at j an iterator over the tuple at u, the next place is n -/
def ItT (u j : Addr) (n : Nat) : HO := .ext fun h => h.IsTupleIter j u n
/-- some object -/
def SomeO (j : Addr) : HO := .ext fun h => ∃ o, h.get? j = some o
theorem itT_ok {P : Program} {w : World} {H : Hp} {h : Heap} {u j : Addr} {n : Nat} (e : h.IsTupleIter j u n) : ObjOk P w H h j (ItT u j n) := ⟨e, let ⟨o, ho, _⟩ := e; ⟨o, ho⟩, fun _ _ q k => q.at k⟩
theorem someO_ok {P : Program} {w : World} {H : Hp} {h : Heap} {j : Addr} (e : ∃ o, h.get? j = some o) : ObjOk P w H h j (SomeO j) := ⟨e, e, fun _ _ ⟨o, z⟩ k => ⟨o, k o z⟩⟩
section
variable {prog : Program} {w : World} {A : Around} {E : Value → Shared → Prop} {s : Shared}
theorem iterT_sem {u : Addr} {zs : Array Value} {R : Value → Shared → Prop} (hu : s.heap.IsTuple u zs) (h : R (.ref s.heap.objs.size) { s with heap := s.heap.push (tit u) }) : wpAny (model prog w) A (call (.builtin "iter") [.ref u]) R E s := by
  refine Calls.call_function_entry (by decide +kernel) (by decide +kernel) PySem.W.kdk_entry_iter (PySem.W.kdk_args_iter _) ?_
  unfold Builtin.«iter»
  refine wpAny_bind (m := someArgs "iter" 1 2 _) (wpAny_of_eq (a := [Value.ref u]) (by first | rfl | kernel_rfl!) ?_); show wpAny _ _ (pyIter (.ref u) >>= _) _ _ _
  exact wpAny_bind (wpAny_pyIter_tuple hu (wpAny_pure ⟨_, rfl, h⟩))
theorem nextT_end {j u : Addr} {n : Nat} {zs : Array Value} {R : Option Value → Shared → Prop} (h0 : A.handled = none) (hj : s.heap.IsTupleIter j u n) (hu : s.heap.IsTuple u zs) (hn : zs[n]? = none)
    (hR : ∀ G, Heap.ExtBut j s.heap G → (∃ o, G.get? j = some o) → R none { s with heap := G }) : wpAny (model prog w) A (pyNext (.ref j)) R E s := by
  obtain ⟨o1, e1, c1, d1⟩ := id hj; obtain ⟨o2, e2, _, n2, d2⟩ := hu; unfold pyNext
  refine wpAny_bind (wpAny_attempt (wpAny_callSpecial?_slot (name := Str.ofString "__next__") hj.typeIs F.slot_tuple_iterator_next (wpAny_call_entry F.slot_tuple_iterator_next hj.typeIs F.entry_tuple_iterator_next ?_ (F.args_tuple_iterator_next_1 _))))
  show wpAny _ _ (field (.ref j) 0 >>= _) _ _ s; refine wpAny_bind (wpAny_field e1 d1 (x := .ref u) rfl ?_)
  show wpAny _ _ (if (Value.ref u == Value.none) = true then _ else _) _ _ s; rw [if_neg (show ¬ ((Value.ref u == Value.none) = true) from Bool.false_ne_true)]
  show wpAny _ _ (field (.ref j) 1 >>= _) _ _ s; refine wpAny_bind (wpAny_field e1 d1 (x := .int n 0) rfl ?_)
  show wpAny _ _ (seqItems? (.ref u) >>= _) _ _ s; refine wpAny_bind (wpAny_seqItems e2 d2 ?_); simp only [Int.toNat_natCast, hn]
  refine wpAny_bind (wpAny_rule (wpAny_bind (wpAny_setField e1 d1 (by simp) ?_))); show wpAny _ _ (newExc (.type "StopIteration") [] >>= _) _ _ _; refine wpAny_bind ?_
  simp only [newExc, newTuple]; refine wpAny_bind (wpAny_newObj_type ?_ (by size_fits)); refine wpAny_bind (m := firstArgMember _ _) (wpAny_of_eq (a := Value.none) (by first | rfl | (simp only [firstArgMember]; rfl)) ?_)
  refine wpAny_newObj_type ?_ (by size_fits); simp only [raiseNew]; refine wpAny_bind (wpAny_handled ?_)
  first | rw [show A.in1.handled = none from h0] | rw [h0]
  refine wpAny_bind (wpAny_pure (wpAny_throw ?_)); refine wpAny_bind (wpAny_isInstance (T := "StopIteration") (b := true) ⟨_, Heap.get?_push_size _ rfl, rfl⟩ isSubtype_stop ?_)
  exact wpAny_pure (hR _ (((Heap.SameBut.update ..).extBut.push _).push _) ⟨_, Heap.get?_push_of_some _ (Heap.get?_push_of_some _ (Heap.get?_update_self _ e1 (Obj.isFreed_of_fields (Obj.data_mapFields d1 _))))⟩)
end
/-- iter(t), t a tuple -/
def rIterT (K : PySem.W.Frag) : List V → Hp → VK → Prop := fun xs H Q => ∃ (u : Addr) (zs : List V), xs = [.ref u] ∧ SqT K H u zs ∧ ∀ j, H j = none → Q (.ref j) (upd H j (ItT u j 0))
theorem call_iterT {X : Cx} (K : PySem.W.Frag) (h : X.K = K := by rfl) : CallR X (.builtin "iter") (rIterT K) := by
  subst h
  intro pins s σ H xs us Q I r h
  obtain ⟨l, zs, rfl, hq, q⟩ := h
  obtain rfl := Vals.ref1 r
  obtain ⟨its, rv, pl, hz⟩ := I.tuple hq
  refine iterT_sem (show s.heap.IsTuple l its.toArray from pl) ?_
  exact ⟨.ref s.heap.objs.size, _, I.laid (t' := s.toks) (fun b u e => Heap.get?_push_of_some _ e) (Nat.le_refl _) (itT_ok ⟨_, Heap.get?_push_size _ rfl, rfl, rfl⟩), rfl, q _ (I.hok.fresh (Nat.le_refl _))⟩
section
variable {X : Cx} {pins : List (Addr × Obj)} {σ : L2.St} {H : Hp} {s : Shared} {k : Nat} {f C a : Addr} {fd : FuncData} {ps : List Str} {sp : Sp} {A1 : Around} {E : Value → Shared → Prop}
theorem runA {Q : VK} {us : List Value} {vs : List V} (F : FnOk X.prog X.w X.K X.mg X.base CX0 k f fd ps sp) (hr : Room k A1) (hA : A1.frames = X.A.frames) (hb : Binds X.K fd ps []) (I : Inv X pins σ H s) (r : Vals vs us) (h : sp vs H Q E0) :
    wpAny (model X.prog X.w) A1 (call (.ref f) us) (EP X pins σ Q) E s := by
  have hl : us.length = ps.length := by rw [← r.length]; exact F.len _ _ _ _ h
  have e0 : Env0 X.prog X.w X.K X.mg X.base A1 X.stack s H := by
    have e := I.env0
    exact ⟨by rw [hA]; exact e.frames, e.mod, e.bs, e.bsz, e.funs, e.frf, e.hok, e.bare⟩
  refine wpAny_call (codeAny_mono (F.run A1 X.stack s H ⟨us, []⟩ us vs Q E0 hr e0 (by have := hb s us I.kIn (by simpa using hl); simpa using this) r h) fun r s' hq => ?_)
  cases r with
  | error e => exact False.elim hq
  | ok fl =>
    cases fl with
    | ret u => exact I.after hq
    | next => exact False.elim hq
    | brk => exact False.elim hq
    | cont => exact False.elim hq
theorem lenA {n : Nat} {dx : Addr} {fs : List (Str × V)} (c : LenC X.K C f) (F : FnOk X.prog X.w X.K X.mg X.base CX0 k f fd ps sp) (hr : Room (k + 1) A1) (hA : A1.frames = X.A.frames) (hb : Binds X.K fd ps []) (I : Inv X pins σ H s) (ha : H a = some (.ins C dx fs))
    (hn : n ≤ 1000) (h : sp [.ref a] H (fun v H' => v = .int (n : Int) ∧ H' = H) E0) : wpAny (model X.prog X.w) A1 (call (.builtin "len") [.ref a]) (fun v s' => ∃ t, v = .int (n : Int) t ∧ Inv X pins σ H s') E s := by
  obtain ⟨mA, J, _⟩ := ins_get I.hok ha
  obtain ⟨od, J, _⟩ := J.look
  have hK := I.kIn
  refine Calls.call_function_entry PySem.kind_len PySem.plain_len PySem.entry_len (PySem.args_len1 _) ?_
  unfold Builtin.«len»
  refine wpAny_bind (m := oneArg "len" _) (wpAny_pure ?_)
  have fin : wpAny (model X.prog X.w) A1.in1 (call (.ref f) [.ref a]) (EP X pins σ (fun v H' => v = .int (n : Int) ∧ H' = H)) E s := runA F hr.in1 hA hb I (us := [.ref a]) (vs := [V.ref a]) (.cons rfl .nil) h
  refine wpAny_bind (m := callSpecial? (.ref a) (Str.ofString "__len__")) ?_
  unfold callSpecial?
  refine wpAny_bind (wpAny_bind (J.type.here ((PySem.W.looks_findIn hK c.ln).here ?_)))
  refine wpAny_holding (wpAny_bind ((PySem.W.bind_fn hK _ (beq_iff_eq.mp c.lnF)).here ?_))
  refine wpAny_bind (wpAny_mono fin (fun v s' hv => ?_) fun _ _ z => z)
  obtain ⟨y, H', I', rv, rfl, eH⟩ := hv
  rw [eH] at I'
  obtain ⟨t, rfl⟩ := rv
  refine wpAny_pure ?_
  refine wpAny_bind (wpAny_holding (wpAny_pure ?_))
  refine wpAny_bind (wpAny_letGo ?_)
  show wpAny _ _ (if (n : Int) < 0 then _ else _) _ _ _
  rw [if_neg (by omega)]
  refine wpAny_bind (wpAny_pure ?_)
  show wpAny _ _ (if (n : Int) ≥ 2 ^ 63 then _ else _) _ _ _
  rw [if_neg (by omega)]
  exact wpAny_bind (wpAny_mkInt (wpAny_pure ⟨_, rfl, _, rfl, I'.tok _⟩))
theorem hintA {n : Nat} {dx : Addr} {fs : List (Str × V)} {R : Bool → Shared → Prop} (c : LenC X.K C f) (F : FnOk X.prog X.w X.K X.mg X.base CX0 k f fd ps sp) (hr : Room (k + 1) A1) (hA : A1.frames = X.A.frames) (hb : Binds X.K fd ps []) (I : Inv X pins σ H s) (ha : H a = some (.ins C dx fs))
    (hn : n ≤ 1000) (h : sp [.ref a] H (fun v H' => v = .int (n : Int) ∧ H' = H) E0) (hR : ∀ b s', Inv X pins σ H s' → R b s') : wpAny (model X.prog X.w) A1 (Builtin.List.listLengthHint (.ref a)) R E s := by
  obtain ⟨mA, J, _⟩ := ins_get I.hok ha
  obtain ⟨od, J, _⟩ := J.look
  unfold Builtin.List.listLengthHint
  refine wpAny_bind (wpAny_bind (J.type.here ((PySem.W.looks_findIn I.kIn c.ln).here ?_)))
  refine PySem.W.KFB.if_not rfl ?_
  refine PySem.W.KFB.if_so rfl ?_
  refine wpAny_bind (wpAny_rule ?_)
  refine wpAny_bind (wpAny_attempt (wpAny_mono (lenA (E := fun _ _ => False) c F hr hA hb I ha hn h) (fun v s' hv => ?_) fun _ _ z => z.elim))
  obtain ⟨t, rfl, I'⟩ := hv
  show wpAny _ _ (asInt? (Value.int (n : Int) t) >>= _) _ _ _
  refine wpAny_bind (wpAny_of_eq (a := some (n : Int)) (by first | rfl | (simp [asInt?]; rfl)) ?_)
  show wpAny _ _ (if Builtin.List.listTooLong ((n : Int)).toNat = true then _ else _) _ _ _
  rw [if_neg (by rw [L2.notLongL (by rw [sizeLine_eq]; omega)]; exact Bool.false_ne_true)]
  exact wpAny_pure (hR _ _ I')
/-- the turns that fill the list at q from the iterator at j over the tuple at u -/
theorem fillT {Rs : Result → Shared → Prop} {H0 : Hp} {q j u : Addr} {zs : List V} (h0 : A1.in1.handled = none) (hz : zs.length ≤ 1000) (hqj : q ≠ j) (huq : u ≠ q) (huj : u ≠ j)
    (hdone : ∀ H' s', Inv X pins σ H' s' → (∀ b, b ≠ j → b ≠ q → H' b = H0 b) → H' q = some (.lst zs) → Rs (.ok (.ret .none)) s') :
    ∀ (m i : Nat) (H : Hp) (s : Shared), i + m = zs.length → Inv X pins σ H s → (∀ b, b ≠ j → b ≠ q → H b = H0 b) → H j = some (ItT u j i) → H0 u = some (.tup zs) → H q = some (.lst (zs.take i)) →
      codeAny (model X.prog X.w) A1 (.builtin "list.extend.loop" ⟨[.ref q, .ref j, .none], []⟩) Rs s := by
  intro m
  induction m with
  | zero =>
    intro i H s hi I hk hj hu hq
    refine codeAny_builtin PySem.F.entry_extend_loop ?_
    rw [Around.under_plainId PySem.F.plain_extend_loop _]
    show wpAny _ A1.in1 (pyNext (.ref j) >>= _) _ _ s
    have hu' : H u = some (.tup zs) := by rw [hk u huj huq]; exact hu
    obtain ⟨its, rv, pl, _⟩ := I.tuple (SqT.of hu')
    have hl := rv.length
    refine wpAny_bind (nextT_end h0 (I.hok j _ hj).1 (show s.heap.IsTuple u its.toArray from pl) (by simp; omega) fun G eb ex => wpAny_pure ?_)
    have I2 := I.write (x := j) (e := j) (o := SomeO j) (t' := s.toks) (h' := G) (by rw [hj]; exact True.intro) (.inl rfl) (fun b o nb z => eb b o nb z) ex (someO_ok ex)
    refine hdone _ _ I2 (fun b n1 n2 => by rw [upd_ne n1]; exact hk b n1 n2) ?_
    rw [upd_ne hqj, hq, show zs.take i = zs from List.take_of_length_le (by omega)]
  | succ m ih =>
    intro i H s hi I hk hj hu hq
    refine codeAny_builtin PySem.F.entry_extend_loop ?_
    rw [Around.under_plainId PySem.F.plain_extend_loop _]
    show wpAny _ A1.in1 (pyNext (.ref j) >>= _) _ _ s
    have hu' : H u = some (.tup zs) := by rw [hk u huj huq]; exact hu
    obtain ⟨its, rv, pl, _⟩ := I.tuple (SqT.of hu')
    have hlt : i < zs.length := by omega
    obtain ⟨v, hv, rx⟩ := rv.get (List.getElem?_eq_getElem hlt)
    refine wpAny_bind (wpAny_pyNext_tuple_item (I.hok j _ hj).1 (show s.heap.IsTuple u its.toArray from pl) (x := v) (by simpa using hv) fun G ht sb => ?_)
    have I2 := I.write (x := j) (e := j) (o := ItT u j (i + 1)) (t' := s.toks) (h' := G) (by rw [hj]; exact True.intro) (.inl rfl) (fun b o nb z => (sb.2 b nb).trans z) (let ⟨o, z, _⟩ := ht; ⟨o, z⟩) (itT_ok ht)
    have hq2 : upd H j (ItT u j (i + 1)) q = some (.lst (zs.take i)) := by rw [upd_ne hqj]; exact hq
    show wpAny _ A1.in1 (updateSeq q (·.push v) >>= _) _ _ _
    obtain ⟨z, xs, k2, r2, hl, e⟩ := I2.lstM hq2
    have hlx : xs.length = i := by rw [← hl, List.length_take]; omega
    refine wpAny_bind (wpAny_updateSeq e rfl (wpAny_pure ⟨plainId_quiet PySem.F.plain_extend_loop _, ?_⟩) (by rw [List.size_toArray, sizeLine_eq]; omega) (by show (xs.toArray.push v).size ≤ sizeLine + 1; rw [Array.size_push, List.size_toArray, sizeLine_eq]; omega))
    have I3 := I2.lset (f := (·.push v)) (its' := xs ++ [v]) (ys := zs.take i ++ [zs[i]]) (t' := s.toks) hq2 e (by simp) (r2.append (.cons rx .nil)) (by rw [List.length_append, List.length_take, sizeLine_eq]; simp; omega)
    have et : zs.take i ++ [zs[i]] = zs.take (i + 1) := by rw [List.take_succ, List.getElem?_eq_getElem hlt]; rfl
    rw [et] at I3
    exact ih (i + 1) _ _ (by omega) I3 (fun b n1 n2 => by rw [upd_ne n2, upd_ne n1]; exact hk b n1 n2) (by rw [upd_ne (Ne.symm hqj), upd_same]) hu upd_same
end
/-- __iter__ and __len__ of a class, by what they promise -/
structure IterD (P : Program) (w : World) (K : PySem.W.Frag) (mg : Str → Option Value) (base : Heap) (C : Addr) (spI spL : Sp) : Prop where
  ex : ∃ (f : Addr) (fd : FuncData), PySem.W.findIn K (.ref C) "__iter__" = some (some (.ref f)) ∧ PySem.W.isFn K (.ref f) = true ∧ FnOk P w K mg base CX0 1 f fd ["self"] spI ∧ L2.Binds K fd ["self"] []
  ln : LenD P w K mg base C spL
/-- list(o): what __iter__ gives is walked; __len__ is asked on the way -/
def rListI (C : Addr) (spI spL : Sp) : List V → Hp → VK → Prop := fun xs H Q => ∃ a dx fs, xs = [.ref a] ∧ H a = some (.ins C dx fs) ∧ ∀ q, H q = none →
  spI [.ref a] (upd H q (.lst [])) (fun v H1 => ∃ (j u : Addr) (zs : List V), v = .ref j ∧ H1 = upd (upd H q (.lst [])) j (ItT u j 0) ∧ (upd H q (.lst [])) j = none ∧ H u = some (.tup zs) ∧ zs.length ≤ 1000 ∧
    spL [.ref a] H1 (fun v H2 => v = .int (zs.length : Int) ∧ H2 = H1) E0 ∧ ∀ H', Same H H' → H' q = some (.lst zs) → Q (.ref q) H') E0
theorem call_listI {X : Cx} {C : Addr} {spI spL : Sp} (D : IterD X.prog X.w X.K X.mg X.base C spI spL) (hcalm : X.calm = true) (hr : Room 4 X.A) : CallR X (.type "list") (rListI C spI spL) := by
  intro pins s σ H xs us Q I rv h
  obtain ⟨a, dx, fs, rfl, ha, hq⟩ := h
  obtain ⟨fi, fdI, itI, itF, FI, bI⟩ := D.ex
  obtain ⟨fl, fdL, cL, FL, bL⟩ := D.ln.ex
  obtain ⟨u, rfl, ru⟩ := rv.one
  cases ru
  have sb : Sub X 2 X.A.in1.in1 := (Sub.in1 (Sub.in1 (⟨hr, rfl⟩ : Sub X 4 X.A)))
  refine callType_codes (Q₁ := fun obj s₁ => obj = .ref s.heap.objs.size ∧ s₁ = { s with heap := s.heap.push { cls := .type "list", data := .seq #[] } }) PySem.F.called_list (PySem.F.typeCall_list_1 _) PySem.F.entry_list_init (code_list_new _ ⟨rfl, rfl⟩) fun obj s₁ h₁ => ?_
  obtain ⟨rfl, rfl⟩ := h₁
  have hS : (s.heap.push { cls := .type "list", data := .seq #[] }).get? s.heap.objs.size = some { cls := .type "list", data := .seq #[] } := Heap.get?_push_size _ rfl
  refine ⟨⟨_, hS, rfl⟩, PySem.F.args_list_init_2 _ _, ?_⟩
  have fr : H s.heap.objs.size = none := I.hok.fresh (Nat.le_refl _)
  have hspI := hq _ fr
  have I1 : Inv X pins σ (upd H s.heap.objs.size (.lst [])) { s with heap := s.heap.push { cls := .type "list", data := .seq #[] } } := I.lnew (its := []) (t' := s.toks) .nil (Nat.zero_le _)
  show wpAny _ _ (do let old ← Builtin.List.listItems (.ref s.heap.objs.size); Builtin.List.listUpdate (.ref s.heap.objs.size) (fun _ => #[]); letGo old.toList.reverse; Builtin.List.listExtendWith (.ref s.heap.objs.size) (.ref a) .none) _ _ _
  generalize hqq : s.heap.objs.size = q at *
  refine wpAny_bind ?_
  unfold Builtin.List.listItems
  refine wpAny_bind (wpAny_seqItems hS rfl (wpAny_pure ?_))
  show wpAny _ _ (updateSeq q (fun _ => #[]) >>= fun _ => letGo (#[] : Array Value).toList.reverse >>= fun _ => Builtin.List.listExtendWith (.ref q) (.ref a) .none) _ _ _
  refine wpAny_bind (wpAny_updateSeq hS rfl ?_)
  have I2 := I1.lset (f := fun _ => #[]) (its := []) (its' := []) (ys := []) (t' := s.toks) upd_same hS rfl .nil (Nat.zero_le _)
  rw [upd_upd] at I2
  refine wpAny_bind (wpAny_letGo ?_)
  have ha2 : upd H q (.lst []) a = some (.ins C dx fs) := by rw [upd_ne (ne_of_none ha fr)]; exact ha
  have hne : q ≠ a := (ne_of_none ha fr).symm
  obtain ⟨mA, J, _⟩ := ins_get I2.hok ha2
  obtain ⟨od, J, _⟩ := J.look
  obtain ⟨m0, hF⟩ := I2.fr
  unfold Builtin.List.listExtendWith
  refine wpAny_bind (J.type.here ?_)
  have h1 : Builtin.List.listSameRef (.ref q) (.ref a) = false := by simp [Builtin.List.listSameRef, hne]
  have h2 : (Value.ref C == Value.type "list") = false := rfl
  have h3 : (Value.ref C == Value.type "tuple") = false := rfl
  simp only [h1, h2, h3, Bool.or_false, Bool.false_eq_true, if_false]
  refine wpAny_bind (PySem.W.owit_iter hF I2.ok.mod.kin J itI itF ?_)
  refine wpAny_mono (runA (E := X.xe) (A1 := X.A.in1.in1) (FI.mono (by decide)) sb.room (by rw [sb.fr]) bI I2 (us := [.ref a]) (vs := [V.ref a]) (.cons rfl .nil) hspI) (fun r s3 hr3 => ?_) fun e s3 he => he
  obtain ⟨v, H', I3, rv3, j, u, zs, rfl, rfl, hj, hu, hz, hspL, fin⟩ := hr3
  cases rv3
  have hjq : j ≠ q := fun z => by rw [z, upd_same] at hj; cases hj
  have hHj : H j = none := by rw [upd_ne hjq] at hj; exact hj
  have ha3 : upd (upd H q (.lst [])) j (ItT u j 0) a = some (.ins C dx fs) := by rw [upd_ne (ne_of_none ha hHj)]; exact ha2
  have hti := (I3.hok j _ upd_same).1
  unfold PySem.W.OwitIt
  refine wpAny_specialOf hti.typeIs F.slot_tuple_iterator_next.lookup ?_
  refine wpAny_bind (wpAny_holding (hintA cL (FL.mono (by decide)) sb.room (by rw [sb.fr]) bL I3 ha3 hz hspL fun b s4 I4 => ?_))
  have h0 : X.A.in1.in1.handled = none := by have := I.ok.hd hcalm; simpa using this
  have loop : ∀ s5, Inv X pins σ (upd (upd H q (.lst [])) j (ItT u j 0)) s5 → codeAny (model X.prog X.w) X.A.in1 (.builtin "list.extend.loop" ⟨[.ref q, .ref j, .none], []⟩) (wants (fun r s₂ => r = .none ∧ EP X pins σ Q (.ref q) s₂) X.xe) s5 := fun s5 I5 => by
    refine fillT (H0 := H) h0 hz hjq.symm (ne_of_none hu fr) (ne_of_none hu hHj) (fun H' s' I' hk hq' => ?_) zs.length 0 _ s5 (Nat.zero_add _) I5 (fun b n1 n2 => by rw [upd_ne n1, upd_ne n2]) upd_same hu (by rw [upd_ne hjq.symm, upd_same]; rfl)
    refine ⟨rfl, .ref q, H', I', rfl, fin H' (fun b o hb => ?_) hq'⟩
    rw [hk b (ne_of_none hb hHj) (ne_of_none hb fr)]; exact hb
  obtain ⟨z, its, k4, r4, hl4, e4⟩ := I4.lstM (l := q) (xs := []) (by rw [upd_ne hjq.symm, upd_same])
  cases r4
  refine wpAny_ite_split (fun _ => ?_) (fun _ => wpAny_pure ⟨plainId_quiet PySem.F.plain_extend_loop _, loop _ I4⟩)
  refine wpAny_bind (wpAny_rule ?_)
  refine wpAny_bind ?_
  show wpAny _ _ (updateSeq q (·.push .none) >>= fun _ => updateSeq q (·.pop)) _ _ _
  refine wpAny_bind (wpAny_updateSeq e4 rfl ?_)
  have hq4 : upd (upd H q (.lst [])) j (ItT u j 0) q = some (.lst []) := by rw [upd_ne hjq.symm, upd_same]
  have I5 := I4.lset (f := (·.push Value.none)) (its' := [Value.none]) (ys := [.non]) (t' := s4.toks) hq4 e4 (by simp) (.cons rfl .nil) (by rw [List.length_singleton, sizeLine_eq]; decide)
  obtain ⟨z5, its5, k5, r5, hl5, e5⟩ := I5.lstM upd_same
  obtain ⟨u5, rfl, ru5⟩ := r5.one
  refine wpAny_updateSeq e5 rfl ?_ (by show 1 ≤ sizeLine; rw [sizeLine_eq]; decide) (by show 0 ≤ sizeLine + 1; exact Nat.zero_le _)
  refine wpAny_pure ⟨plainId_quiet PySem.F.plain_extend_loop _, loop _ ?_⟩
  have I6 := I5.lset (f := (·.pop)) (its := [u5]) (its' := []) (ys := []) (t' := s4.toks) upd_same e5 (by rfl) .nil (Nat.zero_le _)
  rw [upd_upd] at I6
  have hH : upd (upd (upd H q (.lst [])) j (ItT u j 0)) q (.lst []) = upd (upd H q (.lst [])) j (ItT u j 0) := by
    funext b
    by_cases hb : b = q
    · rw [hb, upd_same, hq4]
    · rw [upd_ne hb]
  rw [hH] at I6
  exact I6
end Rt
set_option Elab.async false
set_option linter.all false
set_option maxRecDepth 100000
set_option maxHeartbeats 4000000
/-! Marks on a ring, in numbers: gaps, rounds, even marks. -/
namespace Rt
def gapsM (n : Int) (ps : List Int) : List Int := List.zipWith (fun a b => b - a) ps (ps.drop 1 ++ [ps.headD 0 + n])
def mxL : List Int → Int
  | [] => 0
  | a :: l => l.foldl (fun x y => if x < y then y else x) a
def kpt (n : Int) (ps : List Int) : List Int := ((ps.zip (gapsM n ps)).filter fun x => decide (x.2 = mxL (gapsM n ps))).map (·.1)
def itM (n : Int) (ps : List Int) : Nat → List Int
  | 0 => ps
  | k + 1 => kpt n (itM n ps k)
def euL : Nat → Nat → Nat → List Nat
  | 0, _, _ => []
  | f + 1, a, b => if b = 0 then [] else b :: euL f b (a % b)
def lensM : Nat → Int → List Int → List Nat
  | 0, _, _ => []
  | f + 1, n, ps => ps.length :: (if kpt n ps = ps then [] else lensM f n (kpt n ps))
def evF (n m : Nat) : List Int := ((List.range n).filter fun p => decide (p * m % n < m)).map fun p : Nat => (p : Int)
def evL (n m : Nat) : List Int := (List.range m).map fun k : Nat => (((k * n + m - 1) / m : Nat) : Int)
def chkM (n m : Nat) : Bool := decide (evF n m = evL n m) && decide (lensM 61 n (evL n m) = euL 61 n m)

/-! ### places in ascending order -/
structure MkOk (n : Int) (ps : List Int) : Prop where
  ne : 0 < ps.length
  asc : ps.Pairwise (· < ·)
  rg : ∀ x ∈ ps, 0 ≤ x ∧ x < n
  n60 : n ≤ 60
theorem asc_few {n : Int} : ∀ {ps : List Int} {a : Int}, ps.Pairwise (· < ·) → (∀ x ∈ ps, a ≤ x ∧ x < n) → ps = [] ∨ (ps.length : Int) ≤ n - a
  | [], _, _, _ => .inl rfl
  | x :: l, a, h, hr => by
    have h' := List.pairwise_cons.mp h
    have hx := hr x List.mem_cons_self
    have := asc_few (n := n) (ps := l) (a := x + 1) h'.2 fun y hy => ⟨by have := h'.1 y hy; omega, (hr y (List.mem_cons_of_mem _ hy)).2⟩
    refine .inr ?_
    rw [List.length_cons]
    rcases this with z | z
    · rw [z]; simp; omega
    · omega
theorem MkOk.few {n : Int} {ps : List Int} (h : MkOk n ps) : ps.length ≤ 60 := by
  rcases asc_few (a := 0) h.asc h.rg with z | z
  · rw [z]; simp
  · have := h.n60; omega
theorem MkOk.at_ {n : Int} {ps : List Int} (h : MkOk n ps) {i : Nat} (hi : i < ps.length) : 0 ≤ ps.getD i 0 ∧ ps.getD i 0 < n := by
  rw [List.getD_eq_getElem?_getD, List.getElem?_eq_getElem hi]
  exact h.rg _ (List.getElem_mem hi)
theorem MkOk.lt {n : Int} {ps : List Int} (h : MkOk n ps) {i j : Nat} (hij : i < j) (hj : j < ps.length) : ps.getD i 0 < ps.getD j 0 := by
  rw [List.getD_eq_getElem?_getD, List.getElem?_eq_getElem (by omega), List.getD_eq_getElem?_getD, List.getElem?_eq_getElem hj]
  exact List.pairwise_iff_getElem.mp h.asc i j (by omega) hj hij
theorem MkOk.nd {n : Int} {ps : List Int} (h : MkOk n ps) : ps.Nodup := h.asc.imp fun {a b} z => Int.ne_of_lt z
/-! ### gaps -/
theorem gapsM_len {n : Int} {ps : List Int} (h : 0 < ps.length) : (gapsM n ps).length = ps.length := by
  unfold gapsM
  rw [List.length_zipWith, List.length_append, List.length_drop, List.length_singleton]
  omega
theorem gapsM_at {n : Int} {ps : List Int} {i : Nat} (hi : i < ps.length) : (gapsM n ps).getD i 0 = (if i + 1 < ps.length then ps.getD (i + 1) 0 else ps.getD 0 0 + n) - ps.getD i 0 := by
  have e0 : ps.headD 0 = ps.getD 0 0 := by cases ps <;> rfl
  unfold gapsM
  rw [List.getD_eq_getElem?_getD, List.getElem?_zipWith, List.getElem?_eq_getElem hi]
  by_cases c : i + 1 < ps.length
  · rw [if_pos c, List.getElem?_append_left (by rw [List.length_drop]; omega), List.getElem?_drop, Nat.add_comm 1 i, List.getElem?_eq_getElem c, List.getD_eq_getElem?_getD, List.getElem?_eq_getElem c, List.getD_eq_getElem?_getD, List.getElem?_eq_getElem hi]
    rfl
  · rw [if_neg c, List.getElem?_append_right (by rw [List.length_drop]; omega), List.length_drop, show i - (ps.length - 1) = 0 by omega, e0, List.getD_eq_getElem?_getD (l := ps) (i := i), List.getElem?_eq_getElem hi]
    rfl
/-- as the law has it -/
theorem gapsM_law {n : Int} {ps : List Int} (h : MkOk n ps) {i : Nat} (hi : i < ps.length) : (ps.getD ((i + 1) % ps.length) 0 - ps.getD i 0 - 1) % n + 1 = (gapsM n ps).getD i 0 := by
  rw [gapsM_at hi]
  have a := h.at_ hi
  by_cases c : i + 1 < ps.length
  · rw [if_pos c, Nat.mod_eq_of_lt c]
    have b := h.at_ c
    have d := h.lt (i := i) (j := i + 1) (by omega) c
    rw [Int.emod_eq_of_lt (by omega) (by omega)]; omega
  · have e : i + 1 = ps.length := by omega
    rw [if_neg c, e, Nat.mod_self]
    have b := h.at_ h.ne
    have d : ps.getD 0 0 ≤ ps.getD i 0 := by
      by_cases z : i = 0
      · rw [z]; exact Int.le_refl _
      · exact Int.le_of_lt (h.lt (by omega) hi)
    have : (ps.getD 0 0 - ps.getD i 0 - 1) % n = ps.getD 0 0 - ps.getD i 0 - 1 + n := by
      rw [← Int.add_emod_right]; exact Int.emod_eq_of_lt (by omega) (by omega)
    omega
/-! ### the greatest -/
theorem mxF : ∀ (l : List Int) (a : Int), (l.foldl (fun x y => if x < y then y else x) a) ∈ a :: l ∧ ∀ y ∈ a :: l, y ≤ l.foldl (fun x y => if x < y then y else x) a
  | [], a => ⟨List.mem_cons_self, fun y hy => by simp at hy; rw [hy]; exact Int.le_refl _⟩
  | b :: l, a => by
    obtain ⟨h1, h2⟩ := mxF l (if a < b then b else a)
    rw [List.foldl_cons]
    refine ⟨?_, fun y hy => ?_⟩
    · rcases List.mem_cons.mp h1 with z | z
      · rw [z]; split
        · exact List.mem_cons_of_mem _ List.mem_cons_self
        · exact List.mem_cons_self
      · exact List.mem_cons_of_mem _ (List.mem_cons_of_mem _ z)
    · have top := h2 _ List.mem_cons_self
      rcases List.mem_cons.mp hy with z | z
      · rw [z]; refine Int.le_trans ?_ top; split <;> omega
      · rcases List.mem_cons.mp z with z | z
        · rw [z]; refine Int.le_trans ?_ top; split <;> omega
        · exact h2 y (List.mem_cons_of_mem _ z)
theorem mxL_mem {l : List Int} (h : 0 < l.length) : mxL l ∈ l ∧ ∀ y ∈ l, y ≤ mxL l := by
  cases l with
  | nil => simp at h
  | cons a l => exact mxF l a
theorem mxL_eq {l : List Int} {m : Int} (h : m ∈ l) (hx : ∀ y ∈ l, y ≤ m) : m = mxL l := by
  have := mxL_mem (List.length_pos_of_mem h)
  have a := hx _ this.1
  have b := this.2 _ h
  omega
/-! ### what a round keeps -/
theorem zip_at {n : Int} {ps : List Int} (h : 0 < ps.length) {i : Nat} (hi : i < ps.length) : (ps.zip (gapsM n ps))[i]? = some (ps.getD i 0, (gapsM n ps).getD i 0) := by
  have hg : i < (gapsM n ps).length := by rw [gapsM_len h]; exact hi
  have e1 : ps[i]? = some (ps.getD i 0) := by rw [List.getD_eq_getElem?_getD, List.getElem?_eq_getElem hi]; rfl
  have e2 : (gapsM n ps)[i]? = some ((gapsM n ps).getD i 0) := by rw [List.getD_eq_getElem?_getD, List.getElem?_eq_getElem hg]; rfl
  exact List.getElem?_zip_eq_some.mpr ⟨e1, e2⟩
def kptT (n : Int) (ps : List Int) (i : Nat) : List Int := (((ps.zip (gapsM n ps)).take i).filter fun x => decide (x.2 = mxL (gapsM n ps))).map (·.1)
theorem kptT_zero {n : Int} {ps : List Int} : kptT n ps 0 = [] := rfl
theorem kptT_step {n : Int} {ps : List Int} (h : 0 < ps.length) {i : Nat} (hi : i < ps.length) : kptT n ps (i + 1) = kptT n ps i ++ (if (gapsM n ps).getD i 0 = mxL (gapsM n ps) then [ps.getD i 0] else []) := by
  unfold kptT
  rw [List.take_succ, zip_at h hi, List.filter_append, List.map_append]
  show _ ++ ([(ps.getD i 0, (gapsM n ps).getD i 0)].filter _).map _ = _
  by_cases c : (gapsM n ps).getD i 0 = mxL (gapsM n ps)
  · rw [if_pos c, List.filter_cons, if_pos (decide_eq_true c)]; rfl
  · rw [if_neg c, List.filter_cons, if_neg (by rw [decide_eq_false c]; exact Bool.false_ne_true)]; rfl
theorem kptT_full {n : Int} {ps : List Int} (h : 0 < ps.length) : kptT n ps ps.length = kpt n ps := by
  unfold kptT kpt
  rw [List.take_of_length_le (by rw [List.length_zip, gapsM_len h]; omega)]
theorem kptT_len {n : Int} {ps : List Int} (i : Nat) : (kptT n ps i).length ≤ ps.length := by
  unfold kptT
  rw [List.length_map]
  refine Nat.le_trans (List.length_filter_le _ _) ?_
  rw [List.length_take, List.length_zip]; omega
theorem kpt_sub {n : Int} {ps : List Int} (h : 0 < ps.length) : (kpt n ps).Sublist ps := by
  have : (kpt n ps).Sublist ((ps.zip (gapsM n ps)).map (·.1)) := (List.filter_sublist).map _
  rwa [List.map_fst_zip (by rw [gapsM_len h]; exact Nat.le_refl _)] at this
theorem kpt_ne {n : Int} {ps : List Int} (h : 0 < ps.length) : 0 < (kpt n ps).length := by
  have hm := (mxL_mem (l := gapsM n ps) (by rw [gapsM_len h]; exact h)).1
  obtain ⟨i, hi, e⟩ := List.mem_iff_getElem.mp hm
  have hi' : i < ps.length := by rw [gapsM_len h] at hi; exact hi
  refine List.length_pos_of_mem (a := ps.getD i 0) (List.mem_map.mpr ⟨(ps.getD i 0, (gapsM n ps).getD i 0), List.mem_filter.mpr ⟨List.mem_of_getElem? (zip_at h hi'), decide_eq_true ?_⟩, rfl⟩)
  show (gapsM n ps).getD i 0 = _
  rw [List.getD_eq_getElem?_getD, List.getElem?_eq_getElem hi]; exact e
theorem MkOk.kpt {n : Int} {ps : List Int} (h : MkOk n ps) : MkOk n (kpt n ps) := ⟨kpt_ne h.ne, h.asc.sublist (kpt_sub h.ne), fun x hx => h.rg x ((kpt_sub h.ne).subset hx), h.n60⟩
theorem MkOk.it {n : Int} {ps : List Int} (h : MkOk n ps) : ∀ k, MkOk n (itM n ps k)
  | 0 => h
  | k + 1 => (h.it k).kpt
theorem itM_shift {n : Int} {ps : List Int} : ∀ k, itM n ps (k + 1) = itM n (kpt n ps) k
  | 0 => rfl
  | k + 1 => by show kpt n (itM n ps (k + 1)) = kpt n (itM n (kpt n ps) k); rw [itM_shift k]
theorem itM_len {n : Int} {ps : List Int} (h : MkOk n ps) : ∀ k, (∀ j, j < k → itM n ps (j + 1) ≠ itM n ps j) → (itM n ps k).length + k ≤ ps.length
  | 0, _ => Nat.le_refl _
  | k + 1, hk => by
    have := itM_len h k fun j hj => hk j (by omega)
    have sub : (itM n ps (k + 1)).Sublist (itM n ps k) := kpt_sub (h.it k).ne
    have : (itM n ps (k + 1)).length ≠ (itM n ps k).length := fun z => hk k (by omega) (sub.eq_of_length z)
    have := sub.length_le
    omega
/-- round N is the last one that changes something -/
structure EndM (n : Int) (ps : List Int) (N : Nat) : Prop where
  fix : itM n ps (N + 1) = itM n ps N
  mov : ∀ j, j < N → itM n ps (j + 1) ≠ itM n ps j
theorem EndM.lt {n : Int} {ps : List Int} {N : Nat} (e : EndM n ps N) (h : MkOk n ps) : N < ps.length := by
  have := itM_len h N e.mov
  have := (h.it N).ne
  omega
theorem endM_ex {n : Int} {ps : List Int} (h : MkOk n ps) : ∃ N, EndM n ps N := by
  have key : ∀ m, (∃ N, EndM n ps N) ∨ ∀ j, j < m → itM n ps (j + 1) ≠ itM n ps j := by
    intro m
    induction m with
    | zero => exact .inr fun j hj => absurd hj (Nat.not_lt_zero _)
    | succ m ih =>
      rcases ih with z | z
      · exact .inl z
      · by_cases c : itM n ps (m + 1) = itM n ps m
        · exact .inl ⟨m, c, z⟩
        · exact .inr fun j hj => by
            rcases Nat.lt_succ_iff_lt_or_eq.mp hj with y | y
            · exact z j y
            · rw [y]; exact c
  rcases key (ps.length + 1) with z | z
  · exact z
  · have := itM_len h _ z
    omega
theorem EndM.uniq {n : Int} {ps : List Int} {N M : Nat} (a : EndM n ps N) (b : EndM n ps M) : N = M := by
  rcases Nat.lt_trichotomy N M with z | z | z
  · exact absurd a.fix (b.mov N z)
  · exact z
  · exact absurd b.fix (a.mov M z)
theorem EndM.drop {n : Int} {ps : List Int} {N : Nat} (a : EndM n ps N) : ∀ {j : Nat}, j ≤ N → EndM n (itM n ps j) (N - j) := by
  have sh : ∀ j k, itM n (itM n ps j) k = itM n ps (j + k) := fun j k => by
    induction k with
    | zero => rfl
    | succ k ih => show kpt n (itM n (itM n ps j) k) = kpt n (itM n ps (j + k)); rw [ih]
  intro j hj
  refine ⟨?_, fun i hi => ?_⟩
  · rw [sh, sh, show j + (N - j + 1) = N + 1 by omega, show j + (N - j) = N by omega]; exact a.fix
  · rw [sh, sh]; exact a.mov (j + i) (by omega)
theorem itM_itM {n : Int} {ps : List Int} (j : Nat) : ∀ k, itM n (itM n ps j) k = itM n ps (j + k)
  | 0 => rfl
  | k + 1 => by show kpt n (itM n (itM n ps j) k) = kpt n (itM n ps (j + k)); rw [itM_itM j k]
theorem lensM_of {n : Int} : ∀ {N f : Nat} {ps : List Int}, EndM n ps N → N < f → lensM f n ps = (List.range (N + 1)).map fun k => (itM n ps k).length
  | 0, f + 1, ps, e, _ => by
    have : kpt n ps = ps := e.fix
    unfold lensM
    rw [if_pos this]; rfl
  | N + 1, f + 1, ps, e, h => by
    have hne : kpt n ps ≠ ps := e.mov 0 (by omega)
    have e2 : EndM n (kpt n ps) N := e.drop (j := 1) (by omega)
    unfold lensM
    rw [if_neg hne, lensM_of e2 (by omega), List.range_succ_eq_map (n := N + 1), List.map_cons, List.map_map]
    congr 1
    refine List.map_congr_left fun k _ => ?_
    show _ = (itM n ps (k + 1)).length
    rw [itM_shift]
  | _, 0, _, _, h => absurd h (Nat.not_lt_zero _)
/-! ### Euclid -/
theorem euL_more : ∀ {f g a b : Nat}, b < f → b < g → euL f a b = euL g a b
  | 0, _, _, _, h, _ => absurd h (Nat.not_lt_zero _)
  | _, 0, _, _, _, h => absurd h (Nat.not_lt_zero _)
  | f + 1, g + 1, a, b, h1, h2 => by
    unfold euL
    by_cases c : b = 0
    · rw [if_pos c, if_pos c]
    · rw [if_neg c, if_neg c]
      have := Nat.mod_lt a (Nat.pos_of_ne_zero c)
      rw [euL_more (f := f) (g := g) (by omega) (by omega)]
theorem euL_nil {f a : Nat} : euL f a 0 = [] := by cases f <;> rfl
theorem euL_step {a b : Nat} (h0 : 0 < b) (h : b ≤ 60) : euL 61 a b = b :: euL 61 b (a % b) := by
  have := Nat.mod_lt a h0
  show (if b = 0 then [] else b :: euL 60 b (a % b)) = _
  rw [if_neg (by omega), euL_more (f := 60) (g := 61) (by omega) (by omega)]
/-! ### even marks -/
theorem evL_len {n m : Nat} : (evL n m).length = m := by unfold evL; rw [List.length_map, List.length_range]
theorem evF_asc {n m : Nat} : (evF n m).Pairwise (· < ·) := by
  unfold evF
  rw [List.pairwise_map]
  exact (List.pairwise_lt_range.sublist List.filter_sublist).imp fun {a b} h => by omega
theorem evF_rg {n m : Nat} : ∀ x ∈ evF n m, 0 ≤ x ∧ x < (n : Int) := fun x hx => by
  obtain ⟨p, hp, rfl⟩ := List.mem_map.mp hx
  have := List.mem_range.mp (List.mem_filter.mp hp).1
  exact ⟨by omega, by omega⟩
theorem evL_ok {n m : Nat} (h : evF n m = evL n m) (h0 : 0 < m) (h60 : n ≤ 60) : MkOk (n : Int) (evL n m) :=
  ⟨by rw [evL_len]; exact h0, h ▸ evF_asc, h ▸ evF_rg, by omega⟩
def evT (n m i : Nat) : List Int := ((List.range i).filter fun p => decide (p * m % n < m)).map fun p : Nat => (p : Int)
theorem evT_step {n m i : Nat} : evT n m (i + 1) = evT n m i ++ (if i * m % n < m then [(i : Int)] else []) := by
  unfold evT
  rw [List.range_succ, List.filter_append, List.map_append, List.filter_cons]
  by_cases c : i * m % n < m
  · rw [if_pos (decide_eq_true c), if_pos c]; rfl
  · rw [if_neg (by simpa using c), if_neg c]; rfl
theorem evT_len {n m i : Nat} : (evT n m i).length ≤ i := by
  unfold evT
  rw [List.length_map]
  exact Nat.le_trans (List.length_filter_le _ _) (by rw [List.length_range]; exact Nat.le_refl _)
end Rt
set_option Elab.async false
set_option linter.all false
set_option maxRecDepth 100000
set_option maxHeartbeats 4000000
/-! Rounds of marks: the gaps grow as the numbers of Fibonacci do. -/
namespace Rt
variable {n : Int} {ps : List Int}
theorem mem_atM {x : Int} (h : x ∈ ps) : ∃ i, i < ps.length ∧ x = ps.getD i 0 := by
  obtain ⟨i, hi, e⟩ := List.mem_iff_getElem.mp h
  exact ⟨i, hi, by rw [List.getD_eq_getElem?_getD, List.getElem?_eq_getElem hi]; exact e.symm⟩
theorem at_memM {i : Nat} (hi : i < ps.length) : ps.getD i 0 ∈ ps := by
  rw [List.getD_eq_getElem?_getD, List.getElem?_eq_getElem hi]; exact List.getElem_mem hi
/-- q is a mark, g is its gap -/
structure Gp (n : Int) (ps : List Int) (q g : Int) : Prop where
  mem : q ∈ ps
  pos : 0 < g
  off : ∀ x ∈ ps, (x ≤ q ∨ q + g ≤ x) ∧ q + g ≤ x + n
  nxt : q + g ∈ ps ∨ q + g - n ∈ ps
theorem MkOk.gp (h : MkOk n ps) {i : Nat} (hi : i < ps.length) : Gp n ps (ps.getD i 0) ((gapsM n ps).getD i 0) := by
  rw [gapsM_at hi]
  have a := h.at_ hi
  have b0 := h.at_ h.ne
  have up : ∀ j k, j ≤ k → k < ps.length → ps.getD j 0 ≤ ps.getD k 0 := fun j k hj hk => by
    by_cases z : j = k
    · rw [z]; exact Int.le_refl _
    · exact Int.le_of_lt (h.lt (by omega) hk)
  by_cases c : i + 1 < ps.length
  · rw [if_pos c]
    have b := h.at_ c
    have d := h.lt (i := i) (j := i + 1) (by omega) c
    refine ⟨at_memM hi, by omega, fun x hx => ?_, .inl (by rw [show ps.getD i 0 + (ps.getD (i + 1) 0 - ps.getD i 0) = ps.getD (i + 1) 0 by omega]; exact at_memM c)⟩
    obtain ⟨j, hj, rfl⟩ := mem_atM hx
    have := h.at_ hj
    refine ⟨?_, by omega⟩
    by_cases z : j ≤ i
    · exact .inl (up j i z hi)
    · have := up (i + 1) j (by omega) hj
      exact .inr (by omega)
  · rw [if_neg c]
    refine ⟨at_memM hi, by omega, fun x hx => ?_, .inr (by rw [show ps.getD i 0 + (ps.getD 0 0 + n - ps.getD i 0) - n = ps.getD 0 0 by omega]; exact at_memM h.ne)⟩
    obtain ⟨j, hj, rfl⟩ := mem_atM hx
    have u1 := up j i (by omega) hi
    have u2 := up 0 j (by omega) hj
    exact ⟨.inl u1, by omega⟩
theorem kpt_mem (h : 0 < ps.length) {q : Int} : q ∈ kpt n ps ↔ ∃ i, i < ps.length ∧ q = ps.getD i 0 ∧ (gapsM n ps).getD i 0 = mxL (gapsM n ps) := by
  unfold kpt
  rw [List.mem_map]
  constructor
  · rintro ⟨⟨a, b⟩, hx, rfl⟩
    obtain ⟨h1, h2⟩ := List.mem_filter.mp hx
    obtain ⟨i, hi, e⟩ := List.mem_iff_getElem.mp h1
    have hi' : i < ps.length := by rw [List.length_zip, gapsM_len h] at hi; omega
    have := zip_at (n := n) h hi'
    rw [List.getElem?_eq_getElem hi, e] at this
    have e2 := Option.some.inj this
    injection e2 with e3 e4
    subst e3; subst e4
    exact ⟨i, hi', rfl, of_decide_eq_true h2⟩
  · rintro ⟨i, hi, rfl, e⟩
    exact ⟨(ps.getD i 0, (gapsM n ps).getD i 0), List.mem_filter.mpr ⟨List.mem_of_getElem? (zip_at h hi), decide_eq_true e⟩, rfl⟩
theorem gap_le (h : 0 < ps.length) {i : Nat} (hi : i < ps.length) : (gapsM n ps).getD i 0 ≤ mxL (gapsM n ps) :=
  (mxL_mem (l := gapsM n ps) (by rw [gapsM_len h]; exact h)).2 _ (at_memM (by rw [gapsM_len h]; exact hi))
/-- the least gap behind a round is no less than the greatest before it -/
theorem gap_kpt (h : MkOk n ps) {i : Nat} (hi : i < (kpt n ps).length) : mxL (gapsM n ps) ≤ (gapsM n (kpt n ps)).getD i 0 := by
  have g := h.kpt.gp hi
  obtain ⟨j, hj, e1, e2⟩ := (kpt_mem h.ne).mp g.mem
  have o := h.gp hj
  rw [e2, ← e1] at o
  have sub := (kpt_sub (n := n) h.ne).subset
  have := g.pos
  rcases g.nxt with z | z
  · have := (o.off _ (sub z)).1; omega
  · have := (o.off _ (sub z)).2; omega
/-- if a round changes something, some gap grows by a gap -/
theorem gap_grow (h : MkOk n ps) (hne : kpt n ps ≠ ps) {m : Int} (hm : ∀ i, i < ps.length → m ≤ (gapsM n ps).getD i 0) : mxL (gapsM n ps) + m ≤ mxL (gapsM n (kpt n ps)) := by
  have h0 := h.ne
  -- a kept mark before one that is not kept
  obtain ⟨i, hi, ki, kj⟩ : ∃ i, i < ps.length ∧ (gapsM n ps).getD i 0 = mxL (gapsM n ps) ∧ (gapsM n ps).getD ((i + 1) % ps.length) 0 ≠ mxL (gapsM n ps) := by
    apply Classical.byContradiction
    intro no
    have stp : ∀ i, i < ps.length → (gapsM n ps).getD i 0 = mxL (gapsM n ps) → (gapsM n ps).getD ((i + 1) % ps.length) 0 = mxL (gapsM n ps) := fun i hi e => by
      apply Classical.byContradiction
      intro z
      exact no ⟨i, hi, e, z⟩
    have hk := kpt_ne (n := n) h0
    obtain ⟨s, hs, _, es⟩ := (kpt_mem h0).mp (at_memM hk)
    have all : ∀ d, (gapsM n ps).getD ((s + d) % ps.length) 0 = mxL (gapsM n ps) := by
      intro d
      induction d with
      | zero => rw [Nat.add_zero, Nat.mod_eq_of_lt hs]; exact es
      | succ d ih =>
        have := stp _ (Nat.mod_lt _ h0) ih
        rw [Nat.mod_add_mod] at this
        exact this
    have full : ∀ i, i < ps.length → (gapsM n ps).getD i 0 = mxL (gapsM n ps) := fun i hi => by
      have := all (i + ps.length - s)
      rw [show s + (i + ps.length - s) = i + ps.length by omega, Nat.add_mod_right, Nat.mod_eq_of_lt hi] at this
      exact this
    apply hne
    have e1 : ∀ k, k ≤ ps.length → kptT n ps k = ps.take k := by
      intro k
      induction k with
      | zero => intro _; rfl
      | succ k ih =>
        intro hk
        rw [kptT_step h0 (by omega), ih (by omega), if_pos (full k (by omega)), List.take_succ, List.getD_eq_getElem?_getD, List.getElem?_eq_getElem (by omega)]; rfl
    have := e1 ps.length (Nat.le_refl _)
    rw [kptT_full h0, List.take_length] at this
    exact this
  have hj : (i + 1) % ps.length < ps.length := Nat.mod_lt _ h0
  have q := h.gp hi
  rw [ki] at q
  have x := h.gp hj
  have hmj := hm _ hj
  have qk : ps.getD i 0 ∈ kpt n ps := (kpt_mem h0).mpr ⟨i, hi, rfl, ki⟩
  have xk : ps.getD ((i + 1) % ps.length) 0 ∉ kpt n ps := fun z => by
    obtain ⟨k, hk, e1, e2⟩ := (kpt_mem h0).mp z
    have : (i + 1) % ps.length = k := by
      rcases Nat.lt_trichotomy ((i + 1) % ps.length) k with y | y | y
      · have := h.lt y hk; omega
      · exact y
      · have := h.lt y hj; omega
    rw [this] at kj
    exact kj e2
  obtain ⟨k, hk, ek⟩ := mem_atM qk
  have g := h.kpt.gp hk
  rw [← ek] at g
  have gM := gap_kpt h hk
  have top := gap_le (n := n) (kpt_ne (n := n) h0) hk
  have sub := (kpt_sub (n := n) h0).subset
  have gp := g.pos
  refine Int.le_trans ?_ top
  have ex : (i + 1 < ps.length ∧ ps.getD ((i + 1) % ps.length) 0 = ps.getD i 0 + mxL (gapsM n ps)) ∨ (ps.getD ((i + 1) % ps.length) 0 = ps.getD i 0 + mxL (gapsM n ps) - n) := by
    have e := gapsM_at (n := n) hi
    rw [ki] at e
    by_cases c : i + 1 < ps.length
    · rw [if_pos c] at e
      rw [Nat.mod_eq_of_lt c]
      exact .inl ⟨c, by omega⟩
    · rw [if_neg c] at e
      rw [show i + 1 = ps.length by omega, Nat.mod_self]
      exact .inr (by omega)
  generalize (gapsM n (kpt n ps)).getD k 0 = g' at g gM gp
  generalize mxL (gapsM n ps) = M at q gM ex
  generalize (gapsM n ps).getD ((i + 1) % ps.length) 0 = gj at x hmj
  rcases ex with ⟨c, ex⟩ | ex
  · rcases g.nxt with z | z
    · have ne : ps.getD i 0 + g' ≠ ps.getD ((i + 1) % ps.length) 0 := fun y => xk (by rw [← y]; exact z)
      have := (x.off _ (sub z)).1
      omega
    · have := (x.off _ (sub z)).2
      omega
  · rcases g.nxt with z | z
    · have := h.rg _ (sub z)
      have := h.at_ hj
      have := (q.off _ (sub z)).1
      omega
    · have ne : ps.getD i 0 + g' - n ≠ ps.getD ((i + 1) % ps.length) 0 := fun y => xk (by rw [← y]; exact z)
      have := (x.off _ (sub z)).1
      omega
def gm : Nat → Int × Int
  | 0 => (1, 1)
  | k + 1 => ((gm k).2, (gm k).1 + (gm k).2)
theorem grows (h : MkOk n ps) : ∀ k, (∀ j, j < k + 1 → itM n ps (j + 1) ≠ itM n ps j) →
    (∀ i, i < (itM n ps k).length → (gm k).2 ≤ (gapsM n (itM n ps k)).getD i 0) ∧ (gm (k + 1)).2 ≤ mxL (gapsM n (itM n ps k)) ∧ (gm (k + 2)).2 ≤ mxL (gapsM n (itM n ps (k + 1)))
  | 0, hk => by
    have one : ∀ i, i < ps.length → (1 : Int) ≤ (gapsM n ps).getD i 0 := fun i hi => by have := (h.gp hi).pos; omega
    have ch : kpt n ps ≠ ps := hk 0 (by omega)
    have two : (2 : Int) ≤ mxL (gapsM n ps) := by
      apply Classical.byContradiction
      intro z
      apply ch
      have full : ∀ i, i < ps.length → (gapsM n ps).getD i 0 = mxL (gapsM n ps) := fun i hi => by
        have := one i hi
        have := gap_le (n := n) h.ne hi
        omega
      have e1 : ∀ k, k ≤ ps.length → kptT n ps k = ps.take k := by
        intro k
        induction k with
        | zero => intro _; rfl
        | succ k ih =>
          intro hk
          rw [kptT_step h.ne (by omega), ih (by omega), if_pos (full k (by omega)), List.take_succ, List.getD_eq_getElem?_getD, List.getElem?_eq_getElem (by omega)]; rfl
      have := e1 ps.length (Nat.le_refl _)
      rw [kptT_full h.ne, List.take_length] at this
      exact this
    refine ⟨one, two, ?_⟩
    have := gap_grow h ch one
    show (3 : Int) ≤ mxL (gapsM n (kpt n ps))
    omega
  | k + 1, hk => by
    obtain ⟨a, b, c⟩ := grows h k fun j hj => hk j (by omega)
    have ok := h.it k
    have low : ∀ i, i < (itM n ps (k + 1)).length → (gm (k + 1)).2 ≤ (gapsM n (itM n ps (k + 1))).getD i 0 := fun i hi => Int.le_trans b (gap_kpt ok hi)
    refine ⟨low, c, ?_⟩
    have := gap_grow (h.it (k + 1)) (hk (k + 1) (by omega)) low
    have e : (gm (k + 1 + 2)).2 = (gm (k + 1)).2 + (gm (k + 2)).2 := rfl
    show _ ≤ mxL (gapsM n (kpt n (itM n ps (k + 1))))
    omega
/-- round N changes something: the ring has as many places as Fibonacci tells -/
theorem size_ge (h : MkOk n ps) {N : Nat} (e : EndM n ps N) (hN : 0 < N) : (gm (N + 1)).2 ≤ n := by
  obtain ⟨k, rfl⟩ : ∃ k, N = k + 1 := ⟨N - 1, by omega⟩
  have g := (grows h k e.mov).2.2
  have ok := h.it (k + 1)
  have hm := (mxL_mem (l := gapsM n (itM n ps (k + 1))) (by rw [gapsM_len ok.ne]; exact ok.ne)).1
  obtain ⟨i, hi, ei⟩ := mem_atM hm
  rw [gapsM_len ok.ne] at hi
  have o := ok.gp hi
  have := (o.off _ o.mem).2
  show (gm (k + 2)).2 ≤ n
  omega
theorem gm_le : ∀ {N : Nat} {n : Int}, (gm (N + 1)).2 ≤ n → ∀ j, j ≤ N + 1 → 0 < (gm j).1 ∧ (gm j).1 ≤ (gm j).2 := fun {N n} _ j _ => by
  induction j with
  | zero => exact ⟨by decide, by decide⟩
  | succ j ih =>
    have := ih (by omega)
    show 0 < (gm j).2 ∧ (gm j).2 ≤ (gm j).1 + (gm j).2
    omega
end Rt
set_option Elab.async false
set_option linter.all false
set_option maxRecDepth 100000
set_option maxHeartbeats 4000000
/-! max of a tuple, zip of two tuples, sorted of a list, and what Marks need. -/
namespace Rt
open PySem PySem.Spec L2 PyProof.Rows RZ
def rMaxT (K : PySem.W.Frag) : List V → Hp → VK → Prop := fun vs H Q => ∃ (a : Addr) (ns : List Int), vs = [.ref a] ∧ SqT K H a (ns.map V.int) ∧ 0 < ns.length ∧ ∀ m, m ∈ ns → (∀ y ∈ ns, y ≤ m) → Q (.int m) H
section
variable {X : Cx} (K : PySem.W.Frag)
theorem cr_maxT (hc : X.calm = true) (hu : X.A.units + 64 < cLine) (hK : X.K = K := by rfl) : CallR X (.builtin "max") (rMaxT K) := by
  subst hK
  intro pins s σ H vs us Q I rv h
  obtain ⟨a, ns, rfl, hs, h0, q⟩ := h
  obtain ⟨its, ri, hl, hz⟩ := I.tuple hs
  rw [Vals.ref1 rv]
  cases ns with
  | nil => cases h0
  | cons n ns =>
    refine PySem.W.max_tuple_data (x := PyData.int n) (xs := ns.map PyData.int) (I.ok.hd hc) (show s.heap.IsTuple a its.toArray from hl) (reads_ints (ns := n :: ns) (by simpa using ri.ints)) ⟨?_, ?_⟩ (by have := depI (n :: ns); rw [List.map_cons] at this; rw [this]; omega) (fun i v h' tk bs hv hr k => ?_)
    · intro x hx y hy
      obtain ⟨i, _, rfl⟩ := List.mem_map.mp (show x ∈ (n :: ns).map PyData.int from hx)
      obtain ⟨j, _, rfl⟩ := List.mem_map.mp (show y ∈ (n :: ns).map PyData.int from hy)
      rfl
    · intro x hx z
      obtain ⟨i, _, rfl⟩ := List.mem_map.mp (show x ∈ (n :: ns).map PyData.int from hx)
      cases z
    · rw [PySem.W.maxD_ints] at hr
      obtain ⟨t2, rfl⟩ : ∃ t2, v = Value.int (ns.foldl max n) t2 := by
        cases hr
        exact ⟨_, rfl⟩
      obtain ⟨a1, a2, a3⟩ := fold_max ns n
      refine ⟨.int (ns.foldl max n), H, I.kept k, ⟨t2, rfl⟩, q _ ?_ fun y hy => ?_⟩
      · rcases a1 with z | z
        · rw [z]; exact List.mem_cons_self
        · exact List.mem_cons_of_mem _ z
      · rcases List.mem_cons.mp hy with z | z
        · rw [z]; exact a2
        · exact a3 y z
theorem cr_sortedLK (h : X.K = K := by rfl) : CallR X (.builtin "sorted") (rSorted K) := by subst h; exact cr_sorted
theorem pi_zipK {e e2 : Expr} {ta : TA} {p pos tpos : Pos} {elts : List Expr} {kk : Nat} (hg : Gl X "zip") (hm : X.mg "zip" = none) (ha : PA X [e, e2] ta)
    (hs : starEach [e, e2] X.env = (false, eval e X.env) :: starEach [e2] X.env := by rfl) (hpl : (backTo pos (starEach [e2] X.env)).any (·.1) = false := by rfl) (h : X.K = K := by rfl) :
    PI X (.Tuple elts kk tpos) (.Call (.Name "zip" p) [e, e2] [] pos) (iZipA K ta) := by subst h; exact pi_zipA hg hm ha hs hpl
theorem op_notInK (h : X.K = K := by rfl) : OpR X (compareOp .NotIn) (rIn K true) := by subst h; exact op_notIn_seq
end
theorem g_zip {σ : L2.St} {H : Hp} {K : PySem.W.Frag} {ta : TA} {R : It → Hp → Prop} (h : ta σ H fun vs H1 => ∃ a b xs ys, vs = [.ref a, .ref b] ∧ ((SqL K H1 a xs ∧ SqL K H1 b ys ∧ R (Itz K a b) H1) ∨ (SqT K H1 a xs ∧ SqT K H1 b ys ∧ R (ItzT K a b) H1))) : iZipA K ta σ H R := h
/-- a comprehension over zip of two tuples of one length -/
theorem lc_zipT {K : PySem.W.Frag} {a b : Addr} {xs ys : List V} {g : TG} {tt : TT} {te : TE} {vs : List Nat} {σ : L2.St} {H1 : Hp} {D : Addr} {Qd : Hp → Prop} (hlen : xs.length = ys.length) (Pv : Nat → Hp → Prop) (h0 : Pv 0 (upd H1 D (.lst []))) (hl : ∀ i H, Pv i H → SqT K H a xs ∧ SqT K H b ys)
    (turn : ∀ (i : Nat) (x y : V) (T : Addr) (H : Hp), xs[i]? = some x → ys[i]? = some y → Pv i H → H T = none → g (.ref T) (wipe σ vs) (upd H T (.tup [x, y])) fun σ2 H2 => wipe σ2 vs = wipe σ vs ∧ tt σ2 H2 fun b H3 =>
      if b = true then te σ2 H3 fun y H4 => ∃ acc, H4 D = some (.lst acc) ∧ acc.length < sizeLine ∧ Pv (i + 1) (upd H4 D (.lst (acc ++ [y]))) else Pv (i + 1) H3) (done : ∀ H, Pv xs.length H → Qd H) :
    ∃ W : Nat → Nat → Hp → Prop, (∃ m, W 0 m (upd H1 D (.lst []))) ∧ ∀ i m H, W i m H →
      ((ItzT K a b).stop i H ∧ Qd H) ∨ ((ItzT K a b).go i H ∧ ∃ Nx : Hp → Prop, (∀ H', Nx H' → ∃ m', m' < m ∧ W (i + 1) m' H') ∧ ∀ x H', (ItzT K a b).yld i H x H' → g x (wipe σ vs) H' fun σ2 H2 => wipe σ2 vs = wipe σ vs ∧ tt σ2 H2 fun b H3 =>
        if b = true then te σ2 H3 fun y H4 => ∃ acc, H4 D = some (.lst acc) ∧ acc.length < sizeLine ∧ Nx (upd H4 D (.lst (acc ++ [y]))) else Nx H3) := by
  refine ⟨fun i m H => i + m = xs.length ∧ Pv i H, ⟨xs.length, Nat.zero_add _, h0⟩, fun i m H w => ?_⟩
  obtain ⟨qx, qy⟩ := hl i H w.2
  cases m with
  | zero =>
    have e : i = xs.length := w.1
    exact Or.inl ⟨⟨xs, ys, qx, qy, Or.inl (by omega)⟩, done H (by rw [← e]; exact w.2)⟩
  | succ m =>
    have lt : i < xs.length := by have := w.1; omega
    have lt2 : i < ys.length := by omega
    refine Or.inr ⟨⟨xs, ys, xs[i], ys[i], qx, qy, List.getElem?_eq_getElem lt, List.getElem?_eq_getElem lt2⟩, Pv (i + 1), fun H' z => ⟨m, Nat.lt_succ_self m, by have := w.1; omega, z⟩, fun v H' yl => ?_⟩
    obtain ⟨T, x', y', rfl, hT, rfl, f1, f2⟩ := yl
    exact turn i x' y' T H (f1 xs qx) (f2 ys qy) w.2 hT
/-- t[1:] of a tuple -/
theorem g_tl1 {K : PySem.W.Frag} {H : Hp} {Q : VK} {a : Addr} {xs : List Int} (h1 : SqT K H a (xs.map V.int)) (h0 : 0 < xs.length) (sz : xs.length ≤ 100000)
    (h : ∀ q H', H q = none → Same H H' → H' q = some (.tup ((xs.drop 1).map V.int)) → Q (.ref q) H') : rSlA K (.ref a) (some 1) none H Q :=
  g_tfrom (p := 0) h1 h0 h
theorem sorted_eq {xs ys : List Int} (hp : xs.Perm ys) (h1 : xs.Pairwise (· ≤ ·)) (h2 : ys.Pairwise (· < ·)) : xs = ys :=
  hp.eq_of_pairwise (fun a b _ _ x y => Int.le_antisymm x y) h1 (h2.imp fun {a b} z => Int.le_of_lt z)
/-- a loop over the pairs (place, item) of a list -/
theorem for_enuL {K : PySem.W.Frag} {a : Addr} {xs : List V} {g : TG} {tb : TS} {D : Ends} {σ : L2.St} {H : Hp} (Pv : Nat → L2.St → Hp → Prop) (h0 : Pv 0 σ H) (hl : ∀ i σ H, Pv i σ H → SqL K H a xs)
    (hs : ∀ i x T σ H, xs[i]? = some x → Pv i σ H → H T = none → g (.ref T) σ (upd H T (.tup [.int (i : Nat), x])) fun σ2 H2 => tb { D with nx := Pv (i + 1), ct := Pv (i + 1), bk := D.nx } σ2 H2) (hd : ∀ σ H, Pv xs.length σ H → D.nx σ H) :
    ∃ W : Nat → Nat → L2.St → Hp → Prop, (∃ m, W 0 m σ H) ∧ ∀ i m σ H, W i m σ H →
      ((Ite K a).stop i H ∧ D.nx σ H) ∨ ((Ite K a).go i H ∧ ∃ N : L2.St → Hp → Prop, (∀ σ' H', N σ' H' → ∃ m', m' < m ∧ W (i + 1) m' σ' H') ∧ ∀ x H', (Ite K a).yld i H x H' → g x σ H' fun σ2 H2 => tb { D with nx := N, ct := N, bk := D.nx } σ2 H2) := by
  refine ⟨fun i m σ H => i + m = xs.length ∧ Pv i σ H, ⟨xs.length, Nat.zero_add _, h0⟩, fun i m σ H w => ?_⟩
  have sq := hl i σ H w.2
  cases m with
  | zero =>
    have e : i = xs.length := w.1
    exact Or.inl ⟨⟨xs, sq, by omega⟩, hd σ H (by rw [← e]; exact w.2)⟩
  | succ m =>
    have lt : i < xs.length := by have := w.1; omega
    refine Or.inr ⟨⟨xs, xs[i], sq, List.getElem?_eq_getElem lt⟩, Pv (i + 1), fun σ' H' z => ⟨m, Nat.lt_succ_self m, by have := w.1; omega, z⟩, fun x H' y => ?_⟩
    obtain ⟨T, v, e1, e2, e3, e4⟩ := y
    rw [e1, e3]
    exact hs i v T σ H (e4 xs sq) w.2 e2
theorem inV_Is {k : Int} : ∀ ns : List Int, inV (V.int k) (ns.map V.int) = decide (k ∈ ns)
  | [] => rfl
  | o :: ns => by
    have ih := inV_Is (k := k) ns
    unfold inV at ih ⊢
    rw [List.map_cons, List.any_cons, ih, eqVI]
    by_cases c : o = k
    · subst c; simp
    · have : k ≠ o := fun z => c z.symm
      simp [c, this]
theorem g_inL {K : PySem.W.Frag} {H : Hp} {Q : VK} {a : Addr} {ns : List Int} {k : Int} (h : SqL K H a (ns.map V.int) ∨ SqT K H a (ns.map V.int)) (q : Q (.bl (decide (k ∈ ns))) H) : rIn K false (.int k) (.ref a) H Q :=
  ⟨a, _, rfl, h, rfl, flatI ns, by rw [inV_Is]; exact q⟩
theorem g_parM {i j : Nat} {ta : TA} {D : Ends} {σ : L2.St} {H : Hp} (h : ta σ H fun vs H1 => ∃ v w, vs = [v, w] ∧ D.nx ((σ.set i (some v)).set j (some w)) H1) : tPar i j ta D σ H := h
theorem map_at {ns : List Int} {i : Nat} {y : V} (h : (ns.map V.int)[i]? = some y) : i < ns.length ∧ y = V.int (ns.getD i 0) := by
  rw [List.getElem?_map] at h
  obtain ⟨x, e1, e2⟩ := Option.map_eq_some_iff.mp h
  obtain ⟨hi, e3⟩ := List.getElem?_eq_some_iff.mp e1
  refine ⟨hi, ?_⟩
  rw [List.getD_eq_getElem?_getD, e1, ← e2]; rfl
theorem take_getD {ns : List Int} {i : Nat} (hi : i < ns.length) : ns.take (i + 1) = ns.take i ++ [ns.getD i 0] := by
  rw [List.take_succ, List.getD_eq_getElem?_getD, List.getElem?_eq_getElem hi]; rfl
theorem pg_lstK {X : Cx} (K : PySem.W.Frag) {es : List Expr} {k : Nat} {t : TGs} {n : Nat} {pos : Pos} (hc : X.calm = true) (h : PGs X es t)
    (hn : (assignEach es X.env).length = n := by rfl) (hst : (assignEach es X.env).findIdx? (·.1) = none := by rfl) (hK : X.K = K := by rfl) : PG X (.Tuple es k pos) (gLst K n t) := by subst hK; exact pg_lst hc h hn hst
theorem g_glst {K : PySem.W.Frag} {t : TGs} {a : Addr} {xs : List V} {n : Nat} {σ : L2.St} {H : Hp} {QS : L2.St → Hp → Prop} (hs : SqL K H a xs) (hn : xs.length = n) (h : t xs σ H QS) : gLst K n t (.ref a) σ H QS := ⟨a, xs, rfl, hs, hn, h⟩
theorem range_getD : ∀ l : List Int, (List.range l.length).map (fun i => l.getD i 0) = l := fun l => by
  refine List.ext_getElem? fun i => ?_
  rw [List.getElem?_map]
  by_cases h : i < l.length
  · rw [List.getElem?_range h, List.getElem?_eq_getElem h]
    show some (l.getD i 0) = _
    rw [List.getD_eq_getElem?_getD, List.getElem?_eq_getElem h]; rfl
  · rw [List.getElem?_eq_none (by rw [List.length_range]; omega), List.getElem?_eq_none (by omega)]; rfl
/-- the constructor of a class whose __init__ has no defaults -/
theorem kbn_of {K : PySem.W.Frag} {fd : FuncData} {ps : List Str} {n : Nat} (b : L2.Binds K fd ps []) (hn : ps.length = n) : KBn K fd ps n [] (fun us ws => us ++ ws) (fun vs zs => vs ++ zs) :=
  ⟨fun s us ws X l1 l2 => by
    have e : ws = [] := List.eq_nil_of_length_eq_zero l2
    subst e
    have := b s us X (by simpa using l1.trans hn.symm)
    simpa using this, fun r1 r2 => r1.append r2⟩
end Rt
set_option Elab.async false
set_option linter.all false
set_option maxRecDepth 100000
set_option maxHeartbeats 4000000
/-! list.clear, texts compared, slices between two places. -/
namespace Rt
open PySem PySem.Spec L2 PyProof.Rows
def rClearL : V → List V → Hp → VK → Prop := fun x vs H Q => ∃ (l : Addr) (xs : List V), x = .ref l ∧ vs = [] ∧ H l = some (.lst xs) ∧ Q .non (upd H l (.lst []))
theorem mt_clearL {X : Cx} : MtR X "list.clear" rClearL := by
  intro pins s σ H x vs v us Q I rx rv h
  obtain ⟨l, xs, rfl, rfl, hH, q⟩ := h
  cases rx
  have hus := rv.zero
  subst hus
  obtain ⟨z, its, n, r, hl, e⟩ := I.lstM hH
  refine call_meets F.slot_list_clear ⟨_, e, rfl⟩ F.entry_list_clear (F.args_list_clear_1 _) (AutoSeq1.list_clear_list_0 l its.toArray n (by rw [List.size_toArray]; omega)) ⟨e, ?_⟩
  exact ⟨.non, _, I.lset (f := fun _ => #[]) (its := its) (its' := []) (ys := []) hH e (by simp) .nil (Nat.zero_le _), rfl, q⟩
theorem pe_clrK {X : Cx} (K : PySem.W.Frag) {o : Expr} {to : TE} {apos cpos : Pos} (ho : PE X o to) (h : X.K = K := by rfl) (hbase : attributeBase o "clear" X.env (eval o X.env) = eval o X.env := by rfl) (hline : (apos.endLine == cpos.line) = true := by rfl) :
    PE X (.Call (.Attribute o "clear" apos) [] [] cpos) (tBM0 K "list" rClearL to) := by
  subst h; exact pe_bm0 PySem.F.plainAttrs_list PySem.F.slot_list_clear PySem.F.type_list_clear mt_clearL ho hbase hline
theorem g_bm0 {K : PySem.W.Frag} {T : String} {r : V → List V → Hp → VK → Prop} {to : TE} {σ : L2.St} {H : Hp} {Q : VK} (h : to σ H fun x H1 => tyV K T x H1 ∧ r x [] H1 Q) : tBM0 K T r to σ H Q := h
theorem g_eqS {a b : Str} {H : Hp} {Q : VK} (h : Q (.bl (decide (V.str a = V.str b))) H) : rEq (.str a) (.str b) H Q := ⟨rfl, h⟩
theorem cut_lh {xs : List V} {lo hi : Nat} (h1 : lo ≤ xs.length) (h2 : hi ≤ xs.length) : cutV xs (some (lo : Int)) (some (hi : Int)) = (xs.drop lo).take (hi - lo) := by
  unfold cutV
  rw [HT.sIx_nat, HT.sIx_nat, Nat.min_eq_left h1, Nat.min_eq_left h2]
theorem str_len_app (a b : Str) : (a ++ b).length = a.length + b.length := by
  first | exact Str.length_append a b | (show (a.cps ++ b.cps).size = _; rw [Array.size_append]; rfl)
/-- sorted ints without repetition ascend -/
theorem asc_of {xs : List Int} (h : xs.Pairwise (· ≤ ·)) (nd : xs.Nodup) : xs.Pairwise (· < ·) :=
  List.Pairwise.imp₂ (fun {a b} x y => by omega) h nd
end Rt
set_option Elab.async false
set_option linter.all false
set_option maxRecDepth 100000
set_option maxHeartbeats 4000000
/-! Golden marks: as few places as Fibonacci allows leave one pattern, turned. -/
namespace Rt
variable {n : Int} {ps : List Int}
theorem cover (h : MkOk n ps) {y : Int} (h0 : 0 ≤ y) (h1 : y < n) : ∃ q g, Gp n ps q g ∧ ((q ≤ y ∧ y < q + g) ∨ (y + n < q + g ∧ y < q)) := by
  by_cases c : ps.getD 0 0 ≤ y
  · obtain ⟨i, hi, e1, e2⟩ : ∃ i, i < ps.length ∧ ps.getD i 0 ≤ y ∧ (i + 1 < ps.length → y < ps.getD (i + 1) 0) := by
      apply Classical.byContradiction
      intro no
      have stp : ∀ i, i < ps.length → ps.getD i 0 ≤ y → i + 1 < ps.length ∧ ps.getD (i + 1) 0 ≤ y := fun i hi e => by
        apply Classical.byContradiction
        intro z
        refine no ⟨i, hi, e, fun hl => ?_⟩
        apply Classical.byContradiction
        intro z2
        exact z ⟨hl, by omega⟩
      have all : ∀ i, i < ps.length ∧ ps.getD i 0 ≤ y := by
        intro i
        induction i with
        | zero => exact ⟨h.ne, c⟩
        | succ i ih => exact stp i ih.1 ih.2
      exact Nat.lt_irrefl _ (all ps.length).1
    refine ⟨_, _, h.gp hi, .inl ⟨e1, ?_⟩⟩
    rw [gapsM_at hi]
    by_cases z : i + 1 < ps.length
    · rw [if_pos z]; have := e2 z; omega
    · rw [if_neg z]; have := h.at_ h.ne; omega
  · have hi : ps.length - 1 < ps.length := by have := h.ne; omega
    refine ⟨_, _, h.gp hi, .inr ⟨?_, ?_⟩⟩
    · rw [gapsM_at hi, if_neg (by omega)]; omega
    · by_cases z : ps.length - 1 = 0
      · rw [z]; omega
      · have := h.lt (i := 0) (j := ps.length - 1) (by omega) hi; omega
theorem emod_in {a : Int} (h : a < n) (h2 : 0 ≤ a) : a % n = a := Int.emod_eq_of_lt h2 h
theorem emod_neg {a : Int} (h : a < 0) (h2 : -n ≤ a) (hn : 0 < n) : a % n = a + n := by
  rw [← Int.add_emod_right]; exact Int.emod_eq_of_lt (by omega) (by omega)
/-- what stood before a round, by what it leaves -/
theorem step_back (h : MkOk n ps) {m : Int} (m0 : 0 < m) (hm : ∀ i, i < ps.length → m ≤ (gapsM n ps).getD i 0) (top : mxL (gapsM n (kpt n ps)) ≤ mxL (gapsM n ps) + m) {y : Int} (h0 : 0 ≤ y) (h1 : y < n) :
    y ∈ ps ↔ y ∈ kpt n ps ∨ (y - mxL (gapsM n ps)) % n ∈ kpt n ps := by
  have sub := (kpt_sub (n := n) h.ne).subset
  have kept : ∀ q ∈ kpt n ps, Gp n ps q (mxL (gapsM n ps)) := fun q hq => by
    obtain ⟨j, hj, e1, e2⟩ := (kpt_mem h.ne).mp hq
    have o := h.gp hj
    rw [e2, ← e1] at o
    exact o
  have gap_of : ∀ x ∈ ps, ∃ g, Gp n ps x g ∧ m ≤ g := fun x hx => by
    obtain ⟨i, hi, rfl⟩ := mem_atM hx
    exact ⟨_, h.gp hi, hm i hi⟩
  generalize mxL (gapsM n ps) = M at kept top
  constructor
  · intro hy
    by_cases hyR : y ∈ kpt n ps
    · exact .inl hyR
    · right
      obtain ⟨q, g, G, c⟩ := cover h.kpt h0 h1
      have o := kept q G.mem
      have hq := h.rg q (sub G.mem)
      have gM : g ≤ M + m := by
        obtain ⟨k, hk, ek⟩ := mem_atM G.mem
        have G2 := h.kpt.gp hk
        rw [← ek] at G2
        have e : g = (gapsM n (kpt n ps)).getD k 0 := by
          have a := G.pos
          have b := G2.pos
          have r1 : q + g ≤ q + (gapsM n (kpt n ps)).getD k 0 := by
            rcases G2.nxt with z | z
            · have := (G.off _ z).1; omega
            · have := (G.off _ z).2; omega
          have r2 : q + (gapsM n (kpt n ps)).getD k 0 ≤ q + g := by
            rcases G.nxt with z | z
            · have := (G2.off _ z).1; omega
            · have := (G2.off _ z).2; omega
          omega
        rw [e]
        exact Int.le_trans (gap_le (n := n) h.kpt.ne hk) top
      have ne : y ≠ q := fun z => hyR (z ▸ G.mem)
      have offy := o.off y hy
      rcases c with ⟨c1, c2⟩ | ⟨c1, c2⟩
      · have ge : q + M ≤ y := by omega
        by_cases e : y = q + M
        · rw [e, show q + M - M = q by omega, emod_in hq.2 hq.1]; exact G.mem
        · exfalso
          have hx : q + M ∈ ps := by
            rcases o.nxt with z | z
            · exact z
            · have := h.rg _ z; omega
          obtain ⟨gx, X, hgx⟩ := gap_of _ hx
          have := (X.off y hy).1
          omega
      · by_cases e : y + n = q + M
        · rw [show y - M = q - n by omega, emod_neg (by omega) (by omega) (by omega), show q - n + n = q by omega]; exact G.mem
        · exfalso
          rcases o.nxt with z | z
          · obtain ⟨gx, X, hgx⟩ := gap_of _ z
            have := (X.off y hy).2
            omega
          · obtain ⟨gx, X, hgx⟩ := gap_of _ z
            have := (X.off y hy).1
            omega
  · rintro (hy | hy)
    · exact sub hy
    · have o := kept _ hy
      have r := h.rg _ (sub hy)
      have M0 := o.pos
      have Mn : M ≤ n := by have := (o.off _ o.mem).2; omega
      have cs : (y - M) % n = y - M ∨ (y - M) % n = y - M + n := by
        by_cases z : 0 ≤ y - M
        · exact .inl (emod_in (by omega) z)
        · exact .inr (emod_neg (by omega) (by omega) (by omega))
      rcases o.nxt with z | z
      · have := h.rg _ z
        rcases cs with e | e
        · rw [e] at z; rw [show y - M + M = y by omega] at z; exact z
        · rw [e] at z; have := h.rg _ z; omega
      · have := h.rg _ z
        rcases cs with e | e
        · rw [e] at z; have := h.rg _ z; omega
        · rw [e] at z; rw [show y - M + n + M - n = y by omega] at z; exact z
theorem gm_two (j : Nat) : (gm (j + 2)).2 = (gm j).2 + (gm (j + 1)).2 := rfl
theorem gm_pos : ∀ j : Nat, 1 ≤ (gm j).1 ∧ 1 ≤ (gm j).2
  | 0 => ⟨by decide, by decide⟩
  | j + 1 => by have := gm_pos j; exact ⟨this.2, by show 1 ≤ (gm j).1 + (gm j).2; omega⟩
/-- no place is spare -/
theorem tight (h : MkOk n ps) {k : Nat} (k0 : 0 < k) (hk : ∀ j, j < k → itM n ps (j + 1) ≠ itM n ps j) (en : n = (gm (k + 1)).2) : ∀ d, d ≤ k → mxL (gapsM n (itM n ps (k - d))) = (gm (k - d + 1)).2 := by
  have top : mxL (gapsM n (itM n ps k)) ≤ n := by
    have ok := h.it k
    have hm := (mxL_mem (l := gapsM n (itM n ps k)) (by rw [gapsM_len ok.ne]; exact ok.ne)).1
    obtain ⟨i, hi, ei⟩ := mem_atM hm
    rw [gapsM_len ok.ne] at hi
    have o := ok.gp hi
    have := (o.off _ o.mem).2
    omega
  intro d
  induction d with
  | zero =>
    intro _
    obtain ⟨j, rfl⟩ : ∃ j, k = j + 1 := ⟨k - 1, by omega⟩
    have c := (grows h j hk).2.2
    show mxL (gapsM n (itM n ps (j + 1))) = (gm (j + 2)).2
    have : (gm (j + 1 + 1)).2 = (gm (j + 2)).2 := rfl
    have t2 : mxL (gapsM n (itM n ps (j + 1))) ≤ n := top
    omega
  | succ d ih =>
    intro hd
    have e := ih (by omega)
    obtain ⟨j, hj⟩ : ∃ j, k - (d + 1) = j := ⟨_, rfl⟩
    rw [hj]
    rw [show k - d = j + 1 by omega] at e
    obtain ⟨a, b, _⟩ := grows h j fun i hi => hk i (by omega)
    have g : mxL (gapsM n (itM n ps j)) + (gm j).2 ≤ mxL (gapsM n (itM n ps (j + 1))) := gap_grow (h.it j) (hk j (by omega)) a
    have := gm_two j
    rw [e] at g
    have e2 : (gm (j + 1 + 1)).2 = (gm (j + 2)).2 := rfl
    omega
theorem tight' (h : MkOk n ps) {k : Nat} (k0 : 0 < k) (hk : ∀ j, j < k → itM n ps (j + 1) ≠ itM n ps j) (en : n = (gm (k + 1)).2) {j : Nat} (hj : j ≤ k) : mxL (gapsM n (itM n ps j)) = (gm (j + 1)).2 := by
  have := tight h k0 hk en (k - j) (by omega)
  rw [show k - (k - j) = j by omega] at this; exact this
theorem last_one (h : MkOk n ps) {k : Nat} (k0 : 0 < k) (hk : ∀ j, j < k → itM n ps (j + 1) ≠ itM n ps j) (en : n = (gm (k + 1)).2) : ∃ x, 0 ≤ x ∧ x < n ∧ ∀ y, y ∈ itM n ps k ↔ y = x := by
  have ok := h.it k
  have hm := (mxL_mem (l := gapsM n (itM n ps k)) (by rw [gapsM_len ok.ne]; exact ok.ne)).1
  obtain ⟨i, hi, ei⟩ := mem_atM hm
  rw [gapsM_len ok.ne] at hi
  have o := ok.gp hi
  rw [← ei, tight' h k0 hk en (Nat.le_refl k), ← en] at o
  have r := ok.rg _ o.mem
  refine ⟨_, r.1, r.2, fun y => ⟨fun hy => ?_, fun e => e ▸ o.mem⟩⟩
  have := o.off y hy
  have := ok.rg y hy
  omega
/-- two sets of marks that change as often as may be are alike, turned -/
theorem turned (h : MkOk n ps) {gs : List Int} (h' : MkOk n gs) {k : Nat} (k0 : 0 < k) (hk : ∀ j, j < k → itM n ps (j + 1) ≠ itM n ps j) (hk' : ∀ j, j < k → itM n gs (j + 1) ≠ itM n gs j) (en : n = (gm (k + 1)).2) :
    ∃ t, 0 ≤ t ∧ t < n ∧ ∀ y, 0 ≤ y → y < n → (y ∈ ps ↔ (y - t) % n ∈ gs) := by
  obtain ⟨x, x0, x1, hx⟩ := last_one h k0 hk en
  obtain ⟨z, z0, z1, hz⟩ := last_one h' k0 hk' en
  have n0 : 0 < n := by omega
  have t0 := Int.emod_nonneg (x - z) (show n ≠ 0 by omega)
  have t1 := Int.emod_lt_of_pos (x - z) n0
  refine ⟨(x - z) % n, t0, t1, ?_⟩
  have et : (x - z) % n = x - z ∨ (x - z) % n = x - z + n := by
    by_cases c : 0 ≤ x - z
    · exact .inl (emod_in (by omega) c)
    · exact .inr (emod_neg (by omega) (by omega) n0)
  generalize (x - z) % n = t at t0 t1 et
  have all : ∀ d, d ≤ k → ∀ y, 0 ≤ y → y < n → (y ∈ itM n ps (k - d) ↔ (y - t) % n ∈ itM n gs (k - d)) := by
    intro d
    induction d with
    | zero =>
      intro _ y y0 y1
      show y ∈ itM n ps k ↔ (y - t) % n ∈ itM n gs k
      rw [hx, hz]
      have ey : (y - t) % n = y - t ∨ (y - t) % n = y - t + n := by
        by_cases c : 0 ≤ y - t
        · exact .inl (emod_in (by omega) c)
        · exact .inr (emod_neg (by omega) (by omega) n0)
      have r0 := Int.emod_nonneg (y - t) (show n ≠ 0 by omega)
      have r1 := Int.emod_lt_of_pos (y - t) n0
      constructor
      · intro e; omega
      · intro e; omega
    | succ d ih =>
      intro hd y y0 y1
      have ihd := ih (by omega)
      obtain ⟨j, hj⟩ : ∃ j, k - (d + 1) = j := ⟨_, rfl⟩
      rw [hj]
      rw [show k - d = j + 1 by omega] at ihd
      have sb : ∀ {qs : List Int} (ok : MkOk n qs), (∀ j, j < k → itM n qs (j + 1) ≠ itM n qs j) → ∀ {w : Int}, 0 ≤ w → w < n → (w ∈ itM n qs j ↔ w ∈ itM n qs (j + 1) ∨ (w - (gm (j + 1)).2) % n ∈ itM n qs (j + 1)) := fun {qs} ok hq {w} w0 w1 => by
        have lo := (grows ok j fun i hi => hq i (by omega)).1
        have e1 := tight' ok k0 hq en (j := j) (by omega)
        have e2 := tight' ok k0 hq en (j := j + 1) (by omega)
        have s := step_back (ok.it j) (m := (gm j).2) (by have := gm_pos j; omega) lo (by
          show mxL (gapsM n (itM n qs (j + 1))) ≤ _
          rw [e1, e2]
          have := gm_two j
          have e3 : (gm (j + 1 + 1)).2 = (gm (j + 2)).2 := rfl
          omega) w0 w1
        rw [e1] at s
        exact s
      have r0 := Int.emod_nonneg (y - t) (show n ≠ 0 by omega)
      have r1 := Int.emod_lt_of_pos (y - t) n0
      have q0 := Int.emod_nonneg (y - (gm (j + 1)).2) (show n ≠ 0 by omega)
      have q1 := Int.emod_lt_of_pos (y - (gm (j + 1)).2) n0
      rw [sb h hk y0 y1, sb h' hk' r0 r1, ihd y y0 y1, ihd _ q0 q1]
      have ee : ((y - (gm (j + 1)).2) % n - t) % n = ((y - t) % n - (gm (j + 1)).2) % n := by
        show ((y - (gm (j + 1)).2) % n + -t) % n = ((y - t) % n + -(gm (j + 1)).2) % n
        rw [Int.emod_add_emod, Int.emod_add_emod]
        congr 1; omega
      rw [ee]
  have := all k (Nat.le_refl k)
  rw [Nat.sub_self] at this
  exact this
/-! ### turned lists -/
def shL (n t : Nat) (gs : List Int) : List Int := ((List.range n).filter fun p => decide ((((p : Nat) : Int) - (t : Int)) % (n : Int) ∈ gs)).map fun p : Nat => (p : Int)
theorem shL_asc {n t : Nat} {gs : List Int} : (shL n t gs).Pairwise (· < ·) := by
  unfold shL
  rw [List.pairwise_map]
  exact (List.pairwise_lt_range.sublist List.filter_sublist).imp fun {a b} h => by omega
theorem shL_mem {n t : Nat} {gs : List Int} {y : Int} : y ∈ shL n t gs ↔ 0 ≤ y ∧ y < (n : Int) ∧ (y - (t : Int)) % (n : Int) ∈ gs := by
  unfold shL
  rw [List.mem_map]
  constructor
  · rintro ⟨p, hp, rfl⟩
    obtain ⟨h1, h2⟩ := List.mem_filter.mp hp
    exact ⟨by omega, by have := List.mem_range.mp h1; omega, of_decide_eq_true h2⟩
  · rintro ⟨h0, h1, h2⟩
    refine ⟨y.toNat, List.mem_filter.mpr ⟨List.mem_range.mpr (by omega), decide_eq_true ?_⟩, by omega⟩
    rw [Int.toNat_of_nonneg h0]; exact h2
theorem asc_extM {xs ys : List Int} (hx : xs.Pairwise (· < ·)) (hy : ys.Pairwise (· < ·)) (h : ∀ a, a ∈ xs ↔ a ∈ ys) : xs = ys := by
  have nx : xs.Nodup := hx.imp fun {a b} z => Int.ne_of_lt z
  have ny : ys.Nodup := hy.imp fun {a b} z => Int.ne_of_lt z
  have p : xs.Perm ys := (List.perm_ext_iff_of_nodup nx ny).mpr h
  exact p.eq_of_pairwise (fun a b _ _ x y => by omega) hx hy
/-- the turned places, sorted -/
theorem sort_sh {n t : Nat} {gs ns : List Int} (h : MkOk (n : Int) gs) (ht : 0 < n) (pm : ns.Perm (gs.map fun x => (x + (t : Int)) % (n : Int))) (asc : ns.Pairwise (· < ·)) : ns = shL n t gs := by
  refine asc_extM asc shL_asc fun a => ?_
  rw [pm.mem_iff, List.mem_map, shL_mem]
  have n0 : (0 : Int) < (n : Int) := by omega
  constructor
  · rintro ⟨x, hx, rfl⟩
    have r := h.rg x hx
    refine ⟨Int.emod_nonneg _ (by omega), Int.emod_lt_of_pos _ n0, ?_⟩
    rw [Int.sub_eq_add_neg, Int.emod_add_emod, show x + (t : Int) + -(t : Int) = x by omega, emod_in r.2 r.1]; exact hx
  · rintro ⟨a0, a1, ha⟩
    refine ⟨_, ha, ?_⟩
    rw [Int.emod_add_emod, show a - (t : Int) + (t : Int) = a by omega, emod_in a1 a0]
/-! ### the golden marks -/
def wL : Nat → List Nat × List Nat
  | 0 => ([48], [49, 48])
  | k + 1 => ((wL k).2, (wL k).2 ++ (wL k).1)
def goldT (w : List Nat) (i : Nat) : List Int := ((List.range i).filter fun p => decide (p = 0) || decide (w.getD (p - 1) 0 = 48)).map fun p : Nat => (p : Int)
def goldP (w : List Nat) (i : Nat) : List Int := ((List.range i).filter fun p => decide (p = 0) || decide (w.getD (p - 1) 0 ≠ 49)).map fun p : Nat => (p : Int)
def goldL (k : Nat) : List Int := goldT (wL k).2 (wL k).2.length
def goldN (k : Nat) : Nat := (wL k).2.length
def gOk (k : Nat) : Bool := decide (goldP (wL k).2 (goldN k) = goldL k) && decide (((goldN k : Nat) : Int) = (gm (k + 1)).2) && decide (0 < (goldL k).length) && decide ((goldL k).Pairwise (· < ·)) && (goldL k).all (fun x => decide (0 ≤ x ∧ x < (goldN k : Int))) && decide (goldN k ≤ 60)
theorem g_ok1 : gOk 1 = true := by decide +kernel
theorem g_ok2 : gOk 2 = true := by decide +kernel
theorem g_ok3 : gOk 3 = true := by decide +kernel
theorem g_ok4 : gOk 4 = true := by decide +kernel
theorem g_ok5 : gOk 5 = true := by decide +kernel
theorem g_ok6 : gOk 6 = true := by decide +kernel
theorem g_ok7 : gOk 7 = true := by decide +kernel
theorem g_ok {k : Nat} (h1 : 1 ≤ k) (h7 : k ≤ 7) : gOk k = true := by
  have : k = 1 ∨ k = 2 ∨ k = 3 ∨ k = 4 ∨ k = 5 ∨ k = 6 ∨ k = 7 := by omega
  rcases this with z | z | z | z | z | z | z <;> subst z
  · exact g_ok1
  · exact g_ok2
  · exact g_ok3
  · exact g_ok4
  · exact g_ok5
  · exact g_ok6
  · exact g_ok7
theorem gold_ok {k : Nat} (h1 : 1 ≤ k) (h7 : k ≤ 7) : MkOk (goldN k : Int) (goldL k) ∧ (goldN k : Int) = (gm (k + 1)).2 ∧ goldP (wL k).2 (goldN k) = goldL k ∧ goldN k ≤ 60 := by
  have g := g_ok h1 h7
  unfold gOk at g
  simp only [Bool.and_eq_true, decide_eq_true_eq, List.all_eq_true] at g
  obtain ⟨⟨⟨⟨⟨a, b⟩, c⟩, d⟩, e⟩, f⟩ := g
  exact ⟨⟨c, d, fun x hx => e x hx, by omega⟩, b, a, f⟩
def gTurn (k : Nat) : Bool := (List.range (goldN k)).all fun t => decide ((lensM 61 (goldN k : Int) (shL (goldN k) t (goldL k))).length = k + 1)
theorem g_t1 : gTurn 1 = true := by decide +kernel
theorem g_t2 : gTurn 2 = true := by decide +kernel
theorem g_t3 : gTurn 3 = true := by decide +kernel
theorem g_t4 : gTurn 4 = true := by decide +kernel
theorem g_t5 : gTurn 5 = true := by decide +kernel
theorem g_t6 : gTurn 6 = true := by decide +kernel
theorem g_t7 : gTurn 7 = true := by decide +kernel
theorem g_turn {k : Nat} (h1 : 1 ≤ k) (h7 : k ≤ 7) : gTurn k = true := by
  have : k = 1 ∨ k = 2 ∨ k = 3 ∨ k = 4 ∨ k = 5 ∨ k = 6 ∨ k = 7 := by omega
  rcases this with z | z | z | z | z | z | z <;> subst z
  · exact g_t1
  · exact g_t2
  · exact g_t3
  · exact g_t4
  · exact g_t5
  · exact g_t6
  · exact g_t7
theorem sh_ok {n t : Nat} {gs : List Int} (h : MkOk (n : Int) gs) (ht : 0 < n) : MkOk (n : Int) (shL n t gs) := by
  refine ⟨?_, shL_asc, fun x hx => let z := shL_mem.mp hx; ⟨z.1, z.2.1⟩, h.n60⟩
  obtain ⟨i, hi⟩ : ∃ i, i < gs.length := ⟨0, h.ne⟩
  have r := h.at_ hi
  have n0 : (0 : Int) < (n : Int) := by omega
  refine List.length_pos_of_mem (a := (gs.getD i 0 + (t : Int)) % (n : Int)) (shL_mem.mpr ⟨Int.emod_nonneg _ (by omega), Int.emod_lt_of_pos _ n0, ?_⟩)
  rw [Int.sub_eq_add_neg, Int.emod_add_emod, show gs.getD i 0 + (t : Int) + -(t : Int) = gs.getD i 0 by omega, emod_in r.2 r.1]
  exact at_memM hi
/-- so many rounds change something exactly if the marks are golden, turned -/
theorem golden_iff {k : Nat} (h1 : 1 ≤ k) (h7 : k ≤ 7) {ps : List Int} (h : MkOk (goldN k : Int) ps) {N : Nat} (e : EndM (goldN k : Int) ps N) : k ≤ N ↔ ∃ t, t < goldN k ∧ shL (goldN k) t (goldL k) = ps := by
  obtain ⟨ok, en, _, _⟩ := gold_ok h1 h7
  have rnd : ∀ t, t < goldN k → ∀ M, EndM (goldN k : Int) (shL (goldN k) t (goldL k)) M → M = k := fun t ht M eM => by
    have okt := sh_ok (t := t) ok (by omega)
    have g := List.all_eq_true.mp (g_turn h1 h7) t (List.mem_range.mpr ht)
    have g := of_decide_eq_true g
    have := eM.lt okt
    have := okt.few
    rw [lensM_of eM (by omega), List.length_map, List.length_range] at g
    omega
  constructor
  · intro hk
    have n0 : 0 < goldN k := by have := ok.at_ ok.ne; omega
    have e0 : shL (goldN k) 0 (goldL k) = goldL k := asc_extM shL_asc ok.asc fun a => by
      rw [shL_mem]
      constructor
      · rintro ⟨a0, a1, a2⟩
        rw [show a - ((0 : Nat) : Int) = a by omega, emod_in a1 a0] at a2; exact a2
      · intro ha
        have r := ok.rg a ha
        exact ⟨r.1, r.2, by rw [show a - ((0 : Nat) : Int) = a by omega, emod_in r.2 r.1]; exact ha⟩
    obtain ⟨M, eM⟩ := endM_ex ok
    have hM : M = k := rnd 0 n0 M (by rw [e0]; exact eM)
    subst hM
    obtain ⟨t, t0, t1, ht⟩ := turned h ok (k := M) (by omega) (fun j hj => e.mov j (by omega)) eM.mov en
    refine ⟨t.toNat, by omega, asc_extM shL_asc h.asc fun a => ?_⟩
    rw [shL_mem, Int.toNat_of_nonneg t0]
    constructor
    · rintro ⟨a0, a1, a2⟩; exact (ht a a0 a1).mpr a2
    · intro ha
      have r := h.rg a ha
      exact ⟨r.1, r.2, (ht a r.1 r.2).mp ha⟩
  · rintro ⟨t, ht, rfl⟩
    rw [rnd t ht N e]; exact Nat.le_refl _
end Rt
set_option Elab.async false
set_option linter.all false
set_option maxRecDepth 100000
set_option maxHeartbeats 4000000
/-! A row among a list of rows; a global that is an int. -/
namespace Rt
open PySem PySem.Spec L2 PyProof.Rows
theorem pe_intG {X : Cx} {x : Str} {i : Int} {pos : Pos} (h : ∃ t, X.mg x = some (.int i t)) (hg : Gl X x := by rfl) (hd : (x == ("__debug__" : Str)) = false := by decide) : PE X (.Name x pos) (tC (.int i)) :=
  let ⟨t, e⟩ := h; pe_glob hg e ⟨t, rfl⟩ hd
theorem op_inDK {X : Cx} (K : PySem.W.Frag) (hu : X.A.units + 65 < cLine) (h : X.K = K := by rfl) : OpR X (compareOp .In) (rInD K) := by subst h; exact op_inD hu
theorem dpAll_of {K : PySem.W.Frag} {H : Hp} : ∀ {xs : List V} {ds : List PyData}, xs.length = ds.length → (∀ (i : Nat) (x : V) (d : PyData), xs[i]? = some x → ds[i]? = some d → Dp K H x d) → DpAll K H xs ds
  | [], [], _, _ => .nil
  | x :: xs, d :: ds, e, h => .cons (h 0 x d rfl rfl) (dpAll_of (by simpa using e) fun i y z hy hz => h (i + 1) y z (by simpa using hy) (by simpa using hz))
  | [], d :: ds, e, _ => by simp at e
  | x :: xs, [], e, _ => by simp at e
def rowsD (n : Nat) (f : Nat → List Int) : List PyData := (List.range n).map fun k => PyData.list ((f k).map PyData.int)
theorem dpRA {K : PySem.W.Frag} {H : Hp} {N : Addr → Prop} {xs : List V} {n : Nat} {f : Nat → List Int} (h : RA N false H xs n f) : DpAll K H xs (rowsD n f) := by
  refine dpAll_of (by unfold rowsD; rw [List.length_map, List.length_range, h.1]) fun i x d hx hd => ?_
  have hi : i < n := by rw [← h.1]; exact (List.getElem?_eq_some_iff.mp hx).1
  obtain ⟨t, e1, _, e2⟩ := h.2 i hi
  unfold rowsD at hd
  rw [List.getElem?_map, List.getElem?_range hi] at hd
  cases hd
  rw [e1] at hx
  cases hx
  exact .lst (SqL.of e2) (dpI _)
theorem canRows : ∀ (ks : List Nat) (f : Nat → List Int), PyData.canLayAll0 (ks.map fun k => PyData.list ((f k).map PyData.int)) = true
  | [], _ => rfl
  | k :: ks, f => by simp [PyData.canLayAll0, PyData.canLay0, canI, canRows ks f]
theorem depRows : ∀ (ks : List Nat) (f : Nat → List Int), PyData.depthAll (ks.map fun k => PyData.list ((f k).map PyData.int)) ≤ 1
  | [], _ => by simp [PyData.depthAll]
  | k :: ks, f => by
    have := depRows ks f
    simp [PyData.depthAll, PyData.depth, depI]
    omega
theorem shRows {n : Nat} {f : Nat → List Int} : SeqAt.shaped (.list (rowsD n f)) = true := by
  have c : PyData.canLay0 (.list (rowsD n f)) = true := by unfold rowsD; simp [PyData.canLay0, canRows]
  unfold SeqAt.shaped
  rw [c]
  have := depRows (List.range n) f
  have d : PyData.depth (.list (rowsD n f)) ≤ 64 := by
    show PyData.depthAll (rowsD n f) + 1 ≤ 64
    unfold rowsD
    omega
  rw [decide_eq_true d]; rfl
/-- is the row among the rows -/
theorem g_inRows {K : PySem.W.Frag} {H : Hp} {Q : VK} {N : Addr → Prop} {a b : Addr} {ys : List Int} {xs : List V} {n : Nat} {f : Nat → List Int} (ha : SqL K H a (ys.map V.int)) (hb : SqL K H b xs) (h : RA N false H xs n f) (q : Q (.bl ((List.range n).any fun t => decide (f t = ys))) H) : rInD K (.ref a) (.ref b) H Q := by
  refine ⟨_, _, .lst ha (dpI ys), .lst hb (dpRA h), (shI ys).1, shRows, ?_⟩
  have e : ((rowsD n f).any fun z => PyData.eqv z (.list (ys.map PyData.int))) = (List.range n).any fun t => decide (f t = ys) := by
    unfold rowsD
    rw [List.any_map]
    congr 1
    funext t
    show PyData.eqv (.list ((f t).map PyData.int)) (.list (ys.map PyData.int)) = _
    rw [PyData.eqv, eqvI]
  rw [e]; exact q
/-! ### Fibonacci, words -/
def fbM : Nat → Int × Int
  | 0 => (0, 1)
  | k + 1 => ((fbM k).2, (fbM k).1 + (fbM k).2)
theorem fbM_gm : ∀ j : Nat, fbM (j + 1) = gm j
  | 0 => rfl
  | j + 1 => by show ((fbM (j + 1)).2, (fbM (j + 1)).1 + (fbM (j + 1)).2) = ((gm j).2, (gm j).1 + (gm j).2); rw [fbM_gm j]
theorem wL_len : ∀ k : Nat, k ≤ 8 → (wL k).1.length ≤ 55 ∧ 1 ≤ (wL k).2.length ∧ (wL k).2.length ≤ 89 := by
  intro k hk
  rcases k with _ | _ | _ | _ | _ | _ | _ | _ | _ | k <;> first | decide | omega
theorem str_app (a b : Str) : (a ++ b).cps.toList = a.cps.toList ++ b.cps.toList := by
  show (a.cps ++ b.cps).toList = _
  rw [Array.toList_append]
theorem str_len (a : Str) : a.length = a.cps.toList.length := by show a.cps.size = _; rw [Array.length_toList]
theorem shL_mod {n t : Nat} {gs : List Int} (n0 : 0 < n) : shL n (t % n) gs = shL n t gs := by
  refine asc_extM shL_asc shL_asc fun a => ?_
  rw [shL_mem, shL_mem]
  have e : (a - ((t % n : Nat) : Int)) % (n : Int) = (a - (t : Int)) % (n : Int) := by
    have h := Nat.div_add_mod t n
    have h2 : (t : Int) = (n : Int) * ((t / n : Nat) : Int) + ((t % n : Nat) : Int) := by rw [← Int.natCast_mul]; omega
    rw [show a - ((t % n : Nat) : Int) = a - (t : Int) + (n : Int) * ((t / n : Nat) : Int) by omega, Int.add_mul_emod_self_left]
  rw [e]
def isT (n : Nat) (gs ps : List Int) : Bool := (List.range n).any fun t => decide (shL n t gs = ps)
theorem isT_iff {n : Nat} {gs ps : List Int} : isT n gs ps = true ↔ ∃ t, t < n ∧ shL n t gs = ps := by
  unfold isT
  rw [List.any_eq_true]
  constructor
  · rintro ⟨t, ht, e⟩
    exact ⟨t, List.mem_range.mp ht, of_decide_eq_true e⟩
  · rintro ⟨t, ht, e⟩
    exact ⟨t, List.mem_range.mpr ht, decide_eq_true e⟩
theorem goldN_inj {j k : Nat} (j1 : 1 ≤ j) (j7 : j ≤ 7) (k1 : 1 ≤ k) (k7 : k ≤ 7) (h : goldN j = goldN k) : j = k := by
  have aj : j = 1 ∨ j = 2 ∨ j = 3 ∨ j = 4 ∨ j = 5 ∨ j = 6 ∨ j = 7 := by omega
  have ak : k = 1 ∨ k = 2 ∨ k = 3 ∨ k = 4 ∨ k = 5 ∨ k = 6 ∨ k = 7 := by omega
  rcases aj with z | z | z | z | z | z | z <;> rcases ak with y | y | y | y | y | y | y <;> subst z <;> subst y <;> first | rfl | (exact absurd h (by decide))
end Rt
set_option Elab.async false
set_option linter.all false
set_option maxRecDepth 100000
set_option maxHeartbeats 4000000
/-! zip of two or three lists and tuples in any mix; dicts of ints. -/
namespace Rt
open PySem PySem.Spec L2 PyProof.Rows
/-- a tuple (c), a list -/
def SqB (K : PySem.W.Frag) (c : Bool) (H : Hp) (a : Addr) (xs : List V) : Prop := match c with
  | true => SqT K H a xs
  | false => SqL K H a xs
theorem SqB.mono {K : PySem.W.Frag} {c : Bool} {H H' : Hp} {a : Addr} {xs : List V} (S : Same H H') (h : SqB K c H a xs) : SqB K c H' a xs := by
  cases c with
  | true => exact L2.Same.tup S h
  | false => exact S.seq h
def ItB (c : Bool) (h : Heap) (j l : Addr) (i : Nat) : Prop := match c with
  | true => h.IsTupleIter j l i
  | false => h.IsListIter j l i
def IsB (c : Bool) (h : Heap) (l : Addr) (zs : Array Value) : Prop := match c with
  | true => h.IsTuple l zs
  | false => h.IsList l zs
def obB (c : Bool) (l : Addr) : Obj := match c with
  | true => { cls := .type "tuple_iterator", data := .fields #[.ref l, .int 0 0] }
  | false => { cls := .type "list_iterator", data := .fields #[.ref l, .int 0 0] }
theorem begB (c : Bool) (l : Addr) (zs : Array Value) : Begins (.ref l) (obB c l) (fun h => IsB c h l zs) := by
  cases c with
  | true => exact begins_tuple l zs
  | false => exact begins_list l zs
theorem drB {P : Program} {w : World} {A : Around} (c : Bool) (hh : A.handled = none) (j l : Addr) (ne : l ≠ j) (zs : Array Value) : Draws P w A j [j, l] zs.size (fun i v => zs[i]? = some v) (fun i h => ItB c h j l i ∧ IsB c h l zs) := by
  cases c with
  | true => exact Draws.tuple hh j l ne zs
  | false => exact Draws.list hh j l ne zs
theorem itB_at {c : Bool} {h h' : Heap} {j l : Addr} {i : Nat} (x : ItB c h j l i) (k : ∀ o, h.get? j = some o → h'.get? j = some o) : ItB c h' j l i := by
  cases c with
  | true => exact (show h.IsTupleIter j l i from x).at k
  | false => exact (show h.IsListIter j l i from x).at k
theorem itB_ob {c : Bool} {h : Heap} {j l : Addr} {i : Nat} (x : ItB c h j l i) : ∃ o, h.get? j = some o ∧ ∀ v, o.data ≠ .cell v := by
  cases c with
  | true => obtain ⟨o, e, _, d⟩ := x; exact ⟨o, e, fun v q => by rw [d] at q; cases q⟩
  | false => obtain ⟨o, e, _, d⟩ := x; exact ⟨o, e, fun v q => by rw [d] at q; cases q⟩
theorem itB_new {c : Bool} {h : Heap} {j l : Addr} (e : h.get? j = some (obB c l)) : ItB c h j l 0 := by
  cases c with
  | true => exact ⟨_, e, rfl, rfl⟩
  | false => exact ⟨_, e, rfl, rfl⟩
section
variable {X : Cx} {pins : List (Addr × Obj)} {σ : L2.St} {H : Hp} {s : Shared}
theorem seqB {c : Bool} {a : Addr} {xs : List V} (I : Inv X pins σ H s) (h : SqB X.K c H a xs) : ∃ its : List Value, Vals xs its ∧ IsB c s.heap a its.toArray ∧ a < s.heap.objs.size := by
  cases c with
  | true =>
    obtain ⟨its, rv, p, _⟩ := I.tuple h
    exact ⟨its, rv, p, by obtain ⟨_, q, _⟩ := (show s.heap.IsTuple a its.toArray from p); exact Heap.lt_size q⟩
  | false =>
    obtain ⟨its, rv, p, _⟩ := I.list h
    exact ⟨its, rv, p.isList, p.lt⟩
theorem injB {c : Bool} {a : Addr} {xs ys : List V} (I : Inv X pins σ H s) (h : SqB X.K c H a xs) (h2 : SqB X.K c H a ys) : xs = ys := by
  cases c with
  | true => exact I.tuple_inj h h2
  | false => exact I.list_inj h h2
end
/-- the two as they stand at each turn, their items in new pairs -/
def ItzB (K : PySem.W.Frag) (c d : Bool) (a b : Addr) : It :=
  ⟨fun i H => ∃ (xs ys : List V) (x y : V), SqB K c H a xs ∧ SqB K d H b ys ∧ xs[i]? = some x ∧ ys[i]? = some y,
    fun i H v H' => ∃ T x y, v = .ref T ∧ H T = none ∧ H' = upd H T (.tup [x, y]) ∧ (∀ xs, SqB K c H a xs → xs[i]? = some x) ∧ ∀ ys, SqB K d H b ys → ys[i]? = some y,
    fun i H => ∃ xs ys : List V, SqB K c H a xs ∧ SqB K d H b ys ∧ i ≤ xs.length ∧ i ≤ ys.length ∧ (i = xs.length ∨ i = ys.length)⟩
theorem turn_zipB {P : Program} {w : World} {K : PySem.W.Frag} {elts : List Expr} {kk : Nat} {tpos : Pos} {c d : Bool} {a b z TI TO j1 j2 : Addr} (D : ZipSep2 z TI TO j1 j2 [j1, a] [j2, b]) (na : a ≠ j1) (nb : b ≠ j2) :
    Turn P w K (.Tuple elts kk tpos) (ItzB K c d a b) [z, TI, TO, j1, j2] z (fun i h => IsZip h z TI TO .none ∧ IsTupOf2 h TI (.ref j1) (.ref j2) ∧ (∃ x y, IsTupOf2 h TO x y) ∧ ItB c h j1 a i ∧ ItB d h j2 b i) where
  mem := List.mem_cons_self
  obj := fun i h st q hq => by
    obtain ⟨hz, hTI, ⟨x, y, hTO⟩, h1, h2⟩ := st
    rcases (show q = z ∨ q = TI ∨ q = TO ∨ q = j1 ∨ q = j2 by simpa using hq) with r | r | r | r | r <;> rw [r]
    · exact ⟨_, hz, fun v q => nomatch q⟩
    · exact ⟨_, hTI, fun v q => nomatch q⟩
    · exact ⟨_, hTO, fun v q => nomatch q⟩
    · exact itB_ob h1
    · exact itB_ob h2
  keep := fun i h h' ⟨hz, hTI, ⟨x, y, hTO⟩, h1, h2⟩ k => ⟨k z (by simp) _ hz, k TI (by simp) _ hTI, ⟨x, y, k TO (by simp) _ hTO⟩, itB_at h1 (k j1 (by simp)), itB_at h2 (k j2 (by simp))⟩
  item := by
    intro X hP hw hK hc i pins s σ H E I hf ⟨hz, hTI, ⟨x0, y0, hTO⟩, h1, h2⟩ ⟨xs, ys, x, y, hqx, hqy, hx, hy⟩
    subst hP hw hK
    obtain ⟨its, rv, p, la⟩ := seqB I hqx
    obtain ⟨its2, rv2, p2, lb⟩ := seqB I hqy
    obtain ⟨u, hu, ru⟩ := rv.get hx
    obtain ⟨u2, hu2, ru2⟩ := rv2.get hy
    have zl : z < s.heap.objs.size := Heap.lt_size hz
    have hh : X.A.in1.handled = none := by have := I.ok.hd hc; simpa using this
    have k1 : i < its.toArray.size := by have := (List.getElem?_eq_some_iff.mp hu).1; simpa using this
    have k2 : i < its2.toArray.size := by have := (List.getElem?_eq_some_iff.mp hu2).1; simpa using this
    refine wpAny_pyNext_zipD2_item D (drB (P := X.prog) (w := X.w) (A := X.A.in1) c hh j1 a na its.toArray) (drB (P := X.prog) (w := X.w) (A := X.A.in1) d hh j2 b nb its2.toArray) hz hTI hTO ⟨h1, p⟩ ⟨h2, p2⟩ k1 k2 fun y1 y2 h' tk e1 e2 z' TO' g1 g2 hT hsz hk => ?_
    obtain rfl : y1 = u := by rw [show its.toArray[i]? = some u by simpa using hu] at e1; cases e1; rfl
    obtain rfl : y2 = u2 := by rw [show its2.toArray[i]? = some u2 by simpa using hu2] at e2; cases e2; rfl
    refine ⟨_, rfl, wpAny_letOwnedTupleGo_zip (s := { s with heap := h', toks := tk }) z' fun h'' z'' sb => ?_⟩
    have T2 : h''.get? s.heap.objs.size = some { cls := .type "tuple", data := .seq #[y1, y2] } := (sb.2 _ (Nat.ne_of_gt zl)).trans hT
    have nw : ObjOk X.prog X.w (upd H s.heap.objs.size (.tup [x, y])) h'' s.heap.objs.size (.tup [x, y]) := ⟨by show 2 ≤ sizeLine; decide, [y1, y2], .cons ru (.cons ru2 .nil), ⟨_, T2, rfl, _, rfl⟩⟩
    have I1 : Inv X pins σ (upd H s.heap.objs.size (.tup [x, y])) { s with heap := h'', toks := tk } := I.turnedNew (ch := [z, TI, TO, j1, j2]) (fun q o hb r => (sb.2 q (fun q' => hb (by simp [q']))).trans (hk q o (fun q' => hb (by simp [q'])) (fun q' => hb (by simp [q'])) (fun q' => hb (by simp [q'])) (fun q' => hb (by simp [q'])) r)) hf (Nat.le_refl _) nw
    refine ⟨.ref s.heap.objs.size, _, I1, rfl, ⟨_, x, y, rfl, I.hok.fresh (Nat.le_refl _), rfl, fun l hl => by rw [injB I hl hqx]; exact hx, fun l hl => by rw [injB I hl hqy]; exact hy⟩, ⟨z'', (sb.2 _ D.TIz).trans (hk _ _ D.TIz D.TITO D.TIi1 D.TIi2 hTI), ⟨y1, y2, (sb.2 _ D.TOz).trans TO'⟩, itB_at g1.1 fun o q => (sb.2 _ (fun e => D.zi1 e.symm)).trans q, itB_at g2.1 fun o q => (sb.2 _ (fun e => D.zi2 e.symm)).trans q⟩, fun q hq => ?_⟩
    have lt : q < s.heap.objs.size := by
      rcases (show q = z ∨ q = TI ∨ q = TO ∨ q = j1 ∨ q = j2 by simpa using hq) with r | r | r | r | r <;> rw [r]
      · exact zl
      · exact Heap.lt_size hTI
      · exact Heap.lt_size hTO
      · obtain ⟨_, e, _⟩ := itB_ob h1; exact Heap.lt_size e
      · obtain ⟨_, e, _⟩ := itB_ob h2; exact Heap.lt_size e
    rw [upd_ne (Nat.ne_of_lt lt)]
    exact (hf q hq).1
  done := by
    intro X hP hw hK hc i pins s σ H E I hf ⟨hz, hTI, ⟨x0, y0, hTO⟩, h1, h2⟩ ⟨xs, ys, hqx, hqy, m1, m2, en⟩
    subst hP hw hK
    obtain ⟨its, rv, p, la⟩ := seqB I hqx
    obtain ⟨its2, rv2, p2, lb⟩ := seqB I hqy
    have hh : X.A.in1.handled = none := by have := I.ok.hd hc; simpa using this
    have l1 : its.toArray.size = xs.length := by rw [List.size_toArray, ← rv.length]
    have l2 : its2.toArray.size = ys.length := by rw [List.size_toArray, ← rv2.length]
    exact wpAny_pyNext_zipD2_end D (drB (P := X.prog) (w := X.w) (A := X.A.in1) c hh j1 a na its.toArray) (drB (P := X.prog) (w := X.w) (A := X.A.in1) d hh j2 b nb its2.toArray) hz hTI hTO ⟨h1, p⟩ ⟨h2, p2⟩ (by omega) (by omega) (by omega) fun h' tk hk =>
      ⟨rfl, I.turnedL (ch := [z, TI, TO, j1, j2]) (fun q o hb r => hk q o (fun q' => hb (by simp [q'])) (fun q' => hb (by simp [q'])) (fun q' => hb (by simp [q'])) (fun q' => hb (by simp [q'])) r) hf⟩
  self := fun A i s Q E st h => wpAny_pyIter_zip st.1 h
def iZipB (K : PySem.W.Frag) (c d : Bool) (ta : TA) : TI := fun σ H R => ta σ H fun vs H1 => ∃ a b xs ys, vs = [.ref a, .ref b] ∧ SqB K c H1 a xs ∧ SqB K d H1 b ys ∧ R (ItzB K c d a b) H1
theorem g_zipB {σ : L2.St} {H : Hp} {K : PySem.W.Frag} {c d : Bool} {ta : TA} {R : It → Hp → Prop} (h : ta σ H fun vs H1 => ∃ a b xs ys, vs = [.ref a, .ref b] ∧ SqB K c H1 a xs ∧ SqB K d H1 b ys ∧ R (ItzB K c d a b) H1) : iZipB K c d ta σ H R := h
theorem pi_zipB {X : Cx} (K : PySem.W.Frag) (c d : Bool) {e e2 : Expr} {ta : TA} {p pos tpos : Pos} {elts : List Expr} {kk : Nat} (hg : Gl X "zip") (hm : X.mg "zip" = none) (ha : PA X [e, e2] ta)
    (hs : starEach [e, e2] X.env = (false, eval e X.env) :: starEach [e2] X.env := by rfl) (hpl : (backTo pos (starEach [e2] X.env)).any (·.1) = false := by rfl) (hK : X.K = K := by rfl) : PI X (.Tuple elts kk tpos) (.Call (.Name "zip" p) [e, e2] [] pos) (iZipB K c d ta) := by
  subst hK
  refine ⟨fun pins s σ H R I h => Call_ (ld_blt I hg hm PyProof.Rows.boot_zip (PyProof.Rows.callWith_type1 (thn (ha.run pos pins s σ H _ I h) fun us s1 ⟨vs, H1, I1, r1, q1⟩ => ?_) hs hpl))⟩
  obtain ⟨a, b, xs, ys, rfl, hqx, hqy, q⟩ := q1
  cases r1 with
  | cons r rr =>
    cases rr with
    | cons r' rr =>
      cases rr; cases r; cases r'
      obtain ⟨its, rv, p1, la⟩ := seqB I1 hqx
      obtain ⟨its2, rv2, p2, lb⟩ := seqB I1 hqy
      refine zip_begins2 (begB c a its.toArray) (begB d b its2.toArray) p1 p2 fun h' hz hTI hTO h1 h2 hsz hk => wpAny_pyIter_zip hz ?_
      have I2 : Inv X pins σ H1 { s1 with heap := h' } := I1.kept (t' := s1.toks) hk
      have sep := zip_sep2 (N := s1.heap.objs.size) (fp1 := [a]) (fp2 := [b]) (fun q hq => by rw [List.mem_singleton.mp hq]; exact la) (fun q hq => by rw [List.mem_singleton.mp hq]; exact lb)
      refine ⟨s1.heap.objs.size + 4, [s1.heap.objs.size + 4, s1.heap.objs.size + 2, s1.heap.objs.size + 3, s1.heap.objs.size, s1.heap.objs.size + 1], _, _, H1, rfl, I2, turn_zipB sep (Nat.ne_of_lt la) (Nat.ne_of_lt (Nat.lt_succ_of_lt lb)), ⟨hz, hTI, ⟨_, _, hTO⟩, itB_new h1, itB_new h2⟩, fun q hq => ?_, q⟩
      have le : s1.heap.objs.size ≤ q := by
        rcases (show q = s1.heap.objs.size + 4 ∨ q = s1.heap.objs.size + 2 ∨ q = s1.heap.objs.size + 3 ∨ q = s1.heap.objs.size ∨ q = s1.heap.objs.size + 1 by simpa using hq) with z | z | z | z | z <;> rw [z]
        · exact Nat.le_add_right _ _
        · exact Nat.le_add_right _ _
        · exact Nat.le_add_right _ _
        · exact Nat.le_refl _
        · exact Nat.le_add_right _ _
      exact I1.fpOk le (I1.hok.fresh le)
/-- a loop over zip of two of one length -/
theorem for_zipB {K : PySem.W.Frag} {c d : Bool} {a b : Addr} {xs ys : List V} {g : TG} {tb : TS} {D : Ends} {σ : L2.St} {H : Hp} (len : xs.length = ys.length) (Pv : Nat → L2.St → Hp → Prop) (h0 : Pv 0 σ H) (hq : ∀ i σ H, Pv i σ H → SqB K c H a xs ∧ SqB K d H b ys)
    (hs : ∀ (i : Nat) (x y : V) (T : Addr) (σ : L2.St) (H : Hp), xs[i]? = some x → ys[i]? = some y → Pv i σ H → H T = none → g (.ref T) σ (upd H T (.tup [x, y])) fun σ2 H2 => tb { D with nx := Pv (i + 1), ct := Pv (i + 1), bk := D.nx } σ2 H2) (hd : ∀ σ H, Pv xs.length σ H → D.nx σ H) :
    ∃ W : Nat → Nat → L2.St → Hp → Prop, (∃ m, W 0 m σ H) ∧ ∀ i m σ H, W i m σ H →
      ((ItzB K c d a b).stop i H ∧ D.nx σ H) ∨ ((ItzB K c d a b).go i H ∧ ∃ N : L2.St → Hp → Prop, (∀ σ' H', N σ' H' → ∃ m', m' < m ∧ W (i + 1) m' σ' H') ∧ ∀ v H', (ItzB K c d a b).yld i H v H' → g v σ H' fun σ2 H2 => tb { D with nx := N, ct := N, bk := D.nx } σ2 H2) := by
  refine ⟨fun i m σ H => i + m = xs.length ∧ Pv i σ H, ⟨xs.length, Nat.zero_add _, h0⟩, fun i m σ H w => ?_⟩
  obtain ⟨qx, qy⟩ := hq i σ H w.2
  cases m with
  | zero =>
    have e : i = xs.length := w.1
    exact .inl ⟨⟨xs, ys, qx, qy, by omega, by omega, .inl e⟩, hd σ H (by rw [← e]; exact w.2)⟩
  | succ m =>
    have k1 : i < xs.length := by have := w.1; omega
    have k2 : i < ys.length := by omega
    refine .inr ⟨⟨xs, ys, xs[i], ys[i], qx, qy, List.getElem?_eq_getElem k1, List.getElem?_eq_getElem k2⟩, Pv (i + 1), fun σ' H' z => ⟨m, Nat.lt_succ_self m, by have := w.1; omega, z⟩, fun v H' yl => ?_⟩
    obtain ⟨T, x', y', rfl, hT, rfl, f1, f2⟩ := yl
    exact hs i x' y' T σ H (f1 xs qx) (f2 ys qy) w.2 hT
/-- a comprehension over zip of two of one length -/
theorem lc_zipB {K : PySem.W.Frag} {c d : Bool} {a b : Addr} {xs ys : List V} {g : TG} {tt : TT} {te : TE} {vs : List Nat} {σ : L2.St} {H1 : Hp} {D : Addr} {Qd : Hp → Prop} (len : xs.length = ys.length) (Pv : Nat → Hp → Prop) (h0 : Pv 0 (upd H1 D (.lst []))) (hq : ∀ i H, Pv i H → SqB K c H a xs ∧ SqB K d H b ys)
    (turn : ∀ (i : Nat) (x y : V) (T : Addr) (H : Hp), xs[i]? = some x → ys[i]? = some y → Pv i H → H T = none → g (.ref T) (wipe σ vs) (upd H T (.tup [x, y])) fun σ2 H2 => wipe σ2 vs = wipe σ vs ∧ tt σ2 H2 fun b H3 =>
      if b = true then te σ2 H3 fun y H4 => ∃ acc, H4 D = some (.lst acc) ∧ acc.length < sizeLine ∧ Pv (i + 1) (upd H4 D (.lst (acc ++ [y]))) else Pv (i + 1) H3) (done : ∀ H, Pv xs.length H → Qd H) :
    ∃ W : Nat → Nat → Hp → Prop, (∃ m, W 0 m (upd H1 D (.lst []))) ∧ ∀ i m H, W i m H →
      ((ItzB K c d a b).stop i H ∧ Qd H) ∨ ((ItzB K c d a b).go i H ∧ ∃ Nx : Hp → Prop, (∀ H', Nx H' → ∃ m', m' < m ∧ W (i + 1) m' H') ∧ ∀ x H', (ItzB K c d a b).yld i H x H' → g x (wipe σ vs) H' fun σ2 H2 => wipe σ2 vs = wipe σ vs ∧ tt σ2 H2 fun b H3 =>
        if b = true then te σ2 H3 fun y H4 => ∃ acc, H4 D = some (.lst acc) ∧ acc.length < sizeLine ∧ Nx (upd H4 D (.lst (acc ++ [y]))) else Nx H3) := by
  refine ⟨fun i m H => i + m = xs.length ∧ Pv i H, ⟨xs.length, Nat.zero_add _, h0⟩, fun i m H w => ?_⟩
  obtain ⟨qx, qy⟩ := hq i H w.2
  cases m with
  | zero =>
    have e : i = xs.length := w.1
    exact .inl ⟨⟨xs, ys, qx, qy, by omega, by omega, .inl e⟩, done H (by rw [← e]; exact w.2)⟩
  | succ m =>
    have k1 : i < xs.length := by have := w.1; omega
    have k2 : i < ys.length := by omega
    refine .inr ⟨⟨xs, ys, xs[i], ys[i], qx, qy, List.getElem?_eq_getElem k1, List.getElem?_eq_getElem k2⟩, Pv (i + 1), fun H' z => ⟨m, Nat.lt_succ_self m, by have := w.1; omega, z⟩, fun v H' yl => ?_⟩
    obtain ⟨T, x', y', rfl, hT, rfl, f1, f2⟩ := yl
    exact turn i x' y' T H (f1 xs qx) (f2 ys qy) w.2 hT
end Rt
set_option Elab.async false
set_option linter.all false
set_option maxRecDepth 100000
set_option maxHeartbeats 4000000
/-! The mathematics of tallies (k06, k27, k28, k54, k58). -/
namespace Rt
open PySem PySem.Spec L2
/-! ### ascending, each once -/
def insI (v : Int) : List Int → List Int
  | [] => [v]
  | x :: xs => if v < x then v :: x :: xs else if v = x then x :: xs else x :: insI v xs
def ascI (l : List Int) : List Int := l.foldr insI []
theorem insI_mem {v a : Int} : ∀ l : List Int, a ∈ insI v l ↔ a = v ∨ a ∈ l
  | [] => by simp [insI]
  | x :: xs => by
    unfold insI
    split
    · simp
    · split
      · rename_i e; subst e; simp
      · simp only [List.mem_cons, insI_mem xs]
        constructor
        · rintro (h | h | h)
          · exact .inr (.inl h)
          · exact .inl h
          · exact .inr (.inr h)
        · rintro (h | h | h)
          · exact .inr (.inl h)
          · exact .inl h
          · exact .inr (.inr h)
theorem insI_asc {v : Int} : ∀ {l : List Int}, l.Pairwise (· < ·) → (insI v l).Pairwise (· < ·)
  | [], _ => by simp [insI]
  | x :: xs, h => by
    obtain ⟨h1, h2⟩ := List.pairwise_cons.mp h
    unfold insI
    split
    · rename_i c
      refine List.pairwise_cons.mpr ⟨fun y hy => ?_, h⟩
      rcases List.mem_cons.mp hy with z | z
      · omega
      · have := h1 y z; omega
    · split
      · exact h
      · refine List.pairwise_cons.mpr ⟨fun y hy => ?_, insI_asc h2⟩
        rcases (insI_mem xs).mp hy with z | z
        · omega
        · exact h1 y z
theorem ascI_mem {a : Int} : ∀ l : List Int, a ∈ ascI l ↔ a ∈ l
  | [] => Iff.rfl
  | x :: xs => by
    show a ∈ insI x (ascI xs) ↔ _
    rw [insI_mem, ascI_mem xs, List.mem_cons]
theorem ascI_asc : ∀ l : List Int, (ascI l).Pairwise (· < ·)
  | [] => List.Pairwise.nil
  | x :: xs => insI_asc (ascI_asc xs)
theorem ascI_eq {l ys : List Int} (h : ys.Pairwise (· < ·)) (m : ∀ a, a ∈ ys ↔ a ∈ l) : ys = ascI l := asc_extM h (ascI_asc l) fun a => by rw [m, ascI_mem]
theorem ascI_len : ∀ l : List Int, (ascI l).length ≤ l.length
  | [] => Nat.le_refl _
  | x :: xs => by
    have : ∀ (v : Int) (l : List Int), (insI v l).length ≤ l.length + 1 := fun v l => by
      induction l with
      | nil => simp [insI]
      | cons y ys ih =>
        unfold insI
        split
        · simp
        · split
          · simp
          · simp; exact ih
    have a := this x (ascI xs)
    have b := ascI_len xs
    show (insI x (ascI xs)).length ≤ xs.length + 1
    omega
/-! ### a tally -/
def sgT (s t : Int) : Int := if s < t then -1 else 1
def tlyK (ss ts : List Int) (v : Int) : Nat → Int
  | 0 => 0
  | n + 1 => tlyK ss ts v n + (if ss.getD n 0 = v then sgT v (ts.getD n 0) else 0)
def tly (ss ts : List Int) (v : Int) : Int := tlyK ss ts v ss.length
def tlyP (ss ts : List Int) (i : Nat) : List (Int × Int) := (((ascI ss).take i).filter fun v => decide (tly ss ts v ≠ 0)).map fun v => (v, tly ss ts v)
def tlyL (ss ts : List Int) : List (Int × Int) := tlyP ss ts (ascI ss).length
theorem tlyK_no {ss ts : List Int} {v : Int} (h : v ∉ ss) : ∀ n, n ≤ ss.length → tlyK ss ts v n = 0
  | 0, _ => rfl
  | n + 1, hn => by
    have ne : ss.getD n 0 ≠ v := fun e => h (by rw [← e]; exact getD_mem (by omega))
    rw [tlyK, tlyK_no h n (by omega), if_neg ne]; rfl
theorem tlyK_bd {ss ts : List Int} {v : Int} : ∀ n : Nat, -(n : Int) ≤ tlyK ss ts v n ∧ tlyK ss ts v n ≤ (n : Int)
  | 0 => by simp [tlyK]
  | n + 1 => by
    obtain ⟨a, b⟩ := tlyK_bd (ss := ss) (ts := ts) (v := v) n
    rw [tlyK]
    unfold sgT
    split
    · split <;> omega
    · omega
theorem tlyP_zero {ss ts : List Int} : tlyP ss ts 0 = [] := rfl
theorem tlyP_step {ss ts : List Int} {i : Nat} {v : Int} (h : (ascI ss)[i]? = some v) : tlyP ss ts (i + 1) = tlyP ss ts i ++ (if tly ss ts v = 0 then [] else [(v, tly ss ts v)]) := by
  unfold tlyP
  rw [take_more h, List.filter_append, List.map_append]
  congr 1
  rw [List.filter_cons]
  by_cases c : tly ss ts v = 0
  · rw [if_pos c, if_neg (by simpa using c)]; rfl
  · rw [if_neg c, if_pos (by simpa using c)]; rfl
theorem tlyP_len {ss ts : List Int} (i : Nat) : (tlyP ss ts i).length ≤ ss.length := by
  unfold tlyP
  rw [List.length_map]
  have a := List.length_filter_le (fun v => decide (tly ss ts v ≠ 0)) ((ascI ss).take i)
  have b := ascI_len ss
  rw [List.length_take] at a
  omega
/-- pairs ascend by their values -/
def AscP (l : List (Int × Int)) : Prop := l.Pairwise fun x y => x.1 < y.1
theorem tlyL_asc {ss ts : List Int} : AscP (tlyL ss ts) := by
  unfold tlyL tlyP AscP
  rw [List.pairwise_map, List.take_length]
  exact (ascI_asc ss).sublist List.filter_sublist
/-- what a list of pairs tells at a value -/
def atL : List (Int × Int) → Int → Int
  | [], _ => 0
  | (a, b) :: l, v => if a = v then b else atL l v
theorem atL_no : ∀ {l : List (Int × Int)} {v : Int}, (∀ p ∈ l, p.1 ≠ v) → atL l v = 0
  | [], _, _ => rfl
  | (a, b) :: l, v, h => by
    rw [atL, if_neg (h (a, b) List.mem_cons_self)]
    exact atL_no fun p hp => h p (List.mem_cons_of_mem _ hp)
theorem atL_first : ∀ {l : List (Int × Int)} {v : Int} {i : Nat} {p : Int × Int}, l[i]? = some p → p.1 = v → (∀ j, j < i → ∀ q, l[j]? = some q → q.1 ≠ v) → atL l v = p.2
  | [], _, i, _, h, _, _ => by simp at h
  | (a, b) :: l, v, 0, p, h, e, _ => by
    cases h
    rw [atL, if_pos e]
  | (a, b) :: l, v, i + 1, p, h, e, k => by
    rw [atL, if_neg (k 0 (Nat.succ_pos i) (a, b) rfl)]
    exact atL_first (by simpa using h) e fun j hj q hq => k (j + 1) (by omega) q (by simpa using hq)
theorem atL_none {l : List (Int × Int)} {v : Int} (h : ∀ (i : Nat) (p : Int × Int), l[i]? = some p → p.1 ≠ v) : atL l v = 0 := atL_no fun p hp => by
  obtain ⟨i, hi⟩ := List.mem_iff_getElem?.mp hp
  exact h i p hi
/-- c tells how the two compare -/
def CmpS (l m : List (Int × Int)) (c : Int) : Prop := (c = 0 ∧ ∀ v, atL l v = atL m v) ∨ ∃ v, atL l v ≠ atL m v ∧ (∀ u, u < v → atL l u = atL m u) ∧ c = if atL l v < atL m v then -1 else 1
theorem CmpS.uniq {l m : List (Int × Int)} {c d : Int} (h : CmpS l m c) (k : CmpS l m d) : c = d := by
  rcases h with ⟨rfl, h⟩ | ⟨v, n, b, rfl⟩ <;> rcases k with ⟨rfl, k⟩ | ⟨u, n2, b2, rfl⟩
  · rfl
  · exact absurd (h u) n2
  · exact absurd (k v) n
  · have e : v = u := by
      rcases Int.lt_trichotomy v u with z | z | z
      · exact absurd (b2 v z) n
      · exact z
      · exact absurd (b u z) n2
    subst e; rfl
/-- the least of the values that tell apart -/
theorem CmpS.of_min {l m : List (Int × Int)} {vs : List Int} (hv : ∀ p, p ∈ l ∨ p ∈ m → p.1 ∈ vs) : (∀ v ∈ vs, atL l v = atL m v) → CmpS l m 0 := fun h => .inl ⟨rfl, fun v => by
  by_cases c : v ∈ vs
  · exact h v c
  · rw [atL_no fun p hp e => c (by rw [← e]; exact hv p (.inl hp)), atL_no fun p hp e => c (by rw [← e]; exact hv p (.inr hp))]⟩
theorem CmpS.of_least {l m : List (Int × Int)} {vs : List Int} {v : Int} (hv : ∀ p, p ∈ l ∨ p ∈ m → p.1 ∈ vs) (ne : atL l v ≠ atL m v) (h : ∀ u ∈ vs, atL l u ≠ atL m u → v ≤ u) : CmpS l m (if atL l v < atL m v then -1 else 1) := .inr ⟨v, ne, fun u hu => by
  refine Decidable.byContradiction fun z => ?_
  by_cases c : u ∈ vs
  · have := h u c z; omega
  · exact z (by rw [atL_no fun p hp e => c (by rw [← e]; exact hv p (.inl hp)), atL_no fun p hp e => c (by rw [← e]; exact hv p (.inr hp))]), rfl⟩
/-! ### lists of pairs in the heap -/
def rowP (l : List (Int × Int)) (k : Nat) : List Int := [(l.getD k (0, 0)).1, (l.getD k (0, 0)).2]
theorem rowP_at {l : List (Int × Int)} {k : Nat} {p : Int × Int} (h : l[k]? = some p) : rowP l k = [p.1, p.2] := by
  unfold rowP
  rw [List.getD_eq_getElem?_getD, h]; rfl
theorem rowP_app {l : List (Int × Int)} {p : Int × Int} {k : Nat} (h : k < l.length) : rowP (l ++ [p]) k = rowP l k := by
  unfold rowP
  rw [List.getD_eq_getElem?_getD, List.getElem?_append_left h, ← List.getD_eq_getElem?_getD]
theorem rowP_last {l : List (Int × Int)} {p : Int × Int} : rowP (l ++ [p]) l.length = [p.1, p.2] := rowP_at (by rw [List.getElem?_append_right (Nat.le_refl _), Nat.sub_self]; rfl)
/-- the list at a holds the pairs l, each a tuple at an address with N -/
def PrA (N : Addr → Prop) (H : Hp) (xs : List V) (l : List (Int × Int)) : Prop := RA N true H xs l.length (rowP l)
theorem PrA.nil {N : Addr → Prop} {H : Hp} : PrA N H [] [] := RA.nil
theorem PrA.mono {N : Addr → Prop} {H H' : Hp} {xs : List V} {l : List (Int × Int)} (h : PrA N H xs l) (S : Same H H') : PrA N H' xs l := RA.mono h S
theorem PrA.weak {N M : Addr → Prop} {H : Hp} {xs : List V} {l : List (Int × Int)} (h : PrA N H xs l) (w : ∀ t, N t → M t) : PrA M H xs l := RA.weak h w
theorem PrA.more {N : Addr → Prop} {H : Hp} {xs : List V} {l : List (Int × Int)} {p : Int × Int} {t : Addr} (h : PrA N H xs l) (c : N t) (ht : H t = some (.tup [.int p.1, .int p.2])) : PrA N H (xs ++ [V.ref t]) (l ++ [p]) := by
  unfold PrA
  rw [show (l ++ [p]).length = l.length + 1 by simp]
  refine RA.more (RA.congr h fun k hk => (rowP_app hk).symm) c ?_
  rw [if_pos rfl, rowP_last]; exact ht
theorem PrA.upd {N : Addr → Prop} {H : Hp} {xs : List V} {l : List (Int × Int)} {a : Addr} {o : HO} (h : PrA N H xs l) (w : ∀ t, N t → t ≠ a) : PrA N (upd H a o) xs l := RA.upd h w
theorem PrA.at_ {N : Addr → Prop} {H : Hp} {xs : List V} {l : List (Int × Int)} (h : PrA N H xs l) {k : Nat} {p : Int × Int} (hk : l[k]? = some p) : ∃ t : Addr, xs[k]? = some (V.ref t) ∧ N t ∧ H t = some (.tup [.int p.1, .int p.2]) := by
  obtain ⟨t, a, b, c⟩ := h.2 k (List.getElem?_eq_some_iff.mp hk).1
  rw [if_pos rfl, rowP_at hk] at c
  exact ⟨t, a, b, c⟩
theorem PrA.of {N : Addr → Prop} {H : Hp} {xs : List V} {l : List (Int × Int)} (h : PrA N H xs l) {k : Nat} {x : V} (hx : xs[k]? = some x) : ∃ (p : Int × Int) (t : Addr), l[k]? = some p ∧ x = .ref t ∧ N t ∧ H t = some (.tup [.int p.1, .int p.2]) := by
  have hk : k < l.length := by rw [← show xs.length = l.length from h.1]; exact (List.getElem?_eq_some_iff.mp hx).1
  obtain ⟨t, a, b, c⟩ := h.at_ (List.getElem?_eq_getElem hk)
  rw [hx] at a
  exact ⟨_, t, List.getElem?_eq_getElem hk, Option.some.inj a, b, c⟩
end Rt
set_option Elab.async false
set_option linter.all false
set_option maxRecDepth 100000
set_option maxHeartbeats 4000000
/-! sorted of a set, of a list of iA, of any length; list of a dict; sorted of a dict. -/
namespace L2
open PySem PySem.Spec PyProof.Rows
section
variable {P : Program} {w : World} {A : Around} {E : Value → Shared → Prop} {s : Shared} {a : Addr}
theorem sorted_setW {S : Int → Bool} {n : Nat} {Q : Value → Shared → Prop} (R : SetR w s.heap a S n) (hh : A.handled = none) (few : n ≤ 100000)
    (back : ∀ s' p (out : Array Value) (c : Nat) (ns : List Int), (∀ b o, s.heap.get? b = some o → s'.heap.get? b = some o) → s'.gens = s.gens → s'.os = s.os → s.heap.objs.size ≤ p → s'.heap.get? p = some (seqObj "list" out c) → IntsAre out.toList ns → ns.Pairwise (· < ·) → (∀ k, k ∈ ns ↔ S k = true) → ns.length = n → Q (.ref p) s') :
    wpAny (model P w) A (call (.builtin "sorted") [.ref a]) Q E s := by
  obtain ⟨o, es, ep, t, at_, ex, da, g, nd, hm, hb, hf, hn, hr, hl⟩ := R
  refine Calls.call_function_entry kind_sorted plain_sorted entry_sorted (args_sorted1 _) ?_
  unfold Builtin.«sorted»
  refine wpAny_bind (m := checkCount "sorted" 1 1 _) (wpAny_pure ?_)
  refine wpAny_bind (collect_set (A := A.in1) hh ⟨o, at_, ex.1, da⟩ hf hb hr hl fun s1 vs kp1 sz1 gs1 os1 pm => ?_)
  have hlen : vs.length = n := by rw [pm.length_eq, List.length_map, Array.length_toList]; exact hn
  have iA : IntsAre vs (vs.map Builtin.Re.reRawOf) := ints_of vs fun v hv => let ⟨e, he, q⟩ := List.mem_map.mp (pm.mem_iff.mp hv); let ⟨k, tk, e1, _⟩ := g e he; ⟨k, tk, by rw [← q]; exact e1⟩
  have keys : (vs.map Builtin.Re.reRawOf).Perm (es.toList.map keyOf) := by
    have q := pm.map Builtin.Re.reRawOf; rw [List.map_map] at q; exact q
  refine wpAny_bind (wpAny_newList ?_ (by rw [hlen, sizeLine_eq]; omega))
  have new : (s1.heap.push (seqObj "list" vs.toArray 0)).get? s1.heap.objs.size = some (seqObj "list" vs.toArray 0) := Heap.get?_push_size _ rfl
  refine wpAny_bind (wpAny_holding (wpAny_call_entry slot_list_sort ⟨_, new, rfl⟩ entry_list_sort (list_sort_treeAny new iA (by rw [hlen, sizeLine_eq]; omega) fun out ns' b1 b2 b3 => ⟨_, rfl, ?_⟩) (args_list_sort _)))
  obtain ⟨c, hc⟩ := sortedHeap_at (vs := vs) (out := out) new
  have pn : ns'.Perm (es.toList.map keyOf) := b2.trans keys
  refine wpAny_pure ⟨_, rfl, back _ s1.heap.objs.size out c ns' (fun b u e => ?_) gs1 os1 sz1 hc b1 (lt_of_le_nodup ns' b3 (pn.nodup_iff.mpr nd)) (fun k => by rw [pn.mem_iff, ← hm k]) (by rw [pn.length_eq, List.length_map, Array.length_toList]; exact hn)⟩
  have q := kp1 b u e
  have lt := Heap.lt_size q
  show (sortedHeap (s1.heap.push (seqObj "list" vs.toArray 0)) s1.heap.objs.size vs out).get? b = some u
  rw [sortedHeap_old (Nat.ne_of_lt lt) (by rw [size_push']; exact Nat.lt_succ_of_lt lt)]
  exact Heap.get?_push_of_some _ q
end
end L2
namespace Rt
open PySem PySem.Spec L2 PyProof.Rows
section
variable {X : Cx}
def rSortW (w : World) : List V → Hp → VK → Prop := fun vs H Q => ∃ (a : Addr) (S : Int → Bool) (n : Nat), vs = [V.ref a] ∧ H a = some (SetO w a S n) ∧ n ≤ 100000 ∧
  ∀ (ns : List Int) (p : Addr), ns.Pairwise (· < ·) → (∀ k : Int, k ∈ ns ↔ S k = true) → ns.length = n → H p = none → Q (.ref p) (upd H p (.lst (ns.map V.int)))
theorem cr_sortW {w : World} (hc : X.calm = true) (hw : X.w = w := by rfl) : CallR X (.builtin "sorted") (rSortW w) := by
  subst hw
  intro pins s σ H vs us Q I r ⟨a, S, n, e, ha, few, q⟩
  subst e
  rw [Vals.ref1 r]
  refine sorted_setW (setO_get I ha) (I.ok.hd hc) few fun s' p out c ns k g o hp hg hi hs hm hl => ?_
  have hlen : (ns.map V.int).length ≤ sizeLine := by rw [List.length_map, hl, sizeLine_eq]; omega
  have nw : H p = none := I.hok.fresh hp
  have J : Inv X pins σ (upd H p (.lst (ns.map V.int))) { s with heap := s'.heap, gens := s'.gens, drawn := s'.drawn, toks := s'.toks } := I.call (ch := []) (Un.laid k hp nw) (I.hok.laid k hp ⟨hlen, out.toList, c, vals_of_ints hi, hg⟩) (by rw [g]; exact I.bare) (fun _ z => nomatch z)
  have es : s' = { s with heap := s'.heap, gens := s'.gens, drawn := s'.drawn, toks := s'.toks } := by
    cases s'; cases s; cases o; rfl
  rw [es]
  exact ⟨.ref p, _, J, rfl, q ns p hs hm hl nw⟩
def rSortLW (K : PySem.W.Frag) : List V → Hp → VK → Prop := fun vs H Q => ∃ (a : Addr) (ns : List Int), vs = [V.ref a] ∧ SqL K H a (ns.map V.int) ∧ ns.length ≤ 100000 ∧ ∀ (ys : List Int) (p : Addr), ys.Perm ns → ys.Pairwise (· ≤ ·) → H p = none → Q (.ref p) (upd H p (.lst (ys.map V.int)))
theorem cr_sortLW (K : PySem.W.Frag) (h : X.K = K := by rfl) : CallR X (.builtin "sorted") (rSortLW K) := by
  subst h
  intro pins s σ H vs us Q I r ⟨a, ns, e, hs, few, q⟩
  subst e
  obtain ⟨its, rv, hl, _⟩ := I.list hs
  rw [Vals.ref1 r]
  have hi := rv.ints
  refine PyProof.Rows.sorted_intsAny hl.isList hi (by rw [hi.length, sizeLine_eq]; omega) fun out ys b1 b2 b3 => ?_
  obtain ⟨ep, at_⟩ := PyProof.Rows.sortedAll_at s.heap its out
  exact ⟨.ref _, upd H (s.heap.objs.size + 1) (.lst (ys.map V.int)), I.laid (t' := s.toks) (fun _ _ => PyProof.Rows.sortedAll_old) (Nat.le_succ _) ⟨by rw [List.length_map, b2.length_eq, sizeLine_eq]; omega, out.toList, ep, vals_of_ints b1, at_⟩, rfl, q ys _ b2 b3 (I.hok.fresh (Nat.le_succ _))⟩
end
/-! ### dicts whose keys are iA -/
abbrev KIn (ks : List (Int × V)) : List (Key × V) := ks.map fun p => (Sum.inl p.1, p.2)
end Rt
namespace Rt
open PySem PySem.Spec L2 PyProof.Rows
/-- the dict's keys are ints, what it holds at v is f v -/
structure DI (kvs : List (Key × V)) (f : Int → Option Int) : Prop where
  ex : ∃ ks : List Int, kvs.map (·.1) = ks.map Sum.inl ∧ ks.Nodup
  val : ∀ v : Int, valV kvs (Sum.inl v) = (f v).map V.int
theorem mem_valV {kvs : List (Key × V)} {k : Key} : k ∈ kvs.map (·.1) ↔ (valV kvs k).isSome = true := by
  induction kvs with
  | nil => simp [valV_nil]
  | cons p r ih =>
    by_cases e : p.1 = k
    · rw [valV_pos e]; simp [e]
    · rw [valV_neg e, ← ih, List.map_cons, List.mem_cons]
      constructor
      · rintro (z | z)
        · exact absurd z.symm e
        · exact z
      · exact .inr
theorem DI.mem {kvs : List (Key × V)} {f : Int → Option Int} (h : DI kvs f) {ks : List Int} (e : kvs.map (·.1) = ks.map Sum.inl) (v : Int) : v ∈ ks ↔ (f v).isSome = true := by
  have a : (Sum.inl v : Key) ∈ kvs.map (·.1) ↔ _ := mem_valV
  rw [e, h.val v] at a
  have b : (Sum.inl v : Key) ∈ ks.map (Sum.inl : Int → Key) ↔ v ∈ ks := by
    rw [List.mem_map]
    constructor
    · rintro ⟨w, hw, e⟩; cases e; exact hw
    · exact fun hw => ⟨v, hw, rfl⟩
  rw [← b, a]
  cases f v <;> simp
theorem DI.nil : DI [] (fun _ => none) := ⟨⟨[], rfl, List.nodup_nil⟩, fun v => rfl⟩
theorem keys_putK {kvs : List (Key × V)} {k : Key} {y : V} : (putK kvs k y).map (·.1) = if (valV kvs k).isSome = true then kvs.map (·.1) else kvs.map (·.1) ++ [k] := by
  cases e : valV kvs k with
  | none => rw [putK_new y e]; simp
  | some x =>
    unfold putK
    rw [valV_any, e]
    simp only [Option.isSome_some, if_true]
    rw [List.map_map]
    refine List.map_congr_left fun p hp => ?_
    show (if p.1 = k then (p.1, y) else p).1 = p.1
    split <;> rfl
theorem DI.put {kvs : List (Key × V)} {f : Int → Option Int} (h : DI kvs f) (k x : Int) : DI (putK kvs (Sum.inl k) (V.int x)) (fun v => if v = k then some x else f v) := by
  obtain ⟨ks, e, nd⟩ := h.ex
  refine ⟨?_, fun v => ?_⟩
  · rw [keys_putK]
    by_cases c : (valV kvs (Sum.inl k)).isSome = true
    · rw [if_pos c]; exact ⟨ks, e, nd⟩
    · rw [if_neg c, e]
      refine ⟨ks ++ [k], by simp, List.nodup_append.mpr ⟨nd, by simp, fun a ha b hb ab => ?_⟩⟩
      have hb := List.mem_singleton.mp hb
      subst hb; subst ab
      refine c ?_
      have := (h.mem e a).mp ha
      rw [h.val a]
      cases q : f a with
      | none => rw [q] at this; cases this
      | some z => rfl
  · rw [valV_put]
    by_cases c : v = k
    · subst c; rw [if_pos rfl, if_pos rfl]; rfl
    · rw [if_neg c, if_neg (fun z => c (by injection z)), h.val v]
theorem DI.get {H : Hp} {a : Addr} {kvs : List (Key × V)} {f : Int → Option Int} (h : DI kvs f) (e : H a = some (.dK kvs)) (v : Int) : DGet H a (.int v) ((f v).map V.int) := by
  have := DGet.k (k := Sum.inl v) e
  rw [h.val v] at this
  exact this
theorem g_dget {td ty : TE} {σ : L2.St} {H : Hp} {Q : VK} (h : td σ H fun x H1 => ty σ H1 fun y H2 => ∃ a v, x = .ref a ∧ DGet H2 a y (some v) ∧ Q v H2) : tDGet td ty σ H Q := h
theorem g_dget2 {td ty tx : TE} {σ : L2.St} {H : Hp} {Q : VK} (h : td σ H fun x H1 => ∃ a, x = .ref a ∧ IsD H1 a ∧ ty σ H1 fun y H2 => tx σ H2 fun z H3 => ∃ o, DGet H3 a y o ∧ Q (o.getD z) H3) : tDGet2 td ty tx σ H Q := h
theorem g_dput {td ty tv : TE} {D : Ends} {σ : L2.St} {H : Hp} (h : tv σ H fun v H1 => td σ H1 fun x H2 => ty σ H2 fun y H3 => ∃ a H4, x = .ref a ∧ DPut H3 a y v H4 ∧ D.nx σ H4) : sDPut td ty tv D σ H := h
theorem g_dnew {σ : L2.St} {H : Hp} {Q : VK} (h : ∀ p, H p = none → Q (.ref p) (upd H p (.dK []))) : tDNewK σ H Q := h
theorem g_dc {wi : TI} {g : TG} {tt : TT} {tk tv : TE} {vs : List Nat} {σ : L2.St} {H : Hp} {Q : VK} (h : wi σ H fun J H1 => ∀ D, H1 D = none → ∃ W : Nat → Nat → Hp → Prop, (∃ m, W 0 m (upd H1 D (.dK []))) ∧ ∀ i m H, W i m H →
  (J.stop i H ∧ Q (.ref D) H) ∨ (J.go i H ∧ ∃ Nx : Hp → Prop, (∀ H', Nx H' → ∃ m', m' < m ∧ W (i + 1) m' H') ∧ ∀ x H', J.yld i H x H' → g x (wipe σ vs) H' fun σ2 H2 => wipe σ2 vs = wipe σ vs ∧ tt σ2 H2 fun b H3 =>
    if b = true then tk σ2 H3 fun y H4 => tv σ2 H4 fun z H5 => ∃ kvs k, y = kV k ∧ H5 D = some (.dK kvs) ∧ kvs.length < sizeLine ∧ Nx (upd H5 D (.dK (putK kvs k z))) else Nx H3)) : tDc wi g tt tk tv vs σ H Q := h
/-- a dict comprehension over a list that stays -/
theorem dc_list {K : PySem.W.Frag} {a : Addr} {xs : List V} {g : TG} {tt : TT} {tk tv : TE} {vs : List Nat} {σ : L2.St} {H1 : Hp} {D : Addr} {Qd : Hp → Prop} (Pv : Nat → Hp → Prop) (h0 : Pv 0 (upd H1 D (.dK []))) (hl : ∀ i H, Pv i H → SqL K H a xs)
    (turn : ∀ i x H, xs[i]? = some x → Pv i H → g x (wipe σ vs) H fun σ2 H2 => wipe σ2 vs = wipe σ vs ∧ tt σ2 H2 fun b H3 =>
      if b = true then tk σ2 H3 fun y H4 => tv σ2 H4 fun z H5 => ∃ kvs k, y = kV k ∧ H5 D = some (.dK kvs) ∧ kvs.length < sizeLine ∧ Pv (i + 1) (upd H5 D (.dK (putK kvs k z))) else Pv (i + 1) H3) (done : ∀ H, Pv xs.length H → Qd H) :
    ∃ W : Nat → Nat → Hp → Prop, (∃ m, W 0 m (upd H1 D (.dK []))) ∧ ∀ i m H, W i m H →
      ((Itl K a).stop i H ∧ Qd H) ∨ ((Itl K a).go i H ∧ ∃ Nx : Hp → Prop, (∀ H', Nx H' → ∃ m', m' < m ∧ W (i + 1) m' H') ∧ ∀ x H', (Itl K a).yld i H x H' → g x (wipe σ vs) H' fun σ2 H2 => wipe σ2 vs = wipe σ vs ∧ tt σ2 H2 fun b H3 =>
        if b = true then tk σ2 H3 fun y H4 => tv σ2 H4 fun z H5 => ∃ kvs k, y = kV k ∧ H5 D = some (.dK kvs) ∧ kvs.length < sizeLine ∧ Nx (upd H5 D (.dK (putK kvs k z))) else Nx H3) := by
  refine ⟨fun i m H => i + m = xs.length ∧ Pv i H, ⟨xs.length, Nat.zero_add _, h0⟩, fun i m H w => ?_⟩
  have sq := hl i H w.2
  cases m with
  | zero =>
    have e : i = xs.length := w.1
    exact .inl ⟨⟨xs, sq, by omega⟩, done H (by rw [← e]; exact w.2)⟩
  | succ m =>
    have lt : i < xs.length := by have := w.1; omega
    refine .inr ⟨⟨xs, xs[i], sq, List.getElem?_eq_getElem lt⟩, Pv (i + 1), fun H' z => ⟨m, Nat.lt_succ_self m, by have := w.1; omega, z⟩, fun x H' y => ?_⟩
    obtain ⟨e, y⟩ := y
    subst e
    exact turn i x _ (y xs sq) w.2
end Rt
namespace Rt
open PySem PySem.Spec L2 PyProof.Rows
theorem g_ifV {c : Bool} {ta tb : TE} {σ : L2.St} {H : Hp} {Q : VK} {x y : V} (ha : ∀ Q' : VK, Q' x H → ta σ H Q') (hb : ∀ Q' : VK, Q' y H → tb σ H Q') (h : Q (if c = true then x else y) H) : if c = true then ta σ H Q else tb σ H Q := by
  cases c with
  | true => exact ha Q h
  | false => exact hb Q h
theorem DI.congr {kvs : List (Key × V)} {f g : Int → Option Int} (h : DI kvs f) (e : ∀ v, f v = g v) : DI kvs g := by
  have : f = g := funext e
  rw [← this]; exact h
theorem tlyK_none {ss ts : List Int} {v : Int} : ∀ n, n ≤ ss.length → v ∉ ss.take n → tlyK ss ts v n = 0
  | 0, _, _ => rfl
  | n + 1, hn, h => by
    rw [take_getD (show n < ss.length by omega), List.mem_append, not_or, List.mem_singleton] at h
    rw [tlyK, tlyK_none n (by omega) h.1, if_neg (fun e => h.2 e.symm)]; rfl
theorem omapD {o : Option Int} : (o.map V.int).getD (V.int 0) = V.int (o.getD 0) := by cases o <;> rfl
theorem mem_of_take {l : List Int} {n : Nat} {v : Int} (h : v ∈ l.take n) : v ∈ l := List.mem_of_mem_take h
theorem DI.len {kvs : List (Key × V)} {f : Int → Option Int} (h : DI kvs f) {ks : List Int} (e : kvs.map (·.1) = ks.map Sum.inl) : ks.length = kvs.length := by
  have := congrArg List.length e
  rw [List.length_map, List.length_map] at this
  exact this.symm
/-- the pairs' values -/
def kyP (l : List (Int × Int)) : List Int := l.map (·.1)
theorem kyP_take {l : List (Int × Int)} {i : Nat} {p : Int × Int} (h : l[i]? = some p) : kyP (l.take (i + 1)) = kyP (l.take i) ++ [p.1] := by
  unfold kyP
  rw [take_more h, List.map_append]; rfl
theorem atL_of {l : List (Int × Int)} (h : AscP l) {i : Nat} {p : Int × Int} (hi : l[i]? = some p) : atL l p.1 = p.2 := by
  refine atL_first hi rfl fun j hj q hq e => ?_
  obtain ⟨li, ei⟩ := List.getElem?_eq_some_iff.mp hi
  obtain ⟨lj, ej⟩ := List.getElem?_eq_some_iff.mp hq
  have := List.pairwise_iff_getElem.mp h j i lj li hj
  rw [ei, ej] at this
  omega
theorem kyP_mem {l : List (Int × Int)} {p : Int × Int} (h : p ∈ l) : p.1 ∈ kyP l := List.mem_map.mpr ⟨p, h, rfl⟩
theorem atL_miss {l : List (Int × Int)} {v : Int} (h : v ∉ kyP l) : atL l v = 0 := atL_no fun p hp e => h (by rw [← e]; exact kyP_mem hp)
/-- what the dict made of the first i pairs holds -/
def dcF (l : List (Int × Int)) (i : Nat) (v : Int) : Option Int := if v ∈ kyP (l.take i) then some (atL l v) else none
theorem dcF_step {l : List (Int × Int)} (h : AscP l) {i : Nat} {p : Int × Int} (hi : l[i]? = some p) (v : Int) : (if v = p.1 then some p.2 else dcF l i v) = dcF l (i + 1) v := by
  unfold dcF
  rw [kyP_take hi]
  by_cases c : v = p.1
  · subst c
    rw [if_pos rfl, if_pos (by simp), atL_of h hi]
  · rw [if_neg c]
    by_cases d : v ∈ kyP (l.take i)
    · rw [if_pos d, if_pos (by simp [d])]
    · rw [if_neg d, if_neg (by simp [d, c])]
theorem dcF_end {l : List (Int × Int)} (v : Int) : (dcF l l.length v).getD 0 = atL l v := by
  unfold dcF
  rw [List.take_length]
  split
  · rfl
  · rename_i c; rw [atL_miss c]; rfl
end Rt
namespace L2
open PySem PySem.Spec PyProof.Rows
section
variable {X : Cx}
theorem sw_trueD {kx vx : Expr} {gs : List Comprehension} {scope : Scope} {pos py : Pos} {y : Str} {l : Nat} {env : Env} (k : env.scope.kind = .function) (z : env.scope.names.lookup y = some .local) (e : (py.line == pos.line) = true) (a : (scope.names.any fun (n, k) => n == y && (k == .local || k == .cell)) = false) :
    swapsWith (.DictComp kx vx gs scope pos) (some (.Name y py)) l env = pure true := by
  have q : env.kindOf y = some .local := z
  have b : env.blockKind = .function := by unfold Env.blockKind; rw [k]; rfl
  unfold swapsWith
  simp only [b, q, a, Expr.pos, e]
  rfl
theorem ps_setDc {i : Nat} {y : Str} {py : Pos} {kx vx tg iter : Expr} {ifs : List Expr} {scope : Scope} {own : List (Str × Nat)} {pos spos : Pos} {wi : TI} {g : TG} {tt : TT} {tk tv : TE} (hc : X.calm = true) (hN : X.N.Nodup) (hy : X.N[i]? = some y) (hyl : X.env.scope.names.lookup y = some .local)
    (sw : swapsWith (.DictComp kx vx [⟨tg, iter, ifs, 0⟩] scope pos) (some (.Name y py)) spos.line X.env = pure true) (hi : PI X tg iter wi) (ok : BlkOk X.N X.env.scope scope own) (hg : ∀ (s : Shared) (H : Hp) (C : Addr) (cl : List (Str × Addr)) (fp : List Addr), PG (X.blk s H scope (compEnvC scope cl C X.env) fp) tg g)
    (ht : ∀ (s : Shared) (H : Hp) (C : Addr) (cl : List (Str × Addr)) (fp : List Addr), PTs (X.blk s H scope (compEnvC scope cl C X.env) fp) ifs tt) (hk : ∀ (s : Shared) (H : Hp) (C : Addr) (cl : List (Str × Addr)) (fp : List Addr), PE (X.blk s H scope (compEnvC scope cl C X.env) fp) kx tk)
    (he : ∀ (s : Shared) (H : Hp) (C : Addr) (cl : List (Str × Addr)) (fp : List Addr), PE (X.blk s H scope (compEnvC scope cl C X.env) fp) vx tv) (hs : ∀ x, foldedSetIterable iter X.env x = pure x := by intro _; rfl) :
    PS X (.Assign [.Name y py] (.DictComp kx vx [⟨tg, iter, ifs, 0⟩] scope pos) spos) (tAsg (tDc wi g tt tk tv (own.map (·.2))) (gName i)) := by
  refine ⟨fun pins s σ H D I hz => ?_⟩
  have h : tDc wi g tt tk tv (own.map (·.2)) σ H (fun x H1 => gName i x σ H1 D.nx) := hz
  rw [exec_Assign_Name_used _ _ _ _ sw]
  refine wpAny_bind (wpAny_standAt (wpAny_bind ?_))
  show wpAny _ X.A (do let _ ← comprehension (.DictComp kx vx [⟨tg, iter, ifs, 0⟩] scope pos) scope X.env (firstIterPos [⟨tg, iter, ifs, 0⟩] pos) newDict false (eval iter X.env) (some (assign (.Name y py) X.env))) _ _ s
  refine wpAny_bind (thn (dc_core (Qf := fun _ s' => SP X pins D .next s') hc hN I hi ok hg ht hk he hs h fun L C s' m H' I' q hn f => ?_) fun _ s' hq => wpAny_pure (wpAny_pure hq))
  show wpAny _ _ (assign (.Name y py) X.env (.ref L)) _ _ _
  refine wpAny_assign_Name (store_ok2 (v := V.ref L) I' hN hy (.inl hyl) rfl (fun s2 I2 ⟨a, sb, ha⟩ => ?_) (.inr hyl))
  obtain ⟨f0, f1, f2, f3, f4, f5⟩ := f
  have nC : C ≠ a := ha.elim (fun z => by rw [z]; exact f1) (fun z e => f4 y a z e.symm)
  exact ⟨m, hn.sameBut sb nC, fun h3 sb3 => ⟨_, H', I2.turned (t' := s2.toks) (fun b o hb e => (sb3.2 b hb).trans e) f0 f1 f3 f4 f5, q⟩⟩
end
end L2
namespace Rt
open PySem PySem.Spec L2 PyProof.Rows
theorem cr_minKL {X : Cx} (K : PySem.W.Frag) (hc : X.calm = true) (h : X.K = K := by rfl) : CallR X (.builtin "min") (rMin K) := by subst h; exact cr_min hc
end Rt
namespace Rt
open PySem PySem.Spec L2 PyProof.Rows
theorem lc_itemsV {K : PySem.W.Frag} {a : Addr} {xs : List V} {g : TG} {te : TE} {vs : List Nat} {σ : L2.St} {H1 : Hp} {D : Addr} {Qd : Hp → Prop} (f : Nat → Int) (hs : SqL K H1 a xs) (hD : H1 D = none) (sz : xs.length ≤ 100000)
    (turn : ∀ (i : Nat) (x : V) (H' : Hp), xs[i]? = some x → Same H1 H' → ∀ Q : VK, (∀ H2, Same H' H2 → Q (.int (f i)) H2) → g x (wipe σ vs) H' fun σ2 H2 => wipe σ2 vs = wipe σ vs ∧ te σ2 H2 Q)
    (done : ∀ H', Same H1 H' → H' D = some (.lst (((List.range xs.length).map f).map V.int)) → Qd H') :
    ∃ W : Nat → Nat → Hp → Prop, (∃ m, W 0 m (upd H1 D (.lst []))) ∧ ∀ i m H, W i m H →
      ((Itl K a).stop i H ∧ Qd H) ∨ ((Itl K a).go i H ∧ ∃ Nx : Hp → Prop, (∀ H', Nx H' → ∃ m', m' < m ∧ W (i + 1) m' H') ∧ ∀ x H', (Itl K a).yld i H x H' → g x (wipe σ vs) H' fun σ2 H2 => wipe σ2 vs = wipe σ vs ∧ tYes σ2 H2 fun b H3 =>
        if b = true then te σ2 H3 fun y H4 => ∃ acc, H4 D = some (.lst acc) ∧ acc.length < sizeLine ∧ Nx (upd H4 D (.lst (acc ++ [y]))) else Nx H3) := by
  refine lc_list (xs := xs) (fun i H' => Same H1 H' ∧ H' D = some (.lst (((List.range i).map f).map V.int))) ⟨Same.new hD, upd_same⟩ (fun i H' _ h => h.1.seq hs) ?_ ?_
  · rintro i y H' hi ⟨S1, hd⟩
    have hil : i < xs.length := (List.getElem?_eq_some_iff.mp hi).1
    refine turn i y H' hi S1 _ fun H2 S2 => ⟨_, S2 _ _ hd, ?_, (S1.trans S2).mut hD, ?_⟩
    · rw [List.length_map, List.length_map, List.length_range]; exact slt1000 (by omega)
    · rw [upd_same, List.range_succ, List.map_append, List.map_append]; rfl
  · rintro H' ⟨S1, hd⟩
    exact done H' S1 hd
end Rt
namespace Rt
open PySem PySem.Spec L2 PyProof.Rows
/-- the slots, told anew -/
theorem g_st {σ : L2.St} {H : Hp} {t : TS} {D : Ends} (σ' : L2.St) (e : σ = σ') (h : t D σ' H) : t D σ H := by rw [e]; exact h
end Rt
set_option Elab.async false
set_option linter.all false
set_option maxRecDepth 100000
set_option maxHeartbeats 4000000
/-! A lambda of one parameter handed to a def; heaps in which only the tables of code objects change. -/
namespace Rt
open PySem PySem.Spec PyProof.Rows L2
open LamX (CodeO TabS Tabs TabB among_app inv_table codeO_ne)
/-! ### all but the tables stay, nothing is freed -/
structure SameT (H H' : Hp) : Prop where
  old : ∀ b o, H b = some o → (∀ ps, o ≠ .tbl ps) → H' b = some o
  tab : ∀ b ps, H b = some (.tbl ps) → ∃ qs, H' b = some (.tbl qs)
theorem SameT.refl (H : Hp) : SameT H H := ⟨fun _ _ h _ => h, fun _ ps h => ⟨ps, h⟩⟩
theorem SameT.trans {H H1 H2 : Hp} (a : SameT H H1) (b : SameT H1 H2) : SameT H H2 := ⟨fun c o h n => b.old c o (a.old c o h n) n, fun c ps h => let ⟨qs, e⟩ := a.tab c ps h; b.tab c qs e⟩
theorem SameT.of {H H' : Hp} (S : Same H H') : SameT H H' := ⟨fun b o h _ => S b o h, fun b ps h => ⟨ps, S b _ h⟩⟩
theorem SameT.free {H H' : Hp} (S : SameT H H') {a : Addr} (h : H' a = none) : H a = none := by
  cases e : H a with
  | none => rfl
  | some o =>
    by_cases t : ∃ ps, o = .tbl ps
    · obtain ⟨ps, rfl⟩ := t
      obtain ⟨qs, z⟩ := S.tab a ps e
      rw [h] at z; cases z
    · have := S.old a o e fun ps q => t ⟨ps, q⟩
      rw [h] at this; cases this
theorem SameT.lst {H H' : Hp} (S : SameT H H') {a : Addr} {xs : List V} (h : H a = some (.lst xs)) : H' a = some (.lst xs) := S.old _ _ h fun _ z => by cases z
theorem SameT.tup {H H' : Hp} (S : SameT H H') {a : Addr} {xs : List V} (h : H a = some (.tup xs)) : H' a = some (.tup xs) := S.old _ _ h fun _ z => by cases z
theorem SameT.ins {H H' : Hp} (S : SameT H H') {a C d : Addr} {fs : List (Str × V)} (h : H a = some (.ins C d fs)) : H' a = some (.ins C d fs) := S.old _ _ h fun _ z => by cases z
theorem SameT.seq {K : PySem.W.Frag} {H H' : Hp} (S : SameT H H') {a : Addr} {xs : List V} (h : SqL K H a xs) : SqL K H' a xs := by
  rcases h with (h | ⟨o, h⟩) | h
  · exact .inl (.inl (S.lst h))
  · exact .inl (.inr ⟨o, S.old _ _ h fun _ z => by cases z⟩)
  · exact .inr h
theorem SameT.sqt {K : PySem.W.Frag} {H H' : Hp} (S : SameT H H') {a : Addr} {xs : List V} (h : SqT K H a xs) : SqT K H' a xs := by
  rcases h with (h | ⟨o, h⟩) | h
  · exact .inl (.inl (S.tup h))
  · exact .inl (.inr ⟨o, S.old _ _ h fun _ z => by cases z⟩)
  · exact .inr h
theorem SameT.mut {H H' : Hp} {p : Addr} {o : HO} (S : SameT H H') (h : H p = none) : SameT H (upd H' p o) := ⟨fun b u e n => by rw [upd_ne (ne_of_none e h)]; exact S.old b u e n, fun b ps e => by
  obtain ⟨qs, z⟩ := S.tab b ps e
  exact ⟨qs, by rw [upd_ne (ne_of_none e h)]; exact z⟩⟩
theorem RA.monoT {N : Addr → Prop} {b : Bool} {H H' : Hp} {xs : List V} {n : Nat} {f : Nat → List Int} (h : RA N b H xs n f) (S : SameT H H') : RA N b H' xs n f := ⟨h.1, fun k hk => let ⟨t, a, c, d⟩ := h.2 k hk; ⟨t, a, c, by
  cases b with
  | true => exact S.tup d
  | false => exact S.lst d⟩⟩
theorem PrA.monoT {N : Addr → Prop} {H H' : Hp} {xs : List V} {l : List (Int × Int)} (h : PrA N H xs l) (S : SameT H H') : PrA N H' xs l := RA.monoT h S
/-! ### the lambda's names -/
structure LamP (sc scope : Scope) (a : Str) : Prop where
  kind : scope.kind = .function
  co : scope.isCoroutine = false
  gen : scope.isGenerator = false
  par : scope.names.lookup a = some .local
  cel : ∀ y ∈ scope.names, y.2 ≠ .cell
  own : ∀ y, scope.names.lookup y = some .local → y = a
  free : ∀ y ∈ scope.names, y.2 = .free → sc.names.lookup y.1 = some .cell ∨ sc.names.lookup y.1 = some .free
def lamPB (sc scope : Scope) (a : Str) : Bool :=
  decide (scope.kind = .function) && (!scope.isCoroutine && (!scope.isGenerator && (decide (scope.names.lookup a = some .local) && scope.names.all fun y => !decide (y.2 = .cell) && ((!decide (y.2 = .local) || decide (y.1 = a)) && (!decide (y.2 = .free) || (decide (sc.names.lookup y.1 = some .cell) || decide (sc.names.lookup y.1 = some .free)))))))
theorem lamP_by {sc scope : Scope} {a : Str} (h : lamPB sc scope a = true) : LamP sc scope a := by
  unfold lamPB at h
  simp only [Bool.and_eq_true, Bool.or_eq_true, Bool.not_eq_true', decide_eq_true_eq, decide_eq_false_iff_not, List.all_eq_true] at h
  obtain ⟨h1, h2, h3, h4, h5⟩ := h
  refine ⟨h1, h2, h3, h4, fun y hy => (h5 y hy).1, fun y e => ?_, fun y hy e => ?_⟩
  · have hm : (y, NameKind.local) ∈ scope.names := PySem.mem_of_lookup e
    rcases (h5 _ hm).2.1 with z | z
    · exact absurd rfl z
    · exact z
  · rcases (h5 y hy).2.2 with z | z
    · exact absurd e z
    · exact z
theorem LamP.has {X : Cx} {scope : Scope} {a : Str} (L : LamP X.env.scope scope a) (ok : X.Ok) : ∀ y ∈ scope.names, y.2 = .free → ∃ c, X.env.cells.lookup y.1 = some c := fun y hy e => (L.free y hy e).elim (fun k => ok.has _ (.inl k)) fun k => ok.has _ (.inr k)
section
variable {X : Cx} {pins : List (Addr × Obj)} {σ : L2.St} {H HZ : Hp} {s s1 : Shared}
/-- a lambda is made: its code object is new, or the table tells it -/
theorem lam_mk {T : List (Addr × Str)} {c P : Addr} {params : Arguments} {body : Expr} {scope : Scope} {pos : Pos} {E : Value → Shared → Prop} {Q : Value → Shared → Prop} (I : Inv X pins σ H s) (TB : TabB X.base X.mg c P) (hcode : X.env.code = .ref c) (hm : (P, X.env.qual ++ "<lambda>") ∈ T)
    (one : ∀ p ∈ T, p.1 = P → p.2 = X.env.qual ++ "<lambda>") (hT : Tabs T H) (dflt : defaultsOf params X.env = ([], [])) (hfree : ∀ y ∈ scope.names, y.2 = .free → ∃ c, X.env.cells.lookup y.1 = some c)
    (h : ∀ (f c' : Addr) (pm ctv : Value) (H1 : Hp) (s' : Shared), Inv X pins σ H1 s' → SameT H H1 → Tabs T H1 → s'.heap.get? f = some (PySem.W.kla_obj "<lambda>" (X.env.qual ++ "<lambda>") params body scope (cloFrom X.env.cells scope.names []) pm c' ctv) → H1 f = none → f ∉ frs X.stack → H1 c' = some (CodeO c' (X.env.qual ++ "<lambda>")) → Q (.ref f) s') :
    wpAny (model X.prog X.w) X.A (eval (.Lambda params body scope pos) X.env) Q E s := by
  obtain ⟨ps, hP, trip, told⟩ := hT _ hm
  refine PySem.W.kla_eval dflt ?_
  have bP : s.heap.BuiltinsAt X.mg P := TB.bm.keeps I.bk
  have atP : s.heap.get? P = some { cls := .none, data := .fields ps } := I.hok P _ hP
  have nofr : ∀ g, s.heap.objs.size ≤ g → g ∉ frs X.stack := fun g hg z => by
    rcases List.mem_cons.mp (I.stkSub _ z) with e | e
    · exact absurd (Nat.lt_of_lt_of_le I.lt hg) (by rw [e]; exact Nat.lt_irrefl _)
    · exact I.nofs hg e
  cases hc : codeAmong pos ps.toList with
  | none =>
    refine PySem.W.kla_makeFunction (mg := X.mg) (c := c) (P := P) (ps := ps) (closure_ok hfree) I.ok.glob (I.mod.glob.keeps I.bk) hcode (TB.code.keeps I.bk) atP trip hc TB.gP bP fun c' ctv h' tk ext ge lt hrec htb => ?_
    obtain ⟨c2, oc, vs, t, e2, hoc, hd, hv⟩ := hrec
    cases e2
    have hsz : s.heap.objs.size ≤ h'.objs.size := Nat.le_trans ge (Nat.le_of_lt lt)
    have nC : H c' = none := I.hok.fresh ge
    have I1 := inv_table (t' := tk) (more := #[rawInt pos.line, rawInt pos.col, .ref c']) (h' := h'.push (PySem.W.kla_obj "<lambda>" (X.env.qual ++ "<lambda>") params body scope (cloFrom X.env.cells scope.names []) ((X.mg "__name__").getD .none) c' ctv)) I hP (fun b o hb e => Heap.get?_push_of_some _ (ext b o hb e)) (Heap.get?_push_of_some _ htb) ge ⟨oc, vs, t, Heap.get?_push_of_some _ hoc, hd, hv⟩
    have hE : SameT H (upd (upd H P (.tbl (ps ++ #[rawInt pos.line, rawInt pos.col, .ref c']))) c' (CodeO c' (X.env.qual ++ "<lambda>"))) := by
      refine ⟨fun b o e n => ?_, fun b qs e => ?_⟩
      · rw [upd_ne (ne_of_none e nC), upd_ne (fun z => n ps (Option.some.inj (e.symm.trans (by rw [z]; exact hP))))]; exact e
      · by_cases hb : b = P
        · exact ⟨_, by rw [upd_ne (ne_of_none e nC), hb, upd_same]⟩
        · exact ⟨qs, by rw [upd_ne (ne_of_none e nC), upd_ne hb]; exact e⟩
    have eL : (ps ++ #[rawInt pos.line, rawInt pos.col, .ref c']).toList = ps.toList ++ [rawInt pos.line, rawInt pos.col, .ref c'] := by simp
    refine h h'.objs.size c' ((X.mg "__name__").getD .none) ctv _ _ I1 hE (fun p hp => ?_) (Heap.get?_push_size _ rfl) ?_ (nofr _ hsz) upd_same
    · by_cases hb : p.1 = P
      · rw [one p hp hb, hb]
        refine ⟨_, by rw [upd_ne (ne_of_none hP nC), upd_same], by rw [eL]; exact PySem.TriplesOk_snoc _ _ _ _ trip, fun p' cv hcv => ?_⟩
        rw [eL] at hcv
        rcases among_app _ trip hcv with z | z
        · obtain ⟨c0, e1, e2⟩ := told p' cv z
          exact ⟨c0, e1, hE.old _ _ e2 codeO_ne⟩
        · exact ⟨c', z, upd_same⟩
      · obtain ⟨qs, b1, b2, b3⟩ := hT p hp
        exact ⟨qs, by rw [upd_ne (ne_of_none b1 nC), upd_ne hb]; exact b1, b2, fun p' cv hcv => let ⟨c0, e1, e2⟩ := b3 p' cv hcv; ⟨c0, e1, hE.old _ _ e2 codeO_ne⟩⟩
    · rw [upd_ne (show h'.objs.size ≠ c' from Nat.ne_of_gt lt), upd_ne (show h'.objs.size ≠ P from Nat.ne_of_gt (Nat.lt_of_lt_of_le (Heap.lt_size atP) hsz))]
      exact I.hok.fresh hsz
  | some cv =>
    obtain ⟨c', e, hco⟩ := told pos cv hc
    subst e
    refine PySem.W.kla_makeFunctionHit (mg := X.mg) (c := c) (P := P) (ps := ps) (closure_ok hfree) I.ok.glob (I.mod.glob.keeps I.bk) hcode (TB.code.keeps I.bk) atP trip hc bP fun ctv h' tk ext hsz => ?_
    have I1 : Inv X pins σ H { s with heap := h'.push (PySem.W.kla_obj "<lambda>" (X.env.qual ++ "<lambda>") params body scope (cloFrom X.env.cells scope.names []) ((X.mg "__name__").getD .none) c' ctv), toks := tk } := I.kept fun b o e => Heap.get?_push_of_some _ (ext b o e)
    exact h h'.objs.size c' ((X.mg "__name__").getD .none) ctv H _ I1 (SameT.refl H) hT (Heap.get?_push_size _ rfl) (I.hok.fresh hsz) (nofr _ hsz) hco
/-- the lambda's own environment -/
abbrev envL (X : Cx) (scope : Scope) (L f c' : Addr) : Env := PySem.W.envX (X.env.qual ++ "<lambda>") scope L f (.ref c') (cloFrom X.env.cells scope.names [])
/-- the context of its body: a, its parameter, in the last slot; nothing leaves it -/
def cxL (X : Cx) (A : Around) (outer : List Env) (s : Shared) (H : Hp) (scope : Scope) (a : Str) (f c' : Addr) : Cx :=
  { prog := X.prog, w := X.w, K := X.K, mg := X.mg, base := X.base, A := A.deeper (envL X scope s.heap.objs.size f c'), N := X.N ++ [a], s_0 := s, H_0 := H, env := envL X scope s.heap.objs.size f c', outer := outer, stack := envL X scope s.heap.objs.size f c' :: outer, ex := [], fn := fun _ => false, calm := true, pn := [], xe := fun _ _ => False }
theorem lam_in {A : Around} {outer : List Env} {scope : Scope} {a : Str} {f c' : Addr} {h₁ : Heap} {tk : Nat} {v : V} {u : Value} (I : Inv X pins σ H s) (L : LamP X.env.scope scope a) (hna : a ∉ X.N) (ru : RelV v u) (e0 : Env0 X.prog X.w X.K X.mg X.base A outer s1 HZ) (calmA : A.handled = none)
    (un : Un (frs X.stack) [] H HZ s.heap s1.heap) (hns : h₁.Ns s1.heap.objs.size fun y => ([(a, u)] : List (Str × Value)).reverse.lookup y) (kp : ∀ b o, s1.heap.get? b = some o → h₁.get? b = some o) : Inv (cxL X A outer s1 HZ scope a f c') [] (σ ++ [some v]) HZ { s1 with heap := h₁, toks := tk } := by
  have hfree := L.has I.ok
  have clo : ∀ {y c}, (cloFrom X.env.cells scope.names []).lookup y = some c → X.env.cells.lookup y = some c := fun {y c} e => by
    rcases cloFrom_mem (PySem.mem_of_lookup e) with hm | ⟨h1, h2⟩
    · cases hm
    · obtain ⟨c1, hc⟩ := hfree _ h1 rfl
      have hc : X.env.cells.lookup y = some c1 := hc
      rw [h2, hc]; rfl
  have look : ∀ {y}, scope.names.lookup y = some .free → ∃ c, (cloFrom X.env.cells scope.names []).lookup y = some c := fun {y} hl => mem_lookup (cloFrom_has (cells := X.env.cells) (acc := []) (PySem.mem_of_lookup hl))
  have cellK : ∀ {c : Addr} {v : Option Value}, H c = none → s.heap.IsCell c v → h₁.IsCell c v := fun {c v} n ⟨o, ho, hd⟩ => let ⟨sl, q⟩ := un.any ho n (by simp); ⟨_, kp _ _ q, hd⟩
  have noA : ∀ b : Addr, b ∉ (cxL X A outer s1 HZ scope a f c').ex := fun b z => absurd (show b ∈ ([] : List Addr) from z) (by simp)
  have nocell : ∀ y, scope.names.lookup y ≠ some .cell := fun y z => L.cel _ (PySem.mem_of_lookup z) rfl
  refine ⟨⟨e0.mod, L.kind, rfl, rfl, Nat.le_refl _, fun y z c e1 e2 => I.ok.inj y z c (clo e1) (clo e2), fun y hy => ?_, fun y c z _ => (by cases (show false = true from z)), fun _ => calmA, Around.frames_deeper e0.frames, .inr ⟨rfl, rfl⟩, fun b z => absurd z (noA b), e0.bs, e0.bsz, fun b _ _ => noA b, fun b z => absurd z (noA b), e0.funs, e0.frf⟩,
    rfl, e0.bare, Un.kept kp, ⟨_, hns, fun i y x e1 e2 e3 => ?_⟩, fun y c e => ?_, e0.hok.fresh (Nat.le_refl _), fun y c e => ?_, fun q hq => absurd (show q ∈ ([] : List (Addr × Obj)) ++ [] from hq) (by simp), e0.hok.kept kp, ?_⟩
  · rcases (show scope.names.lookup y = some .cell ∨ scope.names.lookup y = some .free from hy) with k | k
    · exact absurd k (nocell y)
    · exact look k
  · have e3 : Vis scope y := e3
    have e1 : (X.N ++ [a])[i]? = some y := e1
    have lenN := I.len
    by_cases hi : i < X.N.length
    · rw [List.getElem?_append_left hi] at e1
      rw [List.getElem?_append_left (by omega)] at e2
      have ya : y ≠ a := fun z => hna (by rw [← z]; exact List.mem_of_getElem? e1)
      rcases e3 with k | k | k
      · exact absurd (L.own y k) ya
      · exact absurd k (nocell y)
      · obtain ⟨m, hn, hl⟩ := I.loc
        have vis : Vis X.env.scope y := (L.free _ (PySem.mem_of_lookup k) rfl).elim (fun k => .inr (.inl k)) fun k => .inr (.inr k)
        obtain ⟨w', r, q⟩ := hl i y x e1 e2 vis
        obtain ⟨c2, h2⟩ := look k
        refine ⟨w', r, .inr ⟨.inr k, c2, h2, ?_⟩⟩
        have c1 := clo h2
        rcases q with ⟨k', _⟩ | ⟨_, c3, e', z⟩
        · have k' : X.env.scope.names.lookup y = some .local := k'
          rcases L.free _ (PySem.mem_of_lookup k) rfl with k2 | k2 <;> rw [show X.env.scope.names.lookup y = _ from k2] at k' <;> cases k'
        · rw [c1] at e'
          cases e'
          exact cellK (I.freeC y _ c1) z
    · have il : i = X.N.length := by
        have := (List.getElem?_eq_some_iff.mp e1).1
        rw [List.length_append] at this
        simp at this
        omega
      subst il
      rw [List.getElem?_append_right (Nat.le_refl _), Nat.sub_self] at e1
      rw [List.getElem?_append_right (by omega), show X.N.length - σ.length = 0 by omega] at e2
      cases e1; cases e2
      exact ⟨u, ru, .inl ⟨L.par, by simp [List.lookup]⟩⟩
  · obtain ⟨w', z⟩ := I.cell y c (clo e)
    exact ⟨w', cellK (I.freeC y c (clo e)) z⟩
  · obtain ⟨x, o, ho, hd⟩ := I.cell y c (clo e)
    exact un.free c o ho (I.freeC y c (clo e)) (by simp)
  · show (σ ++ [some v]).length = (X.N ++ [a]).length
    rw [List.length_append, List.length_append, I.len]; rfl
/-- tell(e) in the def that got the lambda: its function at f, its code object at c' -/
def tTell (i : Nat) (f c' : Addr) (q : Str) (tl : V → Hp → VK → Prop) (ta : TA) : TE := fun σ H Q => σ[i]? = some (some (.ref f)) ∧ ta σ H fun vs H1 => ∃ v, vs = [v] ∧ H1 c' = some (CodeO c' q) ∧ tl v H1 Q
theorem pe_tell {Ng : List Str} {qg : Str} {sg : Scope} {g f c' : Addr} {cdg pm ctv : Value} {params : Arguments} {body : Expr} {scope : Scope} {k i : Nat} {a t : Str} {tb : TE} {p1 p2 : Pos} {e : Expr} {ta : TA} (I : Inv X pins σ H s) (L : LamP X.env.scope scope a) (hna : a ∉ X.N)
    (hf : s.heap.get? f = some (PySem.W.kla_obj "<lambda>" (X.env.qual ++ "<lambda>") params body scope (cloFrom X.env.cells scope.names []) pm c' ctv)) (hfn : H f = none) (hfr : f ∉ frs X.stack)
    (bind : ∀ u, bindArgs (PySem.W.kla_fn "<lambda>" (X.env.qual ++ "<lambda>") params body scope (cloFrom X.env.cells scope.names []) pm (.ref c') ctv) ⟨[u], []⟩ = pure [(a, u)]) (hr : Room (k + 1) (X.A.deeper (envOfC qg sg s.heap.objs.size g cdg)))
    (hbody : ∀ (A : Around) (outer : List Env) (s : Shared) (H : Hp), Room k (A.deeper (envL X scope s.heap.objs.size f c')) → PE (cxL X A outer s H scope a f c') body tb) (hN : Ng[i]? = some t) (hv : Vis sg t)
    (ha : PA (cxOf CX0 X.prog X.w X.K X.mg X.base Ng qg sg g cdg X.A X.stack s H E0).nox [e] ta) (hd : (t == ("__debug__" : Str)) = false := by decide) (hcd : (t == ("__classdict__" : Str)) = false := by decide)
    (st : starEach [e] (envOfC qg sg s.heap.objs.size g cdg) = (false, eval e (envOfC qg sg s.heap.objs.size g cdg)) :: starEach [] (envOfC qg sg s.heap.objs.size g cdg) := by rfl) :
    PE (cxOf CX0 X.prog X.w X.K X.mg X.base Ng qg sg g cdg X.A X.stack s H E0).nox (.Call (.Name t p1) [e] [] p2) (tTell i f c' (X.env.qual ++ "<lambda>") (fun v H' Q' => tb (σ ++ [some v]) H' Q') ta) := by
  refine ⟨fun pinsZ sZ σZ HZ Q IZ h => ?_⟩
  obtain ⟨hs, h⟩ := h
  refine wpAny_Call_Name_kw (thn ((pe_var (pos := p1) (i := i) hN hv hd hcd).run pinsZ sZ σZ HZ (fun v H1 => v = .ref f ∧ H1 = HZ) IZ ⟨.ref f, hs, rfl, rfl⟩) fun u s1 ⟨v, H1, I1, r1, q1⟩ => ?_)
  obtain ⟨ev, eH⟩ := q1
  subst ev
  rw [eH] at I1
  obtain rfl : u = Value.ref f := r1
  have fn_at : ∀ {s2 : Shared} {H2 : Hp} {σ2 : L2.St} {pins2 : List (Addr × Obj)}, Inv (cxOf CX0 X.prog X.w X.K X.mg X.base Ng qg sg g cdg X.A X.stack s H E0).nox pins2 σ2 H2 s2 → s2.heap.get? f = some (PySem.W.kla_obj "<lambda>" (X.env.qual ++ "<lambda>") params body scope (cloFrom X.env.cells scope.names []) pm c' ctv) := fun I2 =>
    I2.base.keep f _ hf hfn hfr (fun z => nomatch (show f ∈ ([] : List Addr) from z))
  refine PySem.W.callWith_F ⟨_, _, _, _, fn_at I1⟩ (thn (ha.run p2 pinsZ s1 σZ HZ _ I1 h) fun us s2 got => ?_) st rfl
  obtain ⟨vs, H2, I2, rv, v, rfl, hco, ht⟩ := got
  obtain ⟨u, rfl, ru⟩ := vals1 rv
  have of2 := fn_at I2
  refine ⟨⟨_, _, _, _, of2⟩, ?_⟩
  have un : Un (frs X.stack) [] H H2 s.heap s2.heap := I2.base
  obtain ⟨⟨oc, ws, tk, hoc, hdc, hvc⟩, _, _⟩ := I2.hok c' _ hco
  show wpAny _ _ (call (.ref f) [u]) _ _ _
  have rc : codeAny (model X.prog X.w) (X.A.deeper (envOfC qg sg s.heap.objs.size g cdg)) (.call (.ref f) ⟨[u], []⟩) (CR CX0 (envOfC qg sg s.heap.objs.size g cdg :: X.stack) X.prog X.w H2 s2 Q E0) s2 := by
    refine PySem.W.kla_callFunE hr.depth of2 rfl L.co L.gen rfl ⟨c', oc, ws, tk, rfl, hoc, hdc, hvc⟩ ?_
    rw [bind u]
    refine wpAny_pure (wpAny_newFunctionEnv (fun y hy => L.cel y hy) (fun y hy => by rw [List.mem_singleton.mp hy]; exact L.par) (fun h₁ hns hsb => ⟨I2.nolimit.fresh _ hsb, ?_⟩) L.kind)
    show codeAny _ _ (.expr body (envL X scope s2.heap.objs.size f c')) _ _
    have kp : ∀ b o, s2.heap.get? b = some o → h₁.get? b = some o := fun b o e => hsb.extBut b o (Nat.ne_of_lt (Heap.lt_size e)) (Heap.get?_push_of_some _ e)
    have J : Inv (cxL X (X.A.deeper (envOfC qg sg s.heap.objs.size g cdg)) (envOfC qg sg s.heap.objs.size g cdg :: X.stack) s2 H2 scope a f c') [] (σ ++ [some v]) H2 { s2 with heap := h₁, toks := s2.toks + ([(a, u)] : List (Str × Value)).length } := lam_in I L hna ru I2.env0 hr.hd un hns kp
    refine PySem.W.kla_codeExpr (wpAny_mono ((hbody _ _ s2 H2 (hr.deeper _)).run [] _ _ H2 Q J ht) (fun v s' hq => ?_) fun e s' hq => (show False from hq).elim)
    obtain ⟨w', H', J', rv', q⟩ := hq
    exact ⟨w', H', J'.os, J'.bare, J'.base, J'.hok, rv', q⟩
  refine wpAny_call (codeAny_mono rc fun r s' hq => ?_)
  cases r with
  | error e => exact (show False from hq).elim
  | ok fl =>
    cases fl with
    | ret u => exact I2.after hq
    | next => exact False.elim hq
    | brk => exact False.elim hq
    | cont => exact False.elim hq
/-- what a def of three parameters makes of a lambda that it gets as its third: TT, by what the lambda tells -/
def Gives3 (P : Program) (w : World) (K : PySem.W.Frag) (mg : Str → Option Value) (base : Heap) (A0 : Around) (stk : List Env) (Ng : List Str) (x : Str) (sg : Scope) (g : Addr) (cdg : Value) (bg : List Stmt) (t q : Str) (k : Nat) (TT : (V → Hp → VK → Prop) → V → V → Hp → VK → Prop) : Prop :=
  ∀ (f c' : Addr) (v1 v2 : V) (s : Shared) (H : Hp) (Q : VK) (tl : V → Hp → VK → Prop), Room k (A0.deeper (envOfC x sg s.heap.objs.size g cdg)) →
    (∀ (e : Expr) (ta : TA) (p1 p2 : Pos), PA (cxOf CX0 P w K mg base Ng x sg g cdg A0 stk s H E0).nox [e] ta → starEach [e] (envOfC x sg s.heap.objs.size g cdg) = (false, eval e (envOfC x sg s.heap.objs.size g cdg)) :: starEach [] (envOfC x sg s.heap.objs.size g cdg) →
      PE (cxOf CX0 P w K mg base Ng x sg g cdg A0 stk s H E0).nox (.Call (.Name t p1) [e] [] p2) (tTell 2 f c' q tl ta)) →
    H c' = some (CodeO c' q) → TT tl v1 v2 H Q → ∃ t, PSs (cxOf CX0 P w K mg base Ng x sg g cdg A0 stk s H E0).nox bg t ∧ t { nx := fun _ H' => Q .non H', rt := Q } (L2.start Ng [v1, v2, .ref f]) H
def tLam3 (T : List (Addr × Str)) (TT : (V → Hp → VK → Prop) → V → V → Hp → VK → Prop) (t1 t2 tb : TE) : TE := fun σ H Q => t1 σ H fun v1 H1 => t2 σ H1 fun v2 H2 => Tabs T H2 ∧ ∀ H3, SameT H2 H3 → Tabs T H3 → TT (fun v H' Q' => tb (σ ++ [some v]) H' Q') v1 v2 H3 Q
/-- x(e1, e2, lambda a: body) -/
theorem pe_lam3 {T : List (Addr × Str)} {TT : (V → Hp → VK → Prop) → V → V → Hp → VK → Prop} {x a t a1 a2 : Str} {g c P : Addr} {k : Nat} {pg : Arguments} {bg : List Stmt} {sg : Scope} {dV kV doc pm cdv ct oc : Value} {an od : Option Addr} {osl : Array (Option Value)} {Ng : List Str} {e1 e2 : Expr} {t1 t2 : TE}
    {params : Arguments} {body : Expr} {scope : Scope} {tb : TE} {p lpos pos : Pos} (hg : Gl X x) (hm : X.mg x = some (.ref g)) (hk : PySem.W.keepIn X.K (.ref g) = true) (lk : X.K.lookup g = some ⟨oc, od, .func (PySem.W.fnOf x x pg bg sg dV kV doc pm an cdv ct), osl⟩) (hcg : PySem.W.codeIn X.K cdv x = true)
    (hb : L2.Binds X.K (PySem.W.fnOf x x pg bg sg dV kV doc pm an cdv ct) [a1, a2, t] []) (Sg : FnScope Ng [a1, a2, t] sg) (hNg : Ng[2]? = some t) (hva : Vis sg t) {k0 : Nat} (hk0 : k0 ≤ k + 1) (hG : Gives3 X.prog X.w X.K X.mg X.base X.A X.stack Ng x sg g cdv bg t (X.env.qual ++ "<lambda>") k0 TT) (TB : TabB X.base X.mg c P) (hcode : X.env.code = .ref c)
    (hmT : (P, X.env.qual ++ "<lambda>") ∈ T) (one : ∀ p ∈ T, p.1 = P → p.2 = X.env.qual ++ "<lambda>") (hr : Room (k + 2) X.A) (L : LamP X.env.scope scope a) (hna : a ∉ X.N) (h1 : PE X e1 t1) (h2 : PE X e2 t2) (dflt : defaultsOf params X.env = ([], []))
    (bind : ∀ (q : Str) (cl : List (Str × Addr)) (pm cv ctv u : Value), bindArgs (PySem.W.kla_fn "<lambda>" q params body scope cl pm cv ctv) ⟨[u], []⟩ = pure [(a, u)])
    (hbody : ∀ (A : Around) (outer : List Env) (s : Shared) (H : Hp) (f c' : Addr), Room k (A.deeper (envL X scope s.heap.objs.size f c')) → PE (cxL X A outer s H scope a f c') body tb) (hdb : (x == ("__debug__" : Str)) = false := by decide) (hd : (t == ("__debug__" : Str)) = false := by decide)
    (hcd : (t == ("__classdict__" : Str)) = false := by decide)
    (st0 : starEach [e1, e2, .Lambda params body scope lpos] X.env = (false, eval e1 X.env) :: starEach [e2, .Lambda params body scope lpos] X.env := by rfl) (pl : (backTo pos (starEach [e2, .Lambda params body scope lpos] X.env)).any (·.1) = false := by rfl)
    (bt : backTo pos (starEach [e1, e2, .Lambda params body scope lpos] X.env) = (false, eval e1 X.env) :: (false, eval e2 X.env) :: (false, eval (.Lambda params body scope lpos) X.env) :: backTo pos (starEach [] X.env) := by rfl) :
    PE X (.Call (.Name x p) [e1, e2, .Lambda params body scope lpos] [] pos) (tLam3 T TT t1 t2 tb) := by
  refine ⟨fun pins s σ H Q I h => ?_⟩
  refine wpAny_Call_Name_kw (ld_glob I hg hm ?_ hdb)
  refine PySem.W.callWith_K (h₀ := X.base) I.ok.mod.kin hk ?_ st0 pl
  rw [bt]
  refine Calls.spliced_cons (thn (h1.run pins s σ H _ I h) fun u1 s1 ⟨v1, H1, I1, r1, q1⟩ => ?_)
  refine Calls.spliced_cons (thn (h2.run pins s1 σ H1 _ I1 q1) fun u2 s2 ⟨v2, H2, I2, r2, q2⟩ => ?_)
  obtain ⟨hT, q2⟩ := q2
  refine Calls.spliced_cons (lam_mk I2 TB hcode hmT one hT dflt (L.has I2.ok) fun f c' pm' ctv H3 s' I3 eN T3 hf hfn hfr hco => ?_)
  refine Calls.spliced_nil ⟨I3.kIn, ?_⟩
  have rc : codeAny (model X.prog X.w) X.A (.call (.ref g) ⟨[u1, u2, .ref f], []⟩) (CR CX0 X.stack X.prog X.w H3 s' Q E0) s' := by
    refine LamX.run_ofS (N := Ng) (ps := [a1, a2, t]) (us := [u1, u2, .ref f]) (vs := [v1, v2, .ref f]) lk hcg Sg hr I3.env0 (hb s' [u1, u2, .ref f] I3.kIn rfl) (.cons r1 (.cons r2 (.cons rfl .nil))) rfl fun hr' => ?_
    obtain ⟨t', ht', hq'⟩ := hG f c' v1 v2 s' H3 Q (fun v H' Q' => tb (σ ++ [some v]) H' Q') (hr'.mono hk0) (fun e ta p1 p2 hpa hst => pe_tell (i := 2) I3 L hna hf hfn hfr (fun u => bind _ _ _ _ _ u) hr' (fun A outer s H hr2 => hbody A outer s H f c' hr2) hNg hva hpa hd hcd hst) hco (q2 H3 eN T3)
    exact ⟨t', ht'.nox, hq'⟩
  refine wpAny_call (codeAny_mono rc fun r s2 hq => ?_)
  cases r with
  | error e => exact (show False from hq).elim
  | ok fl =>
    cases fl with
    | ret u => exact I3.after hq
    | next => exact False.elim hq
    | brk => exact False.elim hq
    | cont => exact False.elim hq
end
end Rt

namespace Rt
open PySem PySem.Spec PyProof.Rows L2
open LamX (CodeO TabS Tabs TabB)
/-! ### such a def, by its promise -/
structure GivesD (P : Program) (w : World) (K : PySem.W.Frag) (mg : Str → Option Value) (base : Heap) (k : Nat) (x t : Str) (TT : (V → Hp → VK → Prop) → V → V → Hp → VK → Prop) : Prop where
  ex : ∃ (g : Addr) (oc : Value) (od : Option Addr) (pg : Arguments) (bg : List Stmt) (sg : Scope) (kV doc pm cdv ct : Value) (an : Option Addr) (osl : Array (Option Value)) (Ng : List Str) (a1 a2 : Str), mg x = some (.ref g) ∧ PySem.W.keepIn K (.ref g) = true ∧ K.lookup g = some ⟨oc, od, .func (PySem.W.fnOf x x pg bg sg .none kV doc pm an cdv ct), osl⟩ ∧
    PySem.W.codeIn K cdv x = true ∧ L2.Binds K (PySem.W.fnOf x x pg bg sg .none kV doc pm an cdv ct) [a1, a2, t] [] ∧ FnScope Ng [a1, a2, t] sg ∧ Ng[2]? = some t ∧ Vis sg t ∧ ∀ (A0 : Around) (stk : List Env) (q : Str), Gives3 P w K mg base A0 stk Ng x sg g cdv bg t q k TT
theorem givesD {P : Program} {w : World} {K : PySem.W.Frag} {mg : Str → Option Value} {base : Heap} {k : Nat} {x t a1 a2 : Str} {TT : (V → Hp → VK → Prop) → V → V → Hp → VK → Prop} {st : Stmt} {f : Addr} {fd : FuncData} {Ng : List Str} (g : mg x = some (.ref f)) (F : Fun K x x st f fd) (b : L2.Binds K fd [a1, a2, t] []) (S : FnScope Ng [a1, a2, t] (defScope st)) (hN : Ng[2]? = some t) (hv : Vis (defScope st) t)
    (G : ∀ (cdv : Value) (A0 : Around) (stk : List Env) (q : Str), Gives3 P w K mg base A0 stk Ng x (defScope st) f cdv (defBody st) t q k TT) : GivesD P w K mg base k x t TT := by
  obtain ⟨oc, od, kV, doc, pm, an, cdv, ct, osl, rfl, lk, hcd⟩ := F.ex
  exact ⟨f, oc, od, _, _, _, kV, doc, pm, cdv, ct, an, osl, Ng, a1, a2, g, F.kp, lk, hcd, b, S, hN, hv, G cdv⟩
/-- the table at P of the code object at c tells q alone -/
structure LamT (T : List (Addr × Str)) (P : Addr) (q : Str) : Prop where
  mem : (P, q) ∈ T
  one : ∀ p ∈ T, p.1 = P → p.2 = q
theorem pe_lamD {X : Cx} {T : List (Addr × Str)} {TT : (V → Hp → VK → Prop) → V → V → Hp → VK → Prop} {x a t : Str} {c P : Addr} {k k0 : Nat} {e1 e2 : Expr} {t1 t2 : TE} {params : Arguments} {body : Expr} {scope : Scope} {tb : TE} {p lpos pos : Pos} (D : GivesD X.prog X.w X.K X.mg X.base k0 x t TT) (hk0 : k0 ≤ k + 1) (TB : TabB X.base X.mg c P) (LT : LamT T P (X.env.qual ++ "<lambda>"))
    (hr : Room (k + 2) X.A) (L : LamP X.env.scope scope a) (hna : a ∉ X.N) (h1 : PE X e1 t1) (h2 : PE X e2 t2) (hbody : ∀ (A : Around) (outer : List Env) (s : Shared) (H : Hp) (f c' : Addr), Room k (A.deeper (envL X scope s.heap.objs.size f c')) → PE (cxL X A outer s H scope a f c') body tb) (hcode : X.env.code = .ref c := by rfl) (hg : Gl X x := by rfl) (dflt : defaultsOf params X.env = ([], []) := by rfl)
    (bind : ∀ (q : Str) (cl : List (Str × Addr)) (pm cv ctv u : Value), bindArgs (PySem.W.kla_fn "<lambda>" q params body scope cl pm cv ctv) ⟨[u], []⟩ = pure [(a, u)] := by intros; rfl) (hdb : (x == ("__debug__" : Str)) = false := by decide) (hd : (t == ("__debug__" : Str)) = false := by decide) (hcd : (t == ("__classdict__" : Str)) = false := by decide)
    (st0 : starEach [e1, e2, .Lambda params body scope lpos] X.env = (false, eval e1 X.env) :: starEach [e2, .Lambda params body scope lpos] X.env := by rfl) (pl : (backTo pos (starEach [e2, .Lambda params body scope lpos] X.env)).any (·.1) = false := by rfl)
    (bt : backTo pos (starEach [e1, e2, .Lambda params body scope lpos] X.env) = (false, eval e1 X.env) :: (false, eval e2 X.env) :: (false, eval (.Lambda params body scope lpos) X.env) :: backTo pos (starEach [] X.env) := by rfl) : PE X (.Call (.Name x p) [e1, e2, .Lambda params body scope lpos] [] pos) (tLam3 T TT t1 t2 tb) := by
  obtain ⟨g, oc, od, pg, bg, sg, kV, doc, pm, cdv, ct, an, osl, Ng, a1, a2, hm, hk, lk, hcg, hb, Sg, hNg, hva, G⟩ := D.ex
  exact pe_lam3 hg hm hk lk hcg hb Sg hNg hva hk0 (G X.A X.stack _) TB hcode LT.mem LT.one hr L hna h1 h2 dflt bind hbody hdb hd hcd st0 pl bt
/-! ### a def that makes a lambda: its code object known -/
def codeAt (K : PySem.W.Frag) (f c : Addr) : Bool := match K.lookup f with
  | some ⟨_, _, .func fd, _⟩ => decide (fd.code = .ref c)
  | _ => false
theorem okLN {P : Program} {w : World} {K : PySem.W.Frag} {mg : Str → Option Value} {base : Heap} {x qual : Str} {st : Stmt} {f c : Addr} {fd : FuncData} {N ps : List Str} {k : Nat} {sp : Sp} (F : Fun K x qual st f fd) (S : FnScope N ps (defScope st)) (hc : codeAt K f c = true) (len : ∀ vs H Q E, sp vs H Q E → vs.length = ps.length)
    (hbody : ∀ (A : Around) (outer : List Env) (s : Shared) (H : Hp) (vs : List V) (Q : VK) (E : XK), Room k (A.deeper (PyProof.Rows.envOfC qual (defScope st) s.heap.objs.size f (.ref c))) → sp vs H Q E → ∃ t, PSs (cxOf (L2N.CX P w) P w K mg base N qual (defScope st) f (.ref c) A outer s H E) (defBody st) t ∧ t { nx := fun _ H' => Q .non H', rt := Q } (L2.start N vs) H) : FnOk P w K mg base (L2N.CX P w) (k + 1) f fd ps sp := by
  obtain ⟨oc, od, kV, doc, pm, an, cdv, ct, osl, rfl, lk, hcd⟩ := F.ex
  have e : cdv = .ref c := by
    unfold codeAt at hc
    rw [lk] at hc
    exact of_decide_eq_true hc
  subst e
  exact fn_of lk hcd S len fun A outer s H vs Q E hr hsp => hbody A outer s H vs Q E hr hsp
theorem g_lam3 {T : List (Addr × Str)} {TT : (V → Hp → VK → Prop) → V → V → Hp → VK → Prop} {t1 t2 tb : TE} {σ : L2.St} {H : Hp} {Q : VK} (h : t1 σ H fun v1 H1 => t2 σ H1 fun v2 H2 => Tabs T H2 ∧ ∀ H3, SameT H2 H3 → Tabs T H3 → TT (fun v H' Q' => tb (σ ++ [some v]) H' Q') v1 v2 H3 Q) : tLam3 T TT t1 t2 tb σ H Q := h
theorem g_tell {i : Nat} {f c' : Addr} {q : Str} {tl : V → Hp → VK → Prop} {ta : TA} {σ : L2.St} {H : Hp} {Q : VK} (e : σ[i]? = some (some (.ref f))) (h : ta σ H fun vs H1 => ∃ v, vs = [v] ∧ H1 c' = some (CodeO c' q) ∧ tl v H1 Q) : tTell i f c' q tl ta σ H Q := ⟨e, h⟩
end Rt
set_option Elab.async false
set_option linter.all false
set_option maxRecDepth 100000
set_option maxHeartbeats 4000000
/-! A set of a list of numbers; sorted; a thing in a tuple of things of any depth. -/
namespace Rt
open PySem PySem.Spec PyProof.Rows L2 SS

section
variable {P : Program} {w : World} {A : Around} {E : Value → Shared → Prop} {s : Shared}
set_option maxHeartbeats 3200000 in
theorem set_of_tup {l : Addr} {its : Array Value} (ns : List Int) {Q : Value → Shared → Prop} (hh : A.handled = none) (hl : s.heap.IsTuple l its) (hit : IntsAre its.toList ns) (hb : ns.length + 1 < scanBound)
    (h : ∀ (h' : Heap) (tk c : Nat), SetR w h' s.heap.objs.size (fun j => decide (j ∈ ns)) c → c ≤ ns.length → (∀ b o, s.heap.get? b = some o → h'.get? b = some o) → Q (.ref s.heap.objs.size) { s with heap := h', toks := tk }) :
    wpAny (model P w) A (call (.type "set") [.ref l]) Q E s := by
  have hsz : its.size = ns.length := by have q := IntsAre.length hit; rw [Array.length_toList] at q; exact q
  obtain ⟨c, tl, hmro⟩ := F.called_set.mro; have hmade := F.called_set.made; have hsub := F.called_set.sub
  refine wpAny_call (codeAny_of_tree ?_); show wpAny _ _ (callAny (.type "set") _) _ _ _
  refine wpAny_pure ⟨Code.quiet_builtin _ (by decide +kernel), codeAny_builtin F.entry_type_call ?_⟩; rw [Around.under_plain (weight_type_call_type "set" [.ref l] []) rfl]
  have h1 := F.called_set.notType; have h2 := F.called_set.canCreate; have hct := F.typeCall_set_1 (.ref l)
  repeat (any_goals (first | assumption | wp_step))
  refine codeAny_mono (code_set_led1 (.ref l) (E := E) (Q₁ := fun obj s₁ => obj = .ref s.heap.objs.size ∧ s₁ = { s with heap := s.heap.push (o0 w) }) ⟨rfl, rfl⟩) fun r s₁ hr => ?_
  cases r with
  | error e => exact hr
  | ok fl =>
    cases fl with
    | ret obj =>
      obtain ⟨rfl, rfl⟩ := hr
      have hS : (s.heap.push (o0 w)).get? s.heap.objs.size = some (o0 w) := Heap.get?_push_size _ rfl
      have hT : Shared.TypeIs { s with heap := s.heap.push (o0 w) } (.ref s.heap.objs.size) "set" := ⟨_, hS, rfl⟩
      have hli := F.called_set.init.lookup; have hbi := F.called_set.init.bind (.ref s.heap.objs.size)
      repeat (any_goals (first | assumption | wp_step))
      refine codeAny_mono (codeAny_call_builtin (R := wants (fun r s₂ => r = .none ∧ ∃ h' tk c, s₂ = { s with heap := h', toks := tk } ∧ SetR w h' s.heap.objs.size (fun j => decide (j ∈ ns)) c ∧ c ≤ ns.length ∧ (∀ b o, s.heap.get? b = some o → h'.get? b = some o)) E)
        F.called_set.init.plain F.entry_set_init (check_set_init_1 hT ?_)) fun r₂ s₂ hr₂ => ?_
      · obtain ⟨⟨oc, od, oda, osl⟩, hol, hcl, nl, hdl⟩ := hl
        simp only at hcl hdl; subst hcl; subst hdl
        have hol' : (s.heap.push (o0 w)).get? l = some { cls := .type "tuple", dict := od, data := .seq its nl, slots := osl } := Heap.get?_push_of_some _ hol
        have hsls := F.sub_tuple_set; have hslf := F.sub_tuple_frozenset; have hne : (Value.type "tuple" == Value.type "dict") = false := by decide
        have hl1 : (s.heap.push (o0 w)).IsTuple l its := ⟨_, hol', rfl, nl, rfl⟩
        unfold Builtin.«set.__init__» noKeywords Builtin.Frozenset.updateFrom; generalize hPI : pyIter = PI; wp_walk; subst hPI
        refine wpAny_pyIter_tuple hl1 ?_; refine wpAny_bind (wpAny_runValue ?_)
        have hlS : l < s.heap.objs.size := Heap.lt_size hol; have hh3 : A.in1.in1.in1.handled = none := by simp [hh]
        have hneI : l ≠ (s.heap.push (o0 w)).objs.size := by rw [Heap.size_push]; exact Nat.ne_of_lt (Nat.lt_succ_of_lt hlS)
        have hSf : s.heap.objs.size ∉ [(s.heap.push (o0 w)).objs.size, l] := by
          rw [Heap.size_push]; simp only [List.mem_cons, List.mem_singleton, List.not_mem_nil, or_false, not_or]; exact ⟨Nat.ne_of_lt (Nat.lt_succ_self _), Nat.ne_of_gt hlS⟩
        have hval : ∀ (i : Nat) (v : Value), its[i]? = some v → ∃ k t, ns[i]? = some k ∧ v = .int k t := fun i v hv => by
          have hi : i < ns.length := by rw [← hsz]; exact (Array.getElem?_eq_some_iff.mp hv).1
          obtain ⟨t, e⟩ := IntsAre.int_at hit i v (by rw [Array.getElem?_toList]; exact hv)
          refine ⟨ns[i], t, List.getElem?_eq_getElem hi, ?_⟩; rw [e, List.getD_eq_getElem?_getD, List.getElem?_eq_getElem hi] <;> rfl
        refine set_update_ints ((Walks.tuple hh3 _ l hneI its).toS) s.heap.objs.size hSf ns hsz hb hval (its.size - 0) 0 _ (by omega) (Nat.zero_le _) ⟨⟨_, Heap.get?_push_size _ rfl, rfl, rfl⟩, (hl1.push _)⟩ ?hS0 ?hR
        case hS0 =>
          have hg : ((s.heap.push (o0 w)).push { cls := .type "tuple_iterator", data := .fields #[.ref l, .int 0 0] }).get? s.heap.objs.size = some (o0 w) := Heap.get?_push_of_some _ hS
          exact ⟨0, Nat.le_refl 0, setR_new_at hg⟩
        case hR =>
          intro s' c' hm hc' hS'
          obtain ⟨h', g2, d', tk', os'⟩ := s'
          have eg : g2 = s.gens := hm.gens; have ed : d' = s.drawn := hm.drawn; have eo : os' = s.os := hm.os
          subst eg; subst ed; subst eo; show wpAny _ _ _ _ _ _
          refine wpAny_pure ?_; show wpAny _ _ (ret Value.none) _ _ _
          rw [hsz] at hc'
          refine wpAny_pure ⟨rfl, h', tk', c', rfl, hS', hc', fun b o e => ?_⟩
          have hb0 : b < s.heap.objs.size := Heap.lt_size e; have hb1 : b ≠ s.heap.objs.size := Nat.ne_of_lt hb0
          have hb2 : b ≠ (s.heap.push (o0 w)).objs.size := by rw [Heap.size_push]; exact Nat.ne_of_lt (Nat.lt_succ_of_lt hb0)
          exact hm.heap b o (by simp only [List.mem_cons, List.mem_singleton, List.not_mem_nil, or_false, not_or]; exact ⟨hb1, hb2⟩) (Heap.get?_push_of_some _ (Heap.get?_push_of_some _ e))
      · cases r₂ with
        | error e => exact hr₂
        | ok fl₂ =>
          cases fl₂ with
          | ret r =>
            obtain ⟨rfl, h', tk, c', rfl, hS', hc', hk'⟩ := hr₂; repeat (any_goals (first | assumption | wp_step))
            exact h _ _ _ hS' hc' hk'
          | _ => exact hr₂.elim
    | _ => exact hr.elim
end
section
variable {X : Cx} (K : PySem.W.Frag)
def rSetT1 (K : PySem.W.Frag) (w : World) : List V → Hp → VK → Prop := fun vs H Q => ∃ (a : Addr) (ns : List Int), vs = [.ref a] ∧ SqT K H a (ns.map V.int) ∧ ns.length < 1000 ∧
  ∀ (p : Addr) (c : Nat), H p = none → c ≤ ns.length → Q (.ref p) (upd H p (SetO w p (fun j => decide (j ∈ ns)) c))
theorem cr_setT1 (hc : X.calm = true) (hw : X.w = w := by rfl) (h : X.K = K := by rfl) : CallR X (.type "set") (rSetT1 K w) := by
  subst h; subst hw
  intro pins s σ H vs us Q I r h
  obtain ⟨a, ns, rfl, hs, hn, q⟩ := h
  rw [Vals.ref1 r]
  obtain ⟨its, rv, pl, hz⟩ := I.tuple hs
  refine set_of_tup ns (I.ok.hd hc) (show s.heap.IsTuple _ its.toArray from pl) (by simpa using rv.ints) (by unfold scanBound; omega) fun h' tk c R hcn k => ?_
  exact ⟨.ref s.heap.objs.size, upd H s.heap.objs.size (SetO X.w s.heap.objs.size (fun j => decide (j ∈ ns)) c), I.laid (t' := tk) k (Nat.le_refl _) (setO_new R), rfl, q _ c (I.hok.fresh (Nat.le_refl _)) hcn⟩
end
/-! ### either a list or a tuple -/
section
variable {X : Cx}
theorem pi_or {tg it : Expr} {w1 w2 : TI} (h1 : PI X tg it w1) (h2 : PI X tg it w2) : PI X tg it (fun σ H R => w1 σ H R ∨ w2 σ H R) := ⟨fun pins s σ H R I h => h.elim (h1.run pins s σ H R I) (h2.run pins s σ H R I)⟩
theorem cr_or {f : Value} {r1 r2 : List V → Hp → VK → Prop} (h1 : CallR X f r1) (h2 : CallR X f r2) : CallR X f (fun xs H Q => r1 xs H Q ∨ r2 xs H Q) := fun pins s σ H xs us Q I r h => h.elim (h1 pins s σ H xs us Q I r) (h2 pins s σ H xs us Q I r)
end
end Rt
namespace Rt
open PySem PySem.Spec L2 PyProof.Rows
theorem g_setB {K : PySem.W.Frag} {w : World} {c : Bool} {H : Hp} {Q : VK} {a : Addr} {ns : List Int} (hs : SqB K c H a (ns.map V.int)) (few : ns.length < 1000) (q : ∀ (p : Addr) (k : Nat), H p = none → k ≤ ns.length → Q (.ref p) (upd H p (SetO w p (fun j => decide (j ∈ ns)) k))) : rSetL K w [.ref a] H Q ∨ rSetT1 K w [.ref a] H Q := by
  cases c with
  | true => exact .inr ⟨a, ns, rfl, hs, few, q⟩
  | false => exact .inl ⟨a, ns, rfl, hs, few, q⟩
end Rt
namespace Rt
open PySem PySem.Spec L2 PyProof.Rows
def rInsL : V → List V → Hp → VK → Prop := fun x vs H Q => ∃ (l : Addr) (xs : List V) (i : Int) (y : V), x = .ref l ∧ vs = [.int i, y] ∧ H l = some (.lst xs) ∧ xs.length < sizeLine ∧ 0 ≤ i ∧ i < 2 ^ 63 ∧ Q .non (upd H l (.lst (xs.take i.toNat ++ [y] ++ xs.drop i.toNat)))
theorem pe_insK {X : Cx} (K : PySem.W.Frag) {o e : Expr} {es : List Expr} {ta : TE} {t : TA} {apos cpos : Pos} (ho : PE X o ta) (ha : PA X (e :: es) t) (h : X.K = K := by rfl) (hbase : attributeBase o "insert" X.env (eval o X.env) = eval o X.env := by rfl)
    (hfew : ((backTo cpos (starEach (e :: es) X.env)).all (fun x => !x.1) && (backToKw cpos (keywordEach [] X.env)).all (fun x => x.1.isSome) && decide ((e :: es).length + ([] : List Keyword).length + (if ([] : List Keyword).isEmpty then 0 else 1) < 30)) = true := by rfl)
    (hline : (apos.endLine == cpos.line) = true := by rfl) (hs : starEach (e :: es) X.env = (false, eval e X.env) :: starEach es X.env := by rfl) (hplain : (backTo cpos (starEach es X.env)).any (·.1) = false := by rfl) : PE X (.Call (.Attribute o "insert" apos) (e :: es) [] cpos) (tBM K "list" rInsL ta t) := by
  subst h; exact pe_bm PySem.F.plainAttrs_list PySem.F.slot_list_insert PySem.F.type_list_insert mt_insert ho ha hbase hfew hline hs hplain
theorem g_ins {H : Hp} {l : Addr} {xs : List Int} {i : Nat} {y : Int} {Q : VK} (h : H l = some (.lst (xs.map V.int))) (sz : xs.length ≤ 100000) (hi : i ≤ xs.length) (q : Q .non (upd H l (.lst ((xs.take i ++ [y] ++ xs.drop i).map V.int)))) : rInsL (.ref l) [.int (i : Int), .int y] H Q := by
  refine ⟨l, _, (i : Int), .int y, rfl, rfl, h, by rw [List.length_map]; exact slt1000 sz, by omega, by omega, ?_⟩
  rw [Int.toNat_natCast, ← List.map_take, ← List.map_drop]
  rw [List.map_append, List.map_append] at q
  exact q
end Rt
namespace Rt
open PySem PySem.Spec L2 PyProof.Rows
/-! ### list(range(a, b, c)) -/
def tLstR3 (ta : TA) : TE := fun σ H Q => ta σ H fun vs H1 => ∃ (i j k : Int) (n : Nat), vs = [.int i, .int j, .int k] ∧ RgC i j k n ∧ n ≤ 2 ^ 24 ∧ ∀ q, H1 q = none → Q (.ref q) (upd H1 q (.lst ((List.range n).map fun t : Nat => V.int (i + (t : Int) * k))))
theorem g_lstR3 {ta : TA} {σ : L2.St} {H : Hp} {Q : VK} (h : ta σ H fun vs H1 => ∃ (i j k : Int) (n : Nat), vs = [.int i, .int j, .int k] ∧ RgC i j k n ∧ n ≤ 2 ^ 24 ∧ ∀ q, H1 q = none → Q (.ref q) (upd H1 q (.lst ((List.range n).map fun t : Nat => V.int (i + (t : Int) * k))))) : tLstR3 ta σ H Q := h
theorem pe_listRg3 {X : Cx} {a b c : Expr} {ta : TA} {p p2 pos pos2 : Pos} (calm : X.calm = true) (hg : Gl X "list") (hm : X.mg "list" = none) (hg2 : Gl X "range") (hm2 : X.mg "range" = none) (ha : PA X [a, b, c] ta)
    (hs : starEach [a, b, c] X.env = (false, eval a X.env) :: starEach [b, c] X.env := by rfl) (hpl : (backTo pos2 (starEach [b, c] X.env)).any (·.1) = false := by rfl)
    (na : starEach [.Call (.Name "range" p2) [a, b, c] [] pos2] X.env = (false, eval (.Call (.Name "range" p2) [a, b, c] [] pos2) X.env) :: starEach [] X.env := by rfl) : PE X (.Call (.Name "list" p) [.Call (.Name "range" p2) [a, b, c] [] pos2] [] pos) (tLstR3 ta) := by
  refine ⟨fun pins s σ H Q I h => Call_ (ld_blt I hg hm boot_list (PyProof.Rows.callWith_type1 (args_cons (Call_ (ld_blt I hg2 hm2 boot_range (PyProof.Rows.callWith_type1 (thn (ha.run pos2 pins s σ H _ I h) fun us s1 ⟨vs, H1, I1, r1, q1⟩ => ?_) hs hpl))) na) na rfl))⟩
  obtain ⟨i, j, k, n, e, ⟨c0, c1, c2, c3⟩, few, q⟩ := q1
  subst e
  cases r1 with
  | cons r rr =>
    cases rr with
    | cons r' rr =>
      cases rr with
      | cons r'' rr =>
        cases rr
        obtain ⟨t, rfl⟩ := r
        obtain ⟨t', rfl⟩ := r'
        obtain ⟨t'', rfl⟩ := r''
        refine call_range_3 c0 ?_ (.inl (PyProof.noPylong_small c1))
        refine args_nil ?_
        have I2 : Inv X pins σ H1 { s1 with heap := s1.heap.push { cls := .type "range", data := .fields #[.int i t, .int j t', .int k t''] } } := I1.kept (t' := s1.toks) fun b o e => Heap.get?_push_of_some _ e
        refine call_list_range (n := n) (I2.ok.hd calm) (IsRange.new ..) c2 c3 few fun h' tk acc c' hk e' hi => ?_
        refine ⟨.ref _, upd H1 _ (.lst ((List.range n).map fun t : Nat => V.int (i + (t : Int) * k))), I2.laid hk (Nat.le_refl _) ⟨by rw [List.length_map, List.length_range, sizeLine_eq]; omega, acc.toList, c', ?_, by rw [Array.toArray_toList]; exact e'⟩, rfl, q _ (I2.hok.fresh (Nat.le_refl _))⟩
        have hn : acc.toList.length = n := by rw [Array.length_toList]; exact hi.1
        rw [← hn]
        refine vals_of_get acc.toList _ fun m u hj => ?_
        obtain ⟨t, e⟩ := hi.2 m u (by rw [← hj, Array.getElem?_toList])
        exact ⟨t, e⟩
end Rt
set_option Elab.async false
set_option linter.all false
set_option maxRecDepth 100000
set_option maxHeartbeats 4000000
/-! Rows of ints in the heap; what a handful changes (k04 and the laws over wakings). -/
namespace Rt
open PySem PySem.Spec L2
/-! ### rows told as a list -/
def RW (N : Addr → Prop) (b : Bool) (H : Hp) (xs : List V) (l : List (List Int)) : Prop := RA N b H xs l.length fun k => l.getD k []
section
variable {N M : Addr → Prop} {b : Bool} {H H' : Hp} {xs : List V} {l : List (List Int)}
theorem RW.nil : RW N b H [] [] := RA.nil
theorem RW.mono (h : RW N b H xs l) (S : Same H H') : RW N b H' xs l := RA.mono h S
theorem RW.monoT (h : RW N b H xs l) (S : SameT H H') : RW N b H' xs l := RA.monoT h S
theorem RW.weak (h : RW N b H xs l) (w : ∀ t, N t → M t) : RW M b H xs l := RA.weak h w
theorem RW.upd {a : Addr} {o : HO} (h : RW N b H xs l) (w : ∀ t, N t → t ≠ a) : RW N b (upd H a o) xs l := RA.upd h w
theorem RW.len (h : RW N b H xs l) : xs.length = l.length := h.1
theorem RW.more {t : Addr} {row : List Int} (h : RW N b H xs l) (c : N t) (ht : H t = some (if b = true then .tup (row.map V.int) else .lst (row.map V.int))) : RW N b H (xs ++ [V.ref t]) (l ++ [row]) := by
  unfold RW
  rw [show (l ++ [row]).length = l.length + 1 by simp]
  refine RA.more (RA.congr h fun k hk => ?_) c ?_
  · rw [List.getD_eq_getElem?_getD, List.getD_eq_getElem?_getD, List.getElem?_append_left hk]
  · rw [show (l ++ [row]).getD l.length [] = row by rw [List.getD_eq_getElem?_getD, List.getElem?_append_right (Nat.le_refl _), Nat.sub_self]; rfl]
    exact ht
theorem RW.at_ (h : RW N b H xs l) {k : Nat} {row : List Int} (hk : l[k]? = some row) : ∃ t : Addr, xs[k]? = some (V.ref t) ∧ N t ∧ H t = some (if b = true then .tup (row.map V.int) else .lst (row.map V.int)) := by
  obtain ⟨t, a, c, d⟩ := h.2 k (List.getElem?_eq_some_iff.mp hk).1
  dsimp only at d
  rw [List.getD_eq_getElem?_getD, hk] at d
  exact ⟨t, a, c, d⟩
theorem RW.of (h : RW N b H xs l) {k : Nat} {x : V} (hx : xs[k]? = some x) : ∃ (row : List Int) (t : Addr), l[k]? = some row ∧ x = .ref t ∧ N t ∧ H t = some (if b = true then .tup (row.map V.int) else .lst (row.map V.int)) := by
  have hk : k < l.length := by rw [← h.len]; exact (List.getElem?_eq_some_iff.mp hx).1
  obtain ⟨t, a, c, d⟩ := h.at_ (List.getElem?_eq_getElem hk)
  rw [hx] at a
  exact ⟨_, t, List.getElem?_eq_getElem hk, Option.some.inj a, c, d⟩
end
/-! ### what a handful changes -/
/-- the rows (place, before, after) of the first i places of a handful, ascending, each once -/
def chgP (ss : List Int) (aft : Int → Int) (qs : List Int) (i : Nat) : List (List Int) := (((ascI qs).take i).filter fun q => decide (aft q ≠ ss.getD q.toNat 0)).map fun q => [q, ss.getD q.toNat 0, aft q]
def chgL (ss : List Int) (aft : Int → Int) (qs : List Int) : List (List Int) := chgP ss aft qs (ascI qs).length
theorem chgP_step {ss : List Int} {aft : Int → Int} {qs : List Int} {i : Nat} {q : Int} (h : (ascI qs)[i]? = some q) : chgP ss aft qs (i + 1) = chgP ss aft qs i ++ (if aft q = ss.getD q.toNat 0 then [] else [[q, ss.getD q.toNat 0, aft q]]) := by
  unfold chgP
  rw [take_more h, List.filter_append, List.map_append]
  congr 1
  rw [List.filter_cons]
  by_cases c : aft q = ss.getD q.toNat 0
  · rw [if_pos c, if_neg (by simpa using c)]; rfl
  · rw [if_neg c, if_pos (by simpa using c)]; rfl
theorem chgP_len {ss : List Int} {aft : Int → Int} {qs : List Int} (i : Nat) : (chgP ss aft qs i).length ≤ qs.length := by
  unfold chgP
  rw [List.length_map]
  have a := List.length_filter_le (fun q => decide (aft q ≠ ss.getD q.toNat 0)) ((ascI qs).take i)
  have b := ascI_len qs
  rw [List.length_take] at a
  omega
/-- the same by the places of the standing -/
def chgR (ss es : List Int) (n : Nat) : List (List Int) := ((List.range n).filter fun k => decide (es.getD k 0 ≠ ss.getD k 0)).map fun k : Nat => [(k : Int), ss.getD k 0, es.getD k 0]
theorem chgR_step {ss es : List Int} {n : Nat} : chgR ss es (n + 1) = chgR ss es n ++ (if es.getD n 0 = ss.getD n 0 then [] else [[(n : Int), ss.getD n 0, es.getD n 0]]) := by
  unfold chgR
  rw [List.range_succ, List.filter_append, List.map_append]
  congr 1
  rw [List.filter_cons]
  by_cases c : es.getD n 0 = ss.getD n 0
  · rw [if_pos c, if_neg (by simpa using c)]; rfl
  · rw [if_neg c, if_pos (by simpa using c)]; rfl
theorem chgR_len {ss es : List Int} {n : Nat} : (chgR ss es n).length ≤ n := by
  unfold chgR
  rw [List.length_map]
  have := List.length_filter_le (fun k => decide (es.getD k 0 ≠ ss.getD k 0)) (List.range n)
  rw [List.length_range] at this; exact this
theorem ascI_range {qs : List Int} {n : Nat} (h : ∀ q ∈ qs, 0 ≤ q ∧ q < (n : Int)) : ascI qs = ((List.range n).filter fun k : Nat => decide ((k : Int) ∈ qs)).map fun k : Nat => (k : Int) := by
  refine (ascI_eq ?_ fun a => ?_).symm
  · rw [List.pairwise_map]
    have : ((List.range n).filter fun k : Nat => decide ((k : Int) ∈ qs)).Pairwise (· < ·) := List.pairwise_lt_range.sublist List.filter_sublist
    exact this.imp fun {a b} z => by omega
  · rw [List.mem_map]
    constructor
    · rintro ⟨k, hk, rfl⟩
      exact of_decide_eq_true (List.mem_filter.mp hk).2
    · intro ha
      have := h a ha
      exact ⟨a.toNat, List.mem_filter.mpr ⟨List.mem_range.mpr (by omega), by rw [Int.toNat_of_nonneg this.1]; exact decide_eq_true ha⟩, Int.toNat_of_nonneg this.1⟩
theorem chg_eq {ss es : List Int} {aft : Int → Int} {qs : List Int} {n : Nat} (h : ∀ q ∈ qs, 0 ≤ q ∧ q < (n : Int)) (he : ∀ k : Nat, k < n → es.getD k 0 = if (k : Int) ∈ qs then aft (k : Int) else ss.getD k 0) : chgL ss aft qs = chgR ss es n := by
  unfold chgL chgP chgR
  rw [List.take_length, ascI_range h, List.filter_map, List.map_map, List.filter_filter]
  have e1 : ((List.range n).filter fun k : Nat => decide ((k : Int) ∈ qs) && ((fun q => decide (aft q ≠ ss.getD q.toNat 0)) ∘ fun k : Nat => (k : Int)) k) = (List.range n).filter fun k => decide (es.getD k 0 ≠ ss.getD k 0) := by
    refine List.filter_congr fun k hk => ?_
    rw [he k (List.mem_range.mp hk)]
    by_cases c : (k : Int) ∈ qs
    · rw [if_pos c]; simp [c]
    · rw [if_neg c]; simp [c]
  have e2 : ((List.range n).filter fun k : Nat => ((fun q => decide (aft q ≠ ss.getD q.toNat 0)) ∘ fun k : Nat => (k : Int)) k && decide ((k : Int) ∈ qs)) = (List.range n).filter fun k => decide (es.getD k 0 ≠ ss.getD k 0) := by
    rw [← e1]
    exact List.filter_congr fun k _ => Bool.and_comm _ _
  first | rw [e1] | rw [e2]
  refine List.map_congr_left fun k hk => ?_
  obtain ⟨h1, h2⟩ := List.mem_filter.mp hk
  have hn := List.mem_range.mp h1
  have ne : es.getD k 0 ≠ ss.getD k 0 := by simpa using h2
  have e := he k hn
  by_cases c : (k : Int) ∈ qs
  · rw [if_pos c] at e
    show [(k : Int), ss.getD (k : Int).toNat 0, aft (k : Int)] = _
    rw [Int.toNat_natCast, e]
  · rw [if_neg c] at e
    exact absurd e ne
/-- the strengths with the changes done -/
def doC (ss : List Int) (l : List (List Int)) : List Int := l.foldl (fun e row => e.set (row.getD 0 0).toNat (row.getD 2 0)) ss
theorem doC_len {l : List (List Int)} : ∀ {ss : List Int}, (doC ss l).length = ss.length := by
  unfold doC
  induction l with
  | nil => intro ss; rfl
  | cons row l ih => intro ss; rw [List.foldl_cons, ih, List.length_set]
theorem doC_app {ss : List Int} {l : List (List Int)} {row : List Int} : doC ss (l ++ [row]) = (doC ss l).set (row.getD 0 0).toNat (row.getD 2 0) := by
  unfold doC
  rw [List.foldl_append]; rfl
theorem doC_chg {ss es : List Int} (hl : es.length = ss.length) : ∀ n, n ≤ ss.length → ∀ k, (doC ss (chgR ss es n)).getD k 0 = if k < n then es.getD k 0 else ss.getD k 0
  | 0, _, k => by rw [if_neg (Nat.not_lt_zero k)]; rfl
  | n + 1, hn, k => by
    have ih := doC_chg hl n (by omega) k
    rw [chgR_step]
    by_cases c : es.getD n 0 = ss.getD n 0
    · rw [if_pos c, List.append_nil, ih]
      by_cases d : k < n
      · rw [if_pos d, if_pos (by omega)]
      · rw [if_neg d]
        by_cases e : k = n
        · subst e; rw [if_pos (by omega), c]
        · rw [if_neg (by omega)]
    · rw [if_neg c, doC_app]
      show ((doC ss (chgR ss es n)).set ((n : Int).toNat) (es.getD n 0)).getD k 0 = _
      rw [Int.toNat_natCast, getD_set (by rw [doC_len]; omega), ih]
      by_cases e : k = n
      · subst e; rw [if_pos rfl, if_pos (by omega)]
      · rw [if_neg e]
        by_cases d : k < n
        · rw [if_pos d, if_pos (by omega)]
        · rw [if_neg d, if_neg (by omega)]
theorem doC_all {ss es : List Int} (hl : es.length = ss.length) : doC ss (chgR ss es ss.length) = es := by
  refine ext_getD (by rw [doC_len, hl]) fun k hk => ?_
  rw [doC_len] at hk
  rw [doC_chg hl _ (Nat.le_refl _), if_pos hk]
/-- the first that is no place -/
def badQ (n : Int) (qs : List Int) : Option Int := qs.find? fun q => !(decide (0 ≤ q) && decide (q < n))
theorem badQ_none {n : Int} {qs : List Int} (h : ∀ q ∈ qs, 0 ≤ q ∧ q < n) : badQ n qs = none := List.find?_eq_none.mpr fun q hq => by
  have := h q hq
  simp; omega
theorem good_of {n : Int} {qs : List Int} (h : badQ n qs = none) : ∀ q ∈ qs, 0 ≤ q ∧ q < n := fun q hq => by
  have := List.find?_eq_none.mp h q hq
  simp at this
  exact this
end Rt
namespace Rt
open PySem PySem.Spec L2
/-- the standing behind a handful -/
def wkS (r : Bool) (ss ls : List Int) (qs : List Int) : List Int := (List.range ss.length).map fun k : Nat => if (k : Int) ∈ qs then rch r ss ls k else ss.getD k 0
theorem wkS_len {r : Bool} {ss ls qs : List Int} : (wkS r ss ls qs).length = ss.length := by unfold wkS; rw [List.length_map, List.length_range]
theorem wkS_at {r : Bool} {ss ls qs : List Int} {k : Nat} (hk : k < ss.length) : (wkS r ss ls qs).getD k 0 = if (k : Int) ∈ qs then rch r ss ls k else ss.getD k 0 := by
  unfold wkS
  rw [List.getD_eq_getElem?_getD, List.getElem?_map, List.getElem?_range hk]; rfl
theorem wkS_congr {r : Bool} {ss ls qs qt : List Int} (h : ∀ q, q ∈ qs ↔ q ∈ qt) : wkS r ss ls qs = wkS r ss ls qt := by
  unfold wkS
  refine List.map_congr_left fun k _ => ?_
  by_cases c : (k : Int) ∈ qs
  · rw [if_pos c, if_pos ((h _).mp c)]
  · rw [if_neg c, if_neg (fun z => c ((h _).mpr z))]
theorem chg_wkS {r : Bool} {ss ls qs : List Int} (h : ∀ q ∈ qs, 0 ≤ q ∧ q < (ss.length : Int)) : chgL ss (fun q => rch r ss ls q.toNat) qs = chgR ss (wkS r ss ls qs) ss.length := by
  refine chg_eq h fun k hk => ?_
  rw [wkS_at hk]
  rfl
theorem chgR_row {ss es : List Int} {n : Nat} (hn : n ≤ ss.length) : ∀ row ∈ chgR ss es n, ∃ (p : Nat) (b a : Int), row = [(p : Int), b, a] ∧ p < ss.length := fun row h => by
  obtain ⟨k, hk, rfl⟩ := List.mem_map.mp h
  have := List.mem_range.mp (List.mem_filter.mp hk).1
  exact ⟨k, _, _, rfl, by omega⟩
theorem doC_wkS {r : Bool} {ss ls qs : List Int} (h : ∀ q ∈ qs, 0 ≤ q ∧ q < (ss.length : Int)) : doC ss (chgL ss (fun q => rch r ss ls q.toNat) qs) = wkS r ss ls qs := by
  rw [chg_wkS h]
  exact doC_all wkS_len
/-- the restless, the hungry -/
def rsN (r : Bool) (ss ls : List Int) (n : Nat) : List Nat := (List.range n).filter fun k => decide (rch r ss ls k ≠ ss.getD k 0)
def hgN (r : Bool) (ss ls : List Int) (n : Nat) : List Nat := (List.range n).filter fun k => decide (ss.getD k 0 < rch r ss ls k)
theorem filt_len {p : Nat → Bool} {n : Nat} : ((List.range n).filter p).length ≤ n := by
  have := List.length_filter_le p (List.range n)
  rw [List.length_range] at this; exact this
theorem filt_step {p : Nat → Bool} {n : Nat} : (List.range (n + 1)).filter p = (List.range n).filter p ++ (if p n = true then [n] else []) := by
  rw [List.range_succ, List.filter_append]
  congr 1
  rw [List.filter_cons]
  split <;> rfl
theorem nI_app {l m : List Nat} : nI (l ++ m) = nI l ++ nI m := by unfold nI; rw [List.map_append]
theorem nI_len {l : List Nat} : (nI l).length = l.length := by unfold nI; rw [List.length_map]
end Rt
namespace Rt
open PySem PySem.Spec L2
theorem hg_rs {r : Bool} {ss ls : List Int} {n : Nat} : (rsN r ss ls n).filter (fun k => decide (ss.getD k 0 < rch r ss ls k)) = hgN r ss ls n := by
  unfold rsN hgN
  rw [List.filter_filter]
  refine List.filter_congr fun k _ => ?_
  by_cases c : ss.getD k 0 < rch r ss ls k
  · rw [decide_eq_true c, decide_eq_true (show rch r ss ls k ≠ ss.getD k 0 by omega)]; rfl
  · rw [decide_eq_false c]; first | rfl | exact Bool.and_false _ | exact Bool.false_and _
def badP (n : Int) (q : Int) : Bool := !(decide (0 ≤ q) && decide (q < n))
theorem badQ_head {n : Int} {qs : List Int} : badQ n qs = (qs.filter (badP n)).head? := by
  rw [List.head?_filter]; rfl
theorem badP_or {n q : Int} : (decide (q < 0) || decide (n ≤ q)) = badP n q := by
  unfold badP
  by_cases a : 0 ≤ q <;> by_cases b : q < n
  · rw [decide_eq_true a, decide_eq_true b, decide_eq_false (by omega), decide_eq_false (by omega)]; rfl
  · rw [decide_eq_true a, decide_eq_false b, decide_eq_false (by omega), decide_eq_true (by omega)]; rfl
  · rw [decide_eq_false a, decide_eq_true b, decide_eq_true (by omega)]; rfl
  · rw [decide_eq_false a, decide_eq_false b, decide_eq_true (by omega)]; rfl
end Rt
set_option Elab.async false
set_option linter.all false
set_option maxRecDepth 100000
set_option maxHeartbeats 4000000
/-! A + B and A * n of an own class; a method without arguments. -/
namespace Rt
open PySem PySem.Spec PyProof.Rows L2
/-- an operator of the class at C, by what its def promises -/
structure OpD (P : Program) (w : World) (K : PySem.W.Frag) (mg : Str → Option Value) (base : Heap) (CX : CXT) (k : Nat) (C : Addr) (nm : Str) (sp : Sp) : Prop where
  first : PySem.W.selfFirst K C = true
  ex : ∃ (f : Addr) (fd : FuncData), PySem.W.findIn K (.ref C) nm = some (some (.ref f)) ∧ PySem.W.isFn K (.ref f) = true ∧ FnOk P w K mg base CX k f fd ["self", "other"] sp ∧ L2.Binds K fd ["self", "other"] []
/-- x op y, both of the class at C -/
def rOpO (C : Addr) (sp : Sp) (E : XK) : R2 := fun x y H Q => ∃ (a b dx dy : Addr) (fs gs : List (Str × V)), x = .ref a ∧ y = .ref b ∧ H a = some (.ins C dx fs) ∧ H b = some (.ins C dy gs) ∧ sp [.ref a, .ref b] H (fun v H' => ∃ r : Addr, v = .ref r ∧ Q (.ref r) H') E
theorem cmpBack_ref {X : Cx} {pins : List (Addr × Obj)} {σ : L2.St} {Q : VK} {v : Value} {s' : Shared} (h : EP X pins σ (fun v H' => ∃ r : Addr, v = .ref r ∧ Q (.ref r) H') v s') : PySem.W.CmpBack (EP X pins σ Q) v s' := by
  obtain ⟨y, H', I', rv, r, rfl, q⟩ := h
  cases rv
  exact ⟨.ref r, H', I', rfl, q⟩
theorem op_addO {X : Cx} {CX : CXT} {k : Nat} {C : Addr} {sp : Sp} {E : XK} (D : OpD X.prog X.w X.K X.mg X.base CX k C "__add__" sp) (hr : Room k X.A) (hx : L2.Passes CX X E) : OpR X (binaryOp .Add) (rOpO C sp E) := by
  intro pins s σ H x y v u Q I rx ry h
  obtain ⟨a, b, dx, dy, fs, gs, rfl, rfl, ha, hb, hsp⟩ := h
  cases rx
  cases ry
  obtain ⟨f, fd, at_, fn, F, bd⟩ := D.ex
  obtain ⟨mA, J, _⟩ := ins_get I.hok ha
  obtain ⟨od, J, _⟩ := J.look
  obtain ⟨mB, JB, _⟩ := ins_get I.hok hb
  obtain ⟨ob, JB, _⟩ := JB.look
  obtain ⟨m0, hF⟩ := I.fr
  refine PySem.W.binop_K hF I.ok.mod.kin J JB.type D.first at_ fn ?_
  exact wpAny_mono (run_fn' F hr rfl bd hx I (us := [.ref a, .ref b]) (vs := [V.ref a, V.ref b]) (.cons rfl (.cons rfl .nil)) hsp) (fun v s' hv => cmpBack_ref hv) fun _ _ z => z
/-- x * n, x of the class at C -/
def rOpI (C : Addr) (sp : Sp) (E : XK) : R2 := fun x y H Q => ∃ (a dx : Addr) (fs : List (Str × V)) (n : Int), x = .ref a ∧ y = .int n ∧ H a = some (.ins C dx fs) ∧ sp [.ref a, .int n] H (fun v H' => ∃ r : Addr, v = .ref r ∧ Q (.ref r) H') E
structure MulD (K : PySem.W.Frag) (C : Addr) : Prop where
  rc : PySem.W.findIn K (.ref C) "__rmul__" = some none
  h1 : ∃ fo, PySem.W.findIn K (.type "int") "__mul__" = some fo
  h2 : ∃ ro, PySem.W.findIn K (.type "int") "__rmul__" = some ro
  sub : PySem.W.subIn K (.type "int") (.ref C) = some false
theorem op_mulO {X : Cx} {CX : CXT} {k : Nat} {C : Addr} {sp : Sp} {E : XK} (D : OpD X.prog X.w X.K X.mg X.base CX k C "__mul__" sp) (Z : MulD X.K C) (hr : Room k X.A) (hx : L2.Passes CX X E) : OpR X (binaryOp .Mult) (rOpI C sp E) := by
  intro pins s σ H x y v u Q I rx ry h
  obtain ⟨a, dx, fs, n, rfl, rfl, ha, hsp⟩ := h
  cases rx
  obtain ⟨t, rfl⟩ := ry
  obtain ⟨f, fd, at_, fn, F, bd⟩ := D.ex
  obtain ⟨fo, h1⟩ := Z.h1
  obtain ⟨ro, h2⟩ := Z.h2
  obtain ⟨mA, J, _⟩ := ins_get I.hok ha
  obtain ⟨od, J, _⟩ := J.look
  obtain ⟨m0, hF⟩ := I.fr
  refine PySem.W.ksp_binT (T := "int") hF I.ok.mod.kin J rfl D.first at_ fn Z.rc (.inl rfl) h1 h2 Z.sub ?_
  exact wpAny_mono (run_fn' F hr rfl bd hx I (us := [.ref a, .int n t]) (vs := [V.ref a, V.int n]) (.cons rfl (.cons ⟨t, rfl⟩ .nil)) hsp) (fun v s' hv => cmpBack_ref hv) fun _ _ z => z
/-- o.m() -/
theorem pe_methD0 {X : Cx} {CX : CXT} {k : Nat} {C : Addr} {m : Str} {ps : List Str} {sp : Sp} {E : XK} {o : Expr} {ta : TE} {apos pos : Pos} {pl : Sem Bool} (D : MethD X.prog X.w X.K X.mg X.base CX k C m ps sp) (hr : Room k X.A) (hx : L2.Passes CX X E) (he : PE X o ta)
    (ht : eval (.Call (.Attribute o m apos) [] [] pos) X.env = (do let ov ← eval o X.env; standAt apos.atName; let (f, first) ← holding [ov] (getMethod ov m pl); callWith pos f first (backTo pos (starEach [] X.env)) (backToKw pos (keywordEach [] X.env))) := by rfl) :
    PE X (.Call (.Attribute o m apos) [] [] pos) (tMeth C m sp [] E ta tNil) := by
  obtain ⟨f, fd, a, b, c⟩ := D.ex
  exact L2.pe_meth0 he D.cl a b hr c .nil hx ht
open AutoSeq1 (wpAny_loadPart') in
theorem tuple_mul1 (u : Addr) (zs : Array Value) (n : Nat) (dd : Option Addr) (sl : Array (Option Value)) (t : Tok) :
    Meets (Builtin.«tuple.__mul__» ⟨[.ref u, .int 1 t], []⟩) (fun _ R s => s.heap.get? u = some { cls := .type "tuple", dict := dd, data := .seq zs n, slots := sl } ∧ R (.ok (.ret (Value.ref u))) s) :=
  .of_wp fun prog w A R s h => by
    obtain ⟨hp, g, d, tk, os⟩ := s; obtain ⟨hl, h⟩ := h; have f1 := AutoSeq1.idx_int
    have c1 : (zs.isEmpty || (1 : Int) == 1) = true := by simp
    wp_walk using wpAny_loadPart' hl
    repeat (first
      | (refine wpAny_ite_false (decide_eq_false (by decide)) ?_; wp_walk using wpAny_loadPart' hl)
      | (refine wpAny_ite_true (decide_eq_true (by simp)) ?_; wp_walk using wpAny_loadPart' hl))
    exact ⟨_, rfl, h⟩
def rRepT1 (K : PySem.W.Frag) : R2 := fun x y H Q => rRepT K x y H Q ∨ ∃ (u : Addr) (xs : List V), x = .ref u ∧ y = .int 1 ∧ SqT K H u xs ∧ Q (.ref u) H
theorem op_repT1 {X : Cx} (K : PySem.W.Frag) (h : X.K = K := by rfl) : OpR X (binaryOp .Mult) (rRepT1 K) := by
  subst h
  intro pins s σ H x y v w' Q I rx ry h
  rcases h with h | ⟨u, xs, rfl, rfl, hT, q⟩
  · exact op_repT pins s σ H x y v w' Q I rx ry h
  · cases rx
    obtain ⟨t, rfl⟩ := ry
    obtain ⟨its, r, ⟨⟨cls, dd, data, sl⟩, ho, hc, n, hd⟩, hs⟩ := I.tuple hT
    simp only at hc hd; subst hc hd
    exact wpAny_binaryOp_repeat_ref (T := "tuple") (U := "int") (by decide) ⟨_, ho, rfl⟩ (fun s' => typeIs_int s' 1 t) noFill_tuple_mul F.fills_int_mul F.slot_int_rmul repeat_tuple F.slot_int_index.lookup (call_meets F.slot_int_rmul (typeIs_int s 1 t) F.entry_int_rmul (F.args_int_rmul_2 _ _) (int_rmul_tuple 1 t u its.toArray n dd sl)
      ⟨ho, rfl, ⟨_, ho, rfl⟩, call_meets F.slot_tuple_mul ⟨_, ho, rfl⟩ F.entry_tuple_mul (F.args_tuple_mul_2 _ _) (tuple_mul1 u its.toArray n dd sl t) ⟨ho, .ref u, H, I, rfl, q⟩⟩)
/-- a list of ints, so many times -/
theorem g_repL {H : Hp} {Q : VK} {l : Addr} {xs : List Int} {k : Nat} (h1 : H l = some (.lst (xs.map V.int))) (sz : xs.length * k ≤ 100000) (hk : k ≤ 100000)
    (h : ∀ p H', H p = none → Same H H' → H' p = some (.lst (((List.replicate k xs).flatten).map V.int)) → Q (.ref p) H') : rRep (.ref l) (.int (k : Int)) H Q :=
  ⟨l, (k : Int), xs.map V.int, rfl, rfl, h1, by omega, by omega, by rw [Int.toNat_natCast, sizeLine_eq, List.length_map]; omega, fun p np => h p _ np (L2.Same.new np) (by rw [upd_same, Int.toNat_natCast, List.map_flatten, List.map_replicate])⟩
/-- a tuple of ints, so many times -/
theorem g_repTM {K : PySem.W.Frag} {H : Hp} {Q : VK} {u : Addr} {xs : List Int} {k : Nat} (h1 : H u = some (.tup (xs.map V.int))) (hne : xs ≠ []) (k1 : 1 ≤ k) (hk : k ≤ 1000) (sz : xs.length ≤ 1000)
    (h : ∀ p H', Same H H' → H' p = some (.tup (((List.replicate k xs).flatten).map V.int)) → Q (.ref p) H') : rRepT1 K (.ref u) (.int (k : Int)) H Q := by
  by_cases z : k = 1
  · subst z
    exact .inr ⟨u, _, rfl, rfl, SqT.of h1, h u H (Same.refl _) (by simpa using h1)⟩
  · exact .inl ⟨u, (k : Int), _, rfl, rfl, SqT.of h1, fun e => hne (List.map_eq_nil_iff.mp e), by omega, by omega, by rw [List.length_map]; exact sz, fun p np => h p _ (L2.Same.new np) (by rw [upd_same, Int.toNat_natCast, List.map_flatten, List.map_replicate])⟩
theorem sumT_raw {prog : Program} {w : World} {A : Around} {E : Value → Shared → Prop} {s : Shared} {u : Addr} {zs : List Value} {ns : List Int} {Q : Value → Shared → Prop} (h0 : A.handled = none) (hl : s.heap.IsTuple u zs.toArray) (hi : IntsAre zs ns)
    (h : ∀ h' tk t', (∀ b o, s.heap.get? b = some o → h'.get? b = some o) → Q (.int ns.sum t') { s with heap := h', toks := tk }) : wpAny (model prog w) A (call (.builtin "sum") [.ref u]) Q E s := by
  obtain ⟨xs, e⟩ := hi.allInts.items; have hn : numsOf (intItems xs).toList = ns := by rw [← e]; exact hi.numsOf
  rw [nums_intItems] at hn; rw [e] at hl
  refine PySem.call_sum_walkAnyS (PySem.W.iter_tupleW (A := A.in1) h0 hl fun s₂ e W st hfp hw hk => ?_)
  refine ⟨_, _, _, _, _, _, _, numAt xs, rfl, W, st, hfp, (fun _ _ => intItems_at), fun s' t' m => ?_⟩
  obtain ⟨h', tk, rfl, hk'⟩ := PySem.W.moved_old e rfl m
  have hs : (intItems xs).size = xs.size := by simp [intItems]
  have := h h' tk t' hk'
  rw [hs, preSum_eq, List.take_of_length_le (by simp), hn]; exact this
def rSumT (K : PySem.W.Frag) : List V → Hp → VK → Prop := fun vs H Q => ∃ (u : Addr) (ns : List Int), vs = [V.ref u] ∧ SqT K H u (ns.map V.int) ∧ Q (.int ns.sum) H
theorem cr_sumT {X : Cx} (K : PySem.W.Frag) (hc : X.calm = true) (h : X.K = K := by rfl) : CallR X (.builtin "sum") (rSumT K) := by
  subst h
  intro pins s σ H vs us Q I r h
  obtain ⟨u, ns, rfl, hs, q⟩ := h
  obtain ⟨its, rv, hl, _⟩ := I.tuple hs
  rw [Vals.ref1 r]
  exact sumT_raw (I.ok.hd hc) (show s.heap.IsTuple u its.toArray from hl) (by simpa using rv.ints) fun h' tk t' hk => ⟨.int _, H, I.kept hk, ⟨_, rfl⟩, q⟩
end Rt
set_option Elab.async false
set_option linter.all false
set_option maxRecDepth 100000
set_option maxHeartbeats 4000000
/-! On a plain ring the heads after a round are the marks of the greatest gap: heads are marks. -/
namespace Rt
open PySem PySem.Spec L2
variable {ss ls : List Int} {p q : Nat}
def iZ (xs : List Nat) : List Int := xs.map fun x : Nat => (x : Int)
theorem iZ_at {xs : List Nat} {i : Nat} (hi : i < xs.length) : (iZ xs).getD i 0 = (xs.getD i 0 : Nat) := by
  unfold iZ
  rw [List.getD_eq_getElem?_getD, List.getElem?_map, List.getElem?_eq_getElem hi, List.getD_eq_getElem?_getD, List.getElem?_eq_getElem hi]; rfl
theorem iZ_mem {xs : List Nat} {x : Nat} : (x : Int) ∈ iZ xs ↔ x ∈ xs := by
  unfold iZ
  rw [List.mem_map]
  constructor
  · rintro ⟨y, hy, e⟩
    have : y = x := by omega
    rw [← this]; exact hy
  · intro h; exact ⟨x, h, rfl⟩
theorem iZ_ge {xs : List Nat} {x : Int} (h : x ∈ iZ xs) : 0 ≤ x := by
  unfold iZ at h
  obtain ⟨y, _, rfl⟩ := List.mem_map.mp h
  omega
theorem iZ_inj : ∀ {xs ys : List Nat}, iZ xs = iZ ys → xs = ys
  | [], [], _ => rfl
  | [], y :: ys, h => by unfold iZ at h; simp at h
  | x :: xs, [], h => by unfold iZ at h; simp at h
  | x :: xs, y :: ys, h => by
    unfold iZ at h
    rw [List.map_cons, List.map_cons] at h
    injection h with h1 h2
    rw [show x = y by omega, iZ_inj (xs := xs) (ys := ys) h2]
/-- the heads are marks -/
theorem heads_ok (h0 : 0 < ss.length) (h60 : ss.length ≤ 60) : MkOk (ss.length : Int) (iZ (hdT true ss)) := by
  refine ⟨?_, ?_, fun x hx => ?_, by omega⟩
  · unfold iZ
    rw [List.length_map]
    rcases top_head (r := true) (ss := ss) (up ss 0) 0 (Nat.le_refl _) h0 with z | ⟨h, z, _⟩
    · exact List.length_pos_of_mem z
    · exact List.length_pos_of_mem z
  · unfold iZ
    rw [List.pairwise_map]
    exact hdT_asc.imp fun {a b} z => by omega
  · unfold iZ at hx
    obtain ⟨y, hy, rfl⟩ := List.mem_map.mp hx
    have := (mem_hdT.mp hy).1
    omega
theorem ndP_at {l : List Nat} (h : l.Nodup) {i j : Nat} {x : Nat} (hi : l[i]? = some x) (hj : l[j]? = some x) : i = j := by
  obtain ⟨a, ea⟩ := List.getElem?_eq_some_iff.mp hi
  obtain ⟨b, eb⟩ := List.getElem?_eq_some_iff.mp hj
  exact (List.getElem_inj h).mp (by rw [ea, eb])
theorem trnP_ix {r : Bool} {i : Nat} {o : Nat} (hp : p < ss.length) (h : (run r ss.length p)[i]? = some o) : o ∈ trn r ss p ↔ i < tl r ss p := by
  rw [trn_tk]
  constructor
  · intro z
    obtain ⟨j, hj, e⟩ := List.mem_iff_getElem.mp z
    rw [List.length_take] at hj
    rw [List.getElem_take] at e
    have : (run r ss.length p)[j]? = some o := by rw [List.getElem?_eq_getElem (by omega), e]
    have := ndP_at (run_nd hp) this h
    omega
  · intro z
    refine List.mem_iff_getElem?.mpr ⟨i, ?_⟩
    rw [List.getElem?_take, if_pos z]; exact h
/-- the train of a head reaches to the next head -/
theorem head_tl (hp : p ∈ hdT true ss) {g : Int} (G : Gp (ss.length : Int) (iZ (hdT true ss)) (p : Int) g) : (tl true ss p : Int) + 1 = g := by
  have pn := (mem_hdT.mp hp).1
  have g0 := G.pos
  have gn := (G.off _ (iZ_mem.mpr hp)).2
  obtain ⟨k, rfl⟩ : ∃ k : Nat, g = k := ⟨g.toNat, by omega⟩
  have up1 : tl true ss p + 1 ≤ k := by
    apply Classical.byContradiction
    intro z
    have rl := run_len (r := true) pn
    have tle := tl_le (r := true) (ss := ss) (p := p)
    rw [rl, if_pos rfl] at tle
    have kn : k < ss.length := by omega
    obtain ⟨o, ho, hr⟩ : ∃ o, o ∈ hdT true ss ∧ (run true ss.length p)[k - 1]? = some o := by
      rcases G.nxt with x | x
      · rw [show (p : Int) + (k : Int) = ((p + k : Nat) : Int) by omega] at x
        have ho := iZ_mem.mp x
        have := (mem_hdT.mp ho).1
        exact ⟨p + k, ho, ix_run pn (.inl ⟨by omega, by omega⟩)⟩
      · have l : ss.length ≤ p + k := by
          have := iZ_ge x
          omega
        rw [show (p : Int) + (k : Int) - (ss.length : Int) = ((p + k - ss.length : Nat) : Int) by omega] at x
        have ho := iZ_mem.mp x
        exact ⟨_, ho, ix_run pn (.inr ⟨rfl, by omega, by omega⟩)⟩
    exact (mem_hdT.mp ho).2 p pn ((trnP_ix pn hr).mpr (by omega))
  have all : ∀ i, i + 1 < k → i < tl true ss p := fun i hi => by
    obtain ⟨o, ho⟩ : ∃ o, (run true ss.length p)[i]? = some o := by
      have rl := run_len (r := true) pn
      rw [if_pos rfl] at rl
      exact ⟨_, List.getElem?_eq_getElem (by omega)⟩
    have oi := run_ix pn ho
    have on : o < ss.length := run_lt pn o (List.mem_of_getElem? ho)
    rcases top_head (r := true) (up ss o) o (Nat.le_refl _) on with z | ⟨h, hh, z⟩
    · exfalso
      have := G.off _ (iZ_mem.mpr z)
      omega
    · have hn := (mem_hdT.mp hh).1
      by_cases e : h = p
      · rw [e] at z
        exact (trnP_ix pn ho).mp z
      · exfalso
        obtain ⟨j, hj⟩ := List.mem_iff_getElem?.mp ((List.takeWhile_sublist _).subset z)
        have jt := (trnP_ix hn hj).mp z
        have oj := run_ix hn hj
        have off := G.off _ (iZ_mem.mpr hh)
        have rl := run_len (r := true) hn
        -- the way from h to o passes p
        have pj : ∃ m, m < j ∧ (run true ss.length h)[m]? = some p := by
          by_cases c : h < p
          · exact ⟨p - h - 1, by omega, ix_run hn (.inl ⟨by omega, pn⟩)⟩
          · exact ⟨p + ss.length - h - 1, by omega, ix_run hn (.inr ⟨rfl, by omega, by omega⟩)⟩
        obtain ⟨m, hm, e2⟩ := pj
        exact (mem_hdT.mp hp).2 h hn ((trnP_ix hn e2).mpr (by omega))
  by_cases c : k ≤ 1
  · omega
  · have := all (k - 2) (by omega)
    omega

/-! ### unit lengths -/
def on1 (n : Nat) : List Int := List.replicate n 1
theorem on1_pos {ss : List Int} : Pos' ss (on1 ss.length) := ⟨by unfold on1; rw [List.length_replicate], fun o ho => by
  unfold on1
  rw [List.getD_eq_getElem?_getD, List.getElem?_replicate, if_pos ho]; exact Int.le_refl _⟩
theorem sm_on1 {n : Nat} : ∀ {b : List Nat}, (∀ o ∈ b, o < n) → sm (on1 n) b = (b.length : Int)
  | [], _ => rfl
  | a :: b, h => by
    rw [sm_cons, sm_on1 (b := b) fun o ho => h o (List.mem_cons_of_mem _ ho)]
    have : (on1 n).getD a 0 = 1 := by
      unfold on1
      rw [List.getD_eq_getElem?_getD, List.getElem?_replicate, if_pos (h a List.mem_cons_self)]; rfl
    rw [this, List.length_cons]
    omega
theorem rch_on1 (hp : p < ss.length) : rch true ss (on1 ss.length) p = (tl true ss p : Int) + 1 := by
  rw [rch_eq, sm_on1 (trn_lt hp)]
  have : (on1 ss.length).getD p 0 = 1 := by
    unfold on1
    rw [List.getD_eq_getElem?_getD, List.getElem?_replicate, if_pos hp]; rfl
  rw [this]
  show 1 + ((trn true ss p).length : Int) = ((trn true ss p).length : Int) + 1
  omega
/-- after a round a head is as strong as its gap is wide -/
theorem head_gap (h0 : 0 < ss.length) (h60 : ss.length ≤ 60) {i : Nat} (hi : i < (hdT true ss).length) :
    (rnd true (on1 ss.length) ss).getD ((hdT true ss).getD i 0) 0 = (gapsM (ss.length : Int) (iZ (hdT true ss))).getD i 0 := by
  have ok := heads_ok h0 h60
  have hm : (hdT true ss).getD i 0 ∈ hdT true ss := mem_at.mpr ⟨i, hi, rfl⟩
  have pn := (mem_hdT.mp hm).1
  have hz : i < (iZ (hdT true ss)).length := by unfold iZ; rw [List.length_map]; exact hi
  have G := ok.gp hz
  rw [iZ_at hi] at G
  rw [rnd_at pn, rch_on1 pn]
  exact head_tl hm G
/-- the heads after one more round -/
theorem heads_kpt (h0 : 0 < ss.length) (h60 : ss.length ≤ 60) : iZ (hdT true (rnd true (on1 ss.length) ss)) = kpt (ss.length : Int) (iZ (hdT true ss)) := by
  have ok := heads_ok h0 h60
  have lz : (iZ (hdT true ss)).length = (hdT true ss).length := by unfold iZ; rw [List.length_map]
  rw [← kept_heads on1_pos]
  refine asc_extM ?_ ok.kpt.asc fun a => ?_
  · rw [kept_heads on1_pos]
    unfold iZ
    rw [List.pairwise_map]
    exact hdT_asc.imp fun {a b} z => by omega
  · rw [kpt_mem ok.ne]
    have mx := mxL_mem (l := gapsM (ss.length : Int) (iZ (hdT true ss))) (by rw [gapsM_len ok.ne]; exact ok.ne)
    constructor
    · intro ha
      unfold iZ at ha
      obtain ⟨x, hx, rfl⟩ := List.mem_map.mp ha
      unfold kept at hx
      obtain ⟨i, hi, rfl⟩ := List.mem_map.mp hx
      obtain ⟨hi1, hi2⟩ := List.mem_filter.mp hi
      have hi1 := List.mem_range.mp hi1
      have hi2 := of_decide_eq_true hi2
      refine ⟨i, by rw [lz]; exact hi1, by rw [iZ_at hi1], ?_⟩
      obtain ⟨j, hj, ej⟩ := mem_atM mx.1
      rw [gapsM_len ok.ne, lz] at hj
      have a1 := hi2 j hj (.inl rfl)
      rw [head_gap h0 h60 hj, head_gap h0 h60 hi1] at a1
      have a2 := mx.2 _ (at_memM (ps := gapsM (ss.length : Int) (iZ (hdT true ss))) (i := i) (by rw [gapsM_len ok.ne, lz]; exact hi1))
      omega
    · rintro ⟨i, hi, rfl, e⟩
      rw [lz] at hi
      rw [iZ_at hi, iZ_mem]
      unfold kept
      refine List.mem_map.mpr ⟨i, List.mem_filter.mpr ⟨List.mem_range.mpr hi, decide_eq_true fun j hj _ => ?_⟩, rfl⟩
      rw [head_gap h0 h60 hj, head_gap h0 h60 hi, e]
      exact mx.2 _ (at_memM (by rw [gapsM_len ok.ne, lz]; exact hj))
/-- the heads after so many rounds are what as many rounds of marks leave -/
theorem heads_row (h0 : 0 < ss.length) (h60 : ss.length ≤ 60) : ∀ k, iZ (hdT true (row true (on1 ss.length) ss k)) = itM (ss.length : Int) (iZ (hdT true ss)) k
  | 0 => rfl
  | k + 1 => by
    have l := row_len (r := true) (ls := on1 ss.length) (ss := ss) k
    have := heads_kpt (ss := row true (on1 ss.length) ss k) (by rw [l]; exact h0) (by rw [l]; exact h60)
    rw [l] at this
    show iZ (hdT true (rnd true (on1 ss.length) (row true (on1 ss.length) ss k))) = kpt _ (itM _ _ k)
    rw [this, heads_row h0 h60 k]
/-- the marks are at rest when the beads are -/
theorem heads_end (h0 : 0 < ss.length) (h60 : ss.length ≤ 60) {N : Nat} (hS : Stop true (on1 ss.length) ss N) {M : Nat} (e : EndM (ss.length : Int) (iZ (hdT true ss)) M) : M ≤ max 1 N - 1 := by
  apply Classical.byContradiction
  intro z
  have m1 := e.mov (max 1 N - 1) (by omega)
  rw [← heads_row h0 h60, ← heads_row h0 h60] at m1
  apply m1
  congr 1
  have P : Pos' ss (on1 ss.length) := on1_pos
  show hdT true (rnd true _ (row true _ ss (max 1 N - 1))) = _
  by_cases c : N ≤ 1
  · rw [show max 1 N - 1 = 0 by omega]
    show hdT true (rnd true _ ss) = hdT true ss
    have f : rnd true (on1 ss.length) (rnd true (on1 ss.length) ss) = rnd true (on1 ss.length) ss := by
      have a := hS.stay (1 - N)
      have b := hS.stay (2 - N)
      rw [show N + (1 - N) = 1 by omega] at a
      rw [show N + (2 - N) = 2 by omega] at b
      exact b.trans a.symm
    exact hdT_fix P f
  · obtain ⟨j, rfl⟩ : ∃ j, N = j + 2 := ⟨N - 2, by omega⟩
    rw [show max 1 (j + 2) - 1 = j + 1 by omega]
    have f : row true (on1 ss.length) ss (j + 3) = row true (on1 ss.length) ss (j + 2) := hS.stay 1
    have Pj : Pos' (row true (on1 ss.length) ss (j + 1)) (on1 ss.length) := P.row true (j + 1)
    exact hdT_fix Pj f
end Rt
set_option Elab.async false
set_option linter.all false
set_option maxRecDepth 100000
set_option maxHeartbeats 4000000
/-! A def called with keywords. -/
namespace Rt
open PySem PySem.Spec L2 PyProof.Rows
/-- a def of the module by its name, bound to n values and keywords ks -/
structure DefN (P : Program) (w : World) (K : PySem.W.Frag) (mg : Str → Option Value) (base : Heap) (CX : CXT) (k : Nat) (x : Str) (n : Nat) (ks : List Str) (gV : List V → List V → List V) (sp : Sp) : Prop where
  ex : ∃ (f : Addr) (fd : FuncData) (ps : List Str) (g : List Value → List Value → List Value), mg x = some (.ref f) ∧ PySem.W.keepIn K (.ref f) = true ∧ FnOk P w K mg base CX k f fd ps sp ∧ KBn K fd ps n ks g gV
theorem pe_callKw {X : Cx} {CX : CXT} {k n : Nat} {ks : List Str} {gV : List V → List V → List V} {sp : Sp} {E : XK} {x : Str} {p pos : Pos} {e : Expr} {es : List Expr} {kws : List Keyword} {t tk : TA}
    (D : DefN X.prog X.w X.K X.mg X.base CX k x n ks gV sp) (hr : Room k X.A) (hx : L2.Passes CX X E) (ha : PA X (e :: es) t) (hkw : PK X kws tk) (hg : Gl X x := by rfl)
    (hall : (backToKw pos (keywordEach kws X.env)).all (·.1.isSome) = true := by rfl) (hks : (backToKw pos (keywordEach kws X.env)).filterMap (·.1) = ks := by rfl) (hdb : (x == ("__debug__" : Str)) = false := by decide)
    (he : starEach (e :: es) X.env = (false, eval e X.env) :: starEach es X.env := by rfl) (hpl : ((backTo pos (starEach (e :: es) X.env)).any (·.1) || (backToKw pos (keywordEach kws X.env)).any (·.1.isNone)) = false := by rfl) :
    PE X (.Call (.Name x p) (e :: es) kws pos) (tCallN n ks.length sp gV E t tk) := by
  obtain ⟨f, fd, ps, g, a, b, c, d⟩ := D.ex
  exact pe_callN c hr hg a b d hx ha hkw hall hks hdb he hpl
theorem g_callN {n m : Nat} {sp : Sp} {gV : List V → List V → List V} {E : XK} {t tk : TA} {σ : L2.St} {H : Hp} {Q : VK} (h : t σ H fun vs H1 => tk σ H1 fun zs H2 => vs.length = n ∧ zs.length = m ∧ sp (gV vs zs) H2 Q E) : tCallN n m sp gV E t tk σ H Q := h
end Rt
set_option Elab.async false
set_option linter.all false
set_option maxRecDepth 100000
set_option maxHeartbeats 4000000
/-! list.pop(i), slices of a list or tuple, a def called with keywords in a try; orders of places. -/
namespace Rt
open PySem PySem.Spec L2 PyProof.Rows
/-! ### pop -/
theorem pe_popAtK {X : Cx} (K : PySem.W.Frag) {o e : Expr} {es : List Expr} {ta : TE} {t : TA} {apos cpos : Pos} (ho : PE X o ta) (ha : PA X (e :: es) t) (h : X.K = K := by rfl) (hbase : attributeBase o "pop" X.env (eval o X.env) = eval o X.env := by rfl)
    (hfew : ((backTo cpos (starEach (e :: es) X.env)).all (fun x => !x.1) && (backToKw cpos (keywordEach [] X.env)).all (fun x => x.1.isSome) && decide ((e :: es).length + ([] : List Keyword).length + (if ([] : List Keyword).isEmpty then 0 else 1) < 30)) = true := by rfl)
    (hline : (apos.endLine == cpos.line) = true := by rfl) (hs : starEach (e :: es) X.env = (false, eval e X.env) :: starEach es X.env := by rfl) (hplain : (backTo cpos (starEach es X.env)).any (·.1) = false := by rfl) : PE X (.Call (.Attribute o "pop" apos) (e :: es) [] cpos) (tBM K "list" rPopAt ta t) := by
  subst h; exact pe_bm PySem.F.plainAttrs_list PySem.F.slot_list_pop PySem.F.type_list_pop mt_popAt ho ha hbase hfew hline hs hplain
theorem g_popAt {H : Hp} {l : Addr} {xs : List V} {i : Nat} {y : V} {Q : VK} (h : H l = some (.lst xs)) (sz : xs.length ≤ 100000) (hi : xs[i]? = some y) (q : Q y (upd H l (.lst (xs.eraseIdx i)))) : rPopAt (.ref l) [.int (i : Int)] H Q := by
  have hl : i < xs.length := (List.getElem?_eq_some_iff.mp hi).1
  refine ⟨l, xs, (i : Int), i, y, rfl, rfl, h, by omega, by omega, ?_, hi, q⟩
  unfold seqIndex?
  simp; omega
/-! ### the item before the end is replaced -/
theorem g_setM {H : Hp} {l : Addr} {xs : List Int} {v : Int} {R : Hp → Prop} (h : H l = some (.lst (xs.map V.int))) (hi : 0 < xs.length) (q : R (upd H l (.lst ((xs.set (xs.length - 1) v).map V.int)))) : L2.rSetL (.ref l) (.int (-1)) (.int v) H R := by
  refine ⟨l, _, (-1), xs.length - 1, rfl, rfl, h, ?_, by rw [← List.map_set]; exact q⟩
  rw [List.length_map]
  unfold ixN
  simp; omega
/-! ### the first items of a list or tuple -/
theorem g_takeB {K : PySem.W.Frag} {c : Bool} {H : Hp} {Q : VK} {a : Addr} {xs : List Int} {k : Nat} (h : SqB K c H a (xs.map V.int)) (hk : k ≤ xs.length) (q : ∀ p H', Same H H' → SqB K c H' p ((xs.take k).map V.int) → Q (.ref p) H') :
    rSlL K (.ref a) none (some (k : Int)) H Q ∨ rSlA K (.ref a) none (some (k : Int)) H Q := by
  have hl : k ≤ (xs.map V.int).length := by rw [List.length_map]; exact hk
  cases c with
  | false => exact .inl (g_cut h fun p H' _ S hp => q p H' S (SqL.of (by rw [hp, cut_hi hl, List.map_take])))
  | true =>
    refine .inr ⟨a, _, rfl, h, fun z => q a H (Same.refl _) ?_, fun _ p np => q p _ (L2.Same.new np) (SqT.of (by rw [upd_same, cut_hi hl, List.map_take]))⟩
    have z2 := z.2
    rw [HT.sIx_nat, List.length_map] at z2
    rw [List.take_of_length_le (by omega)]; exact h
theorem g_lenSqB {K : PySem.W.Frag} {c : Bool} {H : Hp} {a : Addr} {xs : List V} (h : SqB K c H a xs) : SqL K H a xs ∨ SqT K H a xs := by
  cases c with
  | false => exact .inl h
  | true => exact .inr h
theorem g_sumB {K : PySem.W.Frag} {c : Bool} {H : Hp} {Q : VK} {a : Addr} {xs : List Int} (h : SqB K c H a (xs.map V.int)) (q : Q (.int xs.sum) H) : rSum K [.ref a] H Q ∨ rSumT K [.ref a] H Q := by
  cases c with
  | false => exact .inl ⟨a, xs, rfl, h, q⟩
  | true => exact .inr ⟨a, xs, rfl, h, q⟩
/-! ### a def called with keywords within a try -/
def tCallNS (n m : Nat) (sp : Sp) (gV : List V → List V → List V) (E : L2.St → XK) (t tk : TA) : TE := fun σ H Q => t σ H fun vs H1 => tk σ H1 fun zs H2 => vs.length = n ∧ zs.length = m ∧ sp (gV vs zs) H2 Q (E σ)
theorem pe_callKwS {X : Cx} {CX : CXT} {k n : Nat} {ks : List Str} {gV : List V → List V → List V} {sp : Sp} {E : L2.St → XK} {x : Str} {p pos : Pos} {e : Expr} {es : List Expr} {kws : List Keyword} {t tk : TA}
    (D : DefN X.prog X.w X.K X.mg X.base CX k x n ks gV sp) (hr : Room k X.A) (hx : ∀ σ : L2.St, PassesAt CX X σ (E σ)) (ha : PA X (e :: es) t) (hkw : PK X kws tk) (hg : Gl X x := by rfl)
    (hall : (backToKw pos (keywordEach kws X.env)).all (·.1.isSome) = true := by rfl) (hks : (backToKw pos (keywordEach kws X.env)).filterMap (·.1) = ks := by rfl) (hdb : (x == ("__debug__" : Str)) = false := by decide)
    (he : starEach (e :: es) X.env = (false, eval e X.env) :: starEach es X.env := by rfl) (hpl : ((backTo pos (starEach (e :: es) X.env)).any (·.1) || (backToKw pos (keywordEach kws X.env)).any (·.1.isNone)) = false := by rfl) :
    PE X (.Call (.Name x p) (e :: es) kws pos) (tCallNS n ks.length sp gV E t tk) := by
  obtain ⟨f, fd, ps, g, hm, hk, F, hb⟩ := D.ex
  refine ⟨fun pins s σ H Q I h => ?_⟩
  refine wpAny_Call_Name_kw (ld_glob I hg hm ?_ hdb)
  refine PySem.W.callWith_KW (h₀ := X.base) I.ok.mod.kin hk hall (thn (ha.run pos pins s σ H _ I h) fun us s1 ⟨vs, H1, I1, r, q⟩ => ?_) hpl he
  refine thn (hkw.run pos pins s1 σ H1 _ I1 q) fun ws s2 ⟨zs, H2, I2, rz, l1, l2, q2⟩ => ⟨I2.kIn, ?_⟩
  rw [hks]
  refine wpAny_call (codeAny_mono (F.run X.A X.stack s2 H2 ⟨us, ks.zip ws⟩ (g us ws) (gV vs zs) Q (E σ) hr I2.env0 (hb.to s2 us ws I2.kIn (r.length.symm.trans l1) (rz.length.symm.trans l2)) (hb.rel r rz) q2) fun r s' hq => ?_)
  cases r with
  | error e => exact hx σ pins H2 s2 e s' I2 hq
  | ok fl =>
    cases fl with
    | ret u => exact I2.after hq
    | next => exact False.elim hq
    | brk => exact False.elim hq
    | cont => exact False.elim hq
theorem g_callNS {n m : Nat} {sp : Sp} {gV : List V → List V → List V} {E : L2.St → XK} {t tk : TA} {σ : L2.St} {H : Hp} {Q : VK} (h : t σ H fun vs H1 => tk σ H1 fun zs H2 => vs.length = n ∧ zs.length = m ∧ sp (gV vs zs) H2 Q (E σ)) : tCallNS n m sp gV E t tk σ H Q := h
/-! ### orders of places -/
def badO (n : Int) (qs : List Int) (i : Nat) : Bool := !(decide (0 ≤ qs.getD i 0) && decide (qs.getD i 0 < n)) || decide (qs.getD i 0 ∈ qs.take i)
def ordQ (n : Int) (qs : List Int) : Option Nat := (List.range qs.length).find? (badO n qs)
def faultI (n : Int) (qs : List Int) : Nat := (ordQ n qs).getD qs.length
def okO (n : Nat) (qs : List Int) : Prop := ordQ n qs = none ∧ n ≤ qs.length
theorem find_none {p : Nat → Bool} {n : Nat} : (List.range n).find? p = none ↔ ∀ i, i < n → p i = false := by
  rw [List.find?_eq_none]
  constructor
  · intro h i hi
    have := h i (List.mem_range.mpr hi)
    cases q : p i with
    | true => exact absurd q this
    | false => rfl
  · intro h i hi
    rw [h i (List.mem_range.mp hi)]
    exact Bool.false_ne_true
theorem find_step {p : Nat → Bool} {i : Nat} (h : (List.range i).find? p = none) : (List.range (i + 1)).find? p = if p i = true then some i else none := by
  rw [List.range_succ, List.find?_append, h, Option.none_or, List.find?_cons]
  cases p i <;> rfl
theorem find_atR {p : Nat → Bool} {i n : Nat} (h : (List.range i).find? p = none) (hp : p i = true) (hi : i < n) : (List.range n).find? p = some i := by
  induction n with
  | zero => exact absurd hi (Nat.not_lt_zero _)
  | succ n ih =>
    by_cases e : i = n
    · subst e
      rw [find_step h, if_pos hp]
    · rw [List.range_succ, List.find?_append, ih (by omega)]; rfl
theorem badO_out {n : Int} {qs : List Int} {i : Nat} (h : ¬ (0 ≤ qs.getD i 0 ∧ qs.getD i 0 < n)) : badO n qs i = true := by
  unfold badO
  generalize qs.getD i 0 = x at h ⊢
  simp only [Bool.or_eq_true, Bool.not_eq_true', Bool.and_eq_false_iff, decide_eq_false_iff_not, decide_eq_true_eq]
  omega
theorem badO_in {n : Int} {qs : List Int} {i : Nat} (h : 0 ≤ qs.getD i 0 ∧ qs.getD i 0 < n) : badO n qs i = decide (qs.getD i 0 ∈ qs.take i) := by
  unfold badO
  rw [decide_eq_true h.1, decide_eq_true h.2]; rfl
theorem badO_false {n : Int} {qs : List Int} {i : Nat} (h : badO n qs i = false) : (0 ≤ qs.getD i 0 ∧ qs.getD i 0 < n) ∧ qs.getD i 0 ∉ qs.take i := by
  unfold badO at h
  simp only [Bool.or_eq_false_iff, Bool.not_eq_false', Bool.and_eq_true, decide_eq_true_eq, decide_eq_false_iff_not] at h
  exact h
theorem ordQ_in {n : Int} {qs : List Int} (h : ordQ n qs = none) {i : Nat} (hi : i < qs.length) : 0 ≤ qs.getD i 0 ∧ qs.getD i 0 < n := (badO_false (find_none.mp h i hi)).1
theorem ordQ_nd {n : Int} {qs : List Int} (h : ordQ n qs = none) {i j : Nat} (hij : i < j) (hj : j < qs.length) : qs.getD i 0 ≠ qs.getD j 0 := fun z => by
  refine (badO_false (find_none.mp h j hj)).2 ?_
  rw [← z, List.getD_eq_getElem?_getD, List.getElem?_eq_getElem (by omega : i < qs.length), Option.getD_some]
  rw [List.mem_take_iff_getElem]
  exact ⟨i, by omega, rfl⟩
theorem ordQ_mem {n : Int} {qs : List Int} (h : ordQ n qs = none) {q : Int} (hq : q ∈ qs) : 0 ≤ q ∧ q < n := by
  obtain ⟨i, hi, rfl⟩ := List.mem_iff_getElem.mp hq
  have := ordQ_in h hi
  rw [List.getD_eq_getElem?_getD, List.getElem?_eq_getElem hi, Option.getD_some] at this
  exact this
/-- a list that is each place once is no fault -/
theorem ordQ_ok {n : Int} {qs : List Int} (hin : ∀ q ∈ qs, 0 ≤ q ∧ q < n) (nd : qs.Nodup) : ordQ n qs = none := by
  refine find_none.mpr fun i hi => ?_
  have g : qs.getD i 0 = qs[i] := by rw [List.getD_eq_getElem?_getD, List.getElem?_eq_getElem hi, Option.getD_some]
  unfold badO
  rw [g]
  have a := hin _ (List.getElem_mem hi)
  have b : qs[i] ∉ qs.take i := fun z => by
    obtain ⟨j, hj, e⟩ := List.mem_take_iff_getElem.mp z
    have := (List.getElem_inj (xs := qs) (h₀ := by omega) (h₁ := hi) nd).mp e
    omega
  simp [a.1, a.2, b]
/-! ### bad orders -/
theorem bad_short {n : Nat} {qs : List Int} (h : qs.length < n) : ¬ okO n qs := fun z => absurd z.2 (by omega)
theorem bad_out {n : Nat} {qs : List Int} {i : Nat} (hi : i < qs.length) (h : ¬ (0 ≤ qs.getD i 0 ∧ qs.getD i 0 < (n : Int))) : ¬ okO n qs := fun z => h (ordQ_in z.1 hi)
theorem bad_twice {n : Nat} {qs : List Int} {i j : Nat} (hij : i < j) (hj : j < qs.length) (h : qs.getD i 0 = qs.getD j 0) : ¬ okO n qs := fun z => ordQ_nd z.1 hij hj h
theorem set_at {qs : List Int} {i : Nat} {v : Int} (hi : i < qs.length) : (qs.set i v).getD i 0 = v := by
  rw [List.getD_eq_getElem?_getD, List.getElem?_set_self hi]; rfl
theorem set_ne' {qs : List Int} {i j : Nat} {v : Int} (h : i ≠ j) : (qs.set i v).getD j 0 = qs.getD j 0 := by
  rw [List.getD_eq_getElem?_getD, List.getD_eq_getElem?_getD, List.getElem?_set_ne h]
/-! ### rings played in an order -/
def runW (r : Bool) (ls : List Int) (ss : List Int) (qs : List Int) : List Int := qs.foldl (fun s q => wkS r s ls [q]) ss
def setW (r : Bool) (ls : List Int) (ss : List Int) (qs : List Int) : List Int := qs.foldl (fun s q => s.set q.toNat (rch r s ls q.toNat)) ss
theorem wkS_one {r : Bool} {ss ls : List Int} {q : Int} (h0 : 0 ≤ q) (h1 : q < (ss.length : Int)) : wkS r ss ls [q] = ss.set q.toNat (rch r ss ls q.toNat) := by
  refine ext_getD (by rw [wkS_len, List.length_set]) fun k hk => ?_
  rw [wkS_len] at hk
  rw [wkS_at hk]
  by_cases e : (k : Int) = q
  · rw [if_pos (by rw [e]; exact List.mem_singleton.mpr rfl)]
    have e2 : q.toNat = k := by omega
    rw [e2, set_at hk]
  · rw [if_neg (fun z => e (List.mem_singleton.mp z)), set_ne' (by omega)]
theorem runW_setW {r : Bool} {ls : List Int} : ∀ (qs : List Int) (ss : List Int), (∀ q ∈ qs, 0 ≤ q ∧ q < (ss.length : Int)) → runW r ls ss qs = setW r ls ss qs
  | [], _, _ => rfl
  | q :: qs, ss, h => by
    have a := h q (List.mem_cons_self ..)
    show runW r ls (wkS r ss ls [q]) qs = setW r ls (ss.set q.toNat (rch r ss ls q.toNat)) qs
    rw [wkS_one a.1 a.2]
    exact runW_setW qs _ fun x hx => by rw [List.length_set]; exact h x (List.mem_cons_of_mem _ hx)
theorem runW_len {r : Bool} {ls : List Int} : ∀ (qs : List Int) (ss : List Int), (runW r ls ss qs).length = ss.length
  | [], _ => rfl
  | q :: qs, ss => by
    show (runW r ls (wkS r ss ls [q]) qs).length = _
    rw [runW_len qs, wkS_len]
theorem setW_len {r : Bool} {ls : List Int} : ∀ (qs : List Int) (ss : List Int), (setW r ls ss qs).length = ss.length
  | [], _ => rfl
  | q :: qs, ss => by
    show (setW r ls (ss.set q.toNat (rch r ss ls q.toNat)) qs).length = _
    rw [setW_len qs, List.length_set]
theorem runW_more {r : Bool} {ls ss : List Int} {qs : List Int} {q : Int} : runW r ls ss (qs ++ [q]) = wkS r (runW r ls ss qs) ls [q] := by
  unfold runW; rw [List.foldl_append]; rfl
theorem setW_more {r : Bool} {ls ss : List Int} {qs : List Int} {q : Int} : setW r ls ss (qs ++ [q]) = (setW r ls ss qs).set q.toNat (rch r (setW r ls ss qs) ls q.toNat) := by
  unfold setW; rw [List.foldl_append]; rfl
theorem badQ_one {n q : Int} (h : 0 ≤ q ∧ q < n) : badQ n [q] = none := by
  unfold badQ
  rw [List.find?_cons, decide_eq_true h.1, decide_eq_true h.2]; rfl
/-- the strengths before an order: at each place all the lengths -/
def strt (ls : List Int) : List Int := List.replicate ls.length ls.sum
theorem strt_len {ls : List Int} : (strt ls).length = ls.length := List.length_replicate
/-! ### a shuffled list -/
theorem erase_perm {l : List Int} {i : Nat} {y : Int} (h : l[i]? = some y) : (y :: l.eraseIdx i).Perm l := by
  induction l generalizing i with
  | nil => simp at h
  | cons a l ih =>
    cases i with
    | zero =>
      simp only [List.getElem?_cons_zero, Option.some.injEq] at h
      subst h
      rw [List.eraseIdx_cons_zero]
    | succ i =>
      rw [List.getElem?_cons_succ] at h
      rw [List.eraseIdx_cons_succ]
      exact (List.Perm.swap a y _).trans ((ih h).cons a)
theorem map_erase {α β : Type} {g : α → β} : ∀ {l : List α} {i : Nat}, (l.map g).eraseIdx i = (l.eraseIdx i).map g
  | [], _ => rfl
  | _ :: _, 0 => rfl
  | a :: l, i + 1 => by
    rw [List.map_cons, List.eraseIdx_cons_succ, List.eraseIdx_cons_succ, List.map_cons, map_erase]
theorem perm_shift {ys xs : List Int} {y : Int} {i : Nat} {l : List Int} (h : xs[i]? = some y) (p : (ys ++ xs).Perm l) : ((ys ++ [y]) ++ xs.eraseIdx i).Perm l := by
  rw [List.append_assoc]
  exact ((erase_perm h).append_left ys).trans p
theorem perm_ok {n : Nat} {ys : List Int} (p : ys.Perm (iI (List.range n))) : ys.length = n ∧ okO n ys := by
  have l : ys.length = n := by
    rw [p.length_eq]
    unfold iI
    rw [List.length_map, List.length_range]
  have nd : ys.Nodup := p.nodup_iff.mpr (by
    unfold iI
    exact List.Pairwise.map _ (fun a b h => by omega) List.nodup_range)
  refine ⟨l, ordQ_ok (fun q hq => ?_) nd, by omega⟩
  have hq' := p.mem_iff.mp hq
  unfold iI at hq'
  obtain ⟨k, hk, rfl⟩ := List.mem_map.mp hq'
  have := List.mem_range.mp hk
  omega
end Rt
set_option Elab.async false
set_option linter.all false
set_option maxRecDepth 100000
set_option maxHeartbeats 4000000
/-! A waking raises the tally: at the least strength that comes or goes, by as many as have it. -/
namespace Rt
open PySem PySem.Spec L2
/-! ### places whose strength changes -/
def mvd (ss es : List Int) (n : Nat) : List Nat := (List.range n).filter fun k => decide (es.getD k 0 ≠ ss.getD k 0)
def mnS (ss es : List Int) (k : Nat) : Int := min (ss.getD k 0) (es.getD k 0)
def cntV (ss es : List Int) (v : Int) (n : Nat) : Nat := ((mvd ss es n).filter fun k => decide (mnS ss es k = v)).length
theorem mvd_mem {ss es : List Int} {n k : Nat} : k ∈ mvd ss es n ↔ k < n ∧ es.getD k 0 ≠ ss.getD k 0 := by
  unfold mvd
  rw [List.mem_filter, List.mem_range, decide_eq_true_eq]
theorem mvd_len {ss es : List Int} {n : Nat} : (mvd ss es n).length ≤ n := by
  unfold mvd
  have := List.length_filter_le (fun k => decide (es.getD k 0 ≠ ss.getD k 0)) (List.range n)
  rw [List.length_range] at this
  exact this
theorem mvd_step {ss es : List Int} {n : Nat} : mvd ss es (n + 1) = mvd ss es n ++ (if es.getD n 0 = ss.getD n 0 then [] else [n]) := by
  unfold mvd
  rw [List.range_succ, List.filter_append]
  congr 1
  rw [List.filter_cons]
  by_cases c : es.getD n 0 = ss.getD n 0
  · rw [if_pos c, if_neg (by simpa using c)]; rfl
  · rw [if_neg c, if_pos (by simpa using c)]; rfl
theorem chgR_mvd {ss es : List Int} {n : Nat} : chgR ss es n = (mvd ss es n).map fun k : Nat => [(k : Int), ss.getD k 0, es.getD k 0] := rfl
structure Due (ss es : List Int) (v : Int) (c : Nat) : Prop where
  le : ∀ k, k < ss.length → es.getD k 0 ≠ ss.getD k 0 → v ≤ mnS ss es k
  mem : ∃ k, k < ss.length ∧ es.getD k 0 ≠ ss.getD k 0 ∧ mnS ss es k = v
  cnt : c = cntV ss es v ss.length
def DueO (ss es : List Int) : Option (Int × Nat) → Prop
  | none => mvd ss es ss.length = []
  | some (v, c) => Due ss es v c
theorem Due.uniq {ss es : List Int} {v u : Int} {c d : Nat} (h : Due ss es v c) (k : Due ss es u d) : v = u ∧ c = d := by
  obtain ⟨i, i1, i2, i3⟩ := h.mem
  obtain ⟨j, j1, j2, j3⟩ := k.mem
  have a := h.le j j1 j2
  have b := k.le i i1 i2
  have e : v = u := by omega
  exact ⟨e, by rw [h.cnt, k.cnt, e]⟩
theorem DueO.uniq {ss es : List Int} : ∀ {a b : Option (Int × Nat)}, DueO ss es a → DueO ss es b → a = b
  | none, none, _, _ => rfl
  | some (v, c), some (u, d), h, k => by
    obtain ⟨e1, e2⟩ := Due.uniq h k
    rw [e1, e2]
  | none, some (u, d), h, k => by
    obtain ⟨j, j1, j2, _⟩ := Due.mem k
    have : j ∈ mvd ss es ss.length := mvd_mem.mpr ⟨j1, j2⟩
    rw [show mvd ss es ss.length = [] from h] at this
    cases this
  | some (v, c), none, h, k => by
    obtain ⟨j, j1, j2, _⟩ := Due.mem h
    have : j ∈ mvd ss es ss.length := mvd_mem.mpr ⟨j1, j2⟩
    rw [show mvd ss es ss.length = [] from k] at this
    cases this
theorem cntV_step {ss es : List Int} {v : Int} {n : Nat} : cntV ss es v (n + 1) = cntV ss es v n + (if es.getD n 0 ≠ ss.getD n 0 ∧ mnS ss es n = v then 1 else 0) := by
  unfold cntV
  rw [mvd_step, List.filter_append, List.length_append]
  congr 1
  by_cases c : es.getD n 0 = ss.getD n 0
  · rw [if_pos c, if_neg (fun z => z.1 c)]; rfl
  · rw [if_neg c, List.filter_cons]
    by_cases d : mnS ss es n = v
    · rw [if_pos (by simpa using d), if_pos ⟨c, d⟩]; rfl
    · rw [if_neg (by simpa using d), if_neg (fun z => d z.2)]; rfl
theorem cntV_pos {ss es : List Int} {v : Int} {n k : Nat} (hk : k < n) (h1 : es.getD k 0 ≠ ss.getD k 0) (h2 : mnS ss es k = v) : 0 < cntV ss es v n := by
  unfold cntV
  exact List.length_pos_iff.mpr (List.ne_nil_of_mem (List.mem_filter.mpr ⟨mvd_mem.mpr ⟨hk, h1⟩, decide_eq_true h2⟩))
theorem cntV_le {ss es : List Int} {v : Int} {n : Nat} : cntV ss es v n ≤ n := by
  unfold cntV
  have a := List.length_filter_le (fun k => decide (mnS ss es k = v)) (mvd ss es n)
  have b := mvd_len (ss := ss) (es := es) (n := n)
  omega
theorem mn_l {a b m : Int} (h : m ≤ min a b) (e : a = m) : min a b = m := by omega
theorem mn_r {a b m : Int} (h : m ≤ min a b) (e : b = m) : min a b = m := by omega
theorem mn_no {a b m : Int} (h1 : ¬ a = m) (h2 : ¬ b = m) : ¬ min a b = m := by omega
/-! ### trains -/
theorem tw_congrS {α : Type} {p q : α → Bool} : ∀ {l : List α}, (∀ x ∈ l, p x = q x) → l.takeWhile p = l.takeWhile q
  | [], _ => rfl
  | a :: l, h => by
    rw [List.takeWhile_cons, List.takeWhile_cons, h a List.mem_cons_self]
    split
    · rw [tw_congrS fun x hx => h x (List.mem_cons_of_mem _ hx)]
    · rfl
theorem tw_sum {f : Nat → Int} {p q : Nat → Bool} (hf : ∀ o, 0 ≤ f o) : ∀ {l : List Nat}, (∀ x ∈ l, p x = true → q x = true) → ((l.takeWhile p).map f).sum ≤ ((l.takeWhile q).map f).sum
  | [], _ => Int.le_refl _
  | a :: l, h => by
    rw [List.takeWhile_cons, List.takeWhile_cons]
    by_cases c : p a = true
    · rw [if_pos c, if_pos (h a List.mem_cons_self c), List.map_cons, List.map_cons, List.sum_cons, List.sum_cons]
      have := tw_sum hf (l := l) fun x hx => h x (List.mem_cons_of_mem _ hx)
      omega
    · rw [if_neg c]
      refine sum_ge fun y hy => ?_
      obtain ⟨o, _, rfl⟩ := List.mem_map.mp hy
      exact hf o
section
variable {r : Bool} {ss es ls : List Int} {v : Int} {c : Nat}
/-- what is a waking here: each strength stays or becomes the reach -/
structure Wak (r : Bool) (ls ss es : List Int) : Prop where
  len : es.length = ss.length
  ls0 : ∀ o, 0 ≤ ls.getD o 0
  at_ : ∀ k, k < ss.length → es.getD k 0 = ss.getD k 0 ∨ es.getD k 0 = rch r ss ls k
theorem Due.lt (D : Due ss es v c) {u : Int} (hu : u ≤ v) {o : Nat} (ho : o < ss.length) : ss.getD o 0 < u ↔ es.getD o 0 < u := by
  by_cases e : es.getD o 0 = ss.getD o 0
  · rw [e]
  · have := D.le o ho e
    unfold mnS at this
    omega
theorem reach_same (W : Wak r ls ss es) (D : Due ss es v c) {k : Nat} (hk : k < ss.length) {u : Int} (hu : u ≤ v) (h1 : ss.getD k 0 = u) (h2 : es.getD k 0 = u) : rch r es ls k = rch r ss ls k := by
  have e : trn r es k = trn r ss k := by
    unfold trn wk
    rw [W.len, h1, h2]
    exact tw_congrS fun o ho => by
      have := D.lt hu (run_lt hk o ho)
      exact decide_eq_decide.mpr this.symm
  unfold rch
  rw [e]
theorem reach_less (W : Wak r ls ss es) (D : Due ss es v c) {k : Nat} (hk : k < ss.length) (h2 : es.getD k 0 = v) (h3 : v < ss.getD k 0) : rch r es ls k ≤ rch r ss ls k := by
  unfold rch trn wk
  rw [W.len, h2]
  have := tw_sum (f := fun o => ls.getD o 0) W.ls0 (l := run r ss.length k) (p := fun o => decide (es.getD o 0 < v)) (q := fun o => decide (ss.getD o 0 < ss.getD k 0)) fun o ho h => by
    have a := (D.lt (Int.le_refl v) (run_lt hk o ho)).mpr (of_decide_eq_true h)
    exact decide_eq_true (by omega)
  omega
/-- what a place adds to the tally at u -/
def gT (r : Bool) (ls ss : List Int) (u : Int) (k : Nat) : Int := if ss.getD k 0 = u then sgT u (rch r ss ls k) else 0
theorem tlyK_g {u : Int} : ∀ n, n ≤ ss.length → tlyK ss (rnd r ls ss) u (n + 1) = tlyK ss (rnd r ls ss) u n + (if ss.getD n 0 = u then sgT u ((rnd r ls ss).getD n 0) else 0) := fun n _ => rfl
theorem g_low (W : Wak r ls ss es) (D : Due ss es v c) {k : Nat} (hk : k < ss.length) {u : Int} (hu : u < v) : gT r ls es u k = gT r ls ss u k := by
  unfold gT
  by_cases e : es.getD k 0 = ss.getD k 0
  · rw [e]
    split
    · rename_i h
      rw [reach_same W D hk (Int.le_of_lt hu) h (e.trans h)]
    · rfl
  · have := D.le k hk e
    unfold mnS at this
    rw [if_neg (by omega), if_neg (by omega)]
theorem g_up (W : Wak r ls ss es) (D : Due ss es v c) {k : Nat} (hk : k < ss.length) : gT r ls es v k = gT r ls ss v k + (if es.getD k 0 ≠ ss.getD k 0 ∧ mnS ss es k = v then 1 else 0) := by
  by_cases e : es.getD k 0 = ss.getD k 0
  · rw [if_neg (fun z => z.1 e), Int.add_zero]
    unfold gT
    rw [e]
    split
    · rename_i h
      rw [reach_same W D hk (Int.le_refl _) h (e.trans h)]
    · rfl
  · have le := D.le k hk e
    have w : es.getD k 0 = rch r ss ls k := (W.at_ k hk).resolve_left e
    by_cases m : mnS ss es k = v
    · rw [if_pos ⟨e, m⟩]
      unfold gT sgT
      unfold mnS at m
      by_cases h : ss.getD k 0 = v
      · rw [if_neg (by omega), if_pos h, ← w, if_pos (by omega)]; rfl
      · have h2 : es.getD k 0 = v := by omega
        have := reach_less W D hk h2 (by omega)
        rw [if_pos h2, if_neg h, if_neg (by omega)]; rfl
    · rw [if_neg (fun z => m z.2), Int.add_zero]
      unfold gT
      unfold mnS at m le
      rw [if_neg (by omega), if_neg (by omega)]
theorem tlyK_gT {u : Int} {n : Nat} (hn : n < ss.length) : tlyK ss (rnd r ls ss) u (n + 1) = tlyK ss (rnd r ls ss) u n + gT r ls ss u n := by
  rw [tlyK, rnd_at hn]
  unfold gT
  by_cases h : ss.getD n 0 = u
  · rw [if_pos h]
  · rw [if_neg h]
theorem tly_low (W : Wak r ls ss es) (D : Due ss es v c) {u : Int} (hu : u < v) : tly es (rnd r ls es) u = tly ss (rnd r ls ss) u := by
  unfold tly
  rw [W.len]
  have : ∀ n, n ≤ ss.length → tlyK es (rnd r ls es) u n = tlyK ss (rnd r ls ss) u n := by
    intro n
    induction n with
    | zero => intro _; rfl
    | succ n ih =>
      intro hn
      rw [tlyK_gT (by rw [W.len]; omega), tlyK_gT (by omega), ih (by omega), g_low W D (by omega) hu]
  exact this _ (Nat.le_refl _)
theorem tly_up (W : Wak r ls ss es) (D : Due ss es v c) : tly es (rnd r ls es) v = tly ss (rnd r ls ss) v + (c : Int) := by
  unfold tly
  rw [W.len, D.cnt]
  have : ∀ n, n ≤ ss.length → tlyK es (rnd r ls es) v n = tlyK ss (rnd r ls ss) v n + (cntV ss es v n : Int) := by
    intro n
    induction n with
    | zero => intro _; rfl
    | succ n ih =>
      intro hn
      rw [tlyK_gT (by rw [W.len]; omega), tlyK_gT (by omega), ih (by omega), g_up W D (by omega), cntV_step]
      split <;> omega
  exact this _ (Nat.le_refl _)
theorem Due.pos (D : Due ss es v c) : 0 < c := by
  obtain ⟨k, h1, h2, h3⟩ := D.mem
  rw [D.cnt]
  exact cntV_pos h1 h2 h3
end
/-! ### lists of pairs by what they tell -/
theorem atL_tly {ss ts : List Int} {u : Int} : atL (tlyL ss ts) u = tly ss ts u := by
  have key : ∀ (l : List Int), l.Pairwise (· < ·) → atL ((l.filter fun v => decide (tly ss ts v ≠ 0)).map fun v => (v, tly ss ts v)) u = if u ∈ l then tly ss ts u else 0 := by
    intro l
    induction l with
    | nil => intro _; rfl
    | cons a l ih =>
      intro h
      obtain ⟨h1, h2⟩ := List.pairwise_cons.mp h
      rw [List.filter_cons]
      by_cases c : tly ss ts a = 0
      · rw [if_neg (by simpa using c), ih h2]
        by_cases e : u = a
        · subst e
          rw [if_neg (fun z => absurd (h1 u z) (by omega)), if_pos List.mem_cons_self, c]
        · by_cases m : u ∈ l
          · rw [if_pos m, if_pos (List.mem_cons_of_mem _ m)]
          · rw [if_neg m, if_neg (fun z => (List.mem_cons.mp z).elim e m)]
      · rw [if_pos (by simpa using c), List.map_cons, atL]
        by_cases e : a = u
        · subst e
          rw [if_pos rfl, if_pos List.mem_cons_self]
        · rw [if_neg e, ih h2]
          by_cases m : u ∈ l
          · rw [if_pos m, if_pos (List.mem_cons_of_mem _ m)]
          · rw [if_neg m, if_neg (fun z => (List.mem_cons.mp z).elim (fun y => e y.symm) m)]
  have := key (ascI ss) (ascI_asc ss)
  unfold tlyL tlyP
  rw [List.take_length, this]
  by_cases m : u ∈ ascI ss
  · rw [if_pos m]
  · rw [if_neg m]
    exact (tlyK_no (fun z => m ((ascI_mem ss).mpr z)) _ (Nat.le_refl _)).symm
theorem tlyL_nz {ss ts : List Int} : ∀ p ∈ tlyL ss ts, p.2 ≠ 0 := fun p hp => by
  unfold tlyL tlyP at hp
  obtain ⟨v, hv, rfl⟩ := List.mem_map.mp hp
  exact of_decide_eq_true (List.mem_filter.mp hv).2
theorem atL_low {l : List (Int × Int)} {v : Int} (h : ∀ p ∈ l, v < p.1) : atL l v = 0 := atL_no fun p hp z => by have := h p hp; omega
/-- two ascending lists without a zero that tell the same are the same -/
theorem pairs_ext : ∀ {l m : List (Int × Int)}, AscP l → AscP m → (∀ p ∈ l, p.2 ≠ 0) → (∀ p ∈ m, p.2 ≠ 0) → (∀ v, atL l v = atL m v) → l = m
  | [], [], _, _, _, _, _ => rfl
  | [], (b, y) :: m, _, _, _, hm, h => by
    have := h b
    rw [atL, atL, if_pos rfl] at this
    exact absurd this.symm (hm (b, y) List.mem_cons_self)
  | (a, x) :: l, [], _, _, hl, _, h => by
    have := h a
    rw [atL, atL, if_pos rfl] at this
    exact absurd this (hl (a, x) List.mem_cons_self)
  | (a, x) :: l, (b, y) :: m, hl, hm, zl, zm, h => by
    obtain ⟨l1, l2⟩ := List.pairwise_cons.mp hl
    obtain ⟨m1, m2⟩ := List.pairwise_cons.mp hm
    have ab : a = b := by
      rcases Int.lt_trichotomy a b with z | z | z
      · have := h a
        rw [atL, if_pos rfl, atL, if_neg (by omega), atL_low (fun p hp => by have := m1 p hp; simp at this; omega)] at this
        exact absurd this (zl (a, x) List.mem_cons_self)
      · exact z
      · have := h b
        rw [atL, if_neg (by omega), atL, if_pos rfl, atL_low (fun p hp => by have := l1 p hp; simp at this; omega)] at this
        exact absurd this.symm (zm (b, y) List.mem_cons_self)
    subst ab
    have xy : x = y := by
      have := h a
      rw [atL, if_pos rfl, atL, if_pos rfl] at this
      exact this
    subst xy
    rw [pairs_ext (l := l) (m := m) l2 m2 (fun p hp => zl p (List.mem_cons_of_mem _ hp)) (fun p hp => zm p (List.mem_cons_of_mem _ hp)) fun v => by
      by_cases e : a = v
      · subst e
        rw [atL_low (fun p hp => l1 p hp), atL_low (fun p hp => m1 p hp)]
      · have := h v
        rw [atL, if_neg e, atL, if_neg e] at this
        exact this]
def blw (v : Int) (l : List (Int × Int)) : List (Int × Int) := l.filter fun p => decide (p.1 < v)
theorem atL_blw {v u : Int} : ∀ {l : List (Int × Int)}, atL (blw v l) u = if u < v then atL l u else 0
  | [] => by unfold blw; split <;> rfl
  | (a, x) :: l => by
    have ih := atL_blw (v := v) (u := u) (l := l)
    unfold blw at ih ⊢
    rw [List.filter_cons]
    by_cases c : a < v
    · rw [if_pos (by simpa using c), atL, atL, ih]
      by_cases e : a = u
      · rw [if_pos e, if_pos e, if_pos (by omega)]
      · rw [if_neg e, if_neg e]
    · rw [if_neg (by simpa using c), ih, atL]
      by_cases d : u < v
      · rw [if_pos d, if_pos d, if_neg (by omega)]
      · rw [if_neg d, if_neg d]
theorem blw_eq {r : Bool} {ss es ls : List Int} {v : Int} {c : Nat} (W : Wak r ls ss es) (D : Due ss es v c) : blw v (tlyL ss (rnd r ls ss)) = blw v (tlyL es (rnd r ls es)) := by
  refine pairs_ext (tlyL_asc.sublist List.filter_sublist) (tlyL_asc.sublist List.filter_sublist) (fun p hp => tlyL_nz p (List.mem_filter.mp hp).1) (fun p hp => tlyL_nz p (List.mem_filter.mp hp).1) fun u => ?_
  rw [atL_blw, atL_blw]
  by_cases d : u < v
  · rw [if_pos d, if_pos d, atL_tly, atL_tly, tly_low W D d]
  · rw [if_neg d, if_neg d]
theorem same_of {ss es : List Int} (hl : es.length = ss.length) (h : mvd ss es ss.length = []) : es = ss := by
  refine ext_getD hl fun k hk => ?_
  by_cases e : es.getD k 0 = ss.getD k 0
  · exact e
  · have : k ∈ mvd ss es ss.length := mvd_mem.mpr ⟨by omega, e⟩
    rw [h] at this; cases this
/-- how the tallies compare -/
theorem cmp_up {r : Bool} {ss es ls : List Int} {v : Int} {c : Nat} (W : Wak r ls ss es) (D : Due ss es v c) : CmpS (tlyL ss (rnd r ls ss)) (tlyL es (rnd r ls es)) (-1) ∧ CmpS (tlyL es (rnd r ls es)) (tlyL ss (rnd r ls ss)) 1 := by
  have up := tly_up W D
  have cp := D.pos
  refine ⟨.inr ⟨v, ?_, fun u hu => ?_, ?_⟩, .inr ⟨v, ?_, fun u hu => ?_, ?_⟩⟩
  · rw [atL_tly, atL_tly]; omega
  · rw [atL_tly, atL_tly, tly_low W D hu]
  · rw [atL_tly, atL_tly, if_pos (by omega)]
  · rw [atL_tly, atL_tly]; omega
  · rw [atL_tly, atL_tly, tly_low W D hu]
  · rw [atL_tly, atL_tly, if_neg (by omega)]
theorem cmp_same {l : List (Int × Int)} : CmpS l l 0 := .inl ⟨rfl, fun _ => rfl⟩
end Rt
set_option Elab.async false
set_option linter.all false
set_option maxRecDepth 100000
set_option maxHeartbeats 4000000
/-! Lists of pairs compared as data. -/
namespace Rt
open PySem PySem.Spec L2
def dPr (p : Int × Int) : PyData := .tuple [.int p.1, .int p.2]
def dPs (l : List (Int × Int)) : PyData := .list (l.map dPr)
theorem PrA.dp {K : PySem.W.Frag} {N : Addr → Prop} {H : Hp} {xs : List V} {l : List (Int × Int)} {a : Addr} (h : PrA N H xs l) (ha : SqL K H a xs) : Dp K H (.ref a) (dPs l) := by
  refine .lst ha (dpAll_of (by rw [List.length_map]; exact h.1) fun k x d hx hd => ?_)
  rw [List.getElem?_map] at hd
  obtain ⟨p, hp, rfl⟩ := Option.map_eq_some_iff.mp hd
  obtain ⟨t, ht, _, hT⟩ := h.at_ hp
  rw [ht] at hx
  cases hx
  exact .tup (SqT.of hT) (.cons (.int _) (.cons (.int _) .nil))
theorem canPr : ∀ l : List (Int × Int), PyData.canLayAll0 (l.map dPr) = true
  | [] => rfl
  | p :: l => by simp [PyData.canLayAll0, PyData.canLay0, dPr, canPr l]
theorem depPr : ∀ l : List (Int × Int), PyData.depthAll (l.map dPr) ≤ 1
  | [] => by simp [PyData.depthAll]
  | p :: l => by
    have := depPr l
    simp [PyData.depthAll, PyData.depth, dPr]
    omega
theorem shPs (l : List (Int × Int)) : PyData.canLay0 (dPs l) = true ∧ SeqAt.shaped (dPs l) = true := by
  have c : PyData.canLay0 (dPs l) = true := by simp [PyData.canLay0, dPs, canPr]
  refine ⟨c, ?_⟩
  unfold SeqAt.shaped
  rw [c]
  have := depPr l
  simp [PyData.depth, dPs]
  omega
theorem shPs2 (l m : List (Int × Int)) : PyData.canLay0 (.list [dPs l, dPs m]) = true ∧ SeqAt.shaped (.list [dPs l, dPs m]) = true := by
  have c : PyData.canLay0 (.list [dPs l, dPs m]) = true := by simp [PyData.canLay0, PyData.canLayAll0, dPs, canPr]
  refine ⟨c, ?_⟩
  unfold SeqAt.shaped
  rw [c]
  have a := depPr l
  have b := depPr m
  simp [PyData.depth, PyData.depthAll, dPs]
  omega
section
variable {K : PySem.W.Frag} {H : Hp} {Q : VK} {x y : V} {d : PyData}
theorem g_eqD (hx : Dp K H x d) (hy : Dp K H y d) (s : PyData.canLay0 d = true ∧ SeqAt.shaped d = true) (q : Q (.bl true) H) : rEqD K x y H Q := ⟨_, _, hx, hy, s.2, s.2, by rw [SeqAt.eqv_refl _ s.1]; exact q⟩
theorem g_neD (hx : Dp K H x d) (hy : Dp K H y d) (s : PyData.canLay0 d = true ∧ SeqAt.shaped d = true) (q : Q (.bl false) H) : rNeD K x y H Q := ⟨_, _, hx, hy, s.2, s.2, by rw [SeqAt.eqv_refl _ s.1]; exact q⟩
end
section
variable {X : Cx} (K : PySem.W.Frag) {o : Expr} {ta : TE} {t : TA} {apos cpos : Pos} {es : List Expr}
theorem pe_cntK {e : Expr} (ho : PE X o ta) (ha : PA X (e :: es) t) (h : X.K = K := by rfl) (hbase : attributeBase o "count" X.env (eval o X.env) = eval o X.env := by rfl)
    (hfew : ((backTo cpos (starEach (e :: es) X.env)).all (fun x => !x.1) && (backToKw cpos (keywordEach [] X.env)).all (fun x => x.1.isSome) && decide ((e :: es).length + ([] : List Keyword).length + (if ([] : List Keyword).isEmpty then 0 else 1) < 30)) = true := by rfl)
    (hline : (apos.endLine == cpos.line) = true := by rfl) (hs : starEach (e :: es) X.env = (false, eval e X.env) :: starEach es X.env := by rfl) (hplain : (backTo cpos (starEach es X.env)).any (·.1) = false := by rfl) : PE X (.Call (.Attribute o "count" apos) (e :: es) [] cpos) (tBM K "list" (rCntI K) ta t) := by
  subst h; exact pe_bm PySem.F.plainAttrs_list PySem.F.slot_list_count PySem.F.type_list_count mt_lcount ho ha hbase hfew hline hs hplain
end
end Rt
set_option Elab.async false
set_option linter.all false
set_option maxRecDepth 100000
set_option maxHeartbeats 4000000
/-! On a ring that each bead woke once: the last one is alone at all the lengths, and stays so. -/
namespace Rt
open PySem PySem.Spec L2
structure Jn (ls ss : List Int) (p : Nat) : Prop where
  len : ls.length = ss.length
  hp : p < ss.length
  l1 : ∀ o, o < ss.length → 1 ≤ ls.getD o 0
  top : ss.getD p 0 = ls.sum
  low : ∀ o, o < ss.length → o ≠ p → ss.getD o 0 < ls.sum
theorem twJ_all {α : Type} {q : α → Bool} : ∀ {l : List α}, (∀ x ∈ l, q x = true) → l.takeWhile q = l
  | [], _ => rfl
  | a :: l, h => by rw [List.takeWhile_cons, if_pos (h a List.mem_cons_self), twJ_all fun x hx => h x (List.mem_cons_of_mem _ hx)]
theorem twJ_mem {α : Type} {q : α → Bool} : ∀ {l : List α} {x : α}, x ∈ l.takeWhile q → q x = true
  | [], _, h => by simp at h
  | a :: l, x, h => by
    rw [List.takeWhile_cons] at h
    by_cases c : q a = true
    · rw [if_pos c] at h
      rcases List.mem_cons.mp h with e | h
      · rw [e]; exact c
      · exact twJ_mem h
    · rw [if_neg c] at h; cases h
section
variable {ls ss : List Int} {p o : Nat}
/-- p is not in its own run -/
theorem run_self {n p : Nat} (hp : p < n) : p ∉ run true n p := fun h => by
  obtain ⟨k, hk⟩ := List.mem_iff_getElem?.mp h
  rcases run_idx hp hk with ⟨_, ⟨_, e⟩ | ⟨_, _, e⟩⟩ <;> omega
theorem run_mem {n p o : Nat} (hp : p < n) (ho : o < n) (ne : o ≠ p) : o ∈ run true n p := by
  by_cases h : p < o
  · exact List.mem_of_getElem? (run_get (k := o - p - 1) hp (by omega) (.inl ⟨by omega, by omega⟩))
  · exact List.mem_of_getElem? (run_get (k := o + n - p - 1) hp (by omega) (.inr ⟨rfl, by omega, by omega⟩))
theorem rch_top (h : Jn ls ss p) : rch true ss ls p = ls.sum := by
  have e : trn true ss p = run true ss.length p := by
    unfold trn wk
    refine twJ_all fun o ho => decide_eq_true ?_
    rw [h.top]
    exact h.low o (run_lt h.hp o ho) fun z => run_self h.hp (z ▸ ho)
  rw [rch_eq, e, ← sm_cons, ← sm_all, h.len]
  have nd : (p :: run true ss.length p).Nodup := List.nodup_cons.mpr ⟨run_self h.hp, run_nd h.hp⟩
  have l0 : ∀ x, x < ss.length → 0 ≤ ls.getD x 0 := fun x hx => by have := h.l1 x hx; omega
  have a : sm ls (p :: run true ss.length p) ≤ sm ls (List.range ss.length) := sm_sub _ _ nd (fun x hx => by
    rcases List.mem_cons.mp hx with z | z
    · rw [z]; exact List.mem_range.mpr h.hp
    · exact List.mem_range.mpr (run_lt h.hp x z)) fun x hx => l0 x (List.mem_range.mp hx)
  have b : sm ls (List.range ss.length) ≤ sm ls (p :: run true ss.length p) := sm_sub _ _ List.nodup_range (fun x hx => by
    by_cases z : x = p
    · rw [z]; exact List.mem_cons_self
    · exact List.mem_cons_of_mem _ (run_mem h.hp (List.mem_range.mp hx) z)) fun x hx => by
    rcases List.mem_cons.mp hx with z | z
    · rw [z]; exact l0 p h.hp
    · exact l0 x (run_lt h.hp x z)
  omega
theorem rch_low (len : ls.length = ss.length) (l1 : ∀ o, o < ss.length → 1 ≤ ls.getD o 0) (hp : p < ss.length) (ho : o < ss.length) (ne : o ≠ p) (le : ss.getD o 0 ≤ ss.getD p 0) : rch true ss ls o < ls.sum := by
  rw [rch_eq, ← sm_cons, ← sm_all, len]
  have nt : p ∉ trn true ss o := fun z => by
    have := twJ_mem z
    unfold wk at this
    have := of_decide_eq_true this
    omega
  have no : o ∉ trn true ss o := fun z => run_self ho ((List.takeWhile_sublist _).subset z)
  have nd : (p :: o :: trn true ss o).Nodup := List.nodup_cons.mpr ⟨fun z => (List.mem_cons.mp z).elim (fun e => ne e.symm) nt, List.nodup_cons.mpr ⟨no, (run_nd ho).sublist (List.takeWhile_sublist _)⟩⟩
  have a : sm ls (p :: o :: trn true ss o) ≤ sm ls (List.range ss.length) := sm_sub _ _ nd (fun x hx => by
    rcases List.mem_cons.mp hx with z | z
    · rw [z]; exact List.mem_range.mpr hp
    · rcases List.mem_cons.mp z with z | z
      · rw [z]; exact List.mem_range.mpr ho
      · exact List.mem_range.mpr (trn_lt ho x z)) fun x hx => by have := l1 x (List.mem_range.mp hx); omega
  rw [sm_cons] at a
  have := l1 p hp
  omega
/-- any waking keeps it -/
theorem Jn.wkS (h : Jn ls ss p) (qs : List Int) : Jn ls (wkS true ss ls qs) p where
  len := by rw [wkS_len]; exact h.len
  hp := by rw [wkS_len]; exact h.hp
  l1 := fun o ho => by rw [wkS_len] at ho; exact h.l1 o ho
  top := by
    rw [wkS_at h.hp]
    split
    · exact rch_top h
    · exact h.top
  low := fun o ho ne => by
    rw [wkS_len] at ho
    rw [wkS_at ho]
    have lo := h.low o ho ne
    split
    · exact rch_low h.len h.l1 h.hp ho ne (by rw [h.top]; omega)
    · exact lo
theorem Jn.set (h : Jn ls ss p) {q : Nat} (hq : q < ss.length) : Jn ls (ss.set q (rch true ss ls q)) p := by
  have := h.wkS [(q : Int)]
  rw [wkS_one (by omega) (by omega), Int.toNat_natCast] at this
  exact this
theorem filter_one {q : Nat → Bool} {p : Nat} : ∀ {n : Nat}, p < n → (∀ o, o < n → (q o = true ↔ o = p)) → (List.range n).filter q = [p]
  | 0, h, _ => absurd h (Nat.not_lt_zero _)
  | n + 1, h, k => by
    rw [List.range_succ, List.filter_append]
    by_cases e : p = n
    · subst e
      have none : (List.range p).filter q = [] := List.filter_eq_nil_iff.mpr fun o ho z => by
        have := List.mem_range.mp ho
        have := (k o (by omega)).mp z
        omega
      rw [none, List.filter_cons, if_pos ((k p (by omega)).mpr rfl)]; rfl
    · rw [filter_one (p := p) (n := n) (by omega) fun o ho => k o (by omega), List.filter_cons, if_neg (fun z => e ((k n (by omega)).mp z).symm)]; rfl
theorem Jn.lrd (h : Jn ls ss p) {o : Nat} (ho : o < ss.length) : (Rt.lrd true ss o).isNone = true ↔ o = p := by
  constructor
  · intro z
    by_cases e : o = p
    · exact e
    · have := lrd_none_ring ho (Option.isNone_iff_eq_none.mp z) h.hp
      rw [h.top] at this
      have := h.low o ho e
      omega
  · intro e
    subst e
    cases c : Rt.lrd true ss o with
    | none => rfl
    | some x =>
      obtain ⟨a, b⟩ := lrd_some ho c
      by_cases e : x = o
      · rw [e] at b; omega
      · have := h.low x a e
        rw [h.top] at b; omega
/-- who has all the lengths or more -/
theorem Jn.tall (h : Jn ls ss p) {o : Nat} (ho : o < ss.length) : ls.sum ≤ ss.getD o 0 ↔ o = p := by
  constructor
  · intro z
    by_cases e : o = p
    · exact e
    · have := h.low o ho e; omega
  · intro e
    rw [e, h.top]; exact Int.le_refl _
theorem Jn.most (h : Jn ls ss p) : ls.sum ∈ ss ∧ ∀ y ∈ ss, y ≤ ls.sum := by
  refine ⟨by rw [← h.top]; exact getD_mem h.hp, fun y hy => ?_⟩
  obtain ⟨o, ho, rfl⟩ := mem_getD hy
  by_cases e : o = p
  · rw [e, h.top]; exact Int.le_refl _
  · have := h.low o ho e; omega
/-! ### the order -/
theorem all_places {n : Nat} {ps : List Nat} (nd : ps.Nodup) (hin : ∀ p ∈ ps, p < n) (l : ps.length = n) {o : Nat} (ho : o < n) : o ∈ ps := by
  by_cases m : o ∈ ps
  · exact m
  · exfalso
    have inn : ∀ x ∈ o :: ps, x < n := fun x hx => (List.mem_cons.mp hx).elim (fun e => by rw [e]; exact ho) (hin x)
    have a := sm_sub (ls := on1 n) (o :: ps) (List.range n) (List.nodup_cons.mpr ⟨m, nd⟩) (fun x hx => List.mem_range.mpr (inn x hx)) fun x hx => by
      have := (on1_pos (ss := List.replicate n 0)).pos x (by rw [List.length_replicate]; exact List.mem_range.mp hx)
      rw [List.length_replicate] at this
      omega
    rw [sm_on1 inn, sm_on1 (fun x hx => List.mem_range.mp hx), List.length_range, List.length_cons, l] at a
    omega
/-- ps: the order by places -/
def stN (ls : List Int) (ps : List Nat) (i : Nat) : List Int := setW true ls (strt ls) (iI (ps.take i))
theorem stN_len {ls : List Int} {ps : List Nat} {i : Nat} : (stN ls ps i).length = ls.length := by unfold stN; rw [setW_len, strt_len]
theorem stN_step {ls : List Int} {ps : List Nat} {i q : Nat} (h : ps[i]? = some q) : stN ls ps (i + 1) = (stN ls ps i).set q (rch true (stN ls ps i) ls q) := by
  unfold stN
  rw [take_more h]
  unfold iI
  rw [List.map_append]
  show setW true ls (strt ls) (_ ++ [(q : Int)]) = _
  rw [setW_more, Int.toNat_natCast]
theorem strt_at {ls : List Int} {o : Nat} (ho : o < ls.length) : (strt ls).getD o 0 = ls.sum := by
  unfold strt
  rw [List.getD_eq_getElem?_getD, List.getElem?_replicate, if_pos ho]; rfl
theorem stN_low {ls : List Int} {ps : List Nat} (l1 : ∀ o, o < ls.length → 1 ≤ ls.getD o 0) (nd : ps.Nodup) (hin : ∀ p ∈ ps, p < ls.length) (l : ps.length = ls.length) : ∀ i, i + 1 ≤ ls.length → ∀ o, o < ls.length → (o ∈ ps.take i → (stN ls ps i).getD o 0 < ls.sum) ∧ (o ∉ ps.take i → (stN ls ps i).getD o 0 = ls.sum) := by
  intro i
  induction i with
  | zero =>
    intro _ o ho
    refine ⟨fun h => by simp at h, fun _ => ?_⟩
    show (strt ls).getD o 0 = _
    exact strt_at ho
  | succ i ih =>
    intro hi o ho
    have ih := ih (by omega)
    have hq : ps[i]? = some ps[i] := List.getElem?_eq_getElem (by omega)
    have hz : ps[i + 1]? = some (ps[i + 1]'(by omega)) := List.getElem?_eq_getElem (by omega)
    generalize ps[i] = q at hq
    generalize ps[i + 1]'(by omega) = z at hz
    have ndi : ∀ {a b : Nat} {x : Nat}, ps[a]? = some x → ps[b]? = some x → a = b := fun {a b x} h1 h2 => by
      obtain ⟨h3, h4⟩ := List.getElem?_eq_some_iff.mp h1
      obtain ⟨h5, h6⟩ := List.getElem?_eq_some_iff.mp h2
      exact (List.getElem_inj nd).mp (h4.trans h6.symm)
    have out : ∀ {a x : Nat}, ps[a]? = some x → x ∉ ps.take a := fun {a x} h m => by
      obtain ⟨j, hj⟩ := List.mem_iff_getElem?.mp m
      rw [List.getElem?_take] at hj
      split at hj
      · have := ndi hj h; omega
      · cases hj
    have qn : q < ls.length := hin q (List.mem_of_getElem? hq)
    have zn : z < ls.length := hin z (List.mem_of_getElem? hz)
    have nq := out hq
    have nz : z ∉ ps.take i := fun m => by
      have := out hz
      rw [take_more hq] at this
      exact this (List.mem_append_left _ m)
    have zq : q ≠ z := fun e => by
      have := ndi hq (e ▸ hz); omega
    have sq := (ih q qn).2 nq
    have sz := (ih z zn).2 nz
    have rq : rch true (stN ls ps i) ls q < ls.sum := rch_low (by rw [stN_len]) (by rw [stN_len]; exact l1) (by rw [stN_len]; exact zn) (by rw [stN_len]; exact qn) zq (by rw [sq, sz]; exact Int.le_refl _)
    rw [stN_step hq, take_more hq]
    by_cases e : o = q
    · subst e
      rw [set_at (by rw [stN_len]; exact qn)]
      exact ⟨fun _ => rq, fun h => absurd (List.mem_append_right _ List.mem_cons_self) h⟩
    · rw [set_ne' (fun z => e z.symm)]
      refine ⟨fun h => (ih o ho).1 ?_, fun h => (ih o ho).2 fun z => h (List.mem_append_left _ z)⟩
      rcases List.mem_append.mp h with z | z
      · exact z
      · exact absurd (List.mem_singleton.mp z) e
/-- woken once each: the last is alone -/
theorem stN_last {ls : List Int} {ps : List Nat} {p : Nat} (l1 : ∀ o, o < ls.length → 1 ≤ ls.getD o 0) (nd : ps.Nodup) (hin : ∀ p ∈ ps, p < ls.length) (l : ps.length = ls.length) (h0 : 0 < ls.length) (hp : ps[ls.length - 1]? = some p) : Jn ls (stN ls ps ls.length) p := by
  have k := stN_low l1 nd hin l (ls.length - 1) (by omega)
  have pn : p < ls.length := hin p (List.mem_of_getElem? hp)
  have np : p ∉ ps.take (ls.length - 1) := fun m => by
    obtain ⟨j, hj⟩ := List.mem_iff_getElem?.mp m
    rw [List.getElem?_take] at hj
    split at hj
    · obtain ⟨h3, h4⟩ := List.getElem?_eq_some_iff.mp hj
      obtain ⟨h5, h6⟩ := List.getElem?_eq_some_iff.mp hp
      have := (List.getElem_inj nd).mp (h4.trans h6.symm)
      omega
    · cases hj
  have J : Jn ls (stN ls ps (ls.length - 1)) p := by
    refine ⟨by rw [stN_len], by rw [stN_len]; exact pn, by rw [stN_len]; exact l1, (k p pn).2 np, fun o ho ne => ?_⟩
    rw [stN_len] at ho
    refine (k o ho).1 ?_
    have m := all_places nd hin l ho
    obtain ⟨j, hj⟩ := List.mem_iff_getElem?.mp m
    have jl : j < ps.length := (List.getElem?_eq_some_iff.mp hj).1
    by_cases e : j = ls.length - 1
    · rw [e, hp] at hj
      exact absurd (Option.some.inj hj).symm ne
    · exact List.mem_of_getElem? (i := j) (by rw [List.getElem?_take, if_pos (by omega)]; exact hj)
  have st := stN_step (ls := ls) hp
  rw [show ls.length - 1 + 1 = ls.length by omega] at st
  rw [st]
  exact J.set (by rw [stN_len]; exact pn)
end
end Rt
set_option Elab.async false
set_option linter.all false
set_option maxRecDepth 100000
set_option maxHeartbeats 4000000
namespace Rt
open PySem PySem.Spec L2 PyProof.Rows
/-- a comprehension over the pairs of a tuple -/
theorem lc_enuT {K : PySem.W.Frag} {a : Addr} {xs : List V} {g : TG} {tt : TT} {te : TE} {vs : List Nat} {σ : L2.St} {H1 : Hp} {D : Addr} {Qd : Hp → Prop} (Pv : Nat → Hp → Prop) (h0 : Pv 0 (upd H1 D (.lst []))) (hl : ∀ i H, Pv i H → SqT K H a xs)
    (turn : ∀ (i : Nat) (x : V) (T : Addr) (H : Hp), xs[i]? = some x → Pv i H → H T = none → g (.ref T) (wipe σ vs) (upd H T (.tup [.int (i : Nat), x])) fun σ2 H2 => wipe σ2 vs = wipe σ vs ∧ tt σ2 H2 fun b H3 =>
      if b = true then te σ2 H3 fun y H4 => ∃ acc, H4 D = some (.lst acc) ∧ acc.length < sizeLine ∧ Pv (i + 1) (upd H4 D (.lst (acc ++ [y]))) else Pv (i + 1) H3) (done : ∀ H, Pv xs.length H → Qd H) :
    ∃ W : Nat → Nat → Hp → Prop, (∃ m, W 0 m (upd H1 D (.lst []))) ∧ ∀ i m H, W i m H →
      ((IteT K a).stop i H ∧ Qd H) ∨ ((IteT K a).go i H ∧ ∃ Nx : Hp → Prop, (∀ H', Nx H' → ∃ m', m' < m ∧ W (i + 1) m' H') ∧ ∀ x H', (IteT K a).yld i H x H' → g x (wipe σ vs) H' fun σ2 H2 => wipe σ2 vs = wipe σ vs ∧ tt σ2 H2 fun b H3 =>
        if b = true then te σ2 H3 fun y H4 => ∃ acc, H4 D = some (.lst acc) ∧ acc.length < sizeLine ∧ Nx (upd H4 D (.lst (acc ++ [y]))) else Nx H3) := by
  refine ⟨fun i m H => i + m = xs.length ∧ Pv i H, ⟨xs.length, Nat.zero_add _, h0⟩, fun i m H w => ?_⟩
  have sq := hl i H w.2
  cases m with
  | zero =>
    have e : i = xs.length := w.1
    exact Or.inl ⟨⟨xs, sq, by omega⟩, done H (by rw [← e]; exact w.2)⟩
  | succ m =>
    have lt : i < xs.length := by have := w.1; omega
    refine Or.inr ⟨⟨xs, xs[i], sq, List.getElem?_eq_getElem lt⟩, Pv (i + 1), fun H' z => ⟨m, Nat.lt_succ_self m, by have := w.1; omega, z⟩, fun x H' y => ?_⟩
    obtain ⟨T, v, e1, e2, e3, e4⟩ := y
    rw [e1, e3]
    exact turn i v T H (e4 xs sq) w.2 e2
theorem cr_allK {X : Cx} (K : PySem.W.Frag) (hc : X.calm = true) (h : X.K = K := by rfl) : CallR X (.builtin "all") (rAll K) := by subst h; exact cr_all hc
end Rt
set_option Elab.async false
set_option linter.all false
set_option maxRecDepth 100000
set_option maxHeartbeats 4000000
/-! Arcs of a ring: sums along it, steps at the multiples of an arc, cuts. -/
namespace Rt
open PySem PySem.Spec L2
def off (ls : List Int) (k : Nat) : Int := (ls.take k).sum
theorem off_zero (ls : List Int) : off ls 0 = 0 := rfl
theorem off_succ {ls : List Int} {k : Nat} (h : k < ls.length) : off ls (k + 1) = off ls k + ls.getD k 0 := by
  unfold off
  rw [List.take_add_one, List.sum_append, List.getD_eq_getElem?_getD, List.getElem?_eq_getElem h]
  simp
theorem off_all {ls : List Int} : off ls ls.length = ls.sum := by unfold off; rw [List.take_length]
/-- the lengths of the first s beads from f on -/
def Wf (ls : List Int) (f : Nat) : Nat → Int
  | 0 => 0
  | s + 1 => Wf ls f s + ls.getD ((f + s) % ls.length) 0
theorem Wf_succ {ls : List Int} {f s : Nat} : Wf ls f (s + 1) = Wf ls f s + ls.getD ((f + s) % ls.length) 0 := rfl
theorem Wf_off {ls : List Int} {f : Nat} : ∀ s, f + s ≤ ls.length → Wf ls f s = off ls (f + s) - off ls f
  | 0, _ => by rw [Nat.add_zero]; show (0 : Int) = _; omega
  | s + 1, h => by
    rw [Wf_succ, Wf_off s (by omega), Nat.mod_eq_of_lt (by omega), ← Nat.add_assoc, off_succ (by omega)]
    omega
theorem Wf_wrap {ls : List Int} {f : Nat} (hf : f < ls.length) : ∀ t, t ≤ f → Wf ls f (ls.length - f + t) = ls.sum - off ls f + off ls t
  | 0, _ => by
    rw [Nat.add_zero, Wf_off _ (by omega), show f + (ls.length - f) = ls.length by omega, off_all, off_zero]; omega
  | t + 1, h => by
    rw [← Nat.add_assoc, Wf_succ, Wf_wrap hf t (by omega), show f + (ls.length - f + t) = ls.length + t by omega, Nat.add_mod_left, Nat.mod_eq_of_lt (by omega), off_succ (by omega)]
    omega
theorem Wf_n {ls : List Int} {f : Nat} (hf : f < ls.length) : Wf ls f ls.length = ls.sum := by
  have := Wf_wrap hf f (Nat.le_refl _)
  rw [show ls.length - f + f = ls.length by omega] at this
  rw [this]; omega
def Ps (ls : List Int) : Prop := ∀ x ∈ ls, 1 ≤ x
theorem Ps.at_ {ls : List Int} (h : Ps ls) {k : Nat} (hk : k < ls.length) : 1 ≤ ls.getD k 0 := h _ (getD_mem hk)
theorem Wf_lt {ls : List Int} {f s : Nat} (h : Ps ls) (h0 : 0 < ls.length) : ∀ t, s < t → Wf ls f s < Wf ls f t
  | 0, z => by omega
  | t + 1, z => by
    have a := h.at_ (k := (f + t) % ls.length) (Nat.mod_lt _ h0)
    rw [Wf_succ]
    rcases Nat.lt_succ_iff_lt_or_eq.mp z with y | y
    · have := Wf_lt (f := f) h h0 t y; omega
    · rw [y]; omega
theorem Wf_inj {ls : List Int} {f s t : Nat} (h : Ps ls) (h0 : 0 < ls.length) (e : Wf ls f s = Wf ls f t) : s = t := by
  rcases Nat.lt_trichotomy s t with z | z | z
  · have := Wf_lt (f := f) h h0 t z; omega
  · exact z
  · have := Wf_lt (f := f) h h0 s z; omega
theorem Wf_of_lt {ls : List Int} {f s t : Nat} (h : Ps ls) (h0 : 0 < ls.length) (e : Wf ls f s < Wf ls f t) : s < t := by
  rcases Nat.lt_trichotomy s t with z | z | z
  · exact z
  · rw [z] at e; omega
  · have := Wf_lt (f := f) h h0 s z; omega
/-- S: the steps from f on at the multiples of a, the whole way round -/
structure Steps (ls : List Int) (f : Nat) (a : Int) (S : List Nat) : Prop where
  ne : 0 < S.length
  lt : ∀ k, k < S.length → S.getD k 0 < ls.length
  at_ : ∀ k : Nat, k < S.length → Wf ls f (S.getD k 0) = (k : Int) * a
  all : Wf ls f ls.length = (S.length : Int) * a
theorem Steps.pos {ls : List Int} {f : Nat} {a : Int} {S : List Nat} (T : Steps ls f a S) (h : Ps ls) (h0 : 0 < ls.length) : 0 < a := by
  have := Wf_lt (f := f) (s := 0) h h0 ls.length h0
  rw [T.all] at this
  have z : Wf ls f 0 = 0 := rfl
  rw [z] at this
  rcases Int.lt_or_le 0 a with y | y
  · exact y
  · have := Int.mul_le_mul_of_nonneg_left y (show (0 : Int) ≤ (S.length : Int) by omega)
    rw [Int.mul_zero] at this; omega
theorem ext_getN {a b : List Nat} (h : a.length = b.length) (e : ∀ k, k < a.length → a.getD k 0 = b.getD k 0) : a = b := by
  refine List.ext_getElem h fun k h1 h2 => ?_
  have := e k h1
  rw [List.getD_eq_getElem?_getD, List.getD_eq_getElem?_getD, List.getElem?_eq_getElem h1, List.getElem?_eq_getElem h2] at this
  exact this
theorem getD_sub {c : List Nat} {f k : Nat} : (c.map (· - f)).getD k 0 = c.getD k 0 - f := by
  rw [List.getD_eq_getElem?_getD, List.getD_eq_getElem?_getD, List.getElem?_map]
  cases c[k]? with
  | none => show (0 : Nat) = 0 - f; omega
  | some v => rfl
theorem Steps.uniq {ls : List Int} {f : Nat} {a : Int} {S S' : List Nat} (T : Steps ls f a S) (T' : Steps ls f a S') (h : Ps ls) (h0 : 0 < ls.length) : S = S' := by
  have ap := T.pos h h0
  have el : S.length = S'.length := by
    have := T.all.symm.trans T'.all
    have := Int.eq_of_mul_eq_mul_right (Int.ne_of_gt ap) this
    omega
  refine ext_getN el fun k hk => ?_
  exact Wf_inj h h0 ((T.at_ k hk).trans (T'.at_ k (by omega)).symm)
theorem Steps.zero {ls : List Int} {f : Nat} {a : Int} {S : List Nat} (T : Steps ls f a S) (h : Ps ls) (h0 : 0 < ls.length) : S.getD 0 0 = 0 := by
  have := T.at_ 0 T.ne
  refine Wf_inj (f := f) h h0 (this.trans ?_)
  show ((0 : Nat) : Int) * a = 0
  simp
theorem Steps.asc {ls : List Int} {f : Nat} {a : Int} {S : List Nat} (T : Steps ls f a S) (h : Ps ls) (h0 : 0 < ls.length) {j k : Nat} (hjk : j < k) (hk : k < S.length) : S.getD j 0 < S.getD k 0 := by
  refine Wf_of_lt (f := f) h h0 ?_
  rw [T.at_ j (by omega), T.at_ k hk]
  exact Int.mul_lt_mul_of_pos_right (by omega) (T.pos h h0)
/-! ### the walk round: run, and the steps at which a part began -/
structure WkI (ls : List Int) (f : Nat) (a : Int) (i : Nat) (run : Int) (S : List Nat) : Prop where
  le : ∀ k : Nat, k < S.length → S.getD k 0 < i ∧ Wf ls f (S.getD k 0) = (k : Int) * a
  st : (run = 0 ∧ Wf ls f i = (S.length : Int) * a) ∨ (0 < run ∧ run < a ∧ 0 < S.length ∧ Wf ls f i = ((S.length : Int) - 1) * a + run)
theorem WkI.init {ls : List Int} {f : Nat} {a : Int} : WkI ls f a 0 0 [] := ⟨fun k h => by simp at h, .inl ⟨rfl, by simp [Wf]⟩⟩
theorem getD_snoc {S : List Nat} {i k : Nat} : (S ++ [i]).getD k 0 = if k < S.length then S.getD k 0 else if k = S.length then i else 0 := by
  rw [List.getD_eq_getElem?_getD, List.getElem?_append]
  by_cases c : k < S.length
  · rw [if_pos c, if_pos c, ← List.getD_eq_getElem?_getD]
  · rw [if_neg c, if_neg c]
    by_cases d : k = S.length
    · rw [if_pos d, d, Nat.sub_self]; rfl
    · rw [if_neg d, List.getElem?_eq_none (by simp; omega)]; rfl
/-- after the head is told, the part is open: W i = (len - 1) * a + run, 0 ≤ run < a or a ≤ 0 -/
theorem WkI.opened {ls : List Int} {f : Nat} {a : Int} {i : Nat} {run : Int} {S : List Nat} (w : WkI ls f a i run S) : ∃ S', S' = (if run = 0 then S ++ [i] else S) ∧ 0 < S'.length ∧ (∀ k : Nat, k < S'.length → S'.getD k 0 < i + 1 ∧ Wf ls f (S'.getD k 0) = (k : Int) * a) ∧ Wf ls f i = ((S'.length : Int) - 1) * a + run ∧ 0 ≤ run ∧ (run = 0 ∨ run < a) := by
  refine ⟨_, rfl, ?_⟩
  rcases w.st with ⟨e, hw⟩ | ⟨r0, r1, l0, hw⟩
  · rw [if_pos e]
    refine ⟨by simp, fun k hk => ?_, ?_, by omega, .inl e⟩
    · rw [getD_snoc]
      rw [List.length_append, List.length_singleton] at hk
      by_cases c : k < S.length
      · rw [if_pos c]; exact ⟨by have := (w.le k c).1; omega, (w.le k c).2⟩
      · have : k = S.length := by omega
        rw [if_neg c, if_pos this]
        exact ⟨by omega, by rw [hw, this]⟩
    · rw [List.length_append, List.length_singleton, hw, e, show (((S.length + 1 : Nat) : Int) - 1) = (S.length : Int) by omega]; omega
  · rw [if_neg (by omega)]
    exact ⟨l0, fun k hk => ⟨by have := (w.le k hk).1; omega, (w.le k hk).2⟩, hw, by omega, .inr r1⟩
theorem WkI.next {ls : List Int} {f : Nat} {a : Int} {i : Nat} {run : Int} {S : List Nat} (w : WkI ls f a i run S) (h : Ps ls) (h0 : 0 < ls.length) (le : run + ls.getD ((f + i) % ls.length) 0 ≤ a) :
    WkI ls f a (i + 1) (if run + ls.getD ((f + i) % ls.length) 0 = a then 0 else run + ls.getD ((f + i) % ls.length) 0) (if run = 0 then S ++ [i] else S) := by
  obtain ⟨S', e, l0, hk, hw, r0, r1⟩ := w.opened
  rw [← e]
  have lp := h.at_ (k := (f + i) % ls.length) (Nat.mod_lt _ h0)
  have hs : Wf ls f (i + 1) = ((S'.length : Int) - 1) * a + (run + ls.getD ((f + i) % ls.length) 0) := by rw [Wf_succ, hw]; omega
  refine ⟨hk, ?_⟩
  by_cases c : run + ls.getD ((f + i) % ls.length) 0 = a
  · rw [if_pos c]
    refine .inl ⟨rfl, ?_⟩
    rw [hs, c, Int.sub_mul]; omega
  · rw [if_neg c]
    exact .inr ⟨by omega, by omega, l0, hs⟩
theorem WkI.no {ls : List Int} {f : Nat} {a : Int} {i : Nat} {run : Int} {S : List Nat} (w : WkI ls f a i run S) (h : Ps ls) (h0 : 0 < ls.length) (hi : i < ls.length) (gt : a < run + ls.getD ((f + i) % ls.length) 0) (T : List Nat) : ¬ Steps ls f a T := fun t => by
  obtain ⟨S', e, l0, hk, hw, r0, r1⟩ := w.opened
  have ap := t.pos h h0
  have hs : Wf ls f (i + 1) = ((S'.length : Int) - 1) * a + (run + ls.getD ((f + i) % ls.length) 0) := by rw [Wf_succ, hw]; omega
  have big : (S'.length : Int) * a < Wf ls f (i + 1) := by rw [hs, Int.sub_mul]; omega
  have low : Wf ls f i < (S'.length : Int) * a := by
    rw [hw, Int.sub_mul]
    rcases r1 with z | z <;> omega
  have top : Wf ls f (i + 1) ≤ Wf ls f ls.length := by
    rcases Nat.lt_or_ge (i + 1) ls.length with z | z
    · exact Int.le_of_lt (Wf_lt h h0 _ z)
    · rw [show i + 1 = ls.length by omega]; exact Int.le_refl _
  rw [t.all] at top
  have lt : S'.length < T.length := by
    have : (S'.length : Int) * a < (T.length : Int) * a := by omega
    have := Int.lt_of_mul_lt_mul_right this (by omega)
    omega
  have z := t.at_ S'.length lt
  rw [← z] at low big
  have b1 := Wf_of_lt h h0 low
  have b2 := Wf_of_lt h h0 big
  omega
theorem WkI.done {ls : List Int} {f : Nat} {a : Int} {S : List Nat} (w : WkI ls f a ls.length 0 S) (h : Ps ls) (h0 : 0 < ls.length) : Steps ls f a S := by
  have hw : Wf ls f ls.length = (S.length : Int) * a := by
    rcases w.st with ⟨_, hw⟩ | ⟨r0, _⟩
    · exact hw
    · omega
  have p := Wf_lt (f := f) (s := 0) h h0 ls.length h0
  have z : Wf ls f 0 = 0 := rfl
  rw [z, hw] at p
  refine ⟨?_, fun k hk => (w.le k hk).1, fun k hk => (w.le k hk).2, hw⟩
  rcases Nat.eq_zero_or_pos S.length with y | y
  · rw [y] at p; simp at p
  · exact y
theorem WkI.left {ls : List Int} {f : Nat} {a run : Int} {S : List Nat} (w : WkI ls f a ls.length run S) (hr : run ≠ 0) (T : List Nat) : ¬ Steps ls f a T := fun t => by
  rcases w.st with ⟨e, _⟩ | ⟨r0, r1, l0, hw⟩
  · exact hr e
  · rw [t.all] at hw
    have e : ((T.length : Int) - ((S.length : Int) - 1)) * a = run := by rw [Int.sub_mul]; omega
    rcases Int.lt_trichotomy ((T.length : Int) - ((S.length : Int) - 1)) 0 with z | z | z
    · have := Int.mul_neg_of_neg_of_pos z (show 0 < a by omega); omega
    · rw [z] at e; simp at e; omega
    · have := Int.mul_le_mul_of_nonneg_right (show 1 ≤ (T.length : Int) - ((S.length : Int) - 1) by omega) (show 0 ≤ a by omega)
      omega
/-! ### the heads: places in their order -/
def plc (n f s : Nat) : Nat := (f + s) % n
/-- r: the places at the steps, ascending; [] if there are none -/
def HdR (ls : List Int) (f : Nat) (a : Int) (r : List Nat) : Prop := (∃ S, Steps ls f a S ∧ r.Perm (S.map (plc ls.length f)) ∧ r.Pairwise (· ≤ ·)) ∨ (r = [] ∧ ∀ S, ¬ Steps ls f a S)
theorem HdR.lt {ls : List Int} {f : Nat} {a : Int} {r : List Nat} (h : HdR ls f a r) (h0 : 0 < ls.length) : ∀ x ∈ r, x < ls.length := fun x hx => by
  rcases h with ⟨S, _, p, _⟩ | ⟨e, _⟩
  · obtain ⟨s, _, rfl⟩ := List.mem_map.mp (p.mem_iff.mp hx)
    exact Nat.mod_lt _ h0
  · rw [e] at hx; cases hx
theorem HdR.ne {ls : List Int} {f : Nat} {a : Int} {r : List Nat} (h : HdR ls f a r) : r ≠ [] ↔ ∃ S, Steps ls f a S := by
  rcases h with ⟨S, t, p, _⟩ | ⟨e, no⟩
  · refine ⟨fun _ => ⟨S, t⟩, fun _ z => ?_⟩
    have := p.length_eq
    rw [z, List.length_map] at this
    have := t.ne
    simp at *
    omega
  · exact ⟨fun z => absurd e z, fun ⟨S, t⟩ => absurd t (no S)⟩
theorem sortedN_eq : ∀ {a b : List Nat}, a.Perm b → a.Pairwise (· ≤ ·) → b.Pairwise (· ≤ ·) → a = b
  | [], b, p, _, _ => by rw [List.nil_perm.mp p]
  | x :: a, [], p, _, _ => by simp at p
  | x :: a, y :: b, p, ha, hb => by
    have h1 := List.pairwise_cons.mp ha
    have h2 := List.pairwise_cons.mp hb
    have xy : x = y := by
      have m1 : x ∈ y :: b := p.mem_iff.mp List.mem_cons_self
      have m2 : y ∈ x :: a := p.mem_iff.mpr List.mem_cons_self
      rcases List.mem_cons.mp m1 with e | e
      · exact e
      · rcases List.mem_cons.mp m2 with f | f
        · exact f.symm
        · have := h1.1 y f; have := h2.1 x e; omega
    subst xy
    rw [sortedN_eq (List.Perm.cons_inv p) h1.2 h2.2]
/-- places that lie behind f, in the order of their steps -/
theorem map_asc {n f : Nat} {S : List Nat} (hs : ∀ s ∈ S, f + s < n) (hp : S.Pairwise (· < ·)) : (S.map (plc n f)) = S.map (f + ·) ∧ (S.map (f + ·)).Pairwise (· ≤ ·) := by
  refine ⟨List.map_congr_left fun s h => Nat.mod_eq_of_lt (hs s h), List.pairwise_map.mpr (hp.imp fun {a b} h => by omega)⟩
theorem pw_of {S : List Nat} (h : ∀ j k, j < k → k < S.length → S.getD j 0 < S.getD k 0) : S.Pairwise (· < ·) := by
  refine List.pairwise_iff_getElem.mpr fun i j hi hj hij => ?_
  have := h i j hij hj
  rw [List.getD_eq_getElem?_getD, List.getD_eq_getElem?_getD, List.getElem?_eq_getElem hi, List.getElem?_eq_getElem hj] at this
  exact this
theorem of_pw {S : List Nat} (h : S.Pairwise (· < ·)) {j k : Nat} (hjk : j < k) (hk : k < S.length) : S.getD j 0 < S.getD k 0 := by
  have := List.pairwise_iff_getElem.mp h j k (by omega) hk hjk
  rw [List.getD_eq_getElem?_getD, List.getD_eq_getElem?_getD, List.getElem?_eq_getElem hk, List.getElem?_eq_getElem (by omega)]
  exact this
theorem mem_getN {S : List Nat} {s : Nat} (h : s ∈ S) : ∃ k, k < S.length ∧ S.getD k 0 = s := by
  obtain ⟨k, hk, e⟩ := List.mem_iff_getElem.mp h
  exact ⟨k, hk, by rw [List.getD_eq_getElem?_getD, List.getElem?_eq_getElem hk, ← e]; rfl⟩
/-- the heads from the least of an ascending list are that list just if its steps are the multiples of a -/
theorem HdR.is {ls : List Int} {f : Nat} {a : Int} {r c : List Nat} (h : HdR ls f a r) (hl : Ps ls) (hc0 : 0 < c.length) (hcf : c.getD 0 0 = f) (hpw : c.Pairwise (· < ·)) (hlt : ∀ x ∈ c, x < ls.length) : r = c ↔ Steps ls f a (c.map (· - f)) := by
  have h0 : 0 < ls.length := by
    obtain ⟨x, hx⟩ := List.exists_mem_of_length_pos hc0
    have := hlt x hx; omega
  have hge : ∀ x ∈ c, f ≤ x := fun x hx => by
    obtain ⟨k, hk, e⟩ := mem_getN hx
    rcases Nat.eq_zero_or_pos k with z | z
    · rw [z, hcf] at e; omega
    · have := of_pw hpw z hk; omega
  have back : (c.map (· - f)).map (f + ·) = c := by
    rw [List.map_map]
    refine (List.map_congr_left fun x hx => ?_).trans (List.map_id c)
    show f + (x - f) = id x
    have := hge x hx
    show f + (x - f) = x
    omega
  have asc : (c.map (· - f)).Pairwise (· < ·) := List.pairwise_map.mpr (hpw.imp_of_mem fun {a b} ha hb h => by
    have := hge a ha; have := hge b hb; omega)
  have inn : ∀ s ∈ c.map (· - f), f + s < ls.length := fun s hs => by
    obtain ⟨x, hx, rfl⟩ := List.mem_map.mp hs
    have := hge x hx; have := hlt x hx; omega
  constructor
  · intro e
    subst e
    rcases h with ⟨S, t, p, pw⟩ | ⟨e, _⟩
    · have hS : ∀ s ∈ S, f + s < ls.length := fun s hs => by
        have hs' : s < ls.length := by
          obtain ⟨k, hk, e⟩ := mem_getN hs
          rw [← e]; exact t.lt k hk
        have g := hge _ (p.mem_iff.mpr (List.mem_map.mpr ⟨s, hs, rfl⟩))
        rcases Nat.lt_or_ge (f + s) ls.length with z | z
        · exact z
        · unfold plc at g
          have f0 : f < ls.length := by have := hlt _ (p.mem_iff.mpr (List.mem_map.mpr ⟨s, hs, rfl⟩)); unfold plc at this; omega
          rw [Nat.mod_eq_sub_mod z, Nat.mod_eq_of_lt (by omega)] at g
          omega
      obtain ⟨e1, e2⟩ := map_asc hS (pw_of fun j k a b => t.asc hl h0 a b)
      rw [e1] at p
      have := sortedN_eq p pw e2
      have e3 : r.map (· - f) = S := by
        rw [this, List.map_map]
        refine (List.map_congr_left fun x hx => ?_).trans (List.map_id S)
        show f + x - f = id x
        show f + x - f = x
        omega
      rw [e3]; exact t
    · rw [e] at hc0; simp at hc0
  · intro t
    rcases h with ⟨S, t', p, pw⟩ | ⟨_, no⟩
    · have := t'.uniq t hl h0
      subst this
      obtain ⟨e1, e2⟩ := map_asc inn asc
      rw [e1] at p
      rw [back] at p e2
      exact sortedN_eq p pw e2
    · exact absurd t (no _)
/-! ### cuts: the arcs of a list of places -/
def offI (ls : List Int) (x : Int) : Int := off ls x.toNat
def ascB (n : Int) (cs : List Int) : Bool := (decide (cs ≠ []) && (decide (0 ≤ cs.getD 0 0) && decide (cs.getD (cs.length - 1) 0 < n))) && (List.range (cs.length - 1)).all fun k => decide (cs.getD k 0 < cs.getD (k + 1) 0)
def arcsI (ls cs : List Int) : List Int := (List.range cs.length).map fun k => (if k + 1 < cs.length then offI ls (cs.getD (k + 1) 0) else offI ls (cs.getD 0 0) + ls.sum) - offI ls (cs.getD k 0)
theorem arcsI_len {ls cs : List Int} : (arcsI ls cs).length = cs.length := by unfold arcsI; rw [List.length_map, List.length_range]
theorem arcsI_at {ls cs : List Int} {k : Nat} (h : k < cs.length) : (arcsI ls cs).getD k 0 = (if k + 1 < cs.length then offI ls (cs.getD (k + 1) 0) else offI ls (cs.getD 0 0) + ls.sum) - offI ls (cs.getD k 0) := by
  unfold arcsI
  rw [List.getD_eq_getElem?_getD, List.getElem?_map, List.getElem?_range h]; rfl
def arcOf (ls cs : List Int) : Option Int := if ascB ls.length cs = true ∧ ∀ x ∈ arcsI ls cs, x = (arcsI ls cs).getD 0 0 then some ((arcsI ls cs).getD 0 0) else none
/-- ascending, each in the ring -/
structure AscN (n : Nat) (c : List Nat) : Prop where
  ne : 0 < c.length
  pw : c.Pairwise (· < ·)
  lt : ∀ x ∈ c, x < n
theorem iI_getD {c : List Nat} {k : Nat} : (iI c).getD k 0 = ((c.getD k 0 : Nat) : Int) := by
  unfold iI
  rw [List.getD_eq_getElem?_getD, List.getD_eq_getElem?_getD, List.getElem?_map]
  cases c[k]? <;> rfl
theorem iI_len {c : List Nat} : (iI c).length = c.length := by unfold iI; rw [List.length_map]
theorem ascB_iff {n : Nat} {cs : List Int} : ascB n cs = true ↔ ∃ c, AscN n c ∧ cs = iI c := by
  constructor
  · intro h
    unfold ascB at h
    rw [Bool.and_eq_true, Bool.and_eq_true, Bool.and_eq_true] at h
    obtain ⟨⟨h1, h2, h3⟩, h4⟩ := h
    have ne : cs ≠ [] := of_decide_eq_true h1
    have l0 : 0 < cs.length := List.length_pos_iff.mpr ne
    have h2 := of_decide_eq_true h2
    have h3 := of_decide_eq_true h3
    have st : ∀ k, k + 1 < cs.length → cs.getD k 0 < cs.getD (k + 1) 0 := fun k hk => of_decide_eq_true (List.all_eq_true.mp h4 k (List.mem_range.mpr (by omega)))
    have mono : ∀ j d, j + d < cs.length → cs.getD j 0 + (d : Int) ≤ cs.getD (j + d) 0 := fun j d => by
      induction d with
      | zero => intro _; rw [Nat.add_zero]; omega
      | succ d ih =>
        intro hd
        have a := ih (by omega)
        have b := st (j + d) (by omega)
        rw [← Nat.add_assoc]; omega
    have ge : ∀ k, k < cs.length → 0 ≤ cs.getD k 0 := fun k hk => by
      have := mono 0 k (by omega)
      rw [Nat.zero_add] at this; omega
    have lt : ∀ k, k < cs.length → cs.getD k 0 < (n : Int) := fun k hk => by
      have := mono k (cs.length - 1 - k) (by omega)
      rw [show k + (cs.length - 1 - k) = cs.length - 1 by omega] at this; omega
    have gm : ∀ k, (cs.map Int.toNat).getD k 0 = (cs.getD k 0).toNat := fun k => by
      rw [List.getD_eq_getElem?_getD, List.getD_eq_getElem?_getD, List.getElem?_map]
      cases cs[k]? <;> rfl
    refine ⟨cs.map Int.toNat, ⟨by rw [List.length_map]; exact l0, pw_of fun j k a b => ?_, fun x hx => ?_⟩, ?_⟩
    · rw [List.length_map] at b
      rw [gm, gm]
      have := mono j (k - j) (by omega)
      rw [show j + (k - j) = k by omega] at this
      have := ge j (by omega)
      omega
    · obtain ⟨k, hk, e⟩ := mem_getN hx
      rw [List.length_map] at hk
      rw [gm] at e
      have := lt k hk; have := ge k hk; omega
    · refine ext_getD (by rw [iI_len, List.length_map]) fun k hk => ?_
      rw [iI_getD, gm]
      have := ge k hk; omega
  · rintro ⟨c, hc, rfl⟩
    unfold ascB
    have ne : iI c ≠ [] := fun z => by
      have e := iI_len (c := c)
      rw [z] at e
      have := hc.ne
      simp at e; omega
    have l0 := hc.ne
    have lst : c.getD (c.length - 1) 0 < n := by
      rw [List.getD_eq_getElem?_getD, List.getElem?_eq_getElem (by omega)]
      exact hc.lt _ (List.getElem_mem (by omega))
    rw [decide_eq_true ne, iI_getD, iI_getD, iI_len, decide_eq_true (by omega), decide_eq_true (by omega)]
    show (List.range (c.length - 1)).all _ = true
    refine List.all_eq_true.mpr fun k hk => ?_
    have := List.mem_range.mp hk
    rw [iI_getD, iI_getD]
    have := of_pw hc.pw (show k < k + 1 by omega) (by omega)
    exact decide_eq_true (by omega)
theorem offI_nat {ls : List Int} {c : List Nat} {k : Nat} : offI ls ((iI c).getD k 0) = off ls (c.getD k 0) := by unfold offI; rw [iI_getD, Int.toNat_natCast]
/-- all arcs are a just if the steps of the cut are the multiples of a -/
theorem arcs_steps {ls : List Int} {c : List Nat} {a : Int} (hc : AscN ls.length c) : (∀ x ∈ arcsI ls (iI c), x = a) ↔ Steps ls (c.getD 0 0) a (c.map (· - c.getD 0 0)) := by
  have l0 := hc.ne
  have lt : ∀ k, k < c.length → c.getD k 0 < ls.length := fun k hk => by
    rw [List.getD_eq_getElem?_getD, List.getElem?_eq_getElem hk]
    exact hc.lt _ (List.getElem_mem hk)
  have ge : ∀ k, k < c.length → c.getD 0 0 ≤ c.getD k 0 := fun k hk => by
    rcases Nat.eq_zero_or_pos k with z | z
    · rw [z]; exact Nat.le_refl _
    · exact Nat.le_of_lt (of_pw hc.pw z hk)
  have gm : ∀ k, (c.map (· - c.getD 0 0)).getD k 0 = c.getD k 0 - c.getD 0 0 := fun k => getD_sub
  have wf : ∀ k, k < c.length → Wf ls (c.getD 0 0) ((c.map (· - c.getD 0 0)).getD k 0) = off ls (c.getD k 0) - off ls (c.getD 0 0) := fun k hk => by
    have := ge k hk
    have := lt k hk
    rw [gm, Wf_off _ (by omega), show c.getD 0 0 + (c.getD k 0 - c.getD 0 0) = c.getD k 0 by omega]
  have at_ : ∀ k, k < c.length → (arcsI ls (iI c)).getD k 0 = (if k + 1 < c.length then off ls (c.getD (k + 1) 0) else off ls (c.getD 0 0) + ls.sum) - off ls (c.getD k 0) := fun k hk => by
    rw [arcsI_at (by rw [iI_len]; exact hk), iI_len, offI_nat, offI_nat, offI_nat]
  have wn := Wf_n (lt 0 l0)
  constructor
  · intro h
    have ev : ∀ k, k < c.length → (if k + 1 < c.length then off ls (c.getD (k + 1) 0) else off ls (c.getD 0 0) + ls.sum) - off ls (c.getD k 0) = a := fun k hk => by
      rw [← at_ k hk]
      exact h _ (getD_mem (by rw [arcsI_len, iI_len]; exact hk))
    have up : ∀ k : Nat, k < c.length → off ls (c.getD k 0) = off ls (c.getD 0 0) + (k : Int) * a := fun k => by
      induction k with
      | zero => intro _; simp
      | succ k ih =>
        intro hk
        have e := ev k (by omega)
        rw [if_pos hk] at e
        have := ih (by omega)
        rw [show ((k + 1 : Nat) : Int) = (k : Int) + 1 by omega, Int.add_mul]
        omega
    refine ⟨by rw [List.length_map]; exact l0, fun k hk => ?_, fun k hk => ?_, ?_⟩
    · rw [List.length_map] at hk
      rw [gm]
      have := lt k hk; omega
    · rw [List.length_map] at hk
      rw [wf k hk, up k hk]; omega
    · rw [List.length_map, wn]
      have e := ev (c.length - 1) (by omega)
      rw [if_neg (by omega), up (c.length - 1) (by omega)] at e
      have : ((c.length - 1 : Nat) : Int) = (c.length : Int) - 1 := by omega
      rw [this, Int.sub_mul] at e
      omega
  · intro t x hx
    obtain ⟨k, hk, e⟩ := List.mem_iff_getElem.mp hx
    have hk' : k < c.length := by rw [arcsI_len, iI_len] at hk; exact hk
    have ex : x = (arcsI ls (iI c)).getD k 0 := by rw [List.getD_eq_getElem?_getD, List.getElem?_eq_getElem hk, ← e]; rfl
    have up : ∀ k : Nat, k < c.length → off ls (c.getD k 0) = off ls (c.getD 0 0) + (k : Int) * a := fun k hk => by
      have := t.at_ k (by rw [List.length_map]; exact hk)
      rw [wf k hk] at this; omega
    have al := t.all
    rw [wn, List.length_map] at al
    rw [ex, at_ k hk', up k hk']
    by_cases z : k + 1 < c.length
    · rw [if_pos z, up (k + 1) z, show ((k + 1 : Nat) : Int) = (k : Int) + 1 by omega, Int.add_mul]; omega
    · rw [if_neg z, al]
      have : (c.length : Int) = (k : Int) + 1 := by omega
      rw [this, Int.add_mul]; omega
theorem arcOf_some {ls cs : List Int} {a : Int} : arcOf ls cs = some a ↔ ∃ c, AscN ls.length c ∧ cs = iI c ∧ Steps ls (c.getD 0 0) a (c.map (· - c.getD 0 0)) := by
  unfold arcOf
  constructor
  · intro h
    split at h
    · rename_i z
      obtain ⟨c, hc, rfl⟩ := ascB_iff.mp z.1
      refine ⟨c, hc, rfl, (arcs_steps hc).mp fun x hx => ?_⟩
      rw [z.2 x hx]
      exact Option.some.inj h
    · cases h
  · rintro ⟨c, hc, rfl, t⟩
    have al := (arcs_steps hc).mpr t
    have m0 : (arcsI ls (iI c)).getD 0 0 = a := al _ (getD_mem (by rw [arcsI_len, iI_len]; exact hc.ne))
    rw [if_pos ⟨ascB_iff.mpr ⟨c, hc, rfl⟩, fun x hx => by rw [m0]; exact al x hx⟩, m0]
end Rt
set_option Elab.async false
set_option linter.all false
set_option maxRecDepth 100000
set_option maxHeartbeats 4000000
/-! Several except clauses, with a name or without; isinstance(e, (A, B)) in them. -/
namespace L2N
open PySem PySem.Spec PyProof.Rows L2
/-- how the suite of a clause goes: its name's slot, if it has one -/
def sufD (o : Option Nat) (ts : TS) (a : Addr) (D : Ends) (σ : L2.St) (H : Hp) : Prop := match o with
  | none => ts D σ H
  | some i => ts { nx := fun σ' H' => D.nx (σ'.set i none) H', rt := D.rt, bk := fun σ' H' => D.bk (σ'.set i none) H', ct := fun σ' H' => D.ct (σ'.set i none) H' } (σ.set i (some (.ref a))) H
abbrev Cl : Type := Value × Option Nat × (Addr → Value → Option Addr → TS)
def wEach (K : PySem.W.Frag) (Wout : WX) (D : Ends) : List Cl → WX
  | [] => Wout
  | (c, o, ts) :: r => fun cls d σ H => ∃ b, PySem.W.exmOne K cls c = some b ∧ (b = true → ∀ a, H a = none → sufD o (ts a cls d) a D σ H) ∧ (b = false → wEach K Wout D r cls d σ H)
inductive ClsOk (X : Cx) : List ExceptHandler → List Cl → Prop
  | nil : ClsOk X [] []
  | bare {x : Str} {c : Value} {ts : Addr → Value → Option Addr → TS} {b₀ : Stmt} {suite : List Stmt} {np pos' : Pos} {hds : List ExceptHandler} {l : List Cl} (hc : Names X x c)
      (hsu : ∀ (a : Addr) (oe : Obj) (cls : Value) (d : Option Addr) (pn : List (Addr × Obj)), Zn cls d oe → (∃ vs, oe.data = .fields vs) → PSs (X.suite a ((a, oe) :: pn)) (b₀ :: suite) (ts a cls d)) (r : ClsOk X hds l) : ClsOk X (.ExceptHandler (some (.Name x np)) none (b₀ :: suite) pos' :: hds) ((c, none, ts) :: l)
  | named {x n : Str} {i : Nat} {c : Value} {ts : Addr → Value → Option Addr → TS} {b₀ : Stmt} {suite : List Stmt} {np pos' : Pos} {hds : List ExceptHandler} {l : List Cl} (hi : X.N[i]? = some n) (hln : X.env.kindOf n = some .local) (hc : Names X x c)
      (hsu : ∀ (a : Addr) (oe : Obj) (cls : Value) (d : Option Addr) (pn : List (Addr × Obj)), Zn cls d oe → (∃ vs, oe.data = .fields vs) → PSs (X.suite a ((a, oe) :: pn)) (b₀ :: suite) (ts a cls d)) (r : ClsOk X hds l) : ClsOk X (.ExceptHandler (some (.Name x np)) (some n) (b₀ :: suite) pos' :: hds) ((c, some i, ts) :: l)
section
variable {X : Cx} {body : List Stmt} {h₀ : ExceptHandler} {hds : List ExceptHandler} {l : List Cl} {pos : Pos} {tb : WX → TS} {Wout : WX}
theorem ps_try_each (hs : X.stack = X.env :: X.outer) (hf : X.env.frame = some X.env.locals) (hN : X.N.Nodup) (tk : Takes X Wout) (hb : ∀ (W : WX) (pn : List (Addr × Obj)) (xe : Value → Shared → Prop), Takes (X.tr pn xe) W → PassesOwn (model X.prog X.w) X.A X.env xe → PSs (X.tr pn xe) body (tb W))
    (hh : ClsOk X (h₀ :: hds) l) : PS X (.Try body (h₀ :: hds) [] [] pos) (fun D σ H => tb (wEach X.K Wout D l) D σ H) := by
  refine ⟨fun pins s σ H D I h => ?_⟩
  have ok := I.ok
  have hfr : X.A.frames = some (X.env :: X.outer) := by rw [ok.frames, hs]
  refine wpAny_Try_except (wpAny_mono ((hb (wEach X.K Wout D l) (X.pn ++ pins) (fun e s₁ => wpAny (model X.prog X.w) X.A (noteFrame e X.env) (fun _ s₂ => wpAny (model X.prog X.w) X.A (setFlight e none) (fun _ s₃ =>
    wpAny (model X.prog X.w) X.A (handleBy e X.env (h₀ :: hds)) (SP X pins D) X.xe s₃) X.xe s₂) X.xe s₁) (fun u s' xx => ?_) PassesOwn.looking).run [] s σ H D (I.toTry _) h) (fun f s1 hsp => ?_) (fun e s1 he => he))
  · obtain ⟨a, B, sI, pins', σ', H', cls, d, rfl, J', nb, up, sky, na, os, ag, w⟩ := xx
    have J : Inv X pins σ' H' sI := J'.ofTry ok
    have sky' : Sky B (X.env :: X.outer) a (Zn cls d) X.env.locals s'.heap := by rw [← hs]; exact sky
    show wpAny (model X.prog X.w) X.A (noteFrame (.ref a) X.env) _ _ _
    refine Sky.land Zn.steady hfr hf sky' fun h3 fl3 up3 => ?_
    have J3 : Inv X pins σ' H' { s' with heap := h3 } := J.landed nb fl3.1 (up.trans up3) os ag
    obtain ⟨oe3, vs3, he3, hz3, hd3⟩ := fl3.there
    have notFr : ∀ {h : Heap} {o : Obj} {vs : Array Value}, h.FunFrames B (X.env :: X.outer) → h.get? a = some o → o.data = .fields vs → a ∉ frs (X.env :: X.outer) := fun {h o vs} ff e dd hm => by
      obtain ⟨_, o', e', hnf⟩ := ff.mem hm; rw [e] at e'; cases e'; exact hnf _ dd
    have nfr := notFr fl3.2.2.1 he3 hd3
    have nL : a ≠ X.env.locals := fun z => nfr (List.mem_filterMap.mpr ⟨X.env, List.mem_cons_self, by rw [hf, z]⟩)
    have nF : a ∉ X.fs := fun hm => by obtain ⟨e, he, q⟩ := List.mem_filterMap.mp hm; exact nfr (List.mem_filterMap.mpr ⟨e, List.mem_cons_of_mem _ he, q⟩)
    have S3 := J3.suite he3 hd3 na nL nF
    have test : ∀ {x : Str} {np : Pos} {c : Value} {Q : Value → Shared → Prop} {E : Value → Shared → Prop}, Names X x c → Q c { s' with heap := h3 } → wpAny (model X.prog X.w) (X.A.mark (some (.ref a))) (eval (.Name x np) X.env) Q E { s' with heap := h3 } := fun {x np c Q E} hc q => by
      obtain ⟨hg, hdbg, hm | ⟨hm, hv, hnn⟩⟩ := hc
      · exact ld_glob (X := X.suite a ((a, oe3) :: (X.pn ++ pins))) S3 hg hm q hdbg
      · exact ld_blt (X := X.suite a ((a, oe3) :: (X.pn ++ pins))) S3 hg hm hv q hnn hdbg
    have LT : PySem.W.Looks (model X.prog X.w) h3 (typeOf (.ref a)) cls := fun A Q E s k q => wpAny_typeOf_ref (k _ _ he3) (by rw [hz3.1]; exact q)
    have go : ∀ {hds' : List ExceptHandler} {l' : List Cl}, ClsOk X hds' l' → wEach X.K Wout D l' cls d σ' H' → wpAny (model X.prog X.w) X.A (handleBy (.ref a) X.env hds') (SP X pins D) X.xe { s' with heap := h3 } := by
      intro hds' l' hk
      induction hk with
      | nil =>
        intro w
        refine wpAny_handleBy_nil ?_
        obtain ⟨k1, k2, k3, oe, vs, T, oT, ts', he, hz, hd, h1, hr⟩ := id fl3
        unfold PySem.passOn
        refine wpAny_bind (wpAny_field he hd h1 ?_)
        rw [if_neg (show ¬ ((Value.ref T == Value.none) = true) from by simp)]
        have fin : wpAny (model X.prog X.w) X.A (setFlight (.ref a) X.env.frame) (fun _ s4 => wpAny (model X.prog X.w) X.A (throw (.ref a) : Sem Flow) (SP X pins D) X.xe s4) X.xe { s' with heap := h3 } := by
          rw [hf]; refine HandSPX.setFlight_upZ fl3 fun h4 hh4 up4 => wpAny_throw (tk _ _ ?_)
          exact ⟨a, B, sI, pins, σ', H', cls, d, rfl, J, nb, (up.trans up3).trans up4, .inr (.inr (by rw [hs]; exact hh4)), na, os, ag, w⟩
        first
          | exact wpAny_bind (wpAny_pure (wpAny_bind fin))
          | exact wpAny_bind fin
      | @bare x c ts b₀ suite np pos' hds2 l2 hc hsu r ih =>
        intro w; obtain ⟨b, hb1, hyes, hno⟩ := w
        have LM := PySem.W.exm_one (M := model X.prog X.w) (J3.kIn) LT hb1
        refine wpAny_handleBy_cons (codeAny_handlers_test (test hc (LM.here ?_))) (by intro q; cases q)
        cases b with
        | true =>
          refine codeAny_handlers_suite (HandSPX.lands_againZ fl3 fun h4 fl4 up4 => ?_)
          have J4 : Inv X pins σ' H' { s' with heap := h4 } := J.landed nb fl4.1 ((up.trans up3).trans up4) os ag
          obtain ⟨oe4, vs4, he4, hz4, hd4⟩ := fl4.there
          have S4 := J4.suite he4 hd4 na nL nF
          refine wpAny_mono ((hsu a oe4 cls d (X.pn ++ pins) hz4 ⟨_, hd4⟩).run [] _ _ H' _ S4 (hyes rfl a na)) (fun f s6 hsp => ?_) (fun _ _ z => False.elim z)
          cases f with
          | next => obtain ⟨σ6, H6, S6, q6⟩ := hsp; exact ⟨_, _, S6.unsuite ok, q6⟩
          | brk => obtain ⟨σ6, H6, S6, q6⟩ := hsp; exact ⟨_, _, S6.unsuite ok, q6⟩
          | cont => obtain ⟨σ6, H6, S6, q6⟩ := hsp; exact ⟨_, _, S6.unsuite ok, q6⟩
          | ret u => obtain ⟨v6, σ6, H6, S6, r6, q6⟩ := hsp; exact ⟨_, _, _, S6.unsuite ok, r6, q6⟩
        | false => show wpAny _ X.A (handleBy (.ref a) X.env hds2) _ _ _; exact ih (hno rfl)
      | @named x n i c ts b₀ suite np pos' hds2 l2 hi hln hc hsu r ih =>
        intro w; obtain ⟨b, hb1, hyes, hno⟩ := w
        have LM := PySem.W.exm_one (M := model X.prog X.w) (J3.kIn) LT hb1
        refine wpAny_handleBy_cons (codeAny_handlers_test (test hc (LM.here ?_))) (by intro q; cases q)
        cases b with
        | true =>
          refine codeAny_handlers_suite_as (HandSPX.lands_againZ fl3 fun h4 fl4 up4 => ?_)
          have J4 : Inv X pins σ' H' { s' with heap := h4 } := J.landed nb fl4.1 ((up.trans up3).trans up4) os ag
          obtain ⟨oe4, vs4, he4, hz4, hd4⟩ := fl4.there
          have S4 := J4.suite he4 hd4 na nL nF
          have hloc : Loc X.env.scope n := .inl hln
          refine store_ok (X := X.suite a ((a, oe4) :: (X.pn ++ pins))) (v := .ref a) S4 hN hi hloc rfl (fun s5 S5 => ?_) (.inr hln)
          refine wpAny_mono ((hsu a oe4 cls d (X.pn ++ pins) hz4 ⟨_, hd4⟩).run [] s5 _ H' _ S5 (hyes rfl a na)) (fun f s6 hsp => ?_) (fun _ _ z => False.elim z)
          have end_ : ∀ {σ6 : L2.St} {H6 : Hp} {Q : Shared → Prop}, Inv (X.suite a ((a, oe4) :: (X.pn ++ pins))) [] σ6 H6 s6 → (∀ s7, Inv X pins (σ6.set i none) H6 s7 → Q s7) → wpAny (model X.prog X.w) X.A (do bindName X.env n .none; unbindBehindTheSuite X.env n pos') (fun _ s7 => Q s7) X.xe s6 := fun {σ6 H6 Q} S6 hq => gone_ok (S6.unsuite ok) hN hi hln hq
          cases f with
          | next => obtain ⟨σ6, H6, S6, q6⟩ := hsp; exact end_ S6 fun s7 J7 => ⟨_, _, J7, q6⟩
          | brk => obtain ⟨σ6, H6, S6, q6⟩ := hsp; exact end_ S6 fun s7 J7 => ⟨_, _, J7, q6⟩
          | cont => obtain ⟨σ6, H6, S6, q6⟩ := hsp; exact end_ S6 fun s7 J7 => ⟨_, _, J7, q6⟩
          | ret u => obtain ⟨v6, σ6, H6, S6, r6, q6⟩ := hsp; exact end_ S6 fun s7 J7 => ⟨_, _, _, J7, r6, q6⟩
        | false => show wpAny _ X.A (handleBy (.ref a) X.env hds2) _ _ _; exact ih (hno rfl)
    exact go hh w
  · cases f with
    | next => obtain ⟨σ', H', J', q⟩ := hsp; exact wpAny_execs_nil ⟨σ', H', J'.ofTry ok, q⟩
    | brk => obtain ⟨σ', H', J', q⟩ := hsp; exact ⟨σ', H', J'.ofTry ok, q⟩
    | cont => obtain ⟨σ', H', J', q⟩ := hsp; exact ⟨σ', H', J'.ofTry ok, q⟩
    | ret u => obtain ⟨v, σ', H', J', r, q⟩ := hsp; exact ⟨v, σ', H', J'.ofTry ok, r, q⟩
end
end L2N
namespace Rt
open PySem PySem.Spec L2 PyProof.Rows
open PySem.W (Frag findIn subIn InstAt)
/-- isinstance(e, cs), cs a tuple of classes -/
def rIsXs (K : Frag) (a : Addr) (cls : Value) (d : Option Addr) : List V → Hp → VK → Prop := fun xs H Q => ∃ (D dd tp : Addr) (fs : List (Str × V)) (cs : List V) (us : List Value) (b : Bool), xs = [.ref a, .ref tp] ∧ cls = .ref D ∧ d = some dd ∧ H dd = some (.xd fs) ∧ ExcC K D ∧ H tp = some (.tup cs) ∧ Paired ClsV cs us ∧ PySem.W.kitAny K (.ref D) us = some b ∧ Q (.bl b) H
theorem call_isXs {X : Cx} {a : Addr} {oe : Obj} {cls : Value} {d : Option Addr} {pn : List (Addr × Obj)} (K : Frag) (hz : Zc cls d oe) (hf : ∃ vs, oe.data = .fields vs) (hK : X.K = K := by rfl) : CallR (X.suite a ((a, oe) :: pn)) (.builtin "isinstance") (rIsXs K a cls d) := by
  subst hK
  intro pins s σ H xs us Q I r h
  obtain ⟨D, dd, tp, fs, cs, ws, b, rfl, rfl, rfl, hdd, C, hT, hk, e, q⟩ := h
  cases r with
  | cons rx rr =>
    cases rr with
    | cons rt rr =>
      cases rr
      obtain rfl : _ = Value.ref a := rx
      obtain rfl : _ = Value.ref tp := rt
      obtain ⟨here, _⟩ := I.pin (a, oe) (List.mem_append_left _ List.mem_cons_self)
      obtain ⟨vs, hd⟩ := hf
      have ok : ObjOk X.prog X.w H s.heap dd (.xd fs) := I.hok dd _ hdd
      obtain ⟨mA, hns, _⟩ := ok
      obtain ⟨od, ho, _⟩ := lookIn_ns hns
      have J : InstAt s.heap a oe D (some od) := ⟨here, hz.1, by unfold PySem.W.notCls; rw [hd] <;> rfl, by rw [hz.2]; exact ho⟩
      obtain ⟨_, its, rv, o, h1, h2, n, h3⟩ := (show ObjOk X.prog X.w H s.heap tp (.tup cs) from I.hok tp _ hT)
      have e3 := ClsV.all hk rv
      subst e3
      obtain ⟨oc, odd, dt, sl⟩ := o
      simp only at h2 h3
      subst h2 h3
      exact PySem.W.kia_tup (exd_kit C) I.kIn J h1 e (fun z => nomatch z) fun tk => ⟨.bl b, H, I.kept (t' := tk) fun _ _ z => z, rfl, q⟩
theorem g_isXs2 {K : Frag} {a D dd tp A B : Addr} {fs : List (Str × V)} {H : Hp} {Q : VK} (hd : H dd = some (.xd fs)) (C : ExcC K D) (ht : H tp = some (.tup [.ref A, .ref B])) (e1 : PySem.W.kitOne K (.ref D) (.ref A) = some false) (e2 : PySem.W.kitOne K (.ref D) (.ref B) = some false) (q : Q (.bl false) H) : rIsXs K a (.ref D) (some dd) [.ref a, .ref tp] H Q :=
  ⟨D, dd, tp, fs, _, [.ref A, .ref B], false, rfl, rfl, rfl, hd, C, ht, .cons (.own _) (.cons (.own _) .nil), kitAny_cons e1 (fun _ => kitAny_cons e2 (fun _ => kitAny_nil) (fun z => nomatch z)) (fun z => nomatch z), q⟩
end Rt
set_option Elab.async false
set_option linter.all false
set_option maxRecDepth 100000
set_option maxHeartbeats 4000000
/-! sorted(list of ints), of any length; the heads of a ring from a place on, as a function. -/
namespace Rt
open PySem PySem.Spec L2
theorem cr_sortedIK {X : Cx} (K : PySem.W.Frag) (h : X.K = K := by rfl) : CallR X (.builtin "sorted") (rSortedI K) := by subst h; exact cr_sortedI
theorem divW_ok {i j : Int} (h0 : 0 < j) (h : j < 2 ^ 64) : CDivW i j := by
  refine ⟨h0, ?_⟩
  have a : j.natAbs < 2 ^ 64 := by omega
  have b : j.natAbs.log2 < 64 := (Nat.log2_lt (by omega)).mpr a
  omega
theorem int_perm {ns : List Int} {c : List Nat} (p : ns.Perm (iI c)) (pw : ns.Pairwise (· ≤ ·)) : ∃ r : List Nat, ns = iI r ∧ r.Perm c ∧ r.Pairwise (· ≤ ·) := by
  have nn : ∀ x ∈ ns, 0 ≤ x := fun x hx => by
    have := p.mem_iff.mp hx
    unfold iI at this
    obtain ⟨k, _, rfl⟩ := List.mem_map.mp this; omega
  have back : ns = iI (ns.map Int.toNat) := by
    unfold iI
    rw [List.map_map]
    refine ((List.map_congr_left fun x hx => ?_).trans (List.map_id ns)).symm
    show ((x.toNat : Nat) : Int) = x
    have := nn x hx; omega
  refine ⟨ns.map Int.toNat, back, ?_, List.pairwise_map.mpr (pw.imp fun {a b} h => by omega)⟩
  have q := p.map Int.toNat
  have e : (iI c).map Int.toNat = c := by
    unfold iI
    rw [List.map_map]
    exact (List.map_congr_left fun x _ => rfl).trans (List.map_id c)
  rw [e] at q
  exact q
theorem HdR.uniq {ls : List Int} {f : Nat} {a : Int} {r r' : List Nat} (h : HdR ls f a r) (h' : HdR ls f a r') (hl : Ps ls) (h0 : 0 < ls.length) : r = r' := by
  rcases h with ⟨S, t, p, pw⟩ | ⟨e, no⟩
  · rcases h' with ⟨S', t', p', pw'⟩ | ⟨_, no⟩
    · have := t.uniq t' hl h0
      subst this
      exact sortedN_eq (p.trans p'.symm) pw pw'
    · exact absurd t (no S)
  · rcases h' with ⟨S', t', _, _⟩ | ⟨e', _⟩
    · exact absurd t' (no S')
    · rw [e, e']
open Classical in
noncomputable def hdF (ls : List Int) (f : Nat) (a : Int) : List Nat := if h : ∃ r, HdR ls f a r then choose h else []
theorem HdR.eq {ls : List Int} {f : Nat} {a : Int} {r : List Nat} (h : HdR ls f a r) (hl : Ps ls) (h0 : 0 < ls.length) : r = hdF ls f a := by
  unfold hdF
  rw [dif_pos ⟨r, h⟩]
  exact h.uniq (Classical.choose_spec (⟨r, h⟩ : ∃ r, HdR ls f a r)) hl h0
theorem exists_sorted (c : List Nat) : ∃ r : List Nat, r.Perm c ∧ r.Pairwise (· ≤ ·) := ⟨c.mergeSort (fun a b => decide (a ≤ b)), List.mergeSort_perm _ _, by
  have := List.pairwise_mergeSort (le := fun a b : Nat => decide (a ≤ b)) (fun a b c h1 h2 => by simp at *; omega) (fun a b => by simp; omega) c
  exact this.imp fun {a b} h => of_decide_eq_true h⟩
theorem hdF_is {ls : List Int} {f : Nat} {a : Int} : HdR ls f a (hdF ls f a) := by
  have ex : ∃ r, HdR ls f a r := by
    by_cases h : ∃ S, Steps ls f a S
    · obtain ⟨S, t⟩ := h
      obtain ⟨r, p, pw⟩ := exists_sorted (S.map (plc ls.length f))
      exact ⟨r, .inl ⟨S, t, p, pw⟩⟩
    · exact ⟨[], .inr ⟨rfl, fun S t => h ⟨S, t⟩⟩⟩
  unfold hdF
  rw [dif_pos ex]
  exact Classical.choose_spec ex
/-! ### the cuttings that _law_due finds -/
def dueC (ls : List Int) (j f : Nat) : Prop := ls.sum / ((j : Int) + 1) * ((j : Int) + 1) = ls.sum ∧ off ls f < ls.sum / ((j : Int) + 1) ∧ hdF ls f (ls.sum / ((j : Int) + 1)) ≠ []
open Classical in
noncomputable def dueIn (ls : List Int) (j k : Nat) : List (List Nat) := (List.range k).flatMap fun f => if dueC ls j f then [hdF ls f (ls.sum / ((j : Int) + 1))] else []
noncomputable def dueTo (ls : List Int) (i : Nat) : List (List Nat) := (List.range i).flatMap fun j => dueIn ls j ls.length
noncomputable def dueL (ls : List Int) : List (List Nat) := dueTo ls ls.length
open Classical in
theorem dueIn_succ {ls : List Int} {j k : Nat} : dueIn ls j (k + 1) = dueIn ls j k ++ (if dueC ls j k then [hdF ls k (ls.sum / ((j : Int) + 1))] else []) := by
  unfold dueIn
  rw [List.range_succ, List.flatMap_append]; simp
theorem dueTo_succ {ls : List Int} {i : Nat} : dueTo ls (i + 1) = dueTo ls i ++ dueIn ls i ls.length := by
  unfold dueTo
  rw [List.range_succ, List.flatMap_append]; simp
theorem dueIn_len {ls : List Int} {j : Nat} : ∀ k, (dueIn ls j k).length ≤ k
  | 0 => by simp [dueIn]
  | k + 1 => by
    rw [dueIn_succ, List.length_append]
    have := dueIn_len (ls := ls) (j := j) k
    split <;> simp <;> omega
theorem dueTo_len {ls : List Int} : ∀ i, (dueTo ls i).length ≤ i * ls.length
  | 0 => by simp [dueTo]
  | i + 1 => by
    rw [dueTo_succ, List.length_append, Nat.succ_mul]
    have := dueTo_len (ls := ls) i
    have := dueIn_len (ls := ls) (j := i) ls.length
    omega
/-- what a cutting is: heads from f on, of one arc -/
theorem due_mem {ls : List Int} {c : List Nat} (h : c ∈ dueL ls) : ∃ (f : Nat) (a : Int) (S : List Nat), f < ls.length ∧ c = hdF ls f a ∧ Steps ls f a S ∧ c.Perm (S.map (plc ls.length f)) ∧ off ls f < a := by
  unfold dueL dueTo dueIn at h
  obtain ⟨j, hj, h⟩ := List.mem_flatMap.mp h
  obtain ⟨f, hf, h⟩ := List.mem_flatMap.mp h
  split at h
  · rename_i z
    rw [List.mem_singleton.mp h]
    rcases hdF_is (ls := ls) (f := f) (a := ls.sum / ((j : Int) + 1)) with ⟨S, t, p, _⟩ | ⟨e, _⟩
    · exact ⟨f, _, S, List.mem_range.mp hf, rfl, t, p, z.2.1⟩
    · exact absurd e z.2.2
  · cases h
theorem due_lt {ls : List Int} {c : List Nat} (hl : Ps ls) (h : c ∈ dueL ls) : c ≠ [] ∧ (∀ x ∈ c, x < ls.length) ∧ c.length ≤ ls.length ∧ ls.sum = (c.length : Int) * (ls.sum / (c.length : Int)) := by
  obtain ⟨f, a, S, hf, rfl, t, p, _⟩ := due_mem h
  have pl := p.length_eq
  rw [List.length_map] at pl
  refine ⟨fun z => by rw [z] at pl; have := t.ne; simp at pl; omega, fun x hx => ?_, ?_, ?_⟩
  · obtain ⟨s, _, rfl⟩ := List.mem_map.mp (p.mem_iff.mp hx)
    exact Nat.mod_lt _ (by omega)
  · rw [pl]
    have w := Wf_n hf
    have ge : ∀ k, k < S.length → k ≤ S.getD k 0 := fun k => by
      induction k with
      | zero => intro _; exact Nat.zero_le _
      | succ k ih =>
        intro hk
        have := t.asc hl (by omega) (show k < k + 1 by omega) hk
        have := ih (by omega)
        omega
    have l0 := t.ne
    have a := ge (S.length - 1) (by omega)
    have b := t.lt (S.length - 1) (by omega)
    omega
  · have al := t.all
    rw [Wf_n hf, ← pl] at al
    have l0 : (((hdF ls f a).length : Nat) : Int) ≠ 0 := by
      have := t.ne; omega
    rw [al, Int.mul_ediv_cancel_left _ l0]
end Rt
namespace Rt
open PySem PySem.Spec L2
theorem due_ne {ls : List Int} (hl : Ps ls) (h0 : 0 < ls.length) : dueL ls ≠ [] := fun z => by
  have st : Steps ls 0 ls.sum [0] := ⟨by decide, fun k hk => by
      have : k = 0 := by simpa using hk
      subst this; exact h0, fun k hk => by
      have : k = 0 := by simpa using hk
      subst this; simp [Wf], by rw [Wf_n h0]; simp⟩
  have pos : 0 < ls.sum := st.pos hl h0
  have ne : hdF ls 0 ls.sum ≠ [] := (HdR.ne hdF_is).mpr ⟨_, st⟩
  have m : hdF ls 0 ls.sum ∈ dueL ls := by
    unfold dueL dueTo dueIn
    refine List.mem_flatMap.mpr ⟨0, List.mem_range.mpr h0, List.mem_flatMap.mpr ⟨0, List.mem_range.mpr h0, ?_⟩⟩
    have e : ls.sum / (((0 : Nat) : Int) + 1) = ls.sum := by simp
    rw [e]
    have c : dueC ls 0 0 := ⟨by rw [e]; simp, by rw [e]; exact pos, by rw [e]; exact ne⟩
    rw [if_pos c]
    exact List.mem_singleton.mpr rfl
  rw [z] at m
  cases m
def strN (ss : List Int) (m : Int) : List Nat := (List.range ss.length).filter fun k => decide (ss.getD k 0 = m)
theorem strN_mem {ss : List Int} {m : Int} {k : Nat} : k ∈ strN ss m ↔ k < ss.length ∧ ss.getD k 0 = m := by
  unfold strN
  rw [List.mem_filter, List.mem_range, decide_eq_true_eq]
theorem strN_len {ss : List Int} {m : Int} : (strN ss m).length ≤ ss.length := by
  have := List.length_filter_le (fun k => decide (ss.getD k 0 = m)) (List.range ss.length)
  rw [List.length_range] at this
  exact this
theorem strN_asc {ss : List Int} {m : Int} (hm : m ∈ ss) : AscN ss.length (strN ss m) := by
  refine ⟨?_, List.Pairwise.filter _ List.pairwise_lt_range, fun x hx => (strN_mem.mp hx).1⟩
  obtain ⟨k, hk, e⟩ := mem_getD hm
  exact List.length_pos_iff.mpr fun z => by
    have : k ∈ strN ss m := strN_mem.mpr ⟨hk, e⟩
    rw [z] at this; cases this
theorem strN_congr {ss es : List Int} {m : Int} (el : es.length = ss.length) (h : ∀ k, k < ss.length → (es.getD k 0 = m ↔ ss.getD k 0 = m)) : strN es m = strN ss m := by
  unfold strN
  rw [el]
  refine List.filter_congr fun k hk => ?_
  have := h k (List.mem_range.mp hk)
  by_cases z : ss.getD k 0 = m
  · rw [decide_eq_true z, decide_eq_true (this.mpr z)]
  · rw [decide_eq_false z, decide_eq_false (fun y => z (this.mp y))]
end Rt
set_option Elab.async false
set_option linter.all false
set_option maxRecDepth 100000
set_option maxHeartbeats 4000000
/-! Lists of lists of ints in the heap. -/
namespace Rt
open PySem PySem.Spec L2
def HLs (H : Hp) (xs : List V) (hs : List (List Int)) : Prop := xs.length = hs.length ∧ ∀ (k : Nat) (x : V) (row : List Int), xs[k]? = some x → hs[k]? = some row → ∃ t : Addr, x = .ref t ∧ H t = some (.lst (row.map V.int))
theorem HLs.mono {H H' : Hp} {xs : List V} {hs : List (List Int)} (h : HLs H xs hs) (S : Same H H') : HLs H' xs hs := ⟨h.1, fun k x row hx hr => by
  obtain ⟨t, e, q⟩ := h.2 k x row hx hr
  exact ⟨t, e, S _ _ q⟩⟩
theorem HLs.at_ {H : Hp} {xs : List V} {hs : List (List Int)} (h : HLs H xs hs) {k : Nat} {x : V} (hx : xs[k]? = some x) : ∃ (row : List Int) (t : Addr), hs[k]? = some row ∧ x = .ref t ∧ H t = some (.lst (row.map V.int)) := by
  have l : k < hs.length := by rw [← h.1]; exact (List.getElem?_eq_some_iff.mp hx).1
  obtain ⟨t, e, q⟩ := h.2 k x hs[k] hx (List.getElem?_eq_getElem l)
  exact ⟨hs[k], t, List.getElem?_eq_getElem l, e, q⟩
theorem HLs.nil {H : Hp} : HLs H [] [] := ⟨rfl, fun k x row h => by simp at h⟩
theorem HLs.more {H : Hp} {xs : List V} {hs : List (List Int)} {t : Addr} {row : List Int} (h : HLs H xs hs) (ht : H t = some (.lst (row.map V.int))) : HLs H (xs ++ [V.ref t]) (hs ++ [row]) := by
  refine ⟨by rw [List.length_append, List.length_append, h.1]; rfl, fun k x r hx hr => ?_⟩
  by_cases z : k < xs.length
  · rw [List.getElem?_append_left z] at hx
    rw [List.getElem?_append_left (by rw [← h.1]; exact z)] at hr
    exact h.2 k x r hx hr
  · rw [List.getElem?_append_right (by omega)] at hx
    rw [List.getElem?_append_right (by rw [← h.1]; omega)] at hr
    have k0 : k - xs.length = 0 := by
      have := (List.getElem?_eq_some_iff.mp hx).1
      simp at this; omega
    rw [k0] at hx
    rw [← h.1, k0] at hr
    cases hx; cases hr
    exact ⟨t, rfl, ht⟩
/-- the lists are none of D -/
theorem HLs.upd {H : Hp} {xs : List V} {hs : List (List Int)} {D : Addr} {o : HO} (h : HLs H xs hs) (hn : ∀ (k : Nat) (t : Addr), xs[k]? = some (V.ref t) → t ≠ D) : HLs (upd H D o) xs hs := ⟨h.1, fun k x row hx hr => by
  obtain ⟨t, e, q⟩ := h.2 k x row hx hr
  subst e
  exact ⟨t, rfl, by rw [upd_ne (hn k t hx)]; exact q⟩⟩
/-- D is free of them: all were there before it -/
theorem snoc_ne {xs : List V} {u D : Addr} (hn : ∀ (k : Nat) (t : Addr), xs[k]? = some (V.ref t) → t ≠ D) (hu : u ≠ D) : ∀ (k : Nat) (t : Addr), (xs ++ [V.ref u])[k]? = some (V.ref t) → t ≠ D := fun k t h => by
  by_cases z : k < xs.length
  · rw [List.getElem?_append_left z] at h
    exact hn k t h
  · rw [List.getElem?_append_right (by omega)] at h
    have k0 : k - xs.length = 0 := by
      have := (List.getElem?_eq_some_iff.mp h).1
      simp at this; omega
    rw [k0] at h
    cases h
    exact hu
theorem eqv_nil_cons {d : PyData} {ds : List PyData} : PyData.eqv (.list (d :: ds)) (.list []) = false := by simp [PyData.eqv, PyData.eqvAll]
def dRow (d : Bool) (r : List Int) : PyData := if d = true then .tuple (r.map PyData.int) else .list (r.map PyData.int)
theorem canRow (d : Bool) : ∀ l : List (List Int), PyData.canLayAll0 (l.map (dRow d)) = true
  | [] => by simp [PyData.canLayAll0]
  | r :: l => by cases d <;> simp [PyData.canLayAll0, PyData.canLay0, dRow, canI] <;> exact canRow _ l
theorem depRow (d : Bool) : ∀ l : List (List Int), PyData.depthAll (l.map (dRow d)) ≤ 1
  | [] => by simp [PyData.depthAll]
  | r :: l => by
    have := depRow d l
    cases d <;> simp [PyData.depthAll, PyData.depth, dRow, depI] <;> omega
theorem shRow (d : Bool) (l : List (List Int)) : PyData.canLay0 (.list (l.map (dRow d))) = true ∧ SeqAt.shaped (.list (l.map (dRow d))) = true := by
  have e : PyData.canLay0 (.list (l.map (dRow d))) = true := by simp [PyData.canLay0, canRow]
  refine ⟨e, ?_⟩
  unfold SeqAt.shaped
  rw [e]
  have := depRow d l
  simp [PyData.depth]; omega
theorem RW.dp {K : PySem.W.Frag} {N : Addr → Prop} {b : Bool} {H : Hp} {xs : List V} {l : List (List Int)} {a : Addr} (h : RW N b H xs l) (ha : SqL K H a xs) : Dp K H (.ref a) (.list (l.map (dRow b))) := by
  refine .lst ha (dpAll_of (by rw [List.length_map]; exact RW.len h) fun k x e hx he => ?_)
  rw [List.getElem?_map] at he
  obtain ⟨r, hr, rfl⟩ := Option.map_eq_some_iff.mp he
  obtain ⟨u, e1, _, hu⟩ := RW.at_ h hr
  rw [e1] at hx
  cases hx
  cases b with
  | true => exact .tup (SqT.of hu) (dpI r)
  | false => exact .lst (SqL.of hu) (dpI r)
/-- rows == [] -/
theorem g_rowsNil {K : PySem.W.Frag} {N : Addr → Prop} {d : Bool} {H : Hp} {Q : VK} {a b : Addr} {xs : List V} {l : List (List Int)} (h : RW N d H xs l) (ha : SqL K H a xs) (hb : SqL K H b []) (q : Q (.bl (decide (l = []))) H) : rEqD K (.ref a) (.ref b) H Q := by
  refine ⟨_, _, h.dp ha, .lst hb .nil, (shRow d l).2, (shRow d []).2, ?_⟩
  cases l with
  | nil => exact q
  | cons r l => rw [List.map_cons, eqv_nil_cons]; exact q
theorem g_rowsNe {K : PySem.W.Frag} {N : Addr → Prop} {d : Bool} {H : Hp} {Q : VK} {a b : Addr} {xs : List V} {l : List (List Int)} (h : RW N d H xs l) (ha : SqL K H a xs) (hb : SqL K H b []) (q : Q (.bl (decide (l ≠ []))) H) : rNeD K (.ref a) (.ref b) H Q := by
  refine ⟨_, _, h.dp ha, .lst hb .nil, (shRow d l).2, (shRow d []).2, ?_⟩
  cases l with
  | nil => exact q
  | cons r l => rw [List.map_cons, eqv_nil_cons]; exact q
theorem g_neS {a b : Str} {H : Hp} {Q : VK} (h : Q (.bl (!decide (V.str a = V.str b))) H) : rNe (.str a) (.str b) H Q := ⟨rfl, h⟩
theorem g_notB {a b : Bool} {H : Hp} {Q : VK} (h : Q (.bl (!decide (a = b))) H) : rNotB (.bl a) (.bl b) H Q := ⟨a, b, rfl, rfl, h⟩
end Rt
namespace Rt
open PySem PySem.Spec L2
theorem RW.cat {N : Addr → Prop} {b : Bool} {H : Hp} {xs ys : List V} {l m : List (List Int)} (h : RW N b H xs l) (k : RW N b H ys m) : RW N b H (xs ++ ys) (l ++ m) := by
  have e1 := RW.len h
  have e2 := RW.len k
  refine ⟨by rw [List.length_append, List.length_append, e1, e2], fun j hj => ?_⟩
  rw [List.length_append] at hj
  show ∃ t : Addr, (xs ++ ys)[j]? = some (V.ref t) ∧ N t ∧ H t = some (if b = true then HO.tup (((l ++ m).getD j []).map V.int) else HO.lst (((l ++ m).getD j []).map V.int))
  by_cases z : j < l.length
  · obtain ⟨t, a, c, d⟩ := h.2 j z
    refine ⟨t, by rw [List.getElem?_append_left (by omega)]; exact a, c, ?_⟩
    rw [List.getD_eq_getElem?_getD, List.getElem?_append_left z, ← List.getD_eq_getElem?_getD]
    exact d
  · obtain ⟨t, a, c, d⟩ := k.2 (j - l.length) (by omega)
    refine ⟨t, by rw [List.getElem?_append_right (by omega), e1]; exact a, c, ?_⟩
    rw [List.getD_eq_getElem?_getD, List.getElem?_append_right (by omega), ← List.getD_eq_getElem?_getD]
    exact d
end Rt
set_option Elab.async false
set_option linter.all false
set_option maxRecDepth 100000
set_option maxHeartbeats 4000000
/-! A settled ring: whoever wakes, the leaders keep the arc as their strength, the others stay below it. -/
namespace Rt
open PySem PySem.Spec L2
theorem run_ring {n p : Nat} (hp : p < n) : run true n p = (List.range (n - 1)).map fun i => (p + 1 + i) % n := by
  unfold run
  rw [if_pos rfl]
  refine List.ext_getElem (by simp; omega) fun i h1 h2 => ?_
  simp at h1 h2
  rw [List.getElem_map, List.getElem_range]
  by_cases c : i < n - (p + 1)
  · rw [List.getElem_append_left (by simpa using c), List.getElem_map, List.getElem_range, Nat.mod_eq_of_lt (by omega)]
  · rw [List.getElem_append_right (by simpa using c), List.getElem_range]
    simp
    rw [Nat.mod_eq_sub_mod (by omega), Nat.mod_eq_of_lt (by omega)]
    omega
theorem sm_run {ls : List Int} {p : Nat} (hp : p < ls.length) : ∀ j, j ≤ ls.length - 1 → sm ls (((List.range (ls.length - 1)).map fun i => (p + 1 + i) % ls.length).take j) = Wf ls p (j + 1) - ls.getD p 0
  | 0, _ => by
    rw [List.take_zero, Wf_succ, Nat.add_zero, Nat.mod_eq_of_lt hp]
    show (0 : Int) = 0 + _ - _
    omega
  | j + 1, h => by
    have hj : j < ((List.range (ls.length - 1)).map fun i => (p + 1 + i) % ls.length).length := by simp; omega
    have e : ((List.range (ls.length - 1)).map fun i => (p + 1 + i) % ls.length).take (j + 1) = ((List.range (ls.length - 1)).map fun i => (p + 1 + i) % ls.length).take j ++ [(p + 1 + j) % ls.length] := by
      rw [List.take_add_one, List.getElem?_eq_getElem hj]; simp
    have app : ∀ a b : List Nat, sm ls (a ++ b) = sm ls a + sm ls b := fun a b => by unfold sm; rw [List.map_append, List.sum_append]
    rw [e, app, sm_run hp j (by omega), Wf_succ (s := j + 1), show p + (j + 1) = p + 1 + j by omega]
    show _ + (([(p + 1 + j) % ls.length] : List Nat).map fun o => ls.getD o 0).sum = _
    simp; omega
/-- a reach round the ring is the way to where the train ends -/
theorem rch_Wf {ss ls : List Int} {p : Nat} (el : ls.length = ss.length) (hp : p < ss.length) : rch true ss ls p = Wf ls p ((trn true ss p).length + 1) ∧ (trn true ss p).length ≤ ss.length - 1 := by
  have pre : trn true ss p = (run true ss.length p).take (trn true ss p).length := by
    unfold trn
    exact (List.prefix_iff_eq_take.mp (List.takeWhile_prefix _))
  have le : (trn true ss p).length ≤ ss.length - 1 := by
    have := (List.takeWhile_prefix (p := wk ss p) (l := run true ss.length p)).length_le
    unfold trn
    rw [run_ring hp] at this ⊢
    simpa using this
  refine ⟨?_, le⟩
  rw [rch_eq]
  generalize hj : (trn true ss p).length = j at pre le
  rw [pre, run_ring hp, ← el, sm_run (by omega) j (by omega)]
  omega
/-- the train goes on while the next are weaker -/
theorem trn_ge {ss : List Int} {p : Nat} (hp : p < ss.length) {j : Nat} (hj : j ≤ ss.length - 1) (h : ∀ i, i < j → ss.getD ((p + 1 + i) % ss.length) 0 < ss.getD p 0) : j ≤ (trn true ss p).length := by
  unfold trn
  rw [run_ring hp]
  generalize hl : ((List.range (ss.length - 1)).map fun i => (p + 1 + i) % ss.length) = l
  have ll : l.length = ss.length - 1 := by rw [← hl]; simp
  have sp : l = l.take j ++ l.drop j := (List.take_append_drop j l).symm
  have all : ∀ x ∈ l.take j, wk ss p x = true := fun x hx => by
    obtain ⟨i, hi, rfl⟩ := List.mem_iff_getElem.mp hx
    rw [List.length_take] at hi
    rw [List.getElem_take]
    subst hl
    rw [List.getElem_map, List.getElem_range]
    unfold wk
    exact decide_eq_true (h i (by omega))
  rw [sp, List.takeWhile_append_of_pos all, List.length_append, List.length_take]
  omega
/-- it goes no further than a place that is not weaker -/
theorem trn_le {ss : List Int} {p : Nat} (hp : p < ss.length) {j : Nat} (hj : j < ss.length - 1) (h : ¬ ss.getD ((p + 1 + j) % ss.length) 0 < ss.getD p 0) : (trn true ss p).length ≤ j := by
  rcases Nat.lt_or_ge j (trn true ss p).length with z | z
  · exfalso
    have e : (trn true ss p)[j] = (p + 1 + j) % ss.length := by
      have pre : (run true ss.length p)[j]? = some ((p + 1 + j) % ss.length) := by rw [run_ring hp, List.getElem?_map, List.getElem?_range hj]; rfl
      have pf := List.takeWhile_prefix (p := wk ss p) (l := run true ss.length p)
      have := pf.getElem z
      unfold trn
      rw [this]
      have hl : j < (run true ss.length p).length := by rw [run_ring hp]; simp; omega
      rw [List.getElem?_eq_getElem hl] at pre
      exact Option.some.inj pre
    have : wk ss p (trn true ss p)[j] = true := by
      have m : (trn true ss p)[j] ∈ trn true ss p := List.getElem_mem z
      unfold trn at m
      exact List.all_eq_true.mp List.all_takeWhile _ m
    rw [e] at this
    unfold wk at this
    exact h (of_decide_eq_true this)
  · exact z
theorem Wf_shift {ls : List Int} {f t p : Nat} (hp : p = (f + t) % ls.length) : ∀ s, Wf ls f (t + s) = Wf ls f t + Wf ls p s
  | 0 => by show Wf ls f t = Wf ls f t + 0; omega
  | s + 1 => by
    rw [← Nat.add_assoc, Wf_succ, Wf_succ, Wf_shift hp s, hp, Nat.mod_add_mod, Nat.add_assoc]; omega
/-- the last of ascending steps that is not behind t -/
theorem last_step {S : List Nat} {t : Nat} (h0 : S.getD 0 0 ≤ t) : ∀ m, 0 < m → m ≤ S.length → ∃ q, q < m ∧ S.getD q 0 ≤ t ∧ ∀ k, q < k → k < m → t < S.getD k 0
  | 0, z, _ => by omega
  | m + 1, _, h => by
    rcases Nat.eq_zero_or_pos m with z | z
    · subst z; exact ⟨0, by omega, h0, fun k a b => by omega⟩
    · by_cases c : S.getD m 0 ≤ t
      · exact ⟨m, by omega, c, fun k a b => by omega⟩
      · obtain ⟨q, a, b, d⟩ := last_step h0 m z (by omega)
        refine ⟨q, by omega, b, fun k e f => ?_⟩
        rcases Nat.lt_succ_iff_lt_or_eq.mp f with y | y
        · exact d k e y
        · rw [y]; omega
/-- the leaders of ss are heads of arcs of their strength -/
structure Stl (ss ls : List Int) (m : Int) : Prop where
  el : ls.length = ss.length
  pos : Ps ls
  most : ∀ k, k < ss.length → ss.getD k 0 ≤ m
  asc : AscN ls.length ((List.range ss.length).filter fun k => decide (ss.getD k 0 = m))
  arcs : ∀ x ∈ arcsI ls (iI ((List.range ss.length).filter fun k => decide (ss.getD k 0 = m))), x = m
theorem Stl.out {ss ls : List Int} {m : Int} (h : Stl ss ls m) {p : Nat} (hp : p < ss.length) : (ss.getD p 0 = m → rch true ss ls p = m) ∧ (ss.getD p 0 ≠ m → rch true ss ls p < m) := by
  have el := h.el
  have n0 : 0 < ls.length := by omega
  have st := (arcs_steps h.asc).mp h.arcs
  have asc := h.asc
  have mem : ∀ k, k ∈ (List.range ss.length).filter (fun k => decide (ss.getD k 0 = m)) ↔ k < ss.length ∧ ss.getD k 0 = m := fun k => by
    rw [List.mem_filter, List.mem_range, decide_eq_true_eq]
  generalize (List.range ss.length).filter (fun k => decide (ss.getD k 0 = m)) = c at st asc mem
  generalize hf : c.getD 0 0 = f at st
  have f0 : f < ls.length := by
    rw [← hf, List.getD_eq_getElem?_getD, List.getElem?_eq_getElem asc.ne]
    exact asc.lt _ (List.getElem_mem asc.ne)
  have hge : ∀ x ∈ c, f ≤ x := fun x hx => by
    obtain ⟨k, hk, e⟩ := mem_getN hx
    rcases Nat.eq_zero_or_pos k with z | z
    · rw [z, hf] at e; omega
    · have := of_pw asc.pw z hk; omega
  -- a step is a head's just if it is in S
  have inS : ∀ s, s < ls.length → (ss.getD ((f + s) % ls.length) 0 = m ↔ s ∈ c.map (· - f)) := fun s hs => by
    have hm : (f + s) % ls.length < ss.length := by rw [← el]; exact Nat.mod_lt _ n0
    constructor
    · intro e
      have hc := (mem _).mpr ⟨hm, e⟩
      have ge := hge _ hc
      refine List.mem_map.mpr ⟨_, hc, ?_⟩
      rcases Nat.lt_or_ge (f + s) ls.length with z | z
      · rw [Nat.mod_eq_of_lt z]; omega
      · rw [Nat.mod_eq_sub_mod z, Nat.mod_eq_of_lt (by omega)] at ge; omega
    · intro e
      obtain ⟨x, hx, rfl⟩ := List.mem_map.mp e
      have := hge x hx
      have xl := asc.lt x hx
      rw [show f + (x - f) = x by omega, Nat.mod_eq_of_lt xl]
      exact ((mem x).mp hx).2
  generalize c.map (· - f) = S at st inS
  have s0 := st.zero h.pos n0
  -- p's step
  obtain ⟨t, ht, ept⟩ : ∃ t, t < ls.length ∧ p = (f + t) % ls.length := by
    rcases Nat.lt_or_ge p f with z | z
    · exact ⟨p + ls.length - f, by omega, by rw [show f + (p + ls.length - f) = p + ls.length by omega, Nat.add_mod_right, Nat.mod_eq_of_lt (by omega)]⟩
    · exact ⟨p - f, by omega, by rw [show f + (p - f) = p by omega, Nat.mod_eq_of_lt (by omega)]⟩
  obtain ⟨q, q1, q2, q3⟩ := last_step (S := S) (t := t) (by rw [s0]; omega) S.length st.ne (Nat.le_refl _)
  -- the next head's step
  obtain ⟨t', ht', lt', w', non⟩ : ∃ t', t < t' ∧ t' ≤ ls.length ∧ Wf ls f t' = ((q : Int) + 1) * m ∧ ((∀ s, t < s → s < t' → ss.getD ((f + s) % ls.length) 0 ≠ m) ∧ ss.getD ((f + t') % ls.length) 0 = m) := by
    have no : ∀ s, s < ls.length → (∀ k, k < S.length → S.getD k 0 ≠ s) → ss.getD ((f + s) % ls.length) 0 ≠ m := fun s hs hk e => by
      obtain ⟨k, k1, k2⟩ := mem_getN ((inS s hs).mp e)
      exact hk k k1 k2
    by_cases z : q + 1 < S.length
    · refine ⟨S.getD (q + 1) 0, q3 _ (by omega) z, Nat.le_of_lt (st.lt _ z), ?_, fun s a b => no s (by have := st.lt _ z; omega) fun k hk e => ?_, ?_⟩
      · rw [st.at_ _ z]; congr 1
      · rcases Nat.lt_trichotomy k (q + 1) with y | y | y
        · rcases Nat.lt_succ_iff_lt_or_eq.mp y with x | x
          · have := st.asc h.pos n0 x q1; omega
          · rw [x] at e; omega
        · rw [y] at e; omega
        · have := st.asc h.pos n0 y hk; omega
      · refine (inS _ (st.lt _ z)).mpr ?_
        rw [List.getD_eq_getElem?_getD, List.getElem?_eq_getElem z]
        exact List.getElem_mem z
    · have qe : q + 1 = S.length := by omega
      refine ⟨ls.length, ht, Nat.le_refl _, ?_, fun s a b => no s b fun k hk e => ?_, ?_⟩
      · rw [st.all, ← qe]; congr 1
      · rcases Nat.lt_or_ge k q with y | y
        · have := st.asc h.pos n0 y q1; omega
        · rw [show k = q by omega] at e; omega
      · rw [Nat.add_mod_right, ← Nat.add_zero (f % ls.length), Nat.add_zero, Nat.mod_eq_of_lt f0]
        refine ((mem f).mp ?_).2
        rw [← hf, List.getD_eq_getElem?_getD, List.getElem?_eq_getElem asc.ne]
        exact List.getElem_mem asc.ne
  have wt : Wf ls f t' = Wf ls f t + Wf ls p (t' - t) := by
    have := Wf_shift (ls := ls) (f := f) (t := t) (p := p) ept (t' - t)
    rw [show t + (t' - t) = t' by omega] at this
    exact this
  have wq : Wf ls f (S.getD q 0) = (q : Int) * m := st.at_ q q1
  have place : ∀ i, (p + 1 + i) % ss.length = (f + (t + 1 + i)) % ls.length := fun i => by
    rw [ept, ← el, Nat.add_assoc, Nat.mod_add_mod]
    congr 1; omega
  obtain ⟨er, lr⟩ := rch_Wf (ls := ls) el hp
  have below : ∀ i, i < t' - t - 1 → ss.getD ((p + 1 + i) % ss.length) 0 < m := fun i hi => by
    have a := non.1 (t + 1 + i) (by omega) (by omega)
    rw [place]
    have b := h.most ((f + (t + 1 + i)) % ls.length) (by rw [← el]; exact Nat.mod_lt _ n0)
    omega
  have stop : t' - t - 1 < ss.length - 1 → ss.getD ((p + 1 + (t' - t - 1)) % ss.length) 0 = m := fun _ => by
    rw [place, show t + 1 + (t' - t - 1) = t' by omega]
    exact non.2
  constructor
  · intro e
    have tS : Wf ls f t = (q : Int) * m := by
      have hS := (inS t ht).mp (by rw [← ept]; exact e)
      obtain ⟨k, k1, k2⟩ := mem_getN hS
      have kq : k = q := by
        rcases Nat.lt_trichotomy k q with y | y | y
        · have := st.asc h.pos n0 y q1; omega
        · exact y
        · have := q3 k y k1; omega
      rw [← k2, kq]; exact wq
    have lenT : (trn true ss p).length = t' - t - 1 := by
      have a := trn_ge hp (j := t' - t - 1) (by omega) fun i hi => by rw [e]; exact below i hi
      rcases Nat.lt_or_ge (t' - t - 1) (ss.length - 1) with z | z
      · have := trn_le hp z (by rw [stop z, e]; omega); omega
      · omega
    rw [er, lenT, show t' - t - 1 + 1 = t' - t by omega]
    have : ((q : Int) + 1) * m = (q : Int) * m + m := by rw [Int.add_mul]; omega
    omega
  · intro e
    have tS : (q : Int) * m < Wf ls f t := by
      rw [← wq]
      refine Wf_lt h.pos n0 _ ?_
      rcases Nat.lt_or_eq_of_le q2 with y | y
      · exact y
      · exfalso
        refine e ?_
        rw [ept]
        refine (inS t ht).mpr ?_
        rw [← y, List.getD_eq_getElem?_getD, List.getElem?_eq_getElem q1]
        exact List.getElem_mem q1
    have pm : ss.getD p 0 < m := by have := h.most p hp; omega
    have lenT : (trn true ss p).length ≤ t' - t - 1 := by
      rcases Nat.lt_or_ge (t' - t - 1) (ss.length - 1) with z | z
      · exact trn_le hp z (by rw [stop z]; omega)
      · omega
    have mono : Wf ls p ((trn true ss p).length + 1) ≤ Wf ls p (t' - t) := by
      rcases Nat.lt_or_eq_of_le (show (trn true ss p).length + 1 ≤ t' - t by omega) with y | y
      · exact Int.le_of_lt (Wf_lt h.pos n0 _ y)
      · rw [y]; exact Int.le_refl _
    rw [er]
    have : ((q : Int) + 1) * m = (q : Int) * m + m := by rw [Int.add_mul]; omega
    omega
/-- whoever has woken, the leaders are the same -/
theorem Stl.after {ss ls es : List Int} {m : Int} (h : Stl ss ls m) (el : es.length = ss.length) (he : ∀ k, k < ss.length → es.getD k 0 = ss.getD k 0 ∨ es.getD k 0 = rch true ss ls k) : ∀ k, k < ss.length → (es.getD k 0 = m ↔ ss.getD k 0 = m) ∧ es.getD k 0 ≤ m := fun k hk => by
  obtain ⟨a, b⟩ := h.out hk
  have c := h.most k hk
  by_cases z : ss.getD k 0 = m
  · have := a z
    rcases he k hk with y | y
    · rw [y]; exact ⟨Iff.rfl, c⟩
    · rw [y, this]; exact ⟨⟨fun _ => z, fun _ => rfl⟩, Int.le_refl _⟩
  · have := b z
    rcases he k hk with y | y
    · rw [y]; exact ⟨Iff.rfl, c⟩
    · rw [y]; exact ⟨⟨fun w => by omega, fun w => absurd w z⟩, by omega⟩
/-- the heads that are walked to are the cut, just if its arcs are all a -/
theorem hd_arc {ls : List Int} {c : List Nat} {a : Int} (hc : AscN ls.length c) (hl : Ps ls) : hdF ls (c.getD 0 0) a = c ↔ arcOf ls (iI c) = some a := by
  rw [HdR.is (f := c.getD 0 0) hdF_is hl hc.ne rfl hc.pw hc.lt, arcOf_some]
  constructor
  · intro t; exact ⟨c, hc, rfl, t⟩
  · rintro ⟨c', _, e, t⟩
    have : c = c' := by
      refine ext_getN (by have := congrArg List.length e; rw [iI_len, iI_len] at this; exact this) fun k _ => ?_
      have := congrArg (fun z => List.getD z k 0) e
      simp only [iI_getD] at this
      omega
    rw [this]; exact t
end Rt
set_option Elab.async false
set_option linter.all false
set_option maxRecDepth 100000
set_option maxHeartbeats 4000000
/-! BD: a waking of at most `most` places of a ring leaves the strongest at least the bound. -/
namespace Rt
open PySem PySem.Spec L2
theorem Wf_le {ls : List Int} {f s t : Nat} (h : Ps ls) (h0 : 0 < ls.length) (z : s ≤ t) : Wf ls f s ≤ Wf ls f t := by
  rcases Nat.lt_or_ge s t with y | y
  · have := Wf_lt (f := f) h h0 t y; omega
  · rw [show s = t by omega]; omega
/-- every strongest place passes all up to the next one -/
theorem rch_step {ss ls : List Int} {m : Int} (el : ls.length = ss.length) (hl : Ps ls) (hx : ∀ y ∈ ss, y ≤ m) {p d : Nat} (hp : p < ss.length) (hm : ss.getD p 0 = m) (d0 : 0 < d) (dn : d ≤ ss.length) (no : ∀ i, i + 1 < d → ss.getD ((p + 1 + i) % ss.length) 0 ≠ m) : Wf ls p d ≤ rch true ss ls p := by
  obtain ⟨e, _⟩ := rch_Wf el hp
  rw [e]
  have t := trn_ge hp (j := d - 1) (by omega) fun i hi => by
    have a := no i (by omega)
    have b := hx _ (getD_mem (l := ss) (i := (p + 1 + i) % ss.length) (Nat.mod_lt _ (by omega)))
    rw [hm]; omega
  exact Wf_le hl (by omega) (by omega)
theorem strN_at {ss : List Int} {m : Int} {k : Nat} (hk : k < (strN ss m).length) : (strN ss m).getD k 0 < ss.length ∧ ss.getD ((strN ss m).getD k 0) 0 = m := by
  have : (strN ss m).getD k 0 ∈ strN ss m := by
    rw [List.getD_eq_getElem?_getD, List.getElem?_eq_getElem hk]
    exact List.getElem_mem hk
  exact strN_mem.mp this
theorem strN_gap {ss : List Int} {m : Int} (hm : m ∈ ss) {k x : Nat} (hk : k < (strN ss m).length) (lo : (strN ss m).getD k 0 < x) (hi : k + 1 < (strN ss m).length → x < (strN ss m).getD (k + 1) 0) (hx : x < ss.length) : ss.getD x 0 ≠ m := fun e => by
  have asc := strN_asc hm
  obtain ⟨j, hj, ej⟩ := mem_getN (strN_mem.mpr ⟨hx, e⟩)
  rcases Nat.lt_or_ge j (k + 1) with z | z
  · rcases Nat.lt_or_ge j k with y | y
    · have := of_pw asc.pw y hk
      omega
    · have : j = k := by omega
      subst this; omega
  · have h1 := hi (by omega)
    rcases Nat.lt_or_ge (k + 1) j with y | y
    · have := of_pw asc.pw y hj
      omega
    · have : j = k + 1 := by omega
      subst this; omega
theorem strN_first {ss : List Int} {m : Int} (hm : m ∈ ss) {x : Nat} (lo : x < (strN ss m).getD 0 0) (hx : x < ss.length) : ss.getD x 0 ≠ m := fun e => by
  have asc := strN_asc hm
  obtain ⟨j, hj, ej⟩ := mem_getN (strN_mem.mpr ⟨hx, e⟩)
  rcases Nat.lt_or_ge 0 j with y | y
  · have := of_pw asc.pw y hj
    omega
  · have : j = 0 := by omega
    subst this; omega
theorem coverR {ss ls : List Int} {m M : Int} (el : ls.length = ss.length) (hl : Ps ls) (hm : m ∈ ss) (hx : ∀ y ∈ ss, y ≤ m) (hM : ∀ p ∈ strN ss m, rch true ss ls p ≤ M) : ls.sum ≤ ((strN ss m).length : Int) * M := by
  have asc := strN_asc hm
  have l0 := asc.ne
  have mem : ∀ {k}, k < (strN ss m).length → (strN ss m).getD k 0 ∈ strN ss m := fun {k} hk => by
    rw [List.getD_eq_getElem?_getD, List.getElem?_eq_getElem hk]
    exact List.getElem_mem hk
  have up : ∀ k, k < (strN ss m).length → off ls ((strN ss m).getD k 0) - off ls ((strN ss m).getD 0 0) ≤ (k : Int) * M := fun k => by
    induction k with
    | zero => intro _; omega
    | succ k ih =>
      intro hk
      have i1 := ih (by omega)
      obtain ⟨a1, a2⟩ := strN_at (ss := ss) (m := m) (show k < _ by omega)
      obtain ⟨b1, b2⟩ := strN_at (ss := ss) (m := m) hk
      have lt := of_pw asc.pw (show k < k + 1 by omega) hk
      have r := rch_step el hl hx a1 a2 (d := (strN ss m).getD (k + 1) 0 - (strN ss m).getD k 0) (by omega) (by omega) fun i hi => by
        rw [Nat.mod_eq_of_lt (by omega)]
        exact strN_gap hm (show k < _ by omega) (by omega) (fun _ => by omega) (by omega)
      rw [Wf_off _ (by omega), show (strN ss m).getD k 0 + ((strN ss m).getD (k + 1) 0 - (strN ss m).getD k 0) = (strN ss m).getD (k + 1) 0 by omega] at r
      have := hM _ (mem (show k < _ by omega))
      rw [show ((k + 1 : Nat) : Int) = (k : Int) + 1 by omega, Int.add_mul]
      omega
  have h1 := up ((strN ss m).length - 1) (by omega)
  obtain ⟨a1, a2⟩ := strN_at (ss := ss) (m := m) (show (strN ss m).length - 1 < _ by omega)
  obtain ⟨b1, b2⟩ := strN_at (ss := ss) (m := m) (show 0 < _ by omega)
  have le : (strN ss m).getD 0 0 ≤ (strN ss m).getD ((strN ss m).length - 1) 0 := by
    rcases Nat.lt_or_ge 0 ((strN ss m).length - 1) with z | z
    · have := of_pw asc.pw z (by omega)
      omega
    · rw [show (strN ss m).length - 1 = 0 by omega]; omega
  have r := rch_step el hl hx a1 a2 (d := ss.length - (strN ss m).getD ((strN ss m).length - 1) 0 + (strN ss m).getD 0 0) (by omega) (by omega) fun i hi => by
    rcases Nat.lt_or_ge ((strN ss m).getD ((strN ss m).length - 1) 0 + 1 + i) ss.length with z | z
    · rw [Nat.mod_eq_of_lt z]
      exact strN_gap hm (show (strN ss m).length - 1 < _ by omega) (by omega) (fun _ => by omega) z
    · have : ((strN ss m).getD ((strN ss m).length - 1) 0 + 1 + i) % ss.length = (strN ss m).getD ((strN ss m).length - 1) 0 + 1 + i - ss.length := by
        rw [Nat.mod_eq_sub_mod z, Nat.mod_eq_of_lt (by omega)]
      rw [this]
      exact strN_first hm (by omega) (by omega)
  have w := Wf_wrap (ls := ls) (f := (strN ss m).getD ((strN ss m).length - 1) 0) (by omega) ((strN ss m).getD 0 0) le
  rw [el] at w
  rw [w] at r
  have h2 := hM _ (mem (show (strN ss m).length - 1 < _ by omega))
  have e : ((strN ss m).length : Int) = (((strN ss m).length - 1 : Nat) : Int) + 1 := by omega
  rw [e, Int.add_mul]
  omega
theorem nodup_le : ∀ {c W : List Nat}, c.Nodup → (∀ x ∈ c, x ∈ W) → c.length ≤ W.length
  | [], _, _, _ => Nat.zero_le _
  | x :: c, W, nd, h => by
    have nd' := List.nodup_cons.mp nd
    have hx := h x List.mem_cons_self
    have := nodup_le (c := c) (W := W.erase x) nd'.2 fun y hy => by
      have ne : y ≠ x := fun z => nd'.1 (z ▸ hy)
      exact (List.mem_erase_of_ne ne).mpr (h y (List.mem_cons_of_mem _ hy))
    rw [List.length_erase_of_mem hx] at this
    have : 0 < W.length := List.length_pos_of_mem hx
    rw [List.length_cons]; omega
def maxI (ss : List Int) : Int := ss.max?.getD 0
theorem maxI_is {ss : List Int} (h : ss ≠ []) : maxI ss ∈ ss ∧ ∀ y ∈ ss, y ≤ maxI ss := by
  unfold maxI
  cases e : ss.max? with
  | none => exact absurd (List.max?_eq_none_iff.mp e) h
  | some m => exact List.max?_eq_some_iff.mp e
theorem maxI_eq {ss : List Int} {m : Int} (h : m ∈ ss) (hx : ∀ y ∈ ss, y ≤ m) : maxI ss = m := by
  have a := maxI_is (ss := ss) (fun z => by rw [z] at h; cases h)
  exact Int.le_antisymm (hx _ a.1) (a.2 _ h)
/-- the bound: the strongest, but no more than an even share of the whole -/
def bndI (ls ss : List Int) (w : Int) : Int := min (maxI ss) ((ls.sum + w - 1) / w)
theorem bnd_keep {ss ls es : List Int} {w : Nat} {b : Int} {W : List Nat} (el : ls.length = ss.length) (hl : Ps ls) (n0 : 0 < ss.length) (len : es.length = ss.length) (nn : ∀ x ∈ es, 0 ≤ x) (w0 : 0 < w) (hW : W.length ≤ w)
    (h : ∀ k, k < ss.length → es.getD k 0 = if k ∈ W then rch true ss ls k else ss.getD k 0) (b1 : b ≤ maxI ss) (b2 : b ≤ (ls.sum + w - 1) / w) : b ≤ maxI es := by
  have ne : ss ≠ [] := fun z => by rw [z] at n0; simp at n0
  have ne' : es ≠ [] := fun z => by rw [z] at len; simp at len; omega
  obtain ⟨hm, hx⟩ := maxI_is ne
  obtain ⟨hM, hX⟩ := maxI_is ne'
  by_cases z : ∀ p ∈ strN ss (maxI ss), p ∈ W
  · have c := coverR (M := maxI es) el hl hm hx fun p hp => by
      have hp' := (strN_mem.mp hp).1
      have := h p hp'
      rw [if_pos (z p hp)] at this
      rw [← this]
      exact hX _ (getD_mem (by omega))
    have nd : (strN ss (maxI ss)).Nodup := (strN_asc hm).pw.imp fun {a b} h => by omega
    have le := nodup_le nd z
    have m0 : 0 ≤ maxI es := nn _ hM
    have c2 : ls.sum ≤ (w : Int) * maxI es := by
      have : ((strN ss (maxI ss)).length : Int) * maxI es ≤ (w : Int) * maxI es := Int.mul_le_mul_of_nonneg_right (by omega) m0
      omega
    have : (ls.sum + w - 1) / (w : Int) ≤ maxI es := by
      have := Int.ediv_lt_of_lt_mul (a := ls.sum + w - 1) (b := maxI es + 1) (c := (w : Int)) (by omega) (by rw [Int.add_mul, Int.mul_comm]; omega)
      omega
    omega
  · obtain ⟨p, hp⟩ := Classical.not_forall.mp z
    obtain ⟨hp, np⟩ := Classical.not_imp.mp hp
    obtain ⟨p1, p2⟩ := strN_mem.mp hp
    have := h p p1
    rw [if_neg np, p2] at this
    have := hX _ (getD_mem (l := es) (i := p) (by omega))
    omega
theorem rch_arc {ss ls : List Int} {m : Int} (el : ls.length = ss.length) (hx : ∀ y ∈ ss, y ≤ m) {p d : Nat} (hp : p < ss.length) (hm : ss.getD p 0 = m) (d0 : 0 < d) (dn : d ≤ ss.length) (no : ∀ i, i + 1 < d → ss.getD ((p + 1 + i) % ss.length) 0 ≠ m) (stop : d < ss.length → ss.getD ((p + d) % ss.length) 0 = m) : rch true ss ls p = Wf ls p d := by
  obtain ⟨e, le⟩ := rch_Wf el hp
  have t := trn_ge hp (j := d - 1) (by omega) fun i hi => by
    have a := no i (by omega)
    have b := hx _ (getD_mem (l := ss) (i := (p + 1 + i) % ss.length) (Nat.mod_lt _ (by omega)))
    rw [hm]; omega
  have u : (trn true ss p).length = d - 1 := by
    rcases Nat.lt_or_ge d ss.length with z | z
    · have := trn_le hp (j := d - 1) (by omega) (by rw [show p + 1 + (d - 1) = p + d by omega, stop z, hm]; omega)
      omega
    · omega
  rw [e, u, show d - 1 + 1 = d by omega]
theorem arc_rest {ss ls : List Int} {m : Int} (el : ls.length = ss.length) (hm : m ∈ ss) (hx : ∀ y ∈ ss, y ≤ m) (hM : ∀ p ∈ strN ss m, rch true ss ls p = m) : arcOf ls (iI (strN ss m)) = some m := by
  have asc := strN_asc hm
  have asc' : AscN ls.length (strN ss m) := by rw [el]; exact asc
  have l0 := asc.ne
  have mem : ∀ {k}, k < (strN ss m).length → (strN ss m).getD k 0 ∈ strN ss m := fun {k} hk => by
    rw [List.getD_eq_getElem?_getD, List.getElem?_eq_getElem hk]
    exact List.getElem_mem hk
  have all : ∀ x ∈ arcsI ls (iI (strN ss m)), x = m := fun x hx' => by
    obtain ⟨k, hk, rfl⟩ := mem_getD hx'
    rw [arcsI_len, iI_len] at hk
    rw [arcsI_at (by rw [iI_len]; exact hk), iI_len, offI_nat, offI_nat, offI_nat]
    obtain ⟨a1, a2⟩ := strN_at (ss := ss) (m := m) hk
    have r := hM _ (mem hk)
    by_cases z : k + 1 < (strN ss m).length
    · rw [if_pos z]
      obtain ⟨b1, b2⟩ := strN_at (ss := ss) (m := m) z
      have lt := of_pw asc.pw (show k < k + 1 by omega) z
      rw [rch_arc el hx a1 a2 (d := (strN ss m).getD (k + 1) 0 - (strN ss m).getD k 0) (by omega) (by omega) (fun i hi => by
        rw [Nat.mod_eq_of_lt (by omega)]
        exact strN_gap hm hk (by omega) (fun _ => by omega) (by omega)) (fun _ => by rw [show (strN ss m).getD k 0 + ((strN ss m).getD (k + 1) 0 - (strN ss m).getD k 0) = (strN ss m).getD (k + 1) 0 by omega, Nat.mod_eq_of_lt b1]; exact b2)] at r
      rw [Wf_off _ (by omega), show (strN ss m).getD k 0 + ((strN ss m).getD (k + 1) 0 - (strN ss m).getD k 0) = (strN ss m).getD (k + 1) 0 by omega] at r
      exact r
    · rw [if_neg z]
      obtain ⟨b1, b2⟩ := strN_at (ss := ss) (m := m) (show 0 < _ by omega)
      have le : (strN ss m).getD 0 0 ≤ (strN ss m).getD k 0 := by
        rcases Nat.lt_or_ge 0 k with y | y
        · have := of_pw asc.pw y hk
          omega
        · rw [show k = 0 by omega]; omega
      rw [rch_arc el hx a1 a2 (d := ss.length - (strN ss m).getD k 0 + (strN ss m).getD 0 0) (by omega) (by omega) (fun i hi => by
        rcases Nat.lt_or_ge ((strN ss m).getD k 0 + 1 + i) ss.length with y | y
        · rw [Nat.mod_eq_of_lt y]
          exact strN_gap hm hk (by omega) (fun w => absurd w z) y
        · have : ((strN ss m).getD k 0 + 1 + i) % ss.length = (strN ss m).getD k 0 + 1 + i - ss.length := by
            rw [Nat.mod_eq_sub_mod y, Nat.mod_eq_of_lt (by omega)]
          rw [this]
          exact strN_first hm (by omega) (by omega)) (fun y => by
        rw [show (strN ss m).getD k 0 + (ss.length - (strN ss m).getD k 0 + (strN ss m).getD 0 0) = (strN ss m).getD 0 0 + ss.length by omega, Nat.add_mod_right, Nat.mod_eq_of_lt b1]
        exact b2)] at r
      have w := Wf_wrap (ls := ls) (f := (strN ss m).getD k 0) (by omega) ((strN ss m).getD 0 0) le
      rw [el] at w
      rw [w] at r
      omega
  have st := (arcs_steps asc').mp all
  exact arcOf_some.mpr ⟨_, asc', rfl, st⟩
end Rt
set_option Elab.async false
set_option linter.all false
set_option maxRecDepth 100000
set_option maxHeartbeats 4000000
/-! The head's facts by names: as HandS.HeadHook2's Hook, with one more Bool of the written part. -/
namespace Rt
open PySem PySem.Spec L2 He
abbrev AlM : Type := AlD × Bool
def obsMG (n : Nat) (fa : List Fa) (fn : List DefD) (more : PySem.W.Frag → Bool) (g : Addr → Option Obj) : AlM := (obsD fa fn (frG g (asD g n)), more (frG g (asD g n)))
def hookM (n : Nat) (fa : List Fa) (fn : List DefD) (more : PySem.W.Frag → Bool) : PySem.W.Hook where
  α := AlM
  obs := fun s => obsMG n fa fn more s.heap.get?
  val := fun _ => (valD fn, true)
  says := fun _ h => ∃ K : PySem.W.Frag, K.In h ∧ SaysD fa fn K ∧ more K = true
  of := fun _ _ e => ⟨_, frG_in, congrArg (fun z : AlM => z.1) e, congrArg (fun z : AlM => z.2) e⟩
  keeps := fun _ _ _ ⟨K, hK, c, d⟩ k => ⟨K, PySem.W.Frag.In.keeps hK k, c, d⟩
theorem obsMG_eq {n : Nat} {fa : List Fa} {fn : List DefD} {more : PySem.W.Frag → Bool} {g : Addr → Option Obj} {s : Shared} (h : ∀ a, g a = s.heap.get? a) : obsMG n fa fn more g = (hookM n fa fn more).obs s := by
  have e : g = s.heap.get? := funext h
  rw [e] <;> rfl
/-! ### an own exception class with an __init__ of its own -/
def clsB (K : PySem.W.Frag) (C : Addr) : Bool := match K.lookup C with
  | some ⟨.type "type", _, .cls cd, sl⟩ => (match cd.mro, sl.toList with
    | .ref C' :: bm, [_, _, _, _, some (.builtin n), _] => C' == C && n == "ValueError.__new__" && !cd.hasDel && cd.hasDict && PySem.HandSPX.refsVE bm
    | _, _ => false)
  | _ => false
theorem clsB_ok {K : PySem.W.Frag} {C : Addr} (q : clsB K C = true) : ∃ nm q N bs bm sn sub ab col dd k0 k1 k2 k3 k5, K.lookup C = some (excClassObj nm q C N bs bm true sn sub ab col dd k0 k1 k2 k3 k5 "ValueError.__new__") ∧ PySem.HandSPX.refsVE bm = true := by
  unfold clsB at q
  split at q
  · rename_i dd cd sl ho
    split at q
    · rename_i C' bm k0 k1 k2 k3 n k5 hm hs
      simp only [Bool.and_eq_true, beq_iff_eq, Bool.not_eq_true'] at q
      obtain ⟨⟨⟨⟨rfl, rfl⟩, hdel⟩, hdict⟩, ht⟩ := q
      obtain ⟨nm, bs, mro, ns, qn, hd, sn, sub, ab, col, del⟩ := cd
      dsimp only at hm hdel hdict
      subst hm hdel hdict
      have hsl : sl = #[k0, k1, k2, k3, some (.builtin "ValueError.__new__"), k5] := by
        obtain ⟨l⟩ := sl
        simp only at hs
        rw [hs]
      subst hsl
      exact ⟨nm, qn, ns, bs, bm, sn, sub, ab, col, dd, k0, k1, k2, k3, k5, ho, ht⟩
    · cases q
  · cases q
def excB (K : PySem.W.Frag) (x fld : Str) : Bool := clsB K (ga K x) && (eqO (PySem.W.findIn K (.ref (ga K x)) "__setattr__") (some (some (.builtin "object.__setattr__"))) && (decide (PySem.W.subIn K (.ref (ga K x)) (.type "BaseException") = some true) &&
  (decide (PySem.W.typeIn K (.ref (ga K x)) = some (.type "type")) && (PySem.W.keepIn K (.ref (ga K x)) && (eqO (PySem.W.findIn K (.ref (ga K x)) "__init__") (some (some (.ref (ma K (ga K x) "__init__")))) &&
  (decide (PySem.W.typeIn K (.ref (ma K (ga K x) "__init__")) = some (.type "function")) && (eqO (PySem.W.findIn K (.ref (ga K x)) fld) (some none) && xfB K (ga K x))))))))
structure ExcT (K : PySem.W.Frag) (x fld : Str) : Prop where
  o : OexC K (ga K x)
  i : PySem.W.findIn K (.ref (ga K x)) "__init__" = some (some (.ref (ma K (ga K x) "__init__")))
  t : PySem.W.typeIn K (.ref (ma K (ga K x) "__init__")) = some (.type "function")
  no : PySem.W.findIn K (.ref (ga K x)) fld = some none
  xf : XfC K (ga K x)
theorem excB_ok {K : PySem.W.Frag} {x fld : Str} (h : excB K x fld = true) : ExcT K x fld := by
  obtain ⟨c1, h⟩ := ba h
  obtain ⟨c2, h⟩ := ba h
  obtain ⟨c3, h⟩ := ba h
  obtain ⟨c4, h⟩ := ba h
  obtain ⟨c5, h⟩ := ba h
  obtain ⟨c6, h⟩ := ba h
  obtain ⟨c7, h⟩ := ba h
  obtain ⟨c8, c9⟩ := ba h
  exact ⟨⟨clsB_ok c1, eqO_ok c2, of_decide_eq_true c3, of_decide_eq_true c4, c5⟩, eqO_ok c6, of_decide_eq_true c7, eqO_ok c8, xfB_ok c9⟩
/-- isinstance(x, C) of an instance of C -/
def isiB (K : PySem.W.Frag) (x : Str) : Bool := eqO (PySem.W.findIn K (.ref (ga K x)) "__class__") (some (some (.builtin "object.__class__"))) && (eqO (PySem.W.specialIn K (.builtin "object.__class__") "__get__") (some (some (.builtin "getset_descriptor.__get__"))) &&
  (decide (PySem.W.takesIn K (.builtin "object.__class__") = some true) && (decide (PySem.W.mroIn K (ga K x) (.type "object") = some true) && decide (PySem.W.kitOne K (.ref (ga K x)) (.ref (ga K x)) = some true))))
theorem isiB_ok {K : PySem.W.Frag} {x : Str} (h : isiB K x = true) : PySem.W.findIn K (.ref (ga K x)) "__class__" = some (some (.builtin "object.__class__")) ∧ PySem.W.specialIn K (.builtin "object.__class__") "__get__" = some (some (.builtin "getset_descriptor.__get__")) ∧
    PySem.W.takesIn K (.builtin "object.__class__") = some true ∧ PySem.W.mroIn K (ga K x) (.type "object") = some true ∧ PySem.W.kitOne K (.ref (ga K x)) (.ref (ga K x)) = some true := by
  obtain ⟨c1, h⟩ := ba h
  obtain ⟨c2, h⟩ := ba h
  obtain ⟨c3, h⟩ := ba h
  obtain ⟨c4, c5⟩ := ba h
  exact ⟨eqO_ok c1, eqO_ok c2, of_decide_eq_true c3, of_decide_eq_true c4, of_decide_eq_true c5⟩
/-! ### a def by its datum -/
section
variable {P : Program} {w : World} {K : PySem.W.Frag} {mg : Str → Option Value} {base : Heap} {x qual : Str} {st : Stmt} {f : Addr} {fd : FuncData} {ps : List Str} {k : Nat} {CX : CXT} {sp : Sp}
/-- without defaults: as Fun -/
theorem fun_of (F : FunD K x qual (defArgs st) (defBody st) (defScope st) [] [] f fd) : Fun K x qual st f fd := by
  obtain ⟨⟨oc, od, dV, kV, doc, pm, an, cdv, ct, osl, rfl, lk, hcd, hD, hK⟩, kp⟩ := F
  rcases hD with ⟨_, rfl⟩ | ⟨e, _⟩
  · exact ⟨⟨oc, od, kV, doc, pm, an, cdv, ct, osl, rfl, lk, hcd⟩, kp⟩
  · exact absurd rfl e
theorem defOk (g : mg x = some (.ref f)) (F : Fun K x qual st f fd) (O : FnOk P w K mg base CX k f fd ps sp) (b : L2.Binds K fd ps []) : DefOk P w K mg base CX k x ps sp := ⟨f, fd, g, F.kp, O, b⟩
theorem defOkH (g : mg x = some (.ref f)) (F : Fun K x qual st f fd) (O : L2H.FnH P w K mg base CX k f fd ps sp) (b : L2.Binds K fd ps []) : DefOkH P w K mg base CX k x ps sp := ⟨f, fd, g, F.kp, O, b⟩
end
end Rt
set_option Elab.async false
set_option linter.all false
set_option maxRecDepth 100000
set_option maxHeartbeats 4000000
/-! The head's facts where defs make lambdas: the tables of their code objects are empty, and no part of what is known. -/
namespace Rt
open PySem PySem.Spec L2 He
def woF (K : PySem.W.Frag) (cs : List (Addr × Addr)) : PySem.W.Frag := K.filter fun p => !cs.any fun q => q.2 == p.1
theorem woF_at {cs : List (Addr × Addr)} {a : Addr} : ∀ K : PySem.W.Frag, (woF K cs).lookup a = if (cs.any fun q => q.2 == a) = true then none else K.lookup a
  | [] => by unfold woF; split <;> rfl
  | (b, o) :: r => by
    have ih := woF_at (cs := cs) (a := a) r
    unfold woF at ih ⊢
    rw [List.filter_cons]
    by_cases e : a = b
    · subst e
      cases q : cs.any fun q => q.2 == a with
      | true =>
        rw [q] at ih
        simp only [q, Bool.not_true, Bool.false_eq_true, if_false, if_true] at ih ⊢
        exact ih
      | false =>
        simp only [q, Bool.not_false, Bool.false_eq_true, if_false, if_true]
        simp [List.lookup]
    · have nb : (a == b) = false := by simpa using e
      have l0 : List.lookup a ((b, o) :: r) = List.lookup a r := by simp [List.lookup, nb]
      rw [l0, ← ih]
      split
      · simp [List.lookup, nb]
      · rfl
theorem woF_in {K : PySem.W.Frag} {cs : List (Addr × Addr)} {h : Heap} (X : K.In h) : (woF K cs).In h := fun a o e => by
  rw [woF_at] at e
  split at e
  · cases e
  · exact X a o e
theorem woF_none {K : PySem.W.Frag} {cs : List (Addr × Addr)} {p : Addr × Addr} (hp : p ∈ cs) : (woF K cs).lookup p.2 = none := by
  rw [woF_at, if_pos]
  exact List.any_eq_true.mpr ⟨p, hp, beq_self_eq_true _⟩
def emptyB (K : PySem.W.Frag) (P : Addr) : Bool := match K.lookup P with
  | some ⟨.none, none, .fields vs, sl⟩ => vs.isEmpty && sl.isEmpty
  | _ => false
theorem emptyB_ok {K : PySem.W.Frag} {P : Addr} {h : Heap} (X : K.In h) (e : emptyB K P = true) : h.get? P = some { cls := .none, data := .fields #[] } := by
  unfold emptyB at e
  split at e
  · rename_i vs sl hk
    simp only [Bool.and_eq_true, Array.isEmpty_iff] at e
    obtain ⟨e1, e2⟩ := e
    subst e1 e2
    exact X _ _ hk
  · cases e
/-- the code objects of the defs xs and their tables -/
def csOf (K : PySem.W.Frag) (xs : List Str) : List (Addr × Addr) := xs.map fun x => (PySem.W.tabIn K x).getD (0, 0)
def headB (K : PySem.W.Frag) (xs : List Str) : Bool := (csOf K xs).all fun p => PySem.W.codeHdIn K p.1 p.2 && emptyB K p.2
def atB (K : PySem.W.Frag) (xs : List Str) (cs : List (Addr × Addr)) : Bool := (xs.zip cs).all fun p => codeAt K (ga K p.1) p.2.1
def obsLK (xs : List Str) (fa : List Fa) (fn : List DefD) (more : PySem.W.Frag → Bool) (K : PySem.W.Frag) (cs : List (Addr × Addr)) (b : Bool) : AlM := (obsD fa fn K, b && (atB K xs cs && more K))
def obsLF (xs : List Str) (fa : List Fa) (fn : List DefD) (more : PySem.W.Frag → Bool) (K : PySem.W.Frag) : AlM := obsLK xs fa fn more (woF K (csOf K xs)) (csOf K xs) (headB K xs)
def obsLG (xs : List Str) (n : Nat) (fa : List Fa) (fn : List DefD) (more : PySem.W.Frag → Bool) (g : Addr → Option Obj) : AlM := obsLF xs fa fn more (frG g (asD g n))
structure SaysL (xs : List Str) (fa : List Fa) (fn : List DefD) (more : PySem.W.Frag → Bool) (h : Heap) : Prop where
  ex : ∃ (K : PySem.W.Frag) (cs : List (Addr × Addr)), K.In h ∧ cs.length = xs.length ∧ SaysD fa fn K ∧ more K = true ∧ (∀ (i : Nat) (x : Str) (p : Addr × Addr), xs[i]? = some x → cs[i]? = some p → codeAt K (ga K x) p.1 = true) ∧
    (∀ p ∈ cs, K.lookup p.2 = none) ∧ ∀ p ∈ cs, h.get? p.2 = some { cls := .none, data := .fields #[] } ∧ PySem.W.CodeHd h p.1 p.2
theorem saysL_of {xs : List Str} {fa : List Fa} {fn : List DefD} {more : PySem.W.Frag → Bool} {h : Heap} {n : Nat} (e : obsLG xs n fa fn more h.get? = (valD fn, true)) : SaysL xs fa fn more h := by
  unfold obsLG obsLF at e
  generalize hK : frG h.get? (asD h.get? n) = K at e
  have X : K.In h := by rw [← hK]; exact frG_in
  have e1 : obsD fa fn (woF K (csOf K xs)) = valD fn := congrArg (fun z : AlM => z.1) e
  have e2 : (headB K xs && (atB (woF K (csOf K xs)) xs (csOf K xs) && more (woF K (csOf K xs)))) = true := congrArg (fun z : AlM => z.2) e
  obtain ⟨h1, h2⟩ := ba e2
  obtain ⟨h3, h4⟩ := ba h2
  refine ⟨_, csOf K xs, woF_in X, List.length_map _, e1, h4, fun i x p hx hp => ?_, fun p hp => woF_none hp, fun p hp => ?_⟩
  · have z := List.all_eq_true.mp h3 (x, p) (List.mem_of_getElem? (i := i) (by rw [List.getElem?_zip_eq_some]; exact ⟨hx, hp⟩))
    exact z
  · obtain ⟨a, b⟩ := ba (List.all_eq_true.mp h1 p hp)
    exact ⟨emptyB_ok X b, PySem.W.codeHd_of_K X a⟩
def hookL (xs : List Str) (n : Nat) (fa : List Fa) (fn : List DefD) (more : PySem.W.Frag → Bool) : PySem.W.Hook where
  α := AlM
  obs := fun s => obsLG xs n fa fn more s.heap.get?
  val := fun _ => (valD fn, true)
  says := fun _ h => SaysL xs fa fn more h
  of := fun _ _ e => saysL_of e
  keeps := fun _ _ _ ⟨⟨K, cs, hK, l, c, d, a, b, t⟩⟩ k => ⟨⟨K, cs, PySem.W.Frag.In.keeps hK k, l, c, d, a, b, fun p hp => ⟨k _ _ (t p hp).1, (t p hp).2.keeps k⟩⟩⟩
theorem obsLG_eq {xs : List Str} {n : Nat} {fa : List Fa} {fn : List DefD} {more : PySem.W.Frag → Bool} {g : Addr → Option Obj} {s : Shared} (h : ∀ a, g a = s.heap.get? a) : obsLG xs n fa fn more g = (hookL xs n fa fn more).obs s := by
  have e : g = s.heap.get? := funext h
  rw [e] <;> rfl
end Rt
set_option Elab.async false
set_option linter.all false
set_option maxRecDepth 100000
set_option maxHeartbeats 4000000
namespace Rt
open PySem PySem.Spec L2
open PyProof.Rows (envOfC)
def top (i : Nat) : Stmt := PySem.Challenge.pw_retinue_k58_whole_ring_comes_to_equal_ar.main.body.getD i (.Pass ⟨0, 0, 0, 0⟩)
abbrev s_BadBeads_init : Stmt := inClass (top 3) 0
theorem sc_BadBeads_init : FnScope ["self", "place"] ["self", "place"] (defScope s_BadBeads_init) := ⟨rfl, rfl, rfl, by decide +kernel, rfl, by decide +kernel, by decide +kernel⟩
abbrev s_BadPlace_init : Stmt := inClass (top 4) 0
theorem sc_BadPlace_init : FnScope ["self", "place"] ["self", "place"] (defScope s_BadPlace_init) := ⟨rfl, rfl, rfl, by decide +kernel, rfl, by decide +kernel, by decide +kernel⟩
abbrev s_WrongKind_init : Stmt := inClass (top 5) 0
theorem sc_WrongKind_init : FnScope ["self", "ring"] ["self", "ring"] (defScope s_WrongKind_init) := ⟨rfl, rfl, rfl, by decide +kernel, rfl, by decide +kernel, by decide +kernel⟩
abbrev s_BadCut_init : Stmt := inClass (top 6) 0
theorem sc_BadCut_init : FnScope ["self", "cut"] ["self", "cut"] (defScope s_BadCut_init) := ⟨rfl, rfl, rfl, by decide +kernel, rfl, by decide +kernel, by decide +kernel⟩
abbrev s_NotAtRest_init : Stmt := inClass (top 7) 0
theorem sc_NotAtRest_init : FnScope ["self", "place"] ["self", "place"] (defScope s_NotAtRest_init) := ⟨rfl, rfl, rfl, by decide +kernel, rfl, by decide +kernel, by decide +kernel⟩
abbrev s_check_place : Stmt := top 10
theorem sc_check_place : FnScope ["many", "place"] ["many", "place"] (defScope s_check_place) := ⟨rfl, rfl, rfl, by decide +kernel, rfl, by decide +kernel, by decide +kernel⟩
abbrev s_check_handful : Stmt := top 11
theorem sc_check_handful : FnScope ["many", "handful", "place"] ["many", "handful"] (defScope s_check_handful) := ⟨rfl, rfl, rfl, by decide +kernel, rfl, by decide +kernel, by decide +kernel⟩
abbrev s_check_ring : Stmt := top 12
theorem sc_check_ring : FnScope ["beads"] ["beads"] (defScope s_check_ring) := ⟨rfl, rfl, rfl, by decide +kernel, rfl, by decide +kernel, by decide +kernel⟩
abbrev s_run_after : Stmt := top 14
theorem sc_run_after : FnScope ["beads", "place", "after"] ["beads", "place"] (defScope s_run_after) := ⟨rfl, rfl, rfl, by decide +kernel, rfl, by decide +kernel, by decide +kernel⟩
abbrev s_train_of : Stmt := top 15
theorem sc_train_of : FnScope ["beads", "place", "train", "other"] ["beads", "place"] (defScope s_train_of) := ⟨rfl, rfl, rfl, by decide +kernel, rfl, by decide +kernel, by decide +kernel⟩
abbrev s_reach_of : Stmt := top 16
theorem sc_reach_of : FnScope ["beads", "place", "train", "other"] ["beads", "place"] (defScope s_reach_of) := ⟨rfl, rfl, rfl, by decide +kernel, rfl, by decide +kernel, by decide +kernel⟩
abbrev s_reaches : Stmt := top 17
theorem sc_reaches : FnScope ["beads", "place"] ["beads"] (defScope s_reaches) := ⟨rfl, rfl, rfl, by decide +kernel, rfl, by decide +kernel, by decide +kernel⟩
abbrev s_lords_of : Stmt := top 18
theorem sc_lords_of : FnScope ["beads", "place"] ["beads"] (defScope s_lords_of) := ⟨rfl, rfl, rfl, by decide +kernel, rfl, by decide +kernel, by decide +kernel⟩
abbrev s__lord_of : Stmt := top 19
theorem sc__lord_of : FnScope ["beads", "place", "earlier", "other"] ["beads", "place"] (defScope s__lord_of) := ⟨rfl, rfl, rfl, by decide +kernel, rfl, by decide +kernel, by decide +kernel⟩
abbrev s_leaders_of : Stmt := top 20
theorem sc_leaders_of : FnScope ["beads", "place", "lord"] ["beads"] (defScope s_leaders_of) := ⟨rfl, rfl, rfl, by decide +kernel, rfl, by decide +kernel, by decide +kernel⟩
abbrev s_Beads_init : Stmt := inClass (top 22) 0
theorem sc_Beads_init : FnScope ["self", "strengths", "lengths", "ring"] ["self", "strengths", "lengths", "ring"] (defScope s_Beads_init) := ⟨rfl, rfl, rfl, by decide +kernel, rfl, by decide +kernel, by decide +kernel⟩
abbrev s_Beads_len : Stmt := inClass (top 22) 1
theorem sc_Beads_len : FnScope ["self"] ["self"] (defScope s_Beads_len) := ⟨rfl, rfl, rfl, by decide +kernel, rfl, by decide +kernel, by decide +kernel⟩
abbrev s_Beads_iter : Stmt := inClass (top 22) 2
theorem sc_Beads_iter : FnScope ["self"] ["self"] (defScope s_Beads_iter) := ⟨rfl, rfl, rfl, by decide +kernel, rfl, by decide +kernel, by decide +kernel⟩
abbrev s_Beads_eq : Stmt := inClass (top 22) 3
theorem sc_Beads_eq : FnScope ["self", "other"] ["self", "other"] (defScope s_Beads_eq) := ⟨rfl, rfl, rfl, by decide +kernel, rfl, by decide +kernel, by decide +kernel⟩
abbrev s_Beads_add : Stmt := inClass (top 22) 4
theorem sc_Beads_add : FnScope ["self", "other"] ["self", "other"] (defScope s_Beads_add) := ⟨rfl, rfl, rfl, by decide +kernel, rfl, by decide +kernel, by decide +kernel⟩
abbrev s_Beads_mul : Stmt := inClass (top 22) 5
theorem sc_Beads_mul : FnScope ["self", "other"] ["self", "other"] (defScope s_Beads_mul) := ⟨rfl, rfl, rfl, by decide +kernel, rfl, by decide +kernel, by decide +kernel⟩
abbrev s_Beads_total : Stmt := inClass (top 22) 6
theorem sc_Beads_total : FnScope ["self"] ["self"] (defScope s_Beads_total) := ⟨rfl, rfl, rfl, by decide +kernel, rfl, by decide +kernel, by decide +kernel⟩
abbrev s_Beads_greatest : Stmt := inClass (top 22) 7
theorem sc_Beads_greatest : FnScope ["self"] ["self"] (defScope s_Beads_greatest) := ⟨rfl, rfl, rfl, by decide +kernel, rfl, by decide +kernel, by decide +kernel⟩
abbrev s__check_beads : Stmt := top 23
theorem sc__check_beads : FnScope ["strengths", "lengths", "place"] ["strengths", "lengths"] (defScope s__check_beads) := ⟨rfl, rfl, rfl, by decide +kernel, rfl, by decide +kernel, by decide +kernel⟩
abbrev s_changes_at : Stmt := top 25
theorem sc_changes_at : FnScope ["strengths", "handful", "tell", "changes", "place", "before", "after"] ["strengths", "handful", "tell"] (defScope s_changes_at) := ⟨rfl, rfl, rfl, by decide +kernel, rfl, by decide +kernel, by decide +kernel⟩
abbrev s_strengths_after : Stmt := top 26
theorem sc_strengths_after : FnScope ["strengths", "changes", "found", "place", "_", "after"] ["strengths", "changes"] (defScope s_strengths_after) := ⟨rfl, rfl, rfl, by decide +kernel, rfl, by decide +kernel, by decide +kernel⟩
abbrev s_changes_of : Stmt := top 27
theorem sc_changes_of : FnScope ["beads", "handful"] ["beads", "handful"] (defScope s_changes_of) := ⟨rfl, rfl, rfl, by decide +kernel, rfl, by decide +kernel, by decide +kernel⟩
abbrev s_wake : Stmt := top 28
theorem sc_wake : FnScope ["beads", "handful"] ["beads", "handful"] (defScope s_wake) := ⟨rfl, rfl, rfl, by decide +kernel, rfl, by decide +kernel, by decide +kernel⟩
abbrev s_changed : Stmt := top 29
theorem sc_changed : FnScope ["beads", "changes"] ["beads", "changes"] (defScope s_changed) := ⟨rfl, rfl, rfl, by decide +kernel, rfl, by decide +kernel, by decide +kernel⟩
abbrev s_restless : Stmt := top 30
theorem sc_restless : FnScope ["beads", "told", "place"] ["beads"] (defScope s_restless) := ⟨rfl, rfl, rfl, by decide +kernel, rfl, by decide +kernel, by decide +kernel⟩
abbrev s_check_rest : Stmt := top 31
theorem sc_check_rest : FnScope ["beads", "places"] ["beads"] (defScope s_check_rest) := ⟨rfl, rfl, rfl, by decide +kernel, rfl, by decide +kernel, by decide +kernel⟩
abbrev s_offsets_of : Stmt := top 33
theorem sc_offsets_of : FnScope ["lengths", "offsets", "total", "length"] ["lengths"] (defScope s_offsets_of) := ⟨rfl, rfl, rfl, by decide +kernel, rfl, by decide +kernel, by decide +kernel⟩
abbrev s_is_ascending : Stmt := top 34
theorem sc_is_ascending : FnScope ["cut", "many", "k"] ["cut", "many"] (defScope s_is_ascending) := ⟨rfl, rfl, rfl, by decide +kernel, rfl, by decide +kernel, by decide +kernel⟩
abbrev s_common_arc : Stmt := top 35
theorem sc_common_arc : FnScope ["beads", "cut", "offsets", "starts", "head", "ends", "arcs", "start", "end"] ["beads", "cut"] (defScope s_common_arc) := ⟨rfl, rfl, rfl, by decide +kernel, rfl, by decide +kernel, by decide +kernel⟩
abbrev s_arc_length : Stmt := top 36
theorem sc_arc_length : FnScope ["beads", "cut", "length"] ["beads", "cut"] (defScope s_arc_length) := ⟨rfl, rfl, rfl, by decide +kernel, rfl, by decide +kernel, by decide +kernel⟩
abbrev s_resting_cut : Stmt := top 37
theorem sc_resting_cut : FnScope ["beads"] ["beads"] (defScope s_resting_cut) := ⟨rfl, rfl, rfl, by decide +kernel, rfl, by decide +kernel, by decide +kernel⟩
abbrev s_least_arc : Stmt := top 38
theorem sc_least_arc : FnScope ["beads", "hand", "shared"] ["beads", "hand"] (defScope s_least_arc) := ⟨rfl, rfl, rfl, by decide +kernel, rfl, by decide +kernel, by decide +kernel⟩
abbrev s_tally_at : Stmt := top 40
theorem sc_tally_at : FnScope ["strengths", "told", "tally", "strength", "number", "step", "value"] ["strengths", "told"] (defScope s_tally_at) := ⟨rfl, rfl, rfl, by decide +kernel, rfl, by decide +kernel, by decide +kernel⟩
abbrev s_tally_of : Stmt := top 41
theorem sc_tally_of : FnScope ["beads"] ["beads"] (defScope s_tally_of) := ⟨rfl, rfl, rfl, by decide +kernel, rfl, by decide +kernel, by decide +kernel⟩
abbrev s_compare_tallies : Stmt := top 42
theorem sc_compare_tallies : FnScope ["one", "other", "left", "value", "number", "right", "difference"] ["one", "other"] (defScope s_compare_tallies) := ⟨rfl, rfl, rfl, by decide +kernel, rfl, by decide +kernel, by decide +kernel⟩
abbrev s__law_cell : Stmt := top 44
theorem sc__law_cell : FnScope ["script", "k"] ["script", "k"] (defScope s__law_cell) := ⟨rfl, rfl, rfl, by decide +kernel, rfl, by decide +kernel, by decide +kernel⟩
abbrev s__law_draws : Stmt := top 45
theorem sc__law_draws : FnScope ["cell", "sizes", "left", "draws", "k", "mixed"] ["cell", "sizes"] (defScope s__law_draws) := ⟨rfl, rfl, rfl, by decide +kernel, rfl, by decide +kernel, by decide +kernel⟩
abbrev s__law_lengths : Stmt := top 46
theorem sc__law_lengths : FnScope ["cell", "many", "flavour", "size", "draw"] ["cell", "many"] (defScope s__law_lengths) := ⟨rfl, rfl, rfl, by decide +kernel, rfl, by decide +kernel, by decide +kernel⟩
abbrev s__law_strengths : Stmt := top 47
theorem sc__law_strengths : FnScope ["cell", "sizes", "flavour", "total", "size", "level", "most"] ["cell", "sizes"] (defScope s__law_strengths) := ⟨rfl, rfl, rfl, by decide +kernel, rfl, by decide +kernel, by decide +kernel⟩
abbrev s__law_heads : Stmt := top 48
theorem sc__law_heads : FnScope ["sizes", "first", "arc", "heads", "run", "step", "at"] ["sizes", "first", "arc"] (defScope s__law_heads) := ⟨rfl, rfl, rfl, by decide +kernel, rfl, by decide +kernel, by decide +kernel⟩
abbrev s__law_is_integer : Stmt := top 49
theorem sc__law_is_integer : FnScope ["actual"] ["actual"] (defScope s__law_is_integer) := ⟨rfl, rfl, rfl, by decide +kernel, rfl, by decide +kernel, by decide +kernel⟩
abbrev s__law_numbers : Stmt := top 50
theorem sc__law_numbers : FnScope ["actual", "due", "as_tuple", "k"] ["actual", "due", "as_tuple"] (defScope s__law_numbers) := ⟨rfl, rfl, rfl, by decide +kernel, rfl, by decide +kernel, by decide +kernel⟩
abbrev s__law_is_standing : Stmt := top 51
theorem sc__law_is_standing : FnScope ["actual", "round_flag", "sizes", "strengths"] ["actual", "round_flag", "sizes", "strengths"] (defScope s__law_is_standing) := ⟨rfl, rfl, rfl, by decide +kernel, rfl, by decide +kernel, by decide +kernel⟩
abbrev s__law_reach : Stmt := top 52
theorem sc__law_reach : FnScope ["sizes", "strengths", "place", "total", "step", "at"] ["sizes", "strengths", "place"] (defScope s__law_reach) := ⟨rfl, rfl, rfl, by decide +kernel, rfl, by decide +kernel, by decide +kernel⟩
abbrev s__law_woken : Stmt := top 53
theorem sc__law_woken : FnScope ["sizes", "strengths", "places", "after", "place"] ["sizes", "strengths", "places"] (defScope s__law_woken) := ⟨rfl, rfl, rfl, by decide +kernel, rfl, by decide +kernel, by decide +kernel⟩
abbrev s__law_restless : Stmt := top 54
theorem sc__law_restless : FnScope ["sizes", "strengths", "k"] ["sizes", "strengths"] (defScope s__law_restless) := ⟨rfl, rfl, rfl, by decide +kernel, rfl, by decide +kernel, by decide +kernel⟩
abbrev s__law_strongest : Stmt := top 55
theorem sc__law_strongest : FnScope ["strengths", "greatest", "k"] ["strengths"] (defScope s__law_strongest) := ⟨rfl, rfl, rfl, by decide +kernel, rfl, by decide +kernel, by decide +kernel⟩
abbrev s__law_standing : Stmt := top 56
theorem sc__law_standing : FnScope ["script", "plan", "sizes", "times", "block", "strengths", "strength"] ["script", "plan"] (defScope s__law_standing) := ⟨rfl, rfl, rfl, by decide +kernel, rfl, by decide +kernel, by decide +kernel⟩
abbrev s__law_bound : Stmt := top 57
theorem sc__law_bound : FnScope ["sizes", "strengths", "most"] ["sizes", "strengths", "most"] (defScope s__law_bound) := ⟨rfl, rfl, rfl, by decide +kernel, rfl, by decide +kernel, by decide +kernel⟩
abbrev s__law_bound_told : Stmt := top 58
theorem sc__law_bound_told : FnScope ["beads", "sizes", "strengths", "most", "told"] ["beads", "sizes", "strengths", "most"] (defScope s__law_bound_told) := ⟨rfl, rfl, rfl, by decide +kernel, rfl, by decide +kernel, by decide +kernel⟩
abbrev s__law_picked : Stmt := top 59
theorem sc__law_picked : FnScope ["draws", "free", "sizes", "strengths", "strongest", "choices", "draw"] ["draws", "free", "sizes", "strengths"] (defScope s__law_picked) := ⟨rfl, rfl, rfl, by decide +kernel, rfl, by decide +kernel, by decide +kernel⟩
abbrev s__law_way : Stmt := top 60
theorem sc__law_way : FnScope ["cell", "free", "many", "most", "sizes", "strengths", "draws", "bound", "now", "beads", "paper", "step", "picks", "after", "later", "sign"] ["cell", "free", "many", "most", "sizes", "strengths"] (defScope s__law_way) := ⟨rfl, rfl, rfl, by decide +kernel, rfl, by decide +kernel, by decide +kernel⟩
abbrev s__law_rested : Stmt := top 61
theorem sc__law_rested : FnScope ["sizes", "strengths", "now", "lowest", "idle", "look", "place", "reach"] ["sizes", "strengths"] (defScope s__law_rested) := ⟨rfl, rfl, rfl, by decide +kernel, rfl, by decide +kernel, by decide +kernel⟩
abbrev s__law_resting : Stmt := top 62
theorem sc__law_resting : FnScope ["beads", "e"] ["beads"] (defScope s__law_resting) := ⟨rfl, rfl, rfl, by decide +kernel, rfl, by decide +kernel, by decide +kernel⟩
abbrev s__law_rest_told : Stmt := top 63
theorem sc__law_rest_told : FnScope ["sizes", "strengths", "bound", "beads", "strongest", "answer", "arc"] ["sizes", "strengths", "bound"] (defScope s__law_rest_told) := ⟨rfl, rfl, rfl, by decide +kernel, rfl, by decide +kernel, by decide +kernel⟩
abbrev s__law_start_told : Stmt := top 64
theorem sc__law_start_told : FnScope ["sizes", "strengths", "beads", "told", "paper", "kept", "restless_v", "answer"] ["sizes", "strengths"] (defScope s__law_start_told) := ⟨rfl, rfl, rfl, by decide +kernel, rfl, by decide +kernel, by decide +kernel⟩
abbrev s__law_row_refused : Stmt := top 65
theorem sc__law_row_refused : FnScope ["row", "most", "answer", "e"] ["row", "most"] (defScope s__law_row_refused) := ⟨rfl, rfl, rfl, by decide +kernel, rfl, by decide +kernel, by decide +kernel⟩
abbrev s_law : Stmt := top 66
theorem sc_law : FnScope ["script", "plan", "built", "sizes", "strengths", "many", "most", "now", "bound", "lowest", "rested"] ["script"] (defScope s_law) := ⟨rfl, rfl, rfl, by decide +kernel, rfl, by decide +kernel, by decide +kernel⟩
structure Ad where
  Beads : Addr
  BadPlace : Addr
  WrongKind : Addr
  BadCut : Addr
  NotAtRest : Addr
  RetinueError : Addr
  NotSettled : Addr
structure Txt (K : PySem.W.Frag) (mg : Str → Option Value) (A : Ad) : Prop where
  m_len : mg "len" = none
  m_int : mg "int" = none
  m_bool : mg "bool" = none
  m_tuple : mg "tuple" = none
  m_list : mg "list" = none
  m_range : mg "range" = none
  m_isinstance : mg "isinstance" = none
  m_sum : mg "sum" = none
  m_enumerate : mg "enumerate" = none
  m_max : mg "max" = none
  m_min : mg "min" = none
  m_set : mg "set" = none
  m_sorted : mg "sorted" = none
  m_reversed : mg "reversed" = none
  g_Beads : mg "Beads" = some (.ref A.Beads)
  cl : Cls K A.Beads
  nS : NoAttr K A.Beads "strengths"
  nL : NoAttr K A.Beads "lengths"
  nR : NoAttr K A.Beads "ring"
  g_BadPlace : mg "BadPlace" = some (.ref A.BadPlace)
  oBP : OexC K A.BadPlace
  no_BadPlace_place : PySem.W.findIn K (.ref A.BadPlace) "place" = some none
  x_BadPlace : XfC K A.BadPlace
  eBP : PySem.W.exmOne K (.ref A.BadPlace) (.ref A.BadPlace) = some true
  g_WrongKind : mg "WrongKind" = some (.ref A.WrongKind)
  oWK : OexC K A.WrongKind
  no_WrongKind_ring : PySem.W.findIn K (.ref A.WrongKind) "ring" = some none
  x_WrongKind : XfC K A.WrongKind
  eWK : PySem.W.exmOne K (.ref A.WrongKind) (.ref A.WrongKind) = some true
  g_BadCut : mg "BadCut" = some (.ref A.BadCut)
  oBC : OexC K A.BadCut
  no_BadCut_cut : PySem.W.findIn K (.ref A.BadCut) "cut" = some none
  x_BadCut : XfC K A.BadCut
  eBC : PySem.W.exmOne K (.ref A.BadCut) (.ref A.BadCut) = some true
  g_NotAtRest : mg "NotAtRest" = some (.ref A.NotAtRest)
  oNR : OexC K A.NotAtRest
  no_NotAtRest_place : PySem.W.findIn K (.ref A.NotAtRest) "place" = some none
  x_NotAtRest : XfC K A.NotAtRest
  eNR : PySem.W.exmOne K (.ref A.NotAtRest) (.ref A.NotAtRest) = some true
  g_RetinueError : mg "RetinueError" = some (.ref A.RetinueError)
  g_NotSettled : mg "NotSettled" = some (.ref A.NotSettled)
  m_ValueError : mg "ValueError" = none
  xm_WrongKind_NotAtRest : PySem.W.exmOne K (.ref A.WrongKind) (.ref A.NotAtRest) = some false
  xc_WrongKind : ExcC K A.WrongKind
  xc_NotAtRest : ExcC K A.NotAtRest
  xk_WrongKind_BadPlace : PySem.W.kitOne K (.ref A.WrongKind) (.ref A.BadPlace) = some false
  xk_WrongKind_NotAtRest : PySem.W.kitOne K (.ref A.WrongKind) (.ref A.NotAtRest) = some false
  xk_WrongKind_RetinueError : PySem.W.kitOne K (.ref A.WrongKind) (.ref A.RetinueError) = some true
  xk_WrongKind_ValueError : PySem.W.kitOne K (.ref A.WrongKind) (.type "ValueError") = some true
  xk_NotAtRest_BadPlace : PySem.W.kitOne K (.ref A.NotAtRest) (.ref A.BadPlace) = some false
  xk_NotAtRest_NotSettled : PySem.W.kitOne K (.ref A.NotAtRest) (.ref A.NotSettled) = some false
  xk_NotAtRest_RetinueError : PySem.W.kitOne K (.ref A.NotAtRest) (.ref A.RetinueError) = some true
  xk_NotAtRest_ValueError : PySem.W.kitOne K (.ref A.NotAtRest) (.type "ValueError") = some true
  nW : True
  iB1 : PySem.W.findIn K (.ref A.Beads) "__class__" = some (some (.builtin "object.__class__"))
  iB2 : PySem.W.specialIn K (.builtin "object.__class__") "__get__" = some (some (.builtin "getset_descriptor.__get__"))
  iB3 : PySem.W.takesIn K (.builtin "object.__class__") = some true
  iB4 : PySem.W.mroIn K A.Beads (.type "object") = some true
  iB5 : PySem.W.kitOne K (.ref A.Beads) (.ref A.Beads) = some true
  m_all : mg "all" = none
  m_zip : mg "zip" = none
  m_iter : mg "iter" = none
local macro_rules | `(tactic| walk_at "rd1") => `(tactic| (with_reducible first
  | refine g_var (by with_unfolding_all rfl) ?_
  | refine g_c ?_
  | refine g_op ?_
  | refine g_I0 ?_
  | refine g_eqI ?_
  | refine g_neI ?_
  | refine g_eqB ?_
  | refine g_neB ?_
  | refine g_cons ?_
  | refine g_nil ?_
  | refine g_seq ?_
  | refine g_asg ?_
  | refine g_name ?_
  | refine g_ret ?_
  | refine g_retN ?_
  | refine g_drop ?_
  | refine g_next ?_
  | refine g_if ?_
  | refine g_test ?_
  | refine g_tB ?_
  | refine g_bl ?_
  | refine g_and ?_
  | refine g_or ?_
  | refine g_not ?_
  | refine g_andV ?_
  | refine g_orV ?_
  | refine g_notV ?_
  | refine g_ifE ?_
  | refine g_cb ?_
  | refine g_meth ?_
  | refine g_rev ?_
  | refine g_gcons ?_
  | refine g_gnil ?_
  | refine g_isB' ?_
  | refine g_gsub ?_
  | refine g_call ?_
  | refine g_callS ?_
  | refine g_bm ?_
  | refine g_un ?_
  | refine g_U ?_
  | refine g_chain ?_
  | refine g_sl ?_
  | refine g_brk ?_
  | refine g_ct ?_
  | refine g_ipI ?_
  | refine g_fld ?_
  | refine g_lst ?_
  | refine g_int ?_
  | refine g_for ?_
  | refine g_rg1 ?_
  | refine g_rg2 ?_
  | refine g_il ?_
  | refine g_it ?_
  | refine g_lc ?_
  | refine g_yes ?_
  | refine g_tup ?_
  | refine g_part ?_
  | refine g_xf ?_
  | refine g_nn ?_
  | refine g_mko ?_
  | refine g_lrg ?_
  | refine g_tr1 ?_
  | refine g_tr2 ?_
  | refine g_oi2 ?_
  | refine g_mk ?_
  | refine g_sfld ?_
  | refine g_ost ?_
  | refine g_oi ?_
  | refine g_nopart ?_
  | refine g_tt ?_
  | refine g_ff ?_
  | refine g_nt ?_
  | refine g_nf ?_
  | refine g_drn ?_
  | refine g_din ?_
  | refine g_dnn ?_
  | refine g_nrn ?_
  | refine g_nin ?_
  | refine g_nnn ?_))
local macro_rules | `(tactic| walk_at "rd") => `(tactic| (repeat walk_at "rd1"))

section
variable {P : Program} {w : World} {K : PySem.W.Frag} {mg : Str → Option Value} {base : Heap} {f : Addr} {fd : FuncData} {A : Ad}
/-! ### _law_cell -/
def cellI (ns : List Int) (k : Nat) : Int := ns.getD k 0
def spCell (K : PySem.W.Frag) : Sp := fun vs H Q _ => ∃ (a : Addr) (ns : List Int) (k : Nat), vs = [.ref a, .int (k : Int)] ∧ SqL K H a (ns.map V.int) ∧ Q (.int (cellI ns k)) H
theorem ok_cell (F : Fun K "_law_cell" "_law_cell" s__law_cell f fd) (T : Txt K mg A) : FnOk P w K mg base CX0 1 f fd ["script", "k"] (Rt.spCell K) := by
  refine F.ok sc__law_cell (fun vs H Q E h => ?_) (fun cdv A1 outer s H vs Q E hr h => ?_)
  · obtain ⟨a, ns, k, rfl, _⟩ := h
    rfl
  · obtain ⟨a, ns, k, rfl, hs, q⟩ := h
    refine ⟨_, (pss_cons (ps_if (pt_cmpR op_lt (pv 1) (pe_callB (call_lenK K) (by rfl) T.m_len PySem.boot_len (pa_cons (pv 0) pa_nil)) (nomark _)) (pss_one (ps_ret (pe_callTy call_int1 (by rfl) T.m_int (by decide +kernel) (pa_cons (pe_ix (ix_listK K) (pv 0) (pv 1) (fun _ _ => rfl)) pa_nil)))) pss_nil)
      (pss_one (ps_ret pe_int))), ?_⟩
    walk_at "rd"
    refine ⟨a, _, rfl, .inl hs, ?_⟩
    walk_at "rd"
    refine g_ite (fun e => ?_) (fun e => ?_)
    · have hk : k < ns.length := by have := of_decide_eq_true e; rw [List.length_map] at this; omega
      walk_at "rd"
      refine ⟨a, _, _, _, rfl, rfl, hs, at_int hk, ?_⟩
      walk_at "rd"
      exact q
    · have hk : ns.length ≤ k := by have := of_decide_eq_false e; rw [List.length_map] at this; omega
      walk_at "rd"
      have e0 : cellI ns k = 0 := by unfold cellI; rw [List.getD_eq_getElem?_getD, List.getElem?_eq_none hk]; rfl
      rw [e0] at q
      exact q
/-! ### _law_draws -/
def spDraws (K : PySem.W.Frag) : Sp := fun vs H Q _ => ∃ (l : Addr) (c : Int) (ns : List Int), vs = [.int c, .ref l] ∧ SqL K H l (ns.map V.int) ∧ ns.length ≤ 1000 ∧ (∀ i, i < ns.length → 0 < ns.getD i 0 ∧ ns.getD i 0 < 2 ^ 64) ∧
  ∀ (p : Addr) (H' : Hp) (ds : List Int), H p = none → Same H H' → H' p = some (.lst (ds.map V.int)) → Dr ns ds → Q (.ref p) H'
theorem ok_draws (F : Fun K "_law_draws" "_law_draws" s__law_draws f fd) (T : Txt K mg A) : FnOk P w K mg base CX0 1 f fd ["cell", "sizes"] (Rt.spDraws K) := by
  refine F.ok sc__law_draws (fun vs H Q E h => ?_) (fun cdv A1 outer s H vs Q E hr h => ?_)
  · obtain ⟨l, c, ns, rfl, _⟩ := h
    rfl
  · obtain ⟨l, c, ns, rfl, hs, hl, hp, q⟩ := h
    refine ⟨_, (pss_cons (ps_set (i := 2) sc__law_draws.nd rfl (Or.inl rfl) (pe_callTy call_int1 (by rfl) T.m_int (by decide +kernel) (pa_cons (pv 0) pa_nil)))
      (pss_cons (ps_set (i := 3) sc__law_draws.nd rfl (Or.inl rfl) (pe_lst pa_nil))
      (pss_cons (ps_for (PassesOwn.never) rfl (pi_range1 rfl T.m_range (pa_cons (pe_callB (call_lenK K) (by rfl) T.m_len PySem.boot_len (pa_cons (pv 1) pa_nil)) pa_nil)) (pg_name (i := 4) sc__law_draws.nd rfl (Or.inl rfl)) (pss_one (ps_if (pt_cmpR op_ge (pv 0) (pe_op op_pow pe_int pe_int) (nomark _)) (pss_cons (ps_expr (pe_appK K (pv 3) (pa_cons (pe_op op_mod (pe_callTy call_int1 (by rfl) T.m_int (by decide +kernel) (pa_cons (pv 2) pa_nil)) (pe_ix (ix_listK K) (pv 1) (pv 4) (fun _ _ => rfl))) pa_nil)))
      (pss_one (ps_set (i := 2) sc__law_draws.nd rfl (Or.inl rfl) (pe_op op_fdivW (pe_callTy call_int1 (by rfl) T.m_int (by decide +kernel) (pa_cons (pv 2) pa_nil)) (pe_ix (ix_listK K) (pv 1) (pv 4) (fun _ _ => rfl)))))) (pss_cons (ps_set (i := 5) sc__law_draws.nd rfl (Or.inl rfl) (pe_op op_mod (pe_callTy call_int1 (by rfl) T.m_int (by decide +kernel) (pa_cons (pe_op op_add (pe_op op_add (pv 0) (pe_op op_mul pe_int (pv 4))) pe_int) pa_nil)) pe_int))
      (pss_cons (ps_set (i := 5) sc__law_draws.nd rfl (Or.inl rfl) (pe_op op_mod (pe_callTy call_int1 (by rfl) T.m_int (by decide +kernel) (pa_cons (pe_op op_mul (pv 5) (pe_op op_add (pv 5) pe_int)) pa_nil)) pe_int))
      (pss_cons (ps_set (i := 5) sc__law_draws.nd rfl (Or.inl rfl) (pe_op op_mod (pe_callTy call_int1 (by rfl) T.m_int (by decide +kernel) (pa_cons (pe_op op_add (pe_op op_mul (pv 5) (pe_op op_add (pv 5) pe_int)) (pe_op op_mul pe_int (pv 4))) pa_nil)) pe_int))
      (pss_one (ps_expr (pe_appK K (pv 3) (pa_cons (pe_op op_mod (pe_callTy call_int1 (by rfl) T.m_int (by decide +kernel) (pa_cons (pe_op op_fdiv (pv 5) pe_int) pa_nil)) (pe_ix (ix_listK K) (pv 1) (pv 4) (fun _ _ => rfl))) pa_nil))))))))))
      (pss_one (ps_ret (pv 3)))))), ?_⟩
    walk_at "rd"
    refine ⟨by decide, fun p np => ?_⟩
    walk_at "rd"
    have S0 : Same H (upd H p (.lst [])) := Same.new np
    refine ⟨l, _, rfl, .inl (S0.seq hs), ?_⟩
    walk_at "rd"
    refine ⟨_, rfl, by omega, by rw [List.length_map]; omega, ?_⟩
    rw [List.length_map]
    refine for_range (lo := 0) (fun i σ H' => ∃ (left : Int) (ds : List Int) (v5 v6 : Option V), σ = [some (.int c), some (.ref l), some (.int left), some (.ref p), v5, v6] ∧ Same H H' ∧ H' p = some (.lst (ds.map V.int)) ∧ ds.length = i ∧
      ∀ j, j < i → 0 ≤ ds.getD j 0 ∧ ds.getD j 0 < ns.getD j 0) ⟨c, [], none, none, rfl, S0, upd_same, rfl, fun j h => absurd h (Nat.not_lt_zero j)⟩ ?_ ?_
    · rintro i σ H' hi ⟨left, ds, v5, v6, rfl, S1, hd, hdl, hin⟩
      have hi' : i < ns.length := by simpa using hi
      have hs1 := S1.seq hs
      obtain ⟨hp0, hp1⟩ := hp i hi'
      have step : ∀ (d : Int), 0 ≤ d → d < ns.getD i 0 → ∀ j, j < i + 1 → 0 ≤ (ds ++ [d]).getD j 0 ∧ (ds ++ [d]).getD j 0 < ns.getD j 0 := by
        intro d h0 h1 j hj
        rw [getD_app, hdl]
        by_cases h : j < i
        · rw [if_pos h]; exact hin j h
        · have e : j = i := by omega
          subst e
          rw [if_neg h, if_pos rfl]; exact ⟨h0, h1⟩
      rw [Int.zero_add]
      walk_at "rd"
      refine g_I ⟨by decide, by decide, by decide⟩ ?_
      walk_at "rd"
      refine g_ite (fun e => ?_) (fun e => ?_)
      · walk_at "rd"
        refine ⟨ty_l hd, ?_⟩
        walk_at "rd"
        refine g_ixL hs1 (at_int hi') ?_
        refine g_I hp0 ?_
        walk_at "rd"
        refine g_app hd (by rw [List.length_map, hdl]; exact slt1000 (by omega)) ?_
        walk_at "rd"
        have S2 : Same H (upd H' p (.lst (ds.map V.int ++ [V.int (left % ns.getD i 0)]))) := S1.mut np
        refine g_ixL (S2.seq hs) (at_int hi') ?_
        refine g_I (wide_div hp0 (b := 64) (by omega) (by decide) (by decide)) ?_
        walk_at "rd"
        exact ⟨_, ds ++ [left % ns.getD i 0], _, _, rfl, S2, by rw [upd_same, map_app], by rw [List.length_append, hdl]; rfl, step _ (Int.emod_nonneg _ (by omega)) (Int.emod_lt_of_pos _ hp0)⟩
      · walk_at "rd"
        refine g_I (.inl ⟨by decide, by decide⟩) ?_
        walk_at "rd"
        refine g_I (by decide) ?_
        walk_at "rd"
        have a1 := Int.emod_nonneg (c + 7919 * (i : Int) + 13) (show (2147483647 : Int) ≠ 0 by decide)
        have a2 := Int.emod_lt_of_pos (c + 7919 * (i : Int) + 13) (show (0 : Int) < 2147483647 by decide)
        generalize (c + 7919 * (i : Int) + 13) % 2147483647 = m1 at a1 a2
        refine g_I (.inl ⟨by omega, by omega⟩) ?_
        walk_at "rd"
        refine g_I (by decide) ?_
        walk_at "rd"
        have b1 := Int.emod_nonneg (m1 * (m1 + 48271)) (show (2147483629 : Int) ≠ 0 by decide)
        have b2 := Int.emod_lt_of_pos (m1 * (m1 + 48271)) (show (0 : Int) < 2147483629 by decide)
        generalize (m1 * (m1 + 48271)) % 2147483629 = m2 at b1 b2
        refine g_I (.inl ⟨by omega, by omega⟩) ?_
        walk_at "rd"
        refine g_I (.inl ⟨by decide, by decide⟩) ?_
        walk_at "rd"
        refine g_I (by decide) ?_
        walk_at "rd"
        refine ⟨ty_l hd, ?_⟩
        walk_at "rd"
        refine g_I ⟨by decide, by decide⟩ ?_
        walk_at "rd"
        refine g_ixL hs1 (at_int hi') ?_
        refine g_I hp0 ?_
        walk_at "rd"
        refine g_app hd (by rw [List.length_map, hdl]; exact slt1000 (by omega)) ?_
        walk_at "rd"
        exact ⟨_, ds ++ [_], _, _, rfl, S1.mut np, by rw [upd_same, map_app], by rw [List.length_append, hdl]; rfl, step _ (Int.emod_nonneg _ (by omega)) (Int.emod_lt_of_pos _ hp0)⟩
    · rintro σ H' ⟨left, ds, v5, v6, rfl, S1, hd, hdl, hin⟩
      walk_at "rd"
      exact q p H' ds np S1 hd ⟨by simpa using hdl, fun i hi => hin i (by simpa using hi)⟩
/-! ### _law_is_integer -/
def spInt : Sp := fun vs H Q _ => ∃ i : Int, vs = [.int i] ∧ Q (.bl true) H
theorem ok_int (F : Fun K "_law_is_integer" "_law_is_integer" s__law_is_integer f fd) (T : Txt K mg A) : FnOk P w K mg base CX0 1 f fd ["actual"] Rt.spInt := by
  refine F.ok sc__law_is_integer (fun vs H Q E h => ?_) (fun cdv A1 outer s H vs Q E hr h => ?_)
  · obtain ⟨i, rfl, _⟩ := h
    rfl
  · obtain ⟨i, rfl, q⟩ := h
    refine ⟨_, (pss_one (ps_ret (pe_and (pe_callB (call_isiQ K) (by rfl) T.m_isinstance (by decide +kernel) (pa_cons (pv 0) (pa_cons (pe_bltn (v := .ty "int") (by rfl) T.m_int (by decide +kernel) rfl) pa_nil))) (pe_one (pe_not (pe_callB (call_isiQ K) (by rfl) T.m_isinstance (by decide +kernel) (pa_cons (pv 0) (pa_cons (pe_bltn (v := .ty "bool") (by rfl) T.m_bool (by decide +kernel) rfl) pa_nil)))))))), ?_⟩
    walk_at "rd"
    refine ⟨_, _, _, _, _, rfl, .ty _, .base (.int i), kit_ty (r := true) (by decide +kernel), ?_⟩
    refine ⟨_, rfl, g_itt rfl ?_⟩
    walk_at "rd"
    refine ⟨_, _, _, _, _, rfl, .ty _, .base (.int i), kit_ty (r := false) (by decide +kernel), ?_⟩
    exact ⟨_, rfl, q⟩
theorem ok_intH (F : Fun K "_law_is_integer" "_law_is_integer" s__law_is_integer f fd) (T : Txt K mg A) : L2H.FnH P w K mg base CX0 1 f fd ["actual"] Rt.spInt := by
  refine okH F sc__law_is_integer (fun vs H Q E h => ?_) (fun cdv A1 outer s H vs Q E p hot hr h => ?_)
  · obtain ⟨i, rfl, _⟩ := h
    rfl
  · obtain ⟨i, rfl, q⟩ := h
    refine ⟨_, (pss_one (ps_ret (pe_and (pe_callB (call_isiQ K) (by rfl) T.m_isinstance (by decide +kernel) (pa_cons (pv 0) (pa_cons (pe_bltn (v := .ty "int") (by rfl) T.m_int (by decide +kernel) rfl) pa_nil))) (pe_one (pe_not (pe_callB (call_isiQ K) (by rfl) T.m_isinstance (by decide +kernel) (pa_cons (pv 0) (pa_cons (pe_bltn (v := .ty "bool") (by rfl) T.m_bool (by decide +kernel) rfl) pa_nil)))))))), ?_⟩
    walk_at "rd"
    refine ⟨_, _, _, _, _, rfl, .ty _, .base (.int i), kit_ty (r := true) (by decide +kernel), ?_⟩
    refine ⟨_, rfl, g_itt rfl ?_⟩
    walk_at "rd"
    refine ⟨_, _, _, _, _, rfl, .ty _, .base (.int i), kit_ty (r := false) (by decide +kernel), ?_⟩
    exact ⟨_, rfl, q⟩
/-! ### _law_numbers -/
/-- a list or, with b, a tuple of the ints xs at a -/
def SeqAt' (H : Hp) (b : Bool) (a : Addr) (xs : List Int) : Prop := H a = some (if b = true then .tup (xs.map V.int) else .lst (xs.map V.int))
def spNumbers (K : PySem.W.Frag) : Sp := fun vs H Q _ => ∃ (a l : Addr) (b : Bool) (xs ys : List Int), vs = [.ref a, .ref l, .bl b] ∧ SeqAt' H b a xs ∧ SqL K H l (ys.map V.int) ∧ ys.length ≤ 100000 ∧ Q (.bl (decide (xs = ys))) H
theorem ok_numbers (F : Fun K "_law_numbers" "_law_numbers" s__law_numbers f fd) (T : Txt K mg A) (D__law_is_integer : DefOk P w K mg base CX0 1 "_law_is_integer" ["actual"] Rt.spInt) : FnOk P w K mg base CX0 2 f fd ["actual", "due", "as_tuple"] (Rt.spNumbers K) := by
  refine F.ok sc__law_numbers (fun vs H Q E h => ?_) (fun cdv A1 outer s H vs Q E hr h => ?_)
  · obtain ⟨a, l, b, xs, ys, rfl, _⟩ := h
    rfl
  · obtain ⟨a, l, b, xs, ys, rfl, ha, hs, hy, q⟩ := h
    refine ⟨_, (pss_cons (ps_if (PW.pt (pw_or (PW.pt (pw_and (pt_val (pv 2)) (pw_and1 (pt_not (pt_val (pe_callB (call_isiQ K) (by rfl) T.m_isinstance (by decide +kernel) (pa_cons (pv 0) (pa_cons (pe_bltn (v := .ty "tuple") (by rfl) T.m_tuple (by decide +kernel) rfl) pa_nil)))))))) (pw_or1 (PW.pt (pw_and (pt_not (pt_val (pv 2))) (pw_and1 (pt_not (pt_val (pe_callB (call_isiQ K) (by rfl) T.m_isinstance (by decide +kernel) (pa_cons (pv 0) (pa_cons (pe_bltn (v := .ty "list") (by rfl) T.m_list (by decide +kernel) rfl) pa_nil))))))))))) (pss_one (ps_ret pe_bl)) pss_nil)
      (pss_cons (ps_if (pt_cmpR op_ne (pe_callB (call_lenK K) (by rfl) T.m_len PySem.boot_len (pa_cons (pv 0) pa_nil)) (pe_callB (call_lenK K) (by rfl) T.m_len PySem.boot_len (pa_cons (pv 1) pa_nil)) (nomark _)) (pss_one (ps_ret pe_bl)) pss_nil)
      (pss_cons (ps_for (PassesOwn.never) rfl (pi_range1 rfl T.m_range (pa_cons (pe_callB (call_lenK K) (by rfl) T.m_len PySem.boot_len (pa_cons (pv 1) pa_nil)) pa_nil)) (pg_name (i := 3) sc__law_numbers.nd rfl (Or.inl rfl)) (pss_one (ps_if (PW.pt (pw_or (pt_not (pt_val (pe_callD D__law_is_integer (hr.mono (by decide)) pass0 (pa_cons (pe_ix (ix_seqK K) (pv 0) (pv 3) (fun _ _ => rfl)) pa_nil)))) (pw_or1 (pt_cmpR op_ne (pe_ix (ix_seqK K) (pv 0) (pv 3) (fun _ _ => rfl)) (pe_ix (ix_listK K) (pv 1) (pv 3) (fun _ _ => rfl)) (nomark _))))) (pss_one (ps_ret pe_bl)) pss_nil)))
      (pss_one (ps_ret pe_bl))))), ?_⟩
    have hlen : SqL K H a (xs.map V.int) ∨ SqT K H a (xs.map V.int) := by
      cases b with
      | true => exact .inr (SqT.of ha)
      | false => exact .inl (SqL.of ha)
    have hix : ∀ (i : Nat) (Q : VK), i < xs.length → Q (.int (xs.getD i 0)) H → rIx K (.ref a) (.int (i : Int)) H Q := fun i Q hi h => by
      cases b with
      | true => exact .inr (.inl (g_ixT (SqT.of ha) (at_int hi) h))
      | false => exact .inl (g_ixL (SqL.of ha) (at_int hi) h)
    have step : ∀ (i : Nat), i < ys.length → i < xs.length → (∀ j, j < i → xs.getD j 0 = ys.getD j 0) → xs.getD i 0 = ys.getD i 0 → ∀ j, j < i + 1 → xs.getD j 0 = ys.getD j 0 := fun i _ _ h h2 j hj => by
      rcases Nat.lt_succ_iff_lt_or_eq.mp hj with z | z
      · exact h j z
      · rw [z]; exact h2
    cases b
    all_goals
      walk_at "rd"
      refine g_isi (b := true) (.base (by first | exact .tup ha | exact .lst ha)) (by decide +kernel) ?_
      walk_at "rd"
      refine ⟨a, _, rfl, hlen, ?_⟩
      walk_at "rd"
      refine ⟨l, _, rfl, .inl hs, ?_⟩
      rw [List.length_map, List.length_map]
      walk_at "rd"
      refine g_ite (fun e => ?_) (fun e => ?_)
      · walk_at "rd"
        have ne : ¬ xs = ys := fun z => by
          rw [z] at e; simp at e
        rw [decide_eq_false ne] at q
        exact q
      · have el : xs.length = ys.length := by
          have := e; simp at this
          omega
        walk_at "rd"
        refine ⟨l, _, rfl, .inl hs, ?_⟩
        rw [List.length_map]
        walk_at "rd"
        refine ⟨_, rfl, by omega, by omega, ?_⟩
        refine for_range (lo := 0) (fun i σ H' => ∃ v3 : Option V, σ = [some (.ref a), some (.ref l), some (.bl _), v3] ∧ H' = H ∧ ∀ j, j < i → xs.getD j 0 = ys.getD j 0) ⟨none, rfl, rfl, fun j h => absurd h (Nat.not_lt_zero j)⟩ ?_ ?_
        · rintro i σ H' hi ⟨v3, rfl, rfl, hin⟩
          have hi' : i < ys.length := by simpa using hi
          rw [Int.zero_add]
          walk_at "rd"
          refine hix i _ (by omega) ?_
          walk_at "rd"
          refine ⟨_, rfl, ?_⟩
          walk_at "rd"
          refine hix i _ (by omega) ?_
          walk_at "rd"
          refine g_ixL hs (at_int hi') ?_
          walk_at "rd"
          refine g_ite (fun e2 => ?_) (fun e2 => ?_)
          · walk_at "rd"
            have ne : ¬ xs = ys := fun z => by
              rw [z] at e2; simp at e2
            rw [decide_eq_false ne] at q
            exact q
          · walk_at "rd"
            have h2 : xs.getD i 0 = ys.getD i 0 := by simpa using e2
            exact ⟨_, rfl, rfl, step i hi' (by omega) hin h2⟩
        · rintro σ H' ⟨v3, rfl, rfl, hin⟩
          walk_at "rd"
          have e3 : xs = ys := ext_getD el fun i hi => hin i (by simpa using (by omega : i < ys.length))
          rw [decide_eq_true e3] at q
          exact q
/-! ### -/
end
end Rt
set_option Elab.async false
set_option linter.all false
set_option maxRecDepth 100000
set_option maxHeartbeats 0
namespace RtH
open PySem PySem.Spec L2 He Rt
def fn : List He.DefD := [
  ⟨("_law_bound", none), "_law_bound", "_law_bound", defArgs s__law_bound, defBody s__law_bound, defScope s__law_bound, [], []⟩,
  ⟨("_law_bound_told", none), "_law_bound_told", "_law_bound_told", defArgs s__law_bound_told, defBody s__law_bound_told, defScope s__law_bound_told, [], []⟩,
  ⟨("_law_cell", none), "_law_cell", "_law_cell", defArgs s__law_cell, defBody s__law_cell, defScope s__law_cell, [], []⟩,
  ⟨("_law_draws", none), "_law_draws", "_law_draws", defArgs s__law_draws, defBody s__law_draws, defScope s__law_draws, [], []⟩,
  ⟨("_law_heads", none), "_law_heads", "_law_heads", defArgs s__law_heads, defBody s__law_heads, defScope s__law_heads, [], []⟩,
  ⟨("_law_is_integer", none), "_law_is_integer", "_law_is_integer", defArgs s__law_is_integer, defBody s__law_is_integer, defScope s__law_is_integer, [], []⟩,
  ⟨("_law_is_standing", none), "_law_is_standing", "_law_is_standing", defArgs s__law_is_standing, defBody s__law_is_standing, defScope s__law_is_standing, [], []⟩,
  ⟨("_law_lengths", none), "_law_lengths", "_law_lengths", defArgs s__law_lengths, defBody s__law_lengths, defScope s__law_lengths, [], []⟩,
  ⟨("_law_numbers", none), "_law_numbers", "_law_numbers", defArgs s__law_numbers, defBody s__law_numbers, defScope s__law_numbers, [], []⟩,
  ⟨("_law_picked", none), "_law_picked", "_law_picked", defArgs s__law_picked, defBody s__law_picked, defScope s__law_picked, [], []⟩,
  ⟨("_law_reach", none), "_law_reach", "_law_reach", defArgs s__law_reach, defBody s__law_reach, defScope s__law_reach, [], []⟩,
  ⟨("_law_rest_told", none), "_law_rest_told", "_law_rest_told", defArgs s__law_rest_told, defBody s__law_rest_told, defScope s__law_rest_told, [], []⟩,
  ⟨("_law_rested", none), "_law_rested", "_law_rested", defArgs s__law_rested, defBody s__law_rested, defScope s__law_rested, [], []⟩,
  ⟨("_law_resting", none), "_law_resting", "_law_resting", defArgs s__law_resting, defBody s__law_resting, defScope s__law_resting, [], []⟩,
  ⟨("_law_restless", none), "_law_restless", "_law_restless", defArgs s__law_restless, defBody s__law_restless, defScope s__law_restless, [], []⟩,
  ⟨("_law_row_refused", none), "_law_row_refused", "_law_row_refused", defArgs s__law_row_refused, defBody s__law_row_refused, defScope s__law_row_refused, [], []⟩,
  ⟨("_law_standing", none), "_law_standing", "_law_standing", defArgs s__law_standing, defBody s__law_standing, defScope s__law_standing, [], []⟩,
  ⟨("_law_start_told", none), "_law_start_told", "_law_start_told", defArgs s__law_start_told, defBody s__law_start_told, defScope s__law_start_told, [], []⟩,
  ⟨("_law_strengths", none), "_law_strengths", "_law_strengths", defArgs s__law_strengths, defBody s__law_strengths, defScope s__law_strengths, [], []⟩,
  ⟨("_law_strongest", none), "_law_strongest", "_law_strongest", defArgs s__law_strongest, defBody s__law_strongest, defScope s__law_strongest, [], []⟩,
  ⟨("_law_way", none), "_law_way", "_law_way", defArgs s__law_way, defBody s__law_way, defScope s__law_way, [], []⟩,
  ⟨("_law_woken", none), "_law_woken", "_law_woken", defArgs s__law_woken, defBody s__law_woken, defScope s__law_woken, [], []⟩,
  ⟨("_lord_of", none), "_lord_of", "_lord_of", defArgs s__lord_of, defBody s__lord_of, defScope s__lord_of, [], []⟩,
  ⟨("arc_length", none), "arc_length", "arc_length", defArgs s_arc_length, defBody s_arc_length, defScope s_arc_length, [], []⟩,
  ⟨("changed", none), "changed", "changed", defArgs s_changed, defBody s_changed, defScope s_changed, [], []⟩,
  ⟨("changes_at", none), "changes_at", "changes_at", defArgs s_changes_at, defBody s_changes_at, defScope s_changes_at, [], []⟩,
  ⟨("changes_of", none), "changes_of", "changes_of", defArgs s_changes_of, defBody s_changes_of, defScope s_changes_of, [], []⟩,
  ⟨("check_handful", none), "check_handful", "check_handful", defArgs s_check_handful, defBody s_check_handful, defScope s_check_handful, [], []⟩,
  ⟨("check_place", none), "check_place", "check_place", defArgs s_check_place, defBody s_check_place, defScope s_check_place, [], []⟩,
  ⟨("check_rest", none), "check_rest", "check_rest", defArgs s_check_rest, defBody s_check_rest, defScope s_check_rest, [], []⟩,
  ⟨("check_ring", none), "check_ring", "check_ring", defArgs s_check_ring, defBody s_check_ring, defScope s_check_ring, [], []⟩,
  ⟨("common_arc", none), "common_arc", "common_arc", defArgs s_common_arc, defBody s_common_arc, defScope s_common_arc, [], []⟩,
  ⟨("compare_tallies", none), "compare_tallies", "compare_tallies", defArgs s_compare_tallies, defBody s_compare_tallies, defScope s_compare_tallies, [], []⟩,
  ⟨("is_ascending", none), "is_ascending", "is_ascending", defArgs s_is_ascending, defBody s_is_ascending, defScope s_is_ascending, [], []⟩,
  ⟨("law", none), "law", "law", defArgs s_law, defBody s_law, defScope s_law, [], []⟩,
  ⟨("leaders_of", none), "leaders_of", "leaders_of", defArgs s_leaders_of, defBody s_leaders_of, defScope s_leaders_of, [], []⟩,
  ⟨("lords_of", none), "lords_of", "lords_of", defArgs s_lords_of, defBody s_lords_of, defScope s_lords_of, [], []⟩,
  ⟨("offsets_of", none), "offsets_of", "offsets_of", defArgs s_offsets_of, defBody s_offsets_of, defScope s_offsets_of, [], []⟩,
  ⟨("reach_of", none), "reach_of", "reach_of", defArgs s_reach_of, defBody s_reach_of, defScope s_reach_of, [], []⟩,
  ⟨("reaches", none), "reaches", "reaches", defArgs s_reaches, defBody s_reaches, defScope s_reaches, [], []⟩,
  ⟨("resting_cut", none), "resting_cut", "resting_cut", defArgs s_resting_cut, defBody s_resting_cut, defScope s_resting_cut, [], []⟩,
  ⟨("restless", none), "restless", "restless", defArgs s_restless, defBody s_restless, defScope s_restless, [], []⟩,
  ⟨("run_after", none), "run_after", "run_after", defArgs s_run_after, defBody s_run_after, defScope s_run_after, [], []⟩,
  ⟨("strengths_after", none), "strengths_after", "strengths_after", defArgs s_strengths_after, defBody s_strengths_after, defScope s_strengths_after, [], []⟩,
  ⟨("tally_at", none), "tally_at", "tally_at", defArgs s_tally_at, defBody s_tally_at, defScope s_tally_at, [], []⟩,
  ⟨("tally_of", none), "tally_of", "tally_of", defArgs s_tally_of, defBody s_tally_of, defScope s_tally_of, [], []⟩,
  ⟨("train_of", none), "train_of", "train_of", defArgs s_train_of, defBody s_train_of, defScope s_train_of, [], []⟩,
  ⟨("wake", none), "wake", "wake", defArgs s_wake, defBody s_wake, defScope s_wake, [], []⟩,
  ⟨("_check_beads", none), "_check_beads", "_check_beads", defArgs s__check_beads, defBody s__check_beads, defScope s__check_beads, [], []⟩,
  ⟨("least_arc", none), "least_arc", "least_arc", defArgs s_least_arc, defBody s_least_arc, defScope s_least_arc, [], [("hand", .int 1)]⟩,
  ⟨("Beads", some "__init__"), "__init__", "Beads.__init__", defArgs s_Beads_init, defBody s_Beads_init, defScope s_Beads_init, [.non], [("ring", .bl true)]⟩,
  ⟨("Beads", some "__len__"), "__len__", "Beads.__len__", defArgs s_Beads_len, defBody s_Beads_len, defScope s_Beads_len, [], []⟩,
  ⟨("Beads", some "total"), "total", "Beads.total", defArgs s_Beads_total, defBody s_Beads_total, defScope s_Beads_total, [], []⟩,
  ⟨("Beads", some "greatest"), "greatest", "Beads.greatest", defArgs s_Beads_greatest, defBody s_Beads_greatest, defScope s_Beads_greatest, [], []⟩,
  ⟨("BadPlace", some "__init__"), "__init__", "BadPlace.__init__", defArgs s_BadPlace_init, defBody s_BadPlace_init, defScope s_BadPlace_init, [], []⟩,
  ⟨("WrongKind", some "__init__"), "__init__", "WrongKind.__init__", defArgs s_WrongKind_init, defBody s_WrongKind_init, defScope s_WrongKind_init, [], []⟩,
  ⟨("BadCut", some "__init__"), "__init__", "BadCut.__init__", defArgs s_BadCut_init, defBody s_BadCut_init, defScope s_BadCut_init, [], []⟩,
  ⟨("NotAtRest", some "__init__"), "__init__", "NotAtRest.__init__", defArgs s_NotAtRest_init, defBody s_NotAtRest_init, defScope s_NotAtRest_init, [], []⟩]
def fa : List He.Fa := [.glo "_law_bound", .glo "_law_bound_told", .glo "_law_cell", .glo "_law_draws", .glo "_law_heads", .glo "_law_is_integer", .glo "_law_is_standing", .glo "_law_lengths", .glo "_law_numbers", .glo "_law_picked", .glo "_law_reach", .glo "_law_rest_told", .glo "_law_rested", .glo "_law_resting", .glo "_law_restless", .glo "_law_row_refused", .glo "_law_standing", .glo "_law_start_told", .glo "_law_strengths", .glo "_law_strongest", .glo "_law_way", .glo "_law_woken", .glo "_lord_of", .glo "arc_length", .glo "changed", .glo "changes_at", .glo "changes_of", .glo "check_handful", .glo "check_place", .glo "check_rest", .glo "check_ring", .glo "common_arc", .glo "compare_tallies", .glo "is_ascending", .glo "law", .glo "leaders_of", .glo "lords_of", .glo "offsets_of", .glo "reach_of", .glo "reaches", .glo "resting_cut", .glo "restless", .glo "run_after", .glo "strengths_after", .glo "tally_at", .glo "tally_of", .glo "train_of", .glo "wake", .glo "_check_beads", .glo "least_arc", .free "len", .free "int", .free "bool", .free "tuple", .free "list", .free "range", .free "isinstance", .free "sum", .free "enumerate", .free "max", .free "min", .free "set", .free "sorted", .free "reversed", .free "ValueError", .free "all", .free "zip", .free "iter", .glo "Beads", .glo "BadPlace", .glo "WrongKind", .glo "BadCut", .glo "NotAtRest", .glo "RetinueError", .glo "NotSettled", .cls "Beads", .noat "Beads" "strengths", .noat "Beads" "lengths", .noat "Beads" "ring", .exm "BadPlace" "BadPlace" true, .exm "WrongKind" "WrongKind" true, .exm "BadCut" "BadCut" true, .exm "NotAtRest" "NotAtRest" true, .exm "WrongKind" "NotAtRest" false, .meth "Beads" "__len__", .meth "Beads" "total", .meth "Beads" "greatest", .mkr "Beads"]
def more (K : PySem.W.Frag) : Bool := (isiB K "Beads") && (excB K "BadPlace" "place" && (excB K "WrongKind" "ring" && (excB K "BadCut" "cut" && (excB K "NotAtRest" "place" && (isxB K (ga K "WrongKind") && (isxB K (ga K "NotAtRest") && (decide (PySem.W.kitOne K (.ref (ga K "WrongKind")) (.ref (ga K "BadPlace")) = some false) && (decide (PySem.W.kitOne K (.ref (ga K "WrongKind")) (.ref (ga K "NotAtRest")) = some false) && (decide (PySem.W.kitOne K (.ref (ga K "WrongKind")) (.ref (ga K "RetinueError")) = some true) && (decide (PySem.W.kitOne K (.ref (ga K "WrongKind")) (.type "ValueError") = some true) && (decide (PySem.W.kitOne K (.ref (ga K "NotAtRest")) (.ref (ga K "BadPlace")) = some false) && (decide (PySem.W.kitOne K (.ref (ga K "NotAtRest")) (.ref (ga K "NotSettled")) = some false) && (decide (PySem.W.kitOne K (.ref (ga K "NotAtRest")) (.ref (ga K "RetinueError")) = some true) && (decide (PySem.W.kitOne K (.ref (ga K "NotAtRest")) (.type "ValueError") = some true)))))))))))))))
def loose : List Str := (["_wall", "__name__", "RetinueError", "BadBeads", "BadPlace", "WrongKind", "BadCut", "NotAtRest", "NotSettled", "check_place", "check_handful", "check_ring", "run_after", "train_of", "reach_of", "reaches", "lords_of", "_lord_of", "leaders_of", "Beads", "_check_beads", "changes_at", "strengths_after", "changes_of", "wake", "changed", "restless", "check_rest", "offsets_of", "is_ascending"] : List Str) ++ (["common_arc", "arc_length", "resting_cut", "least_arc", "tally_at", "tally_of", "compare_tallies", "_law_cell", "_law_draws", "_law_lengths", "_law_strengths", "_law_heads", "_law_is_integer", "_law_numbers", "_law_is_standing", "_law_reach", "_law_woken", "_law_restless", "_law_strongest", "_law_standing", "_law_bound", "_law_bound_told", "_law_picked", "_law_way", "_law_rested", "_law_resting", "_law_rest_told", "_law_start_told", "_law_row_refused"] : List Str)
abbrev R : PySem.W.OpenRow := PySem.W.OpenLaw.row PySem.Challenge.rw_retinue_k58_whole_ring_comes_to_equal_ar
abbrev hk : PySem.W.Hook := hookL ["changes_of"] 5 fa fn more
def ob (s : PySem.W.SharedT) : AlM := obsLG ["changes_of"] 5 fa fn more (HandSHeadRun.getT s)
theorem ob_eq (s : PySem.W.SharedT) : ob s = hk.obs s.abs := obsLG_eq (HandSHeadRun.getT_eq s)
theorem run_ (w : World) : HandSHeadRun.RunEq R (PySem.W.view R.prog [66]) hk ob 6000 loose w := by
  intro os
  kernel_rfl
end RtH
set_option Elab.async false
set_option linter.all false
set_option maxRecDepth 100000
set_option maxHeartbeats 4000000
namespace Rt
open PySem PySem.Spec L2
open PyProof.Rows (envOfC)
local macro_rules | `(tactic| walk_at "rd1") => `(tactic| (with_reducible first
  | refine g_var (by with_unfolding_all rfl) ?_
  | refine g_c ?_
  | refine g_op ?_
  | refine g_I0 ?_
  | refine g_eqI ?_
  | refine g_neI ?_
  | refine g_eqB ?_
  | refine g_neB ?_
  | refine g_cons ?_
  | refine g_nil ?_
  | refine g_seq ?_
  | refine g_asg ?_
  | refine g_name ?_
  | refine g_ret ?_
  | refine g_retN ?_
  | refine g_drop ?_
  | refine g_next ?_
  | refine g_if ?_
  | refine g_test ?_
  | refine g_tB ?_
  | refine g_bl ?_
  | refine g_and ?_
  | refine g_or ?_
  | refine g_not ?_
  | refine g_andV ?_
  | refine g_orV ?_
  | refine g_notV ?_
  | refine g_ifE ?_
  | refine g_cb ?_
  | refine g_meth ?_
  | refine g_rev ?_
  | refine g_gcons ?_
  | refine g_gnil ?_
  | refine g_isB' ?_
  | refine g_gsub ?_
  | refine g_call ?_
  | refine g_callS ?_
  | refine g_bm ?_
  | refine g_un ?_
  | refine g_U ?_
  | refine g_chain ?_
  | refine g_sl ?_
  | refine g_brk ?_
  | refine g_ct ?_
  | refine g_ipI ?_
  | refine g_fld ?_
  | refine g_lst ?_
  | refine g_int ?_
  | refine g_for ?_
  | refine g_rg1 ?_
  | refine g_rg2 ?_
  | refine g_il ?_
  | refine g_it ?_
  | refine g_lc ?_
  | refine g_yes ?_
  | refine g_tup ?_
  | refine g_part ?_
  | refine g_xf ?_
  | refine g_nn ?_
  | refine g_mko ?_
  | refine g_lrg ?_
  | refine g_tr1 ?_
  | refine g_tr2 ?_
  | refine g_oi2 ?_
  | refine g_mk ?_
  | refine g_sfld ?_
  | refine g_ost ?_
  | refine g_oi ?_
  | refine g_nopart ?_
  | refine g_tt ?_
  | refine g_ff ?_
  | refine g_nt ?_
  | refine g_nf ?_
  | refine g_drn ?_
  | refine g_din ?_
  | refine g_dnn ?_
  | refine g_nrn ?_
  | refine g_nin ?_
  | refine g_nnn ?_))
local macro_rules | `(tactic| walk_at "rd") => `(tactic| (repeat walk_at "rd1"))

/-! ### a standing in the heap -/
def bfs (ts tl : Addr) (r : Bool) : List (Str × V) := putF "ring" (.bl r) (putF "lengths" (.ref tl) (putF "strengths" (.ref ts) []))
structure BAt (C : Addr) (H : Hp) (b ts tl : Addr) (r : Bool) (ss ls : List Int) : Prop where
  ob : ∃ dx, H b = some (.ins C dx (bfs ts tl r))
  st : H ts = some (.tup (ss.map V.int))
  ln : H tl = some (.tup (ls.map V.int))
theorem BAt.mono {C : Addr} {H H' : Hp} {b ts tl : Addr} {r : Bool} {ss ls : List Int} (h : BAt C H b ts tl r ss ls) (S : Same H H') : BAt C H' b ts tl r ss ls :=
  ⟨let ⟨dx, e⟩ := h.ob; ⟨dx, S _ _ e⟩, S _ _ h.st, S _ _ h.ln⟩
theorem kne1 : ¬ (("strengths" : Str) = "ring") := by decide +kernel
theorem kne2 : ¬ (("strengths" : Str) = "lengths") := by decide +kernel
theorem kne3 : ¬ (("lengths" : Str) = "ring") := by decide +kernel
theorem bfs_s {ts tl : Addr} {r : Bool} : (bfs ts tl r).lookup ("strengths" : Str) = some (.ref ts) := by
  unfold bfs; rw [lookup_putF, if_neg kne1, lookup_putF, if_neg kne2, lookup_putF, if_pos rfl]
theorem bfs_l {ts tl : Addr} {r : Bool} : (bfs ts tl r).lookup ("lengths" : Str) = some (.ref tl) := by
  unfold bfs; rw [lookup_putF, if_neg kne3, lookup_putF, if_pos rfl]
theorem kne4 : ¬ (("with_strength" : Str) = "ring") := by decide +kernel
theorem kne5 : ¬ (("with_strength" : Str) = "lengths") := by decide +kernel
theorem kne6 : ¬ (("with_strength" : Str) = "strengths") := by decide +kernel
theorem bfs_w {ts tl : Addr} {r : Bool} : (bfs ts tl r).lookup ("with_strength" : Str) = none := by
  unfold bfs; rw [lookup_putF, if_neg kne4, lookup_putF, if_neg kne5, lookup_putF, if_neg kne6]; rfl
theorem bfs_r {ts tl : Addr} {r : Bool} : (bfs ts tl r).lookup ("ring" : Str) = some (.bl r) := by
  unfold bfs; rw [lookup_putF, if_pos rfl]
section
variable {P : Program} {w : World} {K : PySem.W.Frag} {mg : Str → Option Value} {base : Heap} {f : Addr} {fd : FuncData} {A : Ad}
section
variable {H : Hp} {b ts tl : Addr} {r : Bool} {ss ls : List Int} {R : V → Prop}
theorem f_s (T : Txt K mg A) (B : BAt A.Beads H b ts tl r ss ls) (h : R (.ref ts)) : ∃ a C dx fs v, V.ref b = .ref a ∧ H a = some (.ins C dx fs) ∧ Cls K C ∧ NoAttr K C "strengths" ∧ fs.lookup ("strengths" : Str) = some v ∧ R v :=
  let ⟨dx, e⟩ := B.ob; ⟨b, A.Beads, dx, _, _, rfl, e, T.cl, T.nS, bfs_s, h⟩
theorem f_l (T : Txt K mg A) (B : BAt A.Beads H b ts tl r ss ls) (h : R (.ref tl)) : ∃ a C dx fs v, V.ref b = .ref a ∧ H a = some (.ins C dx fs) ∧ Cls K C ∧ NoAttr K C "lengths" ∧ fs.lookup ("lengths" : Str) = some v ∧ R v :=
  let ⟨dx, e⟩ := B.ob; ⟨b, A.Beads, dx, _, _, rfl, e, T.cl, T.nL, bfs_l, h⟩
theorem f_r (T : Txt K mg A) (B : BAt A.Beads H b ts tl r ss ls) (h : R (.bl r)) : ∃ a C dx fs v, V.ref b = .ref a ∧ H a = some (.ins C dx fs) ∧ Cls K C ∧ NoAttr K C "ring" ∧ fs.lookup ("ring" : Str) = some v ∧ R v :=
  let ⟨dx, e⟩ := B.ob; ⟨b, A.Beads, dx, _, _, rfl, e, T.cl, T.nR, bfs_r, h⟩
end
/-! ### BadPlace.__init__, check_place -/
theorem ok_BadPlace (F : Fun K "__init__" "BadPlace.__init__" s_BadPlace_init f fd) : FnOk P w K mg base CX0 1 f fd ["self", "place"] (spExc1 K A.BadPlace "place") := by
  refine F.ok sc_BadPlace_init (fun vs H Q E h => ?_) (fun cdv A1 outer s H vs Q E hr h => ?_)
  · obtain ⟨a, v, rfl, _⟩ := h
    rfl
  · obtain ⟨a, v, rfl, ha, T, no, q⟩ := h
    refine ⟨_, (pss_one (ps_ostK K (pv 0) (pv 1))), ?_⟩
    walk_at "rd"
    exact ⟨a, _, rfl, T, no, .inl ⟨ha, fun dx n ne => q dx n ne⟩⟩
/-- BadPlace(p) goes out -/
def BadP (A : Ad) (H : Hp) (E : XK) (p : Int) : Prop := ∀ d H', H d = none → Same H H' → H' d = some (.xd [("place", V.int p)]) → E (.ref A.BadPlace) (some d) H'
theorem BadP.mono {H H1 : Hp} {E : XK} {p : Int} (h : BadP A H E p) (S : Same H H1) : BadP A H1 E p := fun d H' n S' e => h d H' (S.free n) (S.trans S') e
def spCheck (A : Ad) : Sp := fun vs H Q E => ∃ n p : Int, vs = [.int n, .int p] ∧ (0 ≤ p ∧ p < n → Q .non H) ∧ (¬ (0 ≤ p ∧ p < n) → BadP A H E p)
theorem ok_check (F : Fun K "check_place" "check_place" s_check_place f fd) (T : Txt K mg A) (X_BadPlace : ExcDef P w K mg base "BadPlace" A.BadPlace "place") : FnOk P w K mg base (L2N.CX P w) 4 f fd ["many", "place"] (spCheck A) := by
  refine okN F sc_check_place (fun vs H Q E h => ?_) (fun cdv A1 outer s H vs Q E hr h => ?_)
  · obtain ⟨n, p, rfl, _⟩ := h
    rfl
  · obtain ⟨n, p, rfl, h1, h2⟩ := h
    refine ⟨_, (pss_one (ps_if (pt_not (pt_chain op_le op_lt pe_int (pv 1) (pv 0))) (pss_one (L2N.ps_raise rfl (takes_ofN rfl rfl rfl rfl) (pmk_D X_BadPlace (hr.mono (by decide)) (pa_cons (pv 1) pa_nil)))) pss_nil)), ?_⟩
    walk_at "rd"
    have bad : ¬ (0 ≤ p ∧ p < n) → MkO A.BadPlace (spExc1 K A.BadPlace "place") [V.int p] H E := fun z => mk1 T.oBP T.no_BadPlace_place (h2 z)
    refine g_ite (fun e => ?_) (fun e => ?_)
    · walk_at "rd"
      refine g_ite (fun e2 => ?_) (fun e2 => ?_)
      · walk_at "rd"
        have := of_decide_eq_true e
        exact bad (by simp at e2; omega)
      · walk_at "rd"
        have := of_decide_eq_true e
        exact h1 (by simp at e2; omega)
    · walk_at "rd"
      have := of_decide_eq_false e
      exact bad (by omega)
/-! ### Beads.__len__ -/
def spLen (A : Ad) : Sp := fun vs H Q _ => ∃ (b ts tl : Addr) (r : Bool) (ss ls : List Int), vs = [.ref b] ∧ BAt A.Beads H b ts tl r ss ls ∧ Q (.int (ss.length : Int)) H
theorem ok_len (F : Fun K "__len__" "Beads.__len__" s_Beads_len f fd) (T : Txt K mg A) : FnOk P w K mg base CX0 1 f fd ["self"] (spLen A) := by
  refine F.ok sc_Beads_len (fun vs H Q E h => ?_) (fun cdv A1 outer s H vs Q E hr h => ?_)
  · obtain ⟨b, ts, tl, r, ss, ls, rfl, _⟩ := h
    rfl
  · obtain ⟨b, ts, tl, r, ss, ls, rfl, B, q⟩ := h
    refine ⟨_, (pss_one (ps_ret (pe_callB (call_lenK K) (by rfl) T.m_len PySem.boot_len (pa_cons (pe_fldK K (pv 0) rfl) pa_nil)))), ?_⟩
    walk_at "rd"
    refine f_s T B ?_
    walk_at "rd"
    refine ⟨ts, _, rfl, .inr (SqT.of B.st), ?_⟩
    rw [List.length_map]
    exact q
theorem g_lenB {H : Hp} {b ts tl : Addr} {r : Bool} {ss ls : List Int} {Q : VK} (B : BAt A.Beads H b ts tl r ss ls) (hn : ss.length ≤ 1000) (h : Q (.int (ss.length : Int)) H) : rLenO A.Beads (spLen A) E0 [.ref b] H Q := by
  obtain ⟨dx, e⟩ := B.ob
  exact ⟨b, dx, _, rfl, e, b, ts, tl, r, ss, ls, rfl, B, (ss.length : Int), rfl, by omega, by omega, h⟩
/-! ### run_after -/
def spRun (A : Ad) : Sp := fun vs H Q _ => ∃ (b ts tl : Addr) (r : Bool) (ss ls : List Int) (p : Nat), vs = [.ref b, .int (p : Int)] ∧ BAt A.Beads H b ts tl r ss ls ∧ p < ss.length ∧ ss.length ≤ 1000 ∧
  ∀ (a : Addr) (H' : Hp), H a = none → Same H H' → H' a = some (.lst (nI (run r ss.length p))) → Q (.ref a) H'
theorem ok_run (F : Fun K "run_after" "run_after" s_run_after f fd) (T : Txt K mg A) (LN : LenD P w K mg base A.Beads (spLen A)) : FnOk P w K mg base CX0 4 f fd ["beads", "place"] (spRun A) := by
  refine F.ok sc_run_after (fun vs H Q E h => ?_) (fun cdv A1 outer s H vs Q E hr h => ?_)
  · obtain ⟨b, ts, tl, r, ss, ls, p, rfl, _⟩ := h
    rfl
  · obtain ⟨b, ts, tl, r, ss, ls, p, rfl, B, hp, hn, q⟩ := h
    refine ⟨_, (pss_cons (ps_set (i := 2) sc_run_after.nd rfl (Or.inl rfl) (pe_listRg rfl (by rfl) T.m_list (prg_2 (by rfl) T.m_range (pe_op op_add (pv 1) pe_int) (pe_callB (call_lenD LN (hr.mono (by decide))) (by rfl) T.m_len PySem.boot_len (pa_cons (pv 0) pa_nil)))))
      (pss_cons (ps_if (pt_val (pe_fldK K (pv 0) rfl)) (pss_one (ps_ret (pe_op op_cat (pv 2) (pe_listRg rfl (by rfl) T.m_list (prg_1 (by rfl) T.m_range (pv 1)))))) pss_nil)
      (pss_one (ps_ret (pv 2))))), ?_⟩
    walk_at "rd"
    refine g_lenB B hn ?_
    walk_at "rd"
    refine newRg (a := p + 1) (b := ss.length) (by omega) (by omega) fun a Ha na Sa ha => ?_
    have ea : ((List.range (ss.length - (p + 1))).map fun i => V.int ((p + 1 + i : Nat) : Int)) = nI ((List.range (ss.length - (p + 1))).map fun i => p + 1 + i) := by unfold nI; rw [List.map_map]; rfl
    rw [ea] at ha
    walk_at "rd"
    refine f_r T (B.mono Sa) ?_
    walk_at "rd"
    refine g_ite (fun e => ?_) (fun e => ?_)
    · subst e
      walk_at "rd"
      refine newRg (a := 0) (b := p) (by omega) (by omega) fun a2 Ha2 na2 Sa2 ha2 => ?_
      have eb : ((List.range (p - 0)).map fun i => V.int ((0 + i : Nat) : Int)) = nI (List.range p) := by unfold nI; rw [Nat.sub_zero]; simp
      rw [eb] at ha2
      have ha' := Sa2 _ _ ha
      rw [nI_eq] at ha' ha2
      refine g_cat ha' ha2 (by unfold iI; simp; omega) fun a3 Ha3 na3 Sa3 ha3 => ?_
      refine q a3 Ha3 ((Sa.trans Sa2).free na3) ((Sa.trans Sa2).trans Sa3) ?_
      rw [ha3, nI_eq]
      unfold run iI
      simp only [if_true, List.map_append]
    · subst e
      walk_at "rd"
      refine q a Ha na Sa ?_
      rw [ha]
      unfold run
      simp
/-! ### train_of -/
/-- what a def with a place promises: P if it is a place, BadPlace if not -/
def spPl (A : Ad) (R : Bool → List Int → List Int → Nat → Hp → VK → Prop) : Sp := fun vs H Q E => ∃ (b ts tl : Addr) (r : Bool) (ss ls : List Int) (p : Int), vs = [.ref b, .int p] ∧ BAt A.Beads H b ts tl r ss ls ∧ ls.length = ss.length ∧ ss.length ≤ 1000 ∧
  (0 ≤ p ∧ p < (ss.length : Int) → R r ss ls p.toNat H Q) ∧ (¬ (0 ≤ p ∧ p < (ss.length : Int)) → BadP A H E p)
def RTrain : Bool → List Int → List Int → Nat → Hp → VK → Prop := fun r ss _ p H Q => ∀ (t : Addr) (H' : Hp), H t = none → Same H H' → H' t = some (.lst (nI (trn r ss p))) → Q (.ref t) H'
def RReach : Bool → List Int → List Int → Nat → Hp → VK → Prop := fun r ss ls p H Q => ∀ H' : Hp, Same H H' → Q (.int (rch r ss ls p)) H'
def RStop : Bool → List Int → List Int → Nat → Hp → VK → Prop := fun r ss _ p H Q => ∀ H' : Hp, Same H H' → Q (oV (stp r ss p)) H'
theorem ok_train (F : Fun K "train_of" "train_of" s_train_of f fd) (T : Txt K mg A) (LN : LenD P w K mg base A.Beads (spLen A))
    (D_check_place : DefOk P w K mg base (L2N.CX P w) 4 "check_place" ["many", "place"] (spCheck A)) (D_run_after : DefOk P w K mg base CX0 4 "run_after" ["beads", "place"] (spRun A)) :
    FnOk P w K mg base (L2N.CX P w) 5 f fd ["beads", "place"] (spPl A RTrain) := by
  refine okN F sc_train_of (fun vs H Q E h => ?_) (fun cdv A1 outer s H vs Q E hr h => ?_)
  · obtain ⟨b, ts, tl, r, ss, ls, p, rfl, _⟩ := h
    rfl
  · obtain ⟨b, ts, tl, r, ss, ls, p, rfl, B, hl, hn, q1, q2⟩ := h
    refine ⟨_, (pss_cons (ps_expr (pe_callD D_check_place (hr.mono (by decide)) (passes_callN (takes_ofN rfl rfl rfl rfl)) (pa_cons (pe_callB (call_lenD LN (hr.mono (by decide))) (by rfl) T.m_len PySem.boot_len (pa_cons (pv 0) pa_nil)) (pa_cons (pv 1) pa_nil))))
      (pss_cons (ps_set (i := 2) sc_train_of.nd rfl (Or.inl rfl) (pe_lst pa_nil))
      (pss_cons (ps_for (passes_ofN rfl) rfl (pi_listK K (pe_callD D_run_after (hr.mono (by decide)) pass0 (pa_cons (pv 0) (pa_cons (pv 1) pa_nil)))) (pg_name (i := 3) sc_train_of.nd rfl (Or.inl rfl)) (pss_cons (ps_if (pt_cmpR op_ge (pe_ix (ix_tupK K) (pe_fldK K (pv 0) rfl) (pv 3) (fun _ _ => rfl)) (pe_ix (ix_tupK K) (pe_fldK K (pv 0) rfl) (pv 1) (fun _ _ => rfl)) (nomark _)) (pss_one ps_break) pss_nil)
      (pss_one (ps_expr (pe_appK K (pv 2) (pa_cons (pv 3) pa_nil))))))
      (pss_one (ps_ret (pv 2)))))), ?_⟩
    walk_at "rd"
    refine g_lenB B hn ?_
    walk_at "rd"
    refine ⟨_, p, rfl, fun hp => ?_, q2⟩
    obtain ⟨o, rfl⟩ : ∃ o : Nat, p = (o : Int) := ⟨p.toNat, by omega⟩
    have hp' : o < ss.length := by omega
    have q := q1 hp
    rw [Int.toNat_natCast] at q
    walk_at "rd"
    refine newL fun t Ht nt St ht => ?_
    walk_at "rd"
    refine ⟨b, ts, tl, r, ss, ls, o, rfl, B.mono St, hp', hn, fun a Ha na Sa ha => ?_⟩
    refine ⟨a, rfl, ⟨_, SqL.of ha⟩, for_list (xs := nI (run r ss.length o)) (fun i σ H' => ∃ v4 : Option V, σ = [some (.ref b), some (.int (o : Int)), some (.ref t), v4] ∧ Same H H' ∧ H' a = some (.lst (nI (run r ss.length o))) ∧ H' t = some (.lst (nI ((run r ss.length o).take i))) ∧ Wkd r ss o i)
      ⟨none, rfl, St.trans Sa, ha, Sa _ _ ht, Wkd.zero⟩ (fun i σ H' _ ⟨_, _, _, h, _⟩ => SqL.of h) ?_ ?_⟩
    · rintro i x σ H' hi ⟨v4, rfl, S', ha', ht', wkd⟩
      obtain ⟨j, hj, rfl⟩ : ∃ j, (run r ss.length o)[i]? = some j ∧ x = V.int (j : Int) := by
        rw [List.getElem?_map] at hi
        cases e : (run r ss.length o)[i]? with
        | none => rw [e] at hi; cases hi
        | some j => rw [e] at hi; exact ⟨j, rfl, (Option.some.inj hi).symm⟩
      have hjl : j < ss.length := run_lt hp' j (List.mem_of_getElem? hj)
      have B' := B.mono S'
      walk_at "rd"
      refine f_s T B' ?_
      walk_at "rd"
      refine g_ixT (SqT.of B'.st) (at_int hjl) ?_
      walk_at "rd"
      refine f_s T B' ?_
      walk_at "rd"
      refine g_ixT (SqT.of B'.st) (at_int hp') ?_
      walk_at "rd"
      have nat : a ≠ t := fun z => by
        rw [z, ht] at na; cases na
      refine g_ite (fun e3 => ?_) (fun e3 => ?_)
      · have stop := wkd.stop hj (wk_f e3)
        walk_at "rd"
        rw [← stop.1] at ht'
        exact q t H' nt S' ht'
      · walk_at "rd"
        refine ⟨ty_l ht', ?_⟩
        walk_at "rd"
        refine g_app ht' (by rw [List.length_map, List.length_take]; exact slt1000 (by have := run_le (r := r) hp'; omega)) ?_
        walk_at "rd"
        exact ⟨_, rfl, S'.mut nt, by rw [upd_ne nat]; exact ha', by rw [upd_same, take_more hj]; unfold nI; rw [List.map_append]; rfl, wkd.more hj (wk_t e3)⟩
    · rintro σ H' ⟨v4, rfl, S', ha', ht', wkd⟩
      have full := wkd.full (by unfold nI; rw [List.length_map]; exact Nat.le_refl _)
      walk_at "rd"
      rw [← full.1] at ht'
      exact q t H' nt S' ht'
/-! ### reach_of -/
theorem ok_reachOf (F : Fun K "reach_of" "reach_of" s_reach_of f fd) (T : Txt K mg A)
    (D_train_of : DefOk P w K mg base (L2N.CX P w) 5 "train_of" ["beads", "place"] (spPl A RTrain)) : FnOk P w K mg base (L2N.CX P w) 6 f fd ["beads", "place"] (spPl A RReach) := by
  refine okN F sc_reach_of (fun vs H Q E h => ?_) (fun cdv A1 outer s H vs Q E hr h => ?_)
  · obtain ⟨b, ts, tl, r, ss, ls, p, rfl, _⟩ := h
    rfl
  · obtain ⟨b, ts, tl, r, ss, ls, p, rfl, B, hl, hn, q1, q2⟩ := h
    refine ⟨_, (pss_cons (ps_set (i := 2) sc_reach_of.nd rfl (Or.inl rfl) (pe_callD D_train_of (hr.mono (by decide)) (passes_callN (takes_ofN rfl rfl rfl rfl)) (pa_cons (pv 0) (pa_cons (pv 1) pa_nil))))
      (pss_one (ps_ret (pe_op op_add (pe_ix (ix_tupK K) (pe_fldK K (pv 0) rfl) (pv 1) (fun _ _ => rfl)) (pe_callB (cr_sumK K rfl) (by rfl) T.m_sum (by decide +kernel) (pa_cons (pe_lc (own := [("other", 3)]) (g := gName 3) (tt := tYes) rfl sc_reach_of.nd (pi_listK K (pv 2)) (blkOk_by (N := ["beads", "place", "train", "other"]) (sc := defScope s_reach_of) (by decide +kernel)) (fun _ _ _ _ _ => (by exact (pg_name (i := 3) sc_reach_of.nd rfl (Or.inl rfl)))) (fun _ _ _ _ _ => (by exact pts_nil)) (fun _ _ _ _ _ => (by exact (pe_ix (ix_tupK K) (pe_fldK K (pv 0) rfl) (pv 3) (fun _ _ => rfl))))) pa_nil)))))), ?_⟩
    walk_at "rd"
    refine ⟨b, ts, tl, r, ss, ls, p, rfl, B, hl, hn, fun hp => ?_, q2⟩
    obtain ⟨o, rfl⟩ : ∃ o : Nat, p = (o : Int) := ⟨p.toNat, by omega⟩
    have hp' : o < ss.length := by omega
    have q := q1 hp
    rw [Int.toNat_natCast] at q ⊢
    intro t Ht nt St ht
    walk_at "rd"
    refine f_l T (B.mono St) ?_
    walk_at "rd"
    refine g_ixT (SqT.of (B.mono St).ln) (at_int (by omega)) ?_
    walk_at "rd"
    rw [nI_eq] at ht
    refine ⟨t, rfl, ⟨_, SqL.of ht⟩, fun D nD => ?_⟩
    refine lc_ints (fun x => ls.getD x.toNat 0) (SqL.of ht) nD (by unfold iI; rw [List.length_map]; have := run_le (r := r) hp'; have := trn_len (r := r) (ss := ss) (p := o); omega) (fun i x H' hx S' Q' hq => ?_) (fun H' S' h' => ?_)
    · obtain ⟨j, hj, rfl⟩ : ∃ j : Nat, j ∈ trn r ss o ∧ x = (j : Int) := by
        have := List.mem_of_getElem? hx
        obtain ⟨j, hj, e⟩ := List.mem_map.mp this
        exact ⟨j, hj, e.symm⟩
      have hjl := trn_lt hp' j hj
      have B' := B.mono (St.trans S')
      walk_at "rd"
      refine ⟨rfl, ?_⟩
      walk_at "rd"
      refine f_l T B' ?_
      walk_at "rd"
      refine g_ixT (SqT.of B'.ln) (at_int (by omega)) ?_
      exact hq H' (Same.refl _)
    · walk_at "rd"
      refine ⟨D, _, rfl, SqL.of h', ?_⟩
      walk_at "rd"
      have e : ls.getD o 0 + ((iI (trn r ss o)).map fun x => ls.getD x.toNat 0).sum = rch r ss ls o := by
        unfold rch iI
        rw [List.map_map]
        rfl
      rw [e]
      exact q H' (St.trans S')
/-! ### reaches -/
def spReaches (A : Ad) : Sp := fun vs H Q _ => ∃ (b ts tl : Addr) (r : Bool) (ss ls : List Int), vs = [.ref b] ∧ BAt A.Beads H b ts tl r ss ls ∧ ls.length = ss.length ∧ ss.length ≤ 1000 ∧
  ∀ (a : Addr) (H' : Hp), H a = none → Same H H' → H' a = some (.lst (((List.range ss.length).map fun p => rch r ss ls p).map V.int)) → Q (.ref a) H'
theorem ok_reaches (F : Fun K "reaches" "reaches" s_reaches f fd) (T : Txt K mg A) (LN : LenD P w K mg base A.Beads (spLen A))
    (D_reach_of : DefOk P w K mg base (L2N.CX P w) 6 "reach_of" ["beads", "place"] (spPl A RReach)) : FnOk P w K mg base CX0 7 f fd ["beads"] (spReaches A) := by
  refine F.ok sc_reaches (fun vs H Q E h => ?_) (fun cdv A1 outer s H vs Q E hr h => ?_)
  · obtain ⟨b, ts, tl, r, ss, ls, rfl, _⟩ := h
    rfl
  · obtain ⟨b, ts, tl, r, ss, ls, rfl, B, hl, hn, q⟩ := h
    refine ⟨_, (pss_one (ps_ret (pe_lc (own := [("place", 1)]) (g := gName 1) (tt := tYes) rfl sc_reaches.nd (pi_range1 rfl T.m_range (pa_cons (pe_callB (call_lenD LN (hr.mono (by decide))) (by rfl) T.m_len PySem.boot_len (pa_cons (pv 0) pa_nil)) pa_nil)) (blkOk_by (N := ["beads", "place"]) (sc := defScope s_reaches) (by decide +kernel)) (fun _ _ _ _ _ => (by exact (pg_name (i := 1) sc_reaches.nd rfl (Or.inl rfl)))) (fun _ _ _ _ _ => (by exact pts_nil)) (fun _ _ _ _ _ => (by exact (pe_callD D_reach_of (hr.mono (by decide)) passN (pa_cons (pv 0) (pa_cons (pv 1) pa_nil)))))))), ?_⟩
    walk_at "rd"
    refine g_lenB B hn ?_
    walk_at "rd"
    refine ⟨_, rfl, by omega, by omega, fun D nD => ?_⟩
    rw [Int.toNat_natCast]
    refine lc_rangeI (fun p => rch r ss ls p) nD (by omega) (fun i H' hi S' Q' hq => ?_) (fun H' S' h' => ?_)
    · rw [Int.zero_add]
      walk_at "rd"
      refine ⟨rfl, ?_⟩
      walk_at "rd"
      refine ⟨b, ts, tl, r, ss, ls, (i : Int), rfl, B.mono S', hl, hn, fun _ => ?_, fun z => absurd ⟨by omega, by omega⟩ z⟩
      rw [Int.toNat_natCast]
      exact fun H2 S2 => hq H2 S2
    · exact q D H' nD S' h'
/-! ### _check_beads, Beads.__init__ -/
def spChk : Sp := fun vs H Q _ => ∃ (ts tl : Addr) (ss ls : List Int), vs = [.ref ts, .ref tl] ∧ H ts = some (.tup (ss.map V.int)) ∧ H tl = some (.tup (ls.map V.int)) ∧ 0 < ss.length ∧ ls.length = ss.length ∧ ss.length ≤ 1000 ∧ (∀ x ∈ ss, 0 ≤ x) ∧ (∀ x ∈ ls, 1 ≤ x) ∧ Q .non H
theorem ok_chk (F : Fun K "_check_beads" "_check_beads" s__check_beads f fd) (T : Txt K mg A) : FnOk P w K mg base CX0 1 f fd ["strengths", "lengths"] spChk := by
  refine F.ok sc__check_beads (fun vs H Q E h => ?_) (fun cdv A1 outer s H vs Q E hr h => ?_)
  · obtain ⟨ts, tl, ss, ls, rfl, _⟩ := h
    rfl
  · obtain ⟨ts, tl, ss, ls, rfl, h1, h2, h0, hl, hn, hs, hx, q⟩ := h
    refine ⟨_, (pss_cons (ps_if (PW.pt (pw_or (pt_cmpR op_eq (pe_callB (call_lenK K) (by rfl) T.m_len PySem.boot_len (pa_cons (pv 0) pa_nil)) pe_int (nomark _)) (pw_or1 (pt_cmpR op_ne (pe_callB (call_lenK K) (by rfl) T.m_len PySem.boot_len (pa_cons (pv 1) pa_nil)) (pe_callB (call_lenK K) (by rfl) T.m_len PySem.boot_len (pa_cons (pv 0) pa_nil)) (nomark _))))) (pss_one ps_never) pss_nil)
      (pss_one (ps_for (PassesOwn.never) rfl (pi_range1 rfl T.m_range (pa_cons (pe_callB (call_lenK K) (by rfl) T.m_len PySem.boot_len (pa_cons (pv 0) pa_nil)) pa_nil)) (pg_name (i := 2) sc__check_beads.nd rfl (Or.inl rfl)) (pss_one (ps_if (PW.pt (pw_or (pt_cmpR op_lt (pe_ix (ix_tupK K) (pv 0) (pv 2) (fun _ _ => rfl)) pe_int (nomark _)) (pw_or1 (pt_cmpR op_lt (pe_ix (ix_tupK K) (pv 1) (pv 2) (fun _ _ => rfl)) pe_int (nomark _))))) (pss_one ps_never) pss_nil))))), ?_⟩
    walk_at "rd"
    refine ⟨ts, _, rfl, .inr (SqT.of h1), ?_⟩
    rw [List.length_map]
    walk_at "rd"
    refine g_iff (decide_eq_false (by omega)) ?_
    walk_at "rd"
    refine ⟨tl, _, rfl, .inr (SqT.of h2), ?_⟩
    rw [List.length_map]
    walk_at "rd"
    refine ⟨ts, _, rfl, .inr (SqT.of h1), ?_⟩
    rw [List.length_map]
    walk_at "rd"
    refine g_iff (by rw [decide_eq_true (by omega)]; rfl) ?_
    walk_at "rd"
    refine ⟨ts, _, rfl, .inr (SqT.of h1), ?_⟩
    rw [List.length_map]
    walk_at "rd"
    refine ⟨_, rfl, by omega, by omega, for_range (lo := 0) (fun i σ H' => ∃ v2 : Option V, σ = [some (.ref ts), some (.ref tl), v2] ∧ H' = H) ⟨none, rfl, rfl⟩ ?_ ?_⟩
    · rintro i σ H' hi ⟨v2, rfl, rfl⟩
      have hi' : i < ss.length := by simpa using hi
      rw [Int.zero_add]
      walk_at "rd"
      refine g_ixT (SqT.of h1) (at_int hi') ?_
      walk_at "rd"
      have a1 := hs _ (getD_mem hi')
      have a2 := hx _ (getD_mem (l := ls) (i := i) (by omega))
      refine g_iff (decide_eq_false (by omega)) ?_
      walk_at "rd"
      refine g_ixT (SqT.of h2) (at_int (by omega)) ?_
      walk_at "rd"
      refine g_iff (decide_eq_false (by omega)) ?_
      walk_at "rd"
      exact ⟨_, rfl, rfl⟩
    · rintro σ H' ⟨v2, rfl, rfl⟩
      walk_at "rd"
      exact q
/-- a new standing of two lists -/
def spInit (K : PySem.W.Frag) (A : Ad) : Sp := fun vs H Q _ => ∃ (b dx sa la : Addr) (r : Bool) (ss ls : List Int), vs = [.ref b, .ref sa, .ref la, .bl r] ∧ H b = some (.ins A.Beads dx []) ∧ SqL K H sa (ss.map V.int) ∧ SqL K H la (ls.map V.int) ∧
  0 < ss.length ∧ ls.length = ss.length ∧ ss.length ≤ 1000 ∧ (∀ x ∈ ss, 0 ≤ x) ∧ (∀ x ∈ ls, 1 ≤ x) ∧ ∀ (ts tl : Addr) (H' : Hp), (∀ a o, a ≠ b → H a = some o → H' a = some o) → BAt A.Beads H' b ts tl r ss ls → Q .non H'
theorem ok_init (F : FunD K "__init__" "Beads.__init__" (defArgs s_Beads_init) (defBody s_Beads_init) (defScope s_Beads_init) [V.non] [("ring", V.bl true)] f fd) (T : Txt K mg A) (D__check_beads : DefOk P w K mg base CX0 1 "_check_beads" ["strengths", "lengths"] spChk) :
    FnOk P w K mg base CX0 2 f fd ["self", "strengths", "lengths", "ring"] (spInit K A) := by
  refine F.ok (CX := CX0) sc_Beads_init (fun vs H Q E h => ?_) (fun cdv A1 outer s H vs Q E hr h => ?_)
  · obtain ⟨b, dx, sa, la, r, ss, ls, rfl, _⟩ := h
    rfl
  · obtain ⟨b, dx, sa, la, r, ss, ls, rfl, hb, hs, hl, h0, hlen, hn, h1, h2, q⟩ := h
    refine ⟨_, (pss_cons (ps_fldK K (pv 0) (pe_callTy (call_tupleK K) (by rfl) T.m_tuple (by decide +kernel) (pa_cons (pv 1) pa_nil)) rfl)
      (pss_cons (ps_fldK K (pv 0) (pe_ifExp (pt_cmpR op_isN (pv 2) pe_non (nomark _)) (pe_op (op_repTK K) (pe_tup (pa_cons pe_int pa_nil)) (pe_callB (call_lenK K) (by rfl) T.m_len PySem.boot_len (pa_cons (pv 1) pa_nil))) (pe_callTy (call_tupleK K) (by rfl) T.m_tuple (by decide +kernel) (pa_cons (pv 2) pa_nil))) rfl)
      (pss_cons (ps_fldK K (pv 0) (pv 3) rfl)
      (pss_one (ps_expr (pe_callD D__check_beads (hr.mono (by decide)) pass0 (pa_cons (pe_fldK K (pv 0) rfl) (pa_cons (pe_fldK K (pv 0) rfl) pa_nil)))))))), ?_⟩
    walk_at "rd"
    refine ⟨sa, _, rfl, .inl ⟨hs, fun ts nts => ?_⟩⟩
    have nbt : b ≠ ts := ne_of_none hb nts
    walk_at "rd"
    refine ⟨b, _, dx, [], rfl, by rw [upd_ne nbt]; exact hb, T.cl, T.nS, by decide, ?_⟩
    walk_at "rd"
    have lift : ∀ (o o1 : HO), SqL K (upd (upd H ts o) b o1) la (ls.map V.int) := fun o o1 => by
      rcases hl with (h | ⟨z, h⟩) | h
      · have n1 : la ≠ ts := ne_of_none h nts
        have n2 : la ≠ b := fun e => by rw [e, hb] at h; cases h
        exact .inl (.inl (by rw [upd_ne n2, upd_ne n1]; exact h))
      · have n1 : la ≠ ts := ne_of_none h nts
        have n2 : la ≠ b := fun e => by rw [e, hb] at h; cases h
        exact .inl (.inr ⟨z, by rw [upd_ne n2, upd_ne n1]; exact h⟩)
      · exact .inr h
    refine ⟨la, _, rfl, .inl ⟨lift _ _, fun tl ntl => ?_⟩⟩
    have nbl : b ≠ tl := fun e => by rw [← e, upd_same] at ntl; cases ntl
    have ntl' : ts ≠ tl := fun e => by rw [← e, upd_ne nbt.symm, upd_same] at ntl; cases ntl
    walk_at "rd"
    refine ⟨b, _, dx, _, rfl, by rw [upd_ne nbl, upd_same], T.cl, T.nL, (by show 1 < 1000; decide), ?_⟩
    walk_at "rd"
    refine ⟨b, _, dx, _, rfl, upd_same, T.cl, T.nR, (Nat.lt_of_le_of_lt (length_putF _ _ _) (by show 1 + 1 < 1000; decide)), ?_⟩
    walk_at "rd"
    generalize hH : (upd (upd (upd (upd (upd H ts (.tup (ss.map V.int))) b _) tl (.tup (ls.map V.int))) b _) b _ : Hp) = H5
    have B5 : BAt A.Beads H5 b ts tl r ss ls := by
      refine ⟨⟨dx, by rw [← hH, upd_same]; rfl⟩, ?_, ?_⟩
      · rw [← hH, upd_ne nbt.symm, upd_ne nbt.symm, upd_ne ntl', upd_ne nbt.symm, upd_same]
      · rw [← hH, upd_ne nbl.symm, upd_ne nbl.symm, upd_same]
    have keep : ∀ a o, a ≠ b → H a = some o → H5 a = some o := fun a o nab ha => by
      have n1 : a ≠ ts := ne_of_none ha nts
      have n2 : a ≠ tl := fun z => by
        rw [← z, upd_ne nab, upd_ne n1, ha] at ntl; cases ntl
      rw [← hH, upd_ne nab, upd_ne nab, upd_ne n2, upd_ne nab, upd_ne n1]
      exact ha
    refine f_s T B5 ?_
    walk_at "rd"
    refine f_l T B5 ?_
    walk_at "rd"
    refine ⟨ts, tl, ss, ls, rfl, B5.st, B5.ln, h0, hlen, hn, h1, h2, ?_⟩
    walk_at "rd"
    exact q ts tl H5 keep B5
/-! ### is it a Beads -/
theorem g_isB (T : Txt K mg A) {H : Hp} {b ts tl : Addr} {r : Bool} {ss ls : List Int} {Q : VK} (B : BAt A.Beads H b ts tl r ss ls) (h : Q (.bl true) H) : rIsi K [.ref b, .ref A.Beads] H Q := by
  obtain ⟨dx, e⟩ := B.ob
  exact ⟨.ref b, .ref A.Beads, _, _, true, rfl, .own _, .base (.ins e T.cl T.iB1 T.iB2 T.iB3 T.iB4), T.iB5, h⟩
/-! ### _law_is_standing -/
def spStanding (K : PySem.W.Frag) (A : Ad) : Sp := fun vs H Q _ => ∃ (b ts tl la sa : Addr) (r : Bool) (ss ls : List Int), vs = [.ref b, .bl r, .ref la, .ref sa] ∧ BAt A.Beads H b ts tl r ss ls ∧ SqL K H la (ls.map V.int) ∧ SqL K H sa (ss.map V.int) ∧ ls.length ≤ 1000 ∧ ss.length ≤ 1000 ∧ Q (.bl true) H
theorem ok_standing (F : Fun K "_law_is_standing" "_law_is_standing" s__law_is_standing f fd) (T : Txt K mg A) (D__law_numbers : DefOk P w K mg base CX0 2 "_law_numbers" ["actual", "due", "as_tuple"] (Rt.spNumbers K)) : FnOk P w K mg base CX0 3 f fd ["actual", "round_flag", "sizes", "strengths"] (spStanding K A) := by
  refine F.ok sc__law_is_standing (fun vs H Q E h => ?_) (fun cdv A1 outer s H vs Q E hr h => ?_)
  · obtain ⟨b, ts, tl, la, sa, r, ss, ls, rfl, _⟩ := h
    rfl
  · obtain ⟨b, ts, tl, la, sa, r, ss, ls, rfl, B, hl, hs, nl, ns, q⟩ := h
    refine ⟨_, (pss_cons (ps_if (PW.pt (pw_or (pt_not (pt_val (pe_callB (call_isiQ K) (by rfl) T.m_isinstance (by decide +kernel) (pa_cons (pv 0) (pa_cons (pe_glob (v := .ref A.Beads) rfl T.g_Beads rfl) pa_nil))))) (pw_or (pt_not (pt_val (pe_callB (call_isiQ K) (by rfl) T.m_isinstance (by decide +kernel) (pa_cons (pe_fldK K (pv 0) rfl) (pa_cons (pe_bltn (v := .ty "bool") (by rfl) T.m_bool (by decide +kernel) rfl) pa_nil))))) (pw_or1 (pt_cmpR op_ne (pe_fldK K (pv 0) rfl) (pv 1) (nomark _)))))) (pss_one (ps_ret pe_bl)) pss_nil)
      (pss_one (ps_ret (pe_and (pe_callD D__law_numbers (hr.mono (by decide)) pass0 (pa_cons (pe_fldK K (pv 0) rfl) (pa_cons (pv 2) (pa_cons pe_bl pa_nil)))) (pe_one (pe_callD D__law_numbers (hr.mono (by decide)) pass0 (pa_cons (pe_fldK K (pv 0) rfl) (pa_cons (pv 3) (pa_cons pe_bl pa_nil))))))))), ?_⟩
    walk_at "rd"
    refine g_isB T B ?_
    walk_at "rd"
    refine f_r T B ?_
    walk_at "rd"
    refine g_isi (b := true) (.base (.bl r)) (by decide +kernel) ?_
    walk_at "rd"
    refine f_r T B ?_
    walk_at "rd"
    refine g_iff (by rw [decide_eq_true rfl]; rfl) ?_
    walk_at "rd"
    refine f_l T B ?_
    walk_at "rd"
    refine ⟨tl, la, true, ls, ls, rfl, B.ln, hl, by omega, ?_⟩
    rw [decide_eq_true rfl]
    walk_at "rd"
    refine f_s T B ?_
    walk_at "rd"
    refine ⟨ts, sa, true, ss, ss, rfl, B.st, hs, by omega, ?_⟩
    rw [decide_eq_true rfl]
    exact q
/-! ### -/
end
end Rt
set_option Elab.async false
set_option linter.all false
set_option maxRecDepth 100000
set_option maxHeartbeats 4000000
namespace Rt
open PySem PySem.Spec L2
open PyProof.Rows (envOfC)
local macro_rules | `(tactic| walk_at "rd1") => `(tactic| (with_reducible first
  | refine g_var (by with_unfolding_all rfl) ?_
  | refine g_c ?_
  | refine g_op ?_
  | refine g_I0 ?_
  | refine g_eqI ?_
  | refine g_neI ?_
  | refine g_eqB ?_
  | refine g_neB ?_
  | refine g_cons ?_
  | refine g_nil ?_
  | refine g_seq ?_
  | refine g_asg ?_
  | refine g_name ?_
  | refine g_ret ?_
  | refine g_retN ?_
  | refine g_drop ?_
  | refine g_next ?_
  | refine g_if ?_
  | refine g_test ?_
  | refine g_tB ?_
  | refine g_bl ?_
  | refine g_and ?_
  | refine g_or ?_
  | refine g_not ?_
  | refine g_andV ?_
  | refine g_orV ?_
  | refine g_notV ?_
  | refine g_ifE ?_
  | refine g_cb ?_
  | refine g_meth ?_
  | refine g_rev ?_
  | refine g_gcons ?_
  | refine g_gnil ?_
  | refine g_isB' ?_
  | refine g_gsub ?_
  | refine g_call ?_
  | refine g_callS ?_
  | refine g_bm ?_
  | refine g_un ?_
  | refine g_U ?_
  | refine g_chain ?_
  | refine g_sl ?_
  | refine g_brk ?_
  | refine g_ct ?_
  | refine g_ipI ?_
  | refine g_fld ?_
  | refine g_lst ?_
  | refine g_int ?_
  | refine g_for ?_
  | refine g_rg1 ?_
  | refine g_rg2 ?_
  | refine g_il ?_
  | refine g_it ?_
  | refine g_lc ?_
  | refine g_yes ?_
  | refine g_tup ?_
  | refine g_part ?_
  | refine g_xf ?_
  | refine g_nn ?_
  | refine g_mko ?_
  | refine g_lrg ?_
  | refine g_tr1 ?_
  | refine g_tr2 ?_
  | refine g_oi2 ?_
  | refine g_mk ?_
  | refine g_sfld ?_
  | refine g_ost ?_
  | refine g_oi ?_
  | refine g_nopart ?_
  | refine g_tt ?_
  | refine g_ff ?_
  | refine g_nt ?_
  | refine g_nf ?_
  | refine g_drn ?_
  | refine g_din ?_
  | refine g_dnn ?_
  | refine g_nrn ?_
  | refine g_nin ?_
  | refine g_nnn ?_))
local macro_rules | `(tactic| walk_at "rd") => `(tactic| (repeat walk_at "rd1"))

local macro_rules | `(tactic| walk_at "rd1") => `(tactic| (with_reducible first
  | refine g_lrev ?_
  | refine g_enum ?_
  | refine g_ckw ?_
  | refine g_max2 ?_
  | refine g_min2 ?_))
section
variable {P : Program} {w : World} {K : PySem.W.Frag} {mg : Str → Option Value} {base : Heap} {f : Addr} {fd : FuncData} {A : Ad}
/-! ### a standing, in numbers -/
structure StOk (ss ls : List Int) : Prop where
  n0 : 0 < ss.length
  n1 : ss.length ≤ 1000
  len : ls.length = ss.length
  s0 : ∀ x ∈ ss, 0 ≤ x
  l1 : ∀ x ∈ ls, 1 ≤ x
theorem StOk.pos {ss ls : List Int} (h : StOk ss ls) : Pos' ss ls := ⟨h.len, fun o ho => h.l1 _ (getD_mem (by rw [h.len]; exact ho))⟩
theorem StOk.rnd {ss ls : List Int} (r : Bool) (h : StOk ss ls) : StOk (rnd r ls ss) ls where
  n0 := by rw [rnd_len]; exact h.n0
  n1 := by rw [rnd_len]; exact h.n1
  len := by rw [rnd_len]; exact h.len
  s0 := fun x hx => by
    obtain ⟨p, hp, rfl⟩ := List.mem_map.mp hx
    have hp' := List.mem_range.mp hp
    have a := h.pos.pos p hp'
    have b := sm_ge0 (ls := ls) (trn r ss p) fun o ho => by have := h.pos.pos o (trn_lt hp' o ho); omega
    rw [rch_eq]; omega
  l1 := h.l1
theorem StOk.row {ss ls : List Int} (r : Bool) (h : StOk ss ls) : ∀ k, StOk (row r ls ss k) ls
  | 0 => h
  | k + 1 => (h.row r k).rnd r
/-! ### Beads.__init__ : a new standing of two tuples, of a list and a tuple -/
def spInitX (A : Ad) (c : Bool) : Sp := fun vs H Q _ => ∃ (b dx sa tl : Addr) (r : Bool) (ss ls : List Int), vs = [.ref b, .ref sa, .ref tl, .bl r] ∧ H b = some (.ins A.Beads dx []) ∧ H sa = some (if c = true then .tup (ss.map V.int) else .lst (ss.map V.int)) ∧ H tl = some (.tup (ls.map V.int)) ∧ StOk ss ls ∧
  ∀ (ts : Addr) (H' : Hp), (c = true → ts = sa) → (∀ a o, a ≠ b → H a = some o → H' a = some o) → BAt A.Beads H' b ts tl r ss ls → Q .non H'
theorem ok_initT (F : FunD K "__init__" "Beads.__init__" (defArgs s_Beads_init) (defBody s_Beads_init) (defScope s_Beads_init) [V.non] [("ring", V.bl true)] f fd) (T : Txt K mg A) (D__check_beads : DefOk P w K mg base CX0 1 "_check_beads" ["strengths", "lengths"] spChk) :
    FnOk P w K mg base CX0 2 f fd ["self", "strengths", "lengths", "ring"] (spInitX A true) := by
  refine F.ok (CX := CX0) sc_Beads_init (fun vs H Q E h => ?_) (fun cdv A1 outer s H vs Q E hr h => ?_)
  · obtain ⟨b, dx, sa, la, r, ss, ls, rfl, _⟩ := h
    rfl
  · obtain ⟨b, dx, ts, tl, r, ss, ls, rfl, hb, hs, hl, ok, q⟩ := h
    have hs : H ts = some (.tup (ss.map V.int)) := hs
    have n1 : ts ≠ b := fun z => by rw [z, hb] at hs; cases hs
    have n2 : tl ≠ b := fun z => by rw [z, hb] at hl; cases hl
    refine ⟨_, (pss_cons (ps_fldK K (pv 0) (pe_callTy (call_tupleK K) (by rfl) T.m_tuple (by decide +kernel) (pa_cons (pv 1) pa_nil)) rfl)
      (pss_cons (ps_fldK K (pv 0) (pe_ifExp (pt_cmpR op_isN (pv 2) pe_non (nomark _)) (pe_op (op_repTK K) (pe_tup (pa_cons pe_int pa_nil)) (pe_callB (call_lenK K) (by rfl) T.m_len PySem.boot_len (pa_cons (pv 1) pa_nil))) (pe_callTy (call_tupleK K) (by rfl) T.m_tuple (by decide +kernel) (pa_cons (pv 2) pa_nil))) rfl)
      (pss_cons (ps_fldK K (pv 0) (pv 3) rfl)
      (pss_one (ps_expr (pe_callD D__check_beads (hr.mono (by decide)) pass0 (pa_cons (pe_fldK K (pv 0) rfl) (pa_cons (pe_fldK K (pv 0) rfl) pa_nil)))))))), ?_⟩
    walk_at "rd"
    refine ⟨ts, _, rfl, .inr ⟨SqT.of hs, ?_⟩⟩
    walk_at "rd"
    refine ⟨b, _, dx, [], rfl, hb, T.cl, T.nS, by decide, ?_⟩
    walk_at "rd"
    refine ⟨tl, _, rfl, .inr ⟨SqT.of (by rw [upd_ne n2]; exact hl), ?_⟩⟩
    walk_at "rd"
    refine ⟨b, _, dx, _, rfl, upd_same, T.cl, T.nL, (by show 1 < 1000; decide), ?_⟩
    walk_at "rd"
    refine ⟨b, _, dx, _, rfl, upd_same, T.cl, T.nR, (Nat.lt_of_le_of_lt (length_putF _ _ _) (by show 1 + 1 < 1000; decide)), ?_⟩
    walk_at "rd"
    generalize hH : (upd (upd (upd H b _) b _) b _ : Hp) = H5
    have B5 : BAt A.Beads H5 b ts tl r ss ls := by
      refine ⟨⟨dx, by rw [← hH, upd_same]; rfl⟩, ?_, ?_⟩
      · rw [← hH, upd_ne n1, upd_ne n1, upd_ne n1]; exact hs
      · rw [← hH, upd_ne n2, upd_ne n2, upd_ne n2]; exact hl
    have keep : ∀ a o, a ≠ b → H a = some o → H5 a = some o := fun a o nab ha => by
      rw [← hH, upd_ne nab, upd_ne nab, upd_ne nab]
      exact ha
    refine f_s T B5 ?_
    walk_at "rd"
    refine f_l T B5 ?_
    walk_at "rd"
    refine ⟨ts, tl, ss, ls, rfl, B5.st, B5.ln, ok.n0, ok.len, ok.n1, ok.s0, ok.l1, ?_⟩
    walk_at "rd"
    exact q ts H5 (fun _ => rfl) keep B5
theorem ok_initM (F : FunD K "__init__" "Beads.__init__" (defArgs s_Beads_init) (defBody s_Beads_init) (defScope s_Beads_init) [V.non] [("ring", V.bl true)] f fd) (T : Txt K mg A) (D__check_beads : DefOk P w K mg base CX0 1 "_check_beads" ["strengths", "lengths"] spChk) :
    FnOk P w K mg base CX0 2 f fd ["self", "strengths", "lengths", "ring"] (spInitX A false) := by
  refine F.ok (CX := CX0) sc_Beads_init (fun vs H Q E h => ?_) (fun cdv A1 outer s H vs Q E hr h => ?_)
  · obtain ⟨b, dx, sa, la, r, ss, ls, rfl, _⟩ := h
    rfl
  · obtain ⟨b, dx, sa, tl, r, ss, ls, rfl, hb, hs, hl, ok, q⟩ := h
    have hs : H sa = some (.lst (ss.map V.int)) := hs
    have n2 : tl ≠ b := fun z => by rw [z, hb] at hl; cases hl
    refine ⟨_, (pss_cons (ps_fldK K (pv 0) (pe_callTy (call_tupleK K) (by rfl) T.m_tuple (by decide +kernel) (pa_cons (pv 1) pa_nil)) rfl)
      (pss_cons (ps_fldK K (pv 0) (pe_ifExp (pt_cmpR op_isN (pv 2) pe_non (nomark _)) (pe_op (op_repTK K) (pe_tup (pa_cons pe_int pa_nil)) (pe_callB (call_lenK K) (by rfl) T.m_len PySem.boot_len (pa_cons (pv 1) pa_nil))) (pe_callTy (call_tupleK K) (by rfl) T.m_tuple (by decide +kernel) (pa_cons (pv 2) pa_nil))) rfl)
      (pss_cons (ps_fldK K (pv 0) (pv 3) rfl)
      (pss_one (ps_expr (pe_callD D__check_beads (hr.mono (by decide)) pass0 (pa_cons (pe_fldK K (pv 0) rfl) (pa_cons (pe_fldK K (pv 0) rfl) pa_nil)))))))), ?_⟩
    walk_at "rd"
    refine ⟨sa, _, rfl, .inl ⟨SqL.of hs, fun ts nts => ?_⟩⟩
    have nbt : b ≠ ts := ne_of_none hb nts
    have n3 : tl ≠ ts := ne_of_none hl nts
    walk_at "rd"
    refine ⟨b, _, dx, [], rfl, by rw [upd_ne nbt]; exact hb, T.cl, T.nS, by decide, ?_⟩
    walk_at "rd"
    refine ⟨tl, _, rfl, .inr ⟨SqT.of (by rw [upd_ne n2, upd_ne n3]; exact hl), ?_⟩⟩
    walk_at "rd"
    refine ⟨b, _, dx, _, rfl, upd_same, T.cl, T.nL, (by show 1 < 1000; decide), ?_⟩
    walk_at "rd"
    refine ⟨b, _, dx, _, rfl, upd_same, T.cl, T.nR, (Nat.lt_of_le_of_lt (length_putF _ _ _) (by show 1 + 1 < 1000; decide)), ?_⟩
    walk_at "rd"
    generalize hH : (upd (upd (upd (upd H ts _) b _) b _) b _ : Hp) = H5
    have B5 : BAt A.Beads H5 b ts tl r ss ls := by
      refine ⟨⟨dx, by rw [← hH, upd_same]; rfl⟩, ?_, ?_⟩
      · rw [← hH, upd_ne nbt.symm, upd_ne nbt.symm, upd_ne nbt.symm, upd_same]
      · rw [← hH, upd_ne n2, upd_ne n2, upd_ne n2, upd_ne n3]; exact hl
    have keep : ∀ a o, a ≠ b → H a = some o → H5 a = some o := fun a o nab ha => by
      rw [← hH, upd_ne nab, upd_ne nab, upd_ne nab, upd_ne (ne_of_none ha nts)]
      exact ha
    refine f_s T B5 ?_
    walk_at "rd"
    refine f_l T B5 ?_
    walk_at "rd"
    refine ⟨ts, tl, ss, ls, rfl, B5.st, B5.ln, ok.n0, ok.len, ok.n1, ok.s0, ok.l1, ?_⟩
    walk_at "rd"
    exact q ts H5 (fun z => by cases z) keep B5
/-- a new standing, of two lists, of two tuples, of a list and a tuple -/
def spNew (K : PySem.W.Frag) (A : Ad) : Sp := fun vs H Q E => spInit K A vs H Q E ∨ (spInitX A true vs H Q E ∨ spInitX A false vs H Q E)
def gBeads (vs zs : List V) : List V := vs ++ zs
theorem mk_newL {H : Hp} {Q : VK} {E : XK} {g1 g2 : Addr} {r : Bool} {ss ls : List Int} (h1 : H g1 = some (.lst (ss.map V.int))) (h2 : H g2 = some (.lst (ls.map V.int))) (ok : StOk ss ls)
    (q : ∀ (x ts tl : Addr) (H' : Hp), H x = none → Same H H' → BAt A.Beads H' x ts tl r ss ls → Q (.ref x) H') : MakeK A.Beads (spNew K A) 2 1 gBeads E [.ref g1, .ref g2] [.bl r] H Q := by
  refine ⟨rfl, rfl, fun x dx nx ndx ne => ?_⟩
  have SM : Same H (upd (upd H dx (.own x)) x (.ins A.Beads dx [])) := (L2.Same.new ndx).trans (L2.Same.new (by rw [upd_ne ne.symm]; exact nx))
  exact .inl ⟨x, dx, g1, g2, r, ss, ls, rfl, upd_same, SqL.of (SM _ _ h1), SqL.of (SM _ _ h2), ok.n0, ok.len, ok.n1, ok.s0, ok.l1, fun ts tl H8 kp B => ⟨rfl, q x ts tl H8 nx (L2.Same.made nx ndx (fun b o h1 h2 => kp b o h2 h1)) B⟩⟩
theorem mk_newX {H : Hp} {Q : VK} {E : XK} {c : Bool} {g1 g2 : Addr} {r : Bool} {ss ls : List Int} (h1 : H g1 = some (if c = true then .tup (ss.map V.int) else .lst (ss.map V.int))) (h2 : H g2 = some (.tup (ls.map V.int))) (ok : StOk ss ls)
    (q : ∀ (x ts : Addr) (H' : Hp), H x = none → Same H H' → (c = true → ts = g1) → BAt A.Beads H' x ts g2 r ss ls → Q (.ref x) H') : MakeK A.Beads (spNew K A) 2 1 gBeads E [.ref g1, .ref g2] [.bl r] H Q := by
  refine ⟨rfl, rfl, fun x dx nx ndx ne => ?_⟩
  have SM : Same H (upd (upd H dx (.own x)) x (.ins A.Beads dx [])) := (L2.Same.new ndx).trans (L2.Same.new (by rw [upd_ne ne.symm]; exact nx))
  have goal : spInitX A c [.ref x, .ref g1, .ref g2, .bl r] (upd (upd H dx (.own x)) x (.ins A.Beads dx [])) (fun v H' => v = .non ∧ Q (.ref x) H') E :=
    ⟨x, dx, g1, g2, r, ss, ls, rfl, upd_same, SM _ _ h1, SM _ _ h2, ok, fun ts H8 ec kp B => ⟨rfl, q x ts H8 nx (L2.Same.made nx ndx (fun b o h1 h2 => kp b o h2 h1)) ec B⟩⟩
  cases c with
  | true => exact .inr (.inl goal)
  | false => exact .inr (.inr goal)
/-! ### -/
end
end Rt
set_option Elab.async false
set_option linter.all false
set_option maxRecDepth 100000
set_option maxHeartbeats 4000000
namespace Rt
open PySem PySem.Spec L2
open PyProof.Rows (envOfC)
local macro_rules | `(tactic| walk_at "rd1") => `(tactic| (with_reducible first
  | refine g_var (by with_unfolding_all rfl) ?_
  | refine g_c ?_
  | refine g_op ?_
  | refine g_I0 ?_
  | refine g_eqI ?_
  | refine g_neI ?_
  | refine g_eqB ?_
  | refine g_neB ?_
  | refine g_cons ?_
  | refine g_nil ?_
  | refine g_seq ?_
  | refine g_asg ?_
  | refine g_name ?_
  | refine g_ret ?_
  | refine g_retN ?_
  | refine g_drop ?_
  | refine g_next ?_
  | refine g_if ?_
  | refine g_test ?_
  | refine g_tB ?_
  | refine g_bl ?_
  | refine g_and ?_
  | refine g_or ?_
  | refine g_not ?_
  | refine g_andV ?_
  | refine g_orV ?_
  | refine g_notV ?_
  | refine g_ifE ?_
  | refine g_cb ?_
  | refine g_meth ?_
  | refine g_rev ?_
  | refine g_gcons ?_
  | refine g_gnil ?_
  | refine g_isB' ?_
  | refine g_gsub ?_
  | refine g_call ?_
  | refine g_callS ?_
  | refine g_bm ?_
  | refine g_un ?_
  | refine g_U ?_
  | refine g_chain ?_
  | refine g_sl ?_
  | refine g_brk ?_
  | refine g_ct ?_
  | refine g_ipI ?_
  | refine g_fld ?_
  | refine g_lst ?_
  | refine g_int ?_
  | refine g_for ?_
  | refine g_rg1 ?_
  | refine g_rg2 ?_
  | refine g_il ?_
  | refine g_it ?_
  | refine g_lc ?_
  | refine g_yes ?_
  | refine g_tup ?_
  | refine g_part ?_
  | refine g_xf ?_
  | refine g_nn ?_
  | refine g_mko ?_
  | refine g_lrg ?_
  | refine g_tr1 ?_
  | refine g_tr2 ?_
  | refine g_oi2 ?_
  | refine g_mk ?_
  | refine g_sfld ?_
  | refine g_ost ?_
  | refine g_oi ?_
  | refine g_nopart ?_
  | refine g_tt ?_
  | refine g_ff ?_
  | refine g_nt ?_
  | refine g_nf ?_
  | refine g_drn ?_
  | refine g_din ?_
  | refine g_dnn ?_
  | refine g_nrn ?_
  | refine g_nin ?_
  | refine g_nnn ?_))
local macro_rules | `(tactic| walk_at "rd") => `(tactic| (repeat walk_at "rd1"))

local macro_rules | `(tactic| walk_at "rd1") => `(tactic| (with_reducible first
  | refine g_zipB ?_
  | refine g_dget ?_
  | refine g_dget2 ?_
  | refine g_dput ?_
  | refine g_dnew ?_
  | refine g_dc ?_))
section
variable {P : Program} {w : World} {K : PySem.W.Frag} {mg : Str → Option Value} {base : Heap} {f : Addr} {fd : FuncData} {A : Ad}
/-! ### tally_at -/
def spTlyAt (K : PySem.W.Frag) : Sp := fun vs H Q _ => ∃ (sa ta : Addr) (ss ts : List Int), vs = [.ref sa, .ref ta] ∧ SqT K H sa (ss.map V.int) ∧ SqL K H ta (ts.map V.int) ∧ ts.length = ss.length ∧ ss.length < 64 ∧
  ∀ (a : Addr) (xs : List V) (H' : Hp), H a = none → Same H H' → H' a = some (.lst xs) → PrA (fun t => H t = none ∧ t ≠ a) H' xs (tlyL ss ts) → Q (.ref a) H'
theorem ok_tlyAt (F : Fun K "tally_at" "tally_at" s_tally_at f fd) (T : Txt K mg A) : FnOk P w K mg base CX0 1 f fd ["strengths", "told"] (spTlyAt K) := by
  refine F.ok sc_tally_at (fun vs H Q E h => ?_) (fun cdv A1 outer s H vs Q E hr h => ?_)
  · obtain ⟨sa, ta, ss, ts, rfl, _⟩ := h
    rfl
  · obtain ⟨sa, ta, ss, ts, rfl, hs, ht, el, n64, q⟩ := h
    refine ⟨_, (pss_cons (ps_set (i := 2) sc_tally_at.nd rfl (Or.inr rfl) pe_dnewK)
      (pss_cons (ps_for (PassesOwn.never) rfl (pi_zipB K true false (by rfl) T.m_zip (pa_cons (pv 0) (pa_cons (pv 1) pa_nil))) (pg_tup rfl (pgs_cons (pg_name (i := 3) sc_tally_at.nd rfl (Or.inl rfl)) (pgs_cons (pg_name (i := 4) sc_tally_at.nd rfl (Or.inl rfl)) pgs_nil))) (pss_cons (ps_set (i := 5) sc_tally_at.nd rfl (Or.inl rfl) (pe_ifExp (pt_cmpR op_gt (pv 4) (pv 3) (nomark _)) (pe_un un_neg pe_int) pe_int))
      (pss_one (ps_dput (hu_of hr) (pv 2) (pv 3) (pe_op op_add (pe_dget2 (hu_of hr) (pv 2) (pv 3) pe_int ⟨rfl, rfl, rfl, rfl⟩) (pv 5)) rfl))))
      (pss_one (ps_ret (pe_lc (own := [("value", 6)]) (g := gName 6) (tt := _) rfl sc_tally_at.nd (pi_listK K (pe_callB (call_sortedDI rfl) (by rfl) T.m_sorted (by decide +kernel) (pa_cons (pv 2) pa_nil))) (blkOk_by (N := ["strengths", "told", "tally", "strength", "number", "step", "value"]) (sc := defScope s_tally_at) (by decide +kernel)) (fun _ _ _ _ _ => (by exact (pg_name (i := 6) sc_tally_at.nd rfl (Or.inl rfl)))) (fun _ _ _ _ _ => (by exact (pts_one (pt_cmpR op_ne (pe_dget (hu_of hr) (pv 2) (pv 6) (fun _ _ => rfl)) pe_int (nomark _))))) (fun _ _ _ _ _ => (by exact (pe_tup (pa_cons (pv 6) (pa_cons (pe_dget (hu_of hr) (pv 2) (pv 6) (fun _ _ => rfl)) pa_nil)))))))))), ?_⟩
    walk_at "rd"
    intro d nd
    walk_at "rd"
    have S0 : Same H (upd H d (.dK [])) := Same.new nd
    refine ⟨sa, ta, _, _, rfl, SqB.mono (c := true) S0 hs, SqB.mono (c := false) S0 ht, for_zipB (xs := ss.map V.int) (ys := ts.map V.int) (by rw [List.length_map, List.length_map, el]) (fun i σ H' => ∃ (v3 v4 v5 v6 : Option V) (kvs : List (Key × V)), σ = [some (.ref sa), some (.ref ta), some (.ref d), v3, v4, v5, v6] ∧ Same H H' ∧ H' d = some (.dK kvs) ∧ kvs.length ≤ i ∧ DI kvs (fun v => if v ∈ ss.take i then some (tlyK ss ts v i) else none))
      ⟨none, none, none, none, [], rfl, S0, upd_same, Nat.le_refl _, DI.nil.congr fun v => by simp⟩ (fun i σ H' ⟨_, _, _, _, _, _, S, _⟩ => ⟨SqB.mono (c := true) S hs, SqB.mono (c := false) S ht⟩) ?_ ?_⟩
    · rintro i x y Tp σ H' hx hy ⟨v3, v4, v5, v6, kvs, rfl, S', hd, hk, hI⟩ nT
      obtain ⟨li, rfl⟩ := map_at hx
      obtain ⟨lj, rfl⟩ := map_at hy
      have hd' : upd H' Tp (.tup [V.int (ss.getD i 0), V.int (ts.getD i 0)]) d = some (.dK kvs) := (Same.new nT) _ _ hd
      refine g_gtup (SqT.of upd_same) rfl ?_
      refine g_gcons ?_
      refine g_name ?_
      refine g_gcons ?_
      refine g_name ?_
      refine g_gnil ?_
      walk_at "rd"
      refine g_ifV (x := .int (-1)) (y := .int 1) (fun Q' hq => ?_) (fun Q' hq => ?_) ?_
      · walk_at "rd"
        exact hq
      · walk_at "rd"
        exact hq
      rw [ite_int]
      have e1 : (if decide (ss.getD i 0 < ts.getD i 0) = true then (-1 : Int) else 1) = sgT (ss.getD i 0) (ts.getD i 0) := by unfold sgT; simp
      rw [e1]
      walk_at "rd"
      refine ⟨d, rfl, .inl ⟨_, .inl hd'⟩, ?_⟩
      walk_at "rd"
      refine ⟨_, hI.get hd' _, ?_⟩
      rw [omapD]
      walk_at "rd"
      refine ⟨d, _, rfl, DPut.k (k := Sum.inl (ss.getD i 0)) hd' (slt1000 (by omega)), ?_⟩
      refine ⟨_, _, _, _, _, rfl, (S'.newS nT).mut nd, upd_same, Nat.le_trans (length_putK _ _ _) (by omega), (hI.put _ _).congr fun v => ?_⟩
      have hn : i ≤ ss.length := by omega
      have e3 : (v ∈ ss.take (i + 1)) = (v ∈ ss.take i ∨ v = ss.getD i 0) := by rw [take_getD li, List.mem_append, List.mem_singleton]
      simp only [e3]
      by_cases c : v = ss.getD i 0
      · subst c
        rw [if_pos rfl, if_pos (show ss.getD i 0 ∈ ss.take i ∨ ss.getD i 0 = ss.getD i 0 from .inr rfl)]
        congr 1
        have e4 : tlyK ss ts (ss.getD i 0) (i + 1) = tlyK ss ts (ss.getD i 0) i + sgT (ss.getD i 0) (ts.getD i 0) := by rw [tlyK, if_pos rfl]
        rw [e4]
        congr 1
        by_cases m : ss.getD i 0 ∈ ss.take i
        · rw [if_pos m]; rfl
        · rw [if_neg m, tlyK_none i hn m]; rfl
      · rw [if_neg c]
        have e2 : tlyK ss ts v (i + 1) = tlyK ss ts v i := by
          rw [tlyK, if_neg (fun z => c z.symm), Int.add_zero]
        rw [e2]
        by_cases m : v ∈ ss.take i
        · rw [if_pos m, if_pos (.inl m)]
        · rw [if_neg m, if_neg (fun z => z.elim m c)]
    · rintro σ H' ⟨v3, v4, v5, v6, kvs, rfl, S', hd, hk, hI⟩
      rw [List.length_map] at hk hI
      rw [List.take_length] at hI
      obtain ⟨ks, ek, ndk⟩ := hI.ex
      have lk := hI.len ek
      walk_at "rd"
      refine ⟨d, kvs, ks, rfl, .inl hd, ek, by omega, fun ys p perm pw np => ?_⟩
      have ey : ys = ascI ss := ascI_eq (asc_of pw (perm.nodup_iff.mpr ndk)) fun v => by
        rw [perm.mem_iff, hI.mem ek v]
        split <;> simp [*]
      subst ey
      walk_at "rd"
      have S1 : Same H' (upd H' p (.lst ((ascI ss).map V.int))) := Same.new np
      refine ⟨p, rfl, ⟨_, SqL.of upd_same⟩, fun D nD => ?_⟩
      have S01 : Same H (upd H' p (.lst ((ascI ss).map V.int))) := S'.trans S1
      refine lc_list (xs := (ascI ss).map V.int) (fun i H2 => ∃ zs : List V, Same (upd H' p (.lst ((ascI ss).map V.int))) H2 ∧ H2 D = some (.lst zs) ∧ PrA (fun t => H t = none ∧ t ≠ D) H2 zs (tlyP ss ts i)) ⟨[], Same.new nD, upd_same, PrA.nil⟩ (fun i H2 _ ⟨_, S, _⟩ => SqL.of (S _ _ upd_same)) ?_ ?_
      · rintro i x H2 hx ⟨zs, S2, hD, hP⟩
        obtain ⟨v, hv, rfl⟩ : ∃ v, (ascI ss)[i]? = some v ∧ x = V.int v := by
          rw [List.getElem?_map] at hx
          obtain ⟨v, a, b⟩ := Option.map_eq_some_iff.mp hx
          exact ⟨v, a, b.symm⟩
        have hvs : v ∈ ss := (ascI_mem ss).mp (List.mem_of_getElem? hv)
        have hd2 : H2 d = some (.dK kvs) := S2 _ _ (S1 _ _ hd)
        have gt : ∀ {H3 : Hp}, Same H2 H3 → DGet H3 d (.int v) (some (.int (tly ss ts v))) := fun S => by
          have := hI.get (S _ _ hd2) v
          rw [if_pos hvs] at this
          exact this
        walk_at "rd"
        refine ⟨rfl, ?_⟩
        walk_at "rd"
        refine ⟨d, _, rfl, gt (Same.refl _), ?_⟩
        walk_at "rd"
        have st := tlyP_step (ts := ts) hv
        refine g_ite (fun e => ?_) (fun e => ?_)
        · have ne : tly ss ts v ≠ 0 := by simpa using e
          rw [if_neg ne] at st
          walk_at "rd"
          refine ⟨d, _, rfl, gt (Same.refl _), ?_⟩
          walk_at "rd"
          refine newT fun t H3 nt S3 ht => ?_
          have hl : zs.length = (tlyP ss ts i).length := hP.1
          refine ⟨zs, S3 _ _ hD, by rw [hl]; exact slt1000 (by have := tlyP_len (ss := ss) (ts := ts) i; omega), zs ++ [V.ref t], (S2.trans S3).mut nD, upd_same, ?_⟩
          have tD : t ≠ D := fun z => by rw [z, hD] at nt; cases nt
          rw [st]
          exact ((hP.mono S3).more (p := (v, tly ss ts v)) ⟨S01.free (S2.free nt), tD⟩ ht).upd fun t c => c.2
        · have eq : tly ss ts v = 0 := by simpa using e
          rw [if_pos eq, List.append_nil] at st
          refine ⟨zs, S2, hD, ?_⟩
          rw [st]; exact hP
      · rintro H2 ⟨zs, S2, hD, hP⟩
        rw [List.length_map] at hP
        exact q D zs H2 (S01.free nD) (S01.trans S2) hD hP
/-! ### tally_of -/
def spTlyOf (A : Ad) : Sp := fun vs H Q _ => ∃ (b ts tl : Addr) (r : Bool) (ss ls : List Int), vs = [.ref b] ∧ BAt A.Beads H b ts tl r ss ls ∧ StOk ss ls ∧ ss.length < 64 ∧
  ∀ (a : Addr) (xs : List V) (H' : Hp), H a = none → Same H H' → H' a = some (.lst xs) → PrA (fun t => H t = none ∧ t ≠ a) H' xs (tlyL ss (rnd r ls ss)) → Q (.ref a) H'
theorem ok_tlyOf (F : Fun K "tally_of" "tally_of" s_tally_of f fd) (T : Txt K mg A) (D_reaches : DefOk P w K mg base CX0 7 "reaches" ["beads"] (spReaches A)) (D_tally_at : DefOk P w K mg base CX0 1 "tally_at" ["strengths", "told"] (spTlyAt K)) : FnOk P w K mg base CX0 8 f fd ["beads"] (spTlyOf A) := by
  refine F.ok sc_tally_of (fun vs H Q E h => ?_) (fun cdv A1 outer s H vs Q E hr h => ?_)
  · obtain ⟨b, ts, tl, r, ss, ls, rfl, _⟩ := h
    rfl
  · obtain ⟨b, ts, tl, r, ss, ls, rfl, B, ok, n64, q⟩ := h
    refine ⟨_, (pss_one (ps_ret (pe_callD D_tally_at (hr.mono (by decide)) pass0 (pa_cons (pe_fldK K (pv 0) rfl) (pa_cons (pe_callD D_reaches (hr.mono (by decide)) pass0 (pa_cons (pv 0) pa_nil)) pa_nil))))), ?_⟩
    walk_at "rd"
    refine f_s T B ?_
    walk_at "rd"
    refine ⟨b, ts, tl, r, ss, ls, rfl, B, ok.len, ok.n1, fun a Ha na Sa ha => ?_⟩
    walk_at "rd"
    refine ⟨ts, a, ss, rnd r ls ss, rfl, SqT.of (Sa _ _ B.st), SqL.of ha, rnd_len, n64, fun a' xs H' na' S' ha' hP => ?_⟩
    exact q a' xs H' (Sa.free na') (Sa.trans S') ha' (hP.weak fun t c => ⟨Sa.free c.1, c.2⟩)
/-! ### compare_tallies -/
def spCmpT : Sp := fun vs H Q _ => ∃ (oa ob : Addr) (xs ys : List V) (l m : List (Int × Int)), vs = [.ref oa, .ref ob] ∧ H oa = some (.lst xs) ∧ H ob = some (.lst ys) ∧ PrA (fun _ => True) H xs l ∧ PrA (fun _ => True) H ys m ∧ AscP l ∧ AscP m ∧ l.length ≤ 400 ∧ m.length ≤ 400 ∧
  ∀ (c : Int) (H' : Hp), Same H H' → CmpS l m c → Q (.int c) H'
theorem ok_cmpT (F : Fun K "compare_tallies" "compare_tallies" s_compare_tallies f fd) (T : Txt K mg A) : FnOk P w K mg base CX0 1 f fd ["one", "other"] spCmpT := by
  refine F.ok sc_compare_tallies (fun vs H Q E h => ?_) (fun cdv A1 outer s H vs Q E hr h => ?_)
  · obtain ⟨oa, ob, xs, ys, l, m, rfl, _⟩ := h
    rfl
  · obtain ⟨oa, ob, xs, ys, l, m, rfl, ha, hb, hl, hm, al, am, nl, nm, q⟩ := h
    refine ⟨_, (pss_cons (ps_setDc (i := 2) (own := [("value", 3), ("number", 4)]) (g := gTup K 2 (gCons (gName 3) (gCons (gName 4) gNil))) (tt := tYes) rfl sc_compare_tallies.nd rfl rfl (sw_trueD rfl rfl rfl (by decide +kernel)) (pi_listK K (pv 0)) (blkOk_by (N := ["one", "other", "left", "value", "number", "right", "difference"]) (sc := defScope s_compare_tallies) (by decide +kernel)) (fun _ _ _ _ _ => (by exact (pg_tup rfl (pgs_cons (pg_name (i := 3) sc_compare_tallies.nd rfl (Or.inl rfl)) (pgs_cons (pg_name (i := 4) sc_compare_tallies.nd rfl (Or.inl rfl)) pgs_nil))))) (fun _ _ _ _ _ => (by exact pts_nil)) (fun _ _ _ _ _ => (by exact (pv 3))) (fun _ _ _ _ _ => (by exact (pv 4))))
      (pss_cons (ps_setDc (i := 5) (own := [("value", 3), ("number", 4)]) (g := gTup K 2 (gCons (gName 3) (gCons (gName 4) gNil))) (tt := tYes) rfl sc_compare_tallies.nd rfl rfl (sw_trueD rfl rfl rfl (by decide +kernel)) (pi_listK K (pv 1)) (blkOk_by (N := ["one", "other", "left", "value", "number", "right", "difference"]) (sc := defScope s_compare_tallies) (by decide +kernel)) (fun _ _ _ _ _ => (by exact (pg_tup rfl (pgs_cons (pg_name (i := 3) sc_compare_tallies.nd rfl (Or.inl rfl)) (pgs_cons (pg_name (i := 4) sc_compare_tallies.nd rfl (Or.inl rfl)) pgs_nil))))) (fun _ _ _ _ _ => (by exact pts_nil)) (fun _ _ _ _ _ => (by exact (pv 3))) (fun _ _ _ _ _ => (by exact (pv 4))))
      (pss_cons (ps_for (PassesOwn.never) rfl (pi_listK K (pe_callB (cr_sortW (w := w) rfl) (by rfl) T.m_sorted (by decide +kernel) (pa_cons (pe_callTy (cr_setL (w := w) K rfl) (by rfl) T.m_set (by decide +kernel) (pa_cons (pe_op op_cat (pe_callTy (call_list_dK rfl) (by rfl) T.m_list (by decide +kernel) (pa_cons (pv 2) pa_nil)) (pe_callTy (call_list_dK rfl) (by rfl) T.m_list (by decide +kernel) (pa_cons (pv 5) pa_nil))) pa_nil)) pa_nil))) (pg_name (i := 3) sc_compare_tallies.nd rfl (Or.inl rfl)) (pss_cons (ps_set (i := 6) sc_compare_tallies.nd rfl (Or.inl rfl) (pe_op op_sub (pe_dget2 (hu_of hr) (pv 2) (pv 3) pe_int ⟨rfl, rfl, rfl, rfl⟩) (pe_dget2 (hu_of hr) (pv 5) (pv 3) pe_int ⟨rfl, rfl, rfl, rfl⟩)))
      (pss_one (ps_if (pt_cmpR op_ne (pv 6) pe_int (nomark _)) (pss_one (ps_ret (pe_ifExp (pt_cmpR op_lt (pv 6) pe_int (nomark _)) (pe_un un_neg pe_int) pe_int))) pss_nil))))
      (pss_one (ps_ret pe_int))))), ?_⟩
    have mk : ∀ {H1 : Hp} {o : Addr} {zs : List V} {k : List (Int × Int)} {i : Nat} {x : V} {H2 : Hp} {D : Addr}, PrA (fun _ => True) H1 zs k → zs[i]? = some x → Same H1 H2 → ∃ (p : Int × Int) (t : Addr), k[i]? = some p ∧ x = .ref t ∧ SqT K H2 t [.int p.1, .int p.2] := fun h hx S => by
      obtain ⟨p, t, e1, e2, _, e3⟩ := h.of hx
      exact ⟨p, t, e1, e2, SqT.of (S _ _ e3)⟩
    walk_at "rd"
    refine ⟨oa, rfl, ⟨_, SqL.of ha⟩, fun D1 nD1 => ?_⟩
    refine dc_list (xs := xs) (fun i H2 => ∃ kvs : List (Key × V), Same H H2 ∧ H2 D1 = some (.dK kvs) ∧ kvs.length ≤ i ∧ DI kvs (dcF l i)) ⟨[], Same.new nD1, upd_same, Nat.le_refl _, DI.nil.congr fun v => by unfold dcF kyP; simp⟩ (fun i H2 ⟨_, S, _⟩ => SqL.of (S _ _ ha)) ?_ ?_
    · rintro i x H2 hx ⟨kvs, S2, hD, hk, hI⟩
      obtain ⟨p, t, hp, rfl, hT⟩ := mk (o := oa) (D := D1) hl hx S2
      refine g_gtup hT rfl ?_
      refine g_gcons ?_
      refine g_name ?_
      refine g_gcons ?_
      refine g_name ?_
      refine g_gnil ?_
      refine ⟨rfl, ?_⟩
      walk_at "rd"
      have li : i < l.length := (List.getElem?_eq_some_iff.mp hp).1
      refine ⟨kvs, Sum.inl p.1, rfl, hD, slt1000 (by omega), _, S2.mut nD1, upd_same, Nat.le_trans (length_putK _ _ _) (by omega), (hI.put _ _).congr (dcF_step al hp)⟩
    rintro H2 ⟨kvs, S2, hD1, hk1, hI1⟩
    have lx : xs.length = l.length := hl.1
    rw [lx] at hk1 hI1
    walk_at "rd"
    refine ⟨ob, rfl, ⟨_, SqL.of (S2 _ _ hb)⟩, fun D2 nD2 => ?_⟩
    refine dc_list (xs := ys) (fun i H3 => ∃ kvs : List (Key × V), Same H2 H3 ∧ H3 D2 = some (.dK kvs) ∧ kvs.length ≤ i ∧ DI kvs (dcF m i)) ⟨[], Same.new nD2, upd_same, Nat.le_refl _, DI.nil.congr fun v => by unfold dcF kyP; simp⟩ (fun i H3 ⟨_, S, _⟩ => SqL.of (S _ _ (S2 _ _ hb))) ?_ ?_
    · rintro i x H3 hx ⟨kvs2, S3, hD, hk, hI⟩
      obtain ⟨p, t, hp, rfl, hT⟩ := mk (o := ob) (D := D2) (hm.mono S2) hx S3
      refine g_gtup hT rfl ?_
      refine g_gcons ?_
      refine g_name ?_
      refine g_gcons ?_
      refine g_name ?_
      refine g_gnil ?_
      refine ⟨rfl, ?_⟩
      walk_at "rd"
      have li : i < m.length := (List.getElem?_eq_some_iff.mp hp).1
      refine ⟨kvs2, Sum.inl p.1, rfl, hD, slt1000 (by omega), _, S3.mut nD2, upd_same, Nat.le_trans (length_putK _ _ _) (by omega), (hI.put _ _).congr (dcF_step am hp)⟩
    rintro H3 ⟨kvs2, S3, hD2, hk2, hI2⟩
    have ly : ys.length = m.length := hm.1
    rw [ly] at hk2 hI2
    obtain ⟨k1, ek1, _⟩ := hI1.ex
    obtain ⟨k2, ek2, _⟩ := hI2.ex
    have l1 := hI1.len ek1
    have l2 := hI2.len ek2
    have eK : ∀ {kv : List (Key × V)} {ks : List Int}, kv.map (·.1) = ks.map Sum.inl → (kv.map fun e => kV e.1) = ks.map V.int := fun {kv ks} e => by
      have : (kv.map fun e => kV e.1) = (kv.map (·.1)).map kV := by rw [List.map_map]; rfl
      rw [this, e, List.map_map]; rfl
    have hD1' := S3 _ _ hD1
    walk_at "rd"
    refine ⟨D1, kvs, rfl, hD1', fun a1 na1 => ?_⟩
    rw [eK ek1]
    walk_at "rd"
    have S4 : Same H3 (upd H3 a1 (.lst (k1.map V.int))) := Same.new na1
    refine ⟨D2, kvs2, rfl, S4 _ _ hD2, fun a2 na2 => ?_⟩
    rw [eK ek2]
    have S5 : Same (upd H3 a1 (.lst (k1.map V.int))) (upd (upd H3 a1 (.lst (k1.map V.int))) a2 (.lst (k2.map V.int))) := Same.new na2
    generalize hH5 : upd (upd H3 a1 (.lst (k1.map V.int))) a2 (.lst (k2.map V.int)) = H5 at S5 ⊢
    have h1 : H5 a1 = some (.lst (k1.map V.int)) := S5 _ _ upd_same
    have h2 : H5 a2 = some (.lst (k2.map V.int)) := by rw [← hH5, upd_same]
    walk_at "rd"
    refine g_cat h1 h2 (by omega) fun a3 H6 na3 S6 h3 => ?_
    walk_at "rd"
    refine ⟨a3, _, rfl, SqL.of h3, by rw [List.length_append]; omega, fun a4 c na4 hc => ?_⟩
    rw [List.length_append] at hc
    walk_at "rd"
    refine ⟨a4, _, c, rfl, upd_same, by omega, fun vs a5 pw mem len na5 => ?_⟩
    have S7 : Same H6 (upd H6 a4 (SetO w a4 (fun j => decide (j ∈ k1 ++ k2)) c)) := Same.new na4
    have S8 : Same (upd H6 a4 (SetO w a4 (fun j => decide (j ∈ k1 ++ k2)) c)) (upd (upd H6 a4 (SetO w a4 (fun j => decide (j ∈ k1 ++ k2)) c)) a5 (.lst (vs.map V.int))) := Same.new na5
    generalize hH8 : upd (upd H6 a4 (SetO w a4 (fun j => decide (j ∈ k1 ++ k2)) c)) a5 (.lst (vs.map V.int)) = H8 at S8 ⊢
    have h5 : H8 a5 = some (.lst (vs.map V.int)) := by rw [← hH8, upd_same]
    have S38 : Same H3 H8 := S4.trans (S5.trans (S6.trans (S7.trans S8)))
    have S08 : Same H H8 := S2.trans (S3.trans S38)
    have d1 := S38 _ _ hD1'
    have d2 := S38 _ _ hD2
    have hv : ∀ p, p ∈ l ∨ p ∈ m → p.1 ∈ vs := fun p hp => by
      rw [mem]
      refine decide_eq_true (List.mem_append.mpr ?_)
      rcases hp with z | z
      · left
        rw [hI1.mem ek1]
        unfold dcF
        rw [List.take_length, if_pos (kyP_mem z)]; rfl
      · right
        rw [hI2.mem ek2]
        unfold dcF
        rw [List.take_length, if_pos (kyP_mem z)]; rfl
    walk_at "rd"
    refine ⟨a5, rfl, ⟨_, SqL.of h5⟩, ?_⟩
    refine for_list (xs := vs.map V.int) (fun i σ H' => ∃ (v4 v5 v6 : Option V), σ = [some (.ref oa), some (.ref ob), some (.ref D1), v4, v5, some (.ref D2), v6] ∧ H' = H8 ∧ ∀ j, j < i → atL l (vs.getD j 0) = atL m (vs.getD j 0))
      ⟨none, none, none, rfl, rfl, fun j h => absurd h (Nat.not_lt_zero j)⟩ (fun i σ H' _ ⟨_, _, _, _, e, _⟩ => by rw [e]; exact SqL.of h5) ?_ ?_
    · rintro i x σ H' hx ⟨v4, v5, v6, rfl, rfl, hin⟩
      obtain ⟨li, rfl⟩ := map_at hx
      walk_at "rd"
      refine ⟨D1, rfl, .inl ⟨_, .inl d1⟩, ?_⟩
      walk_at "rd"
      refine ⟨_, hI1.get d1 _, ?_⟩
      rw [omapD, dcF_end]
      walk_at "rd"
      refine ⟨D2, rfl, .inl ⟨_, .inl d2⟩, ?_⟩
      walk_at "rd"
      refine ⟨_, hI2.get d2 _, ?_⟩
      rw [omapD, dcF_end]
      walk_at "rd"
      refine g_ite (fun e => ?_) (fun e => ?_)
      · have ne : atL l (vs.getD i 0) ≠ atL m (vs.getD i 0) := by
          intro z
          rw [z] at e
          simp at e
        walk_at "rd"
        refine g_ifV (x := .int (-1)) (y := .int 1) (fun Q' hq => ?_) (fun Q' hq => ?_) ?_
        · walk_at "rd"
          exact hq
        · walk_at "rd"
          exact hq
        rw [ite_int]
        refine q _ _ S08 ?_
        have e1 : (if decide (atL l (vs.getD i 0) - atL m (vs.getD i 0) < 0) = true then (-1 : Int) else 1) = if atL l (vs.getD i 0) < atL m (vs.getD i 0) then -1 else 1 := by
          by_cases c : atL l (vs.getD i 0) < atL m (vs.getD i 0)
          · rw [if_pos c, if_pos (decide_eq_true (by omega))]
          · rw [if_neg c, if_neg (by simpa using (show 0 ≤ atL l (vs.getD i 0) - atL m (vs.getD i 0) by omega))]
        rw [e1]
        refine CmpS.of_least hv ne fun u hu hne => ?_
        obtain ⟨j, hj, rfl⟩ := mem_getD hu
        refine Decidable.byContradiction fun z => ?_
        by_cases c : j < i
        · exact hne (hin j c)
        · have : vs.getD i 0 ≤ vs.getD j 0 := by
            by_cases c2 : i = j
            · subst c2; omega
            · have := List.pairwise_iff_getElem.mp pw i j li hj (by omega)
              rw [List.getD_eq_getElem?_getD, List.getD_eq_getElem?_getD, List.getElem?_eq_getElem li, List.getElem?_eq_getElem hj]
              exact Int.le_of_lt this
          exact z this
      · have eq : atL l (vs.getD i 0) = atL m (vs.getD i 0) := by
          have : atL l (vs.getD i 0) - atL m (vs.getD i 0) = 0 := by simpa using e
          omega
        refine ⟨_, _, _, rfl, rfl, fun j hj => ?_⟩
        rcases Nat.lt_succ_iff_lt_or_eq.mp hj with z | z
        · exact hin j z
        · rw [z]; exact eq
    · rintro σ H' ⟨v4, v5, v6, rfl, rfl, hin⟩
      walk_at "rd"
      refine q 0 _ S08 (CmpS.of_min hv fun v hv' => ?_)
      obtain ⟨j, hj, rfl⟩ := mem_getD hv'
      exact hin j (by rw [List.length_map]; exact hj)
/-! ### -/
end
end Rt
set_option Elab.async false
set_option linter.all false
set_option maxRecDepth 100000
set_option maxHeartbeats 4000000
namespace Rt
open PySem PySem.Spec L2
open PyProof.Rows (envOfC)
local macro_rules | `(tactic| walk_at "rd1") => `(tactic| (with_reducible first
  | refine g_var (by with_unfolding_all rfl) ?_
  | refine g_c ?_
  | refine g_op ?_
  | refine g_I0 ?_
  | refine g_eqI ?_
  | refine g_neI ?_
  | refine g_eqB ?_
  | refine g_neB ?_
  | refine g_cons ?_
  | refine g_nil ?_
  | refine g_seq ?_
  | refine g_asg ?_
  | refine g_name ?_
  | refine g_ret ?_
  | refine g_retN ?_
  | refine g_drop ?_
  | refine g_next ?_
  | refine g_if ?_
  | refine g_test ?_
  | refine g_tB ?_
  | refine g_bl ?_
  | refine g_and ?_
  | refine g_or ?_
  | refine g_not ?_
  | refine g_andV ?_
  | refine g_orV ?_
  | refine g_notV ?_
  | refine g_ifE ?_
  | refine g_cb ?_
  | refine g_meth ?_
  | refine g_rev ?_
  | refine g_gcons ?_
  | refine g_gnil ?_
  | refine g_isB' ?_
  | refine g_gsub ?_
  | refine g_call ?_
  | refine g_callS ?_
  | refine g_bm ?_
  | refine g_un ?_
  | refine g_U ?_
  | refine g_chain ?_
  | refine g_sl ?_
  | refine g_brk ?_
  | refine g_ct ?_
  | refine g_ipI ?_
  | refine g_fld ?_
  | refine g_lst ?_
  | refine g_int ?_
  | refine g_for ?_
  | refine g_rg1 ?_
  | refine g_rg2 ?_
  | refine g_il ?_
  | refine g_it ?_
  | refine g_lc ?_
  | refine g_yes ?_
  | refine g_tup ?_
  | refine g_part ?_
  | refine g_xf ?_
  | refine g_nn ?_
  | refine g_mko ?_
  | refine g_lrg ?_
  | refine g_tr1 ?_
  | refine g_tr2 ?_
  | refine g_oi2 ?_
  | refine g_mk ?_
  | refine g_sfld ?_
  | refine g_ost ?_
  | refine g_oi ?_
  | refine g_nopart ?_
  | refine g_tt ?_
  | refine g_ff ?_
  | refine g_nt ?_
  | refine g_nf ?_
  | refine g_drn ?_
  | refine g_din ?_
  | refine g_dnn ?_
  | refine g_nrn ?_
  | refine g_nin ?_
  | refine g_nnn ?_))
local macro_rules | `(tactic| walk_at "rd") => `(tactic| (repeat walk_at "rd1"))

section
variable {P : Program} {w : World} {K : PySem.W.Frag} {mg : Str → Option Value} {base : Heap} {f : Addr} {fd : FuncData} {A : Ad}
/-! ### _law_lengths -/
def spLengths : Sp := fun vs H Q _ => ∃ (c : Int) (n : Nat), vs = [.int c, .int (n : Int)] ∧ n ≤ 900 ∧
  ∀ (p : Addr) (H' : Hp) (ls : List Int), H p = none → Same H H' → H' p = some (.lst (ls.map V.int)) → ls.length = n → (∀ x ∈ ls, 1 ≤ x ∧ x ≤ 1000000000) → Q (.ref p) H'
theorem ok_lengths (F : Fun K "_law_lengths" "_law_lengths" s__law_lengths f fd) (T : Txt K mg A) (D__law_draws : DefOk P w K mg base CX0 1 "_law_draws" ["cell", "sizes"] (Rt.spDraws K)) : FnOk P w K mg base CX0 2 f fd ["cell", "many"] Rt.spLengths := by
  refine F.ok sc__law_lengths (fun vs H Q E h => ?_) (fun cdv A1 outer s H vs Q E hr h => ?_)
  · obtain ⟨c, n, rfl, _⟩ := h
    rfl
  · obtain ⟨c, n, rfl, hn, q⟩ := h
    refine ⟨_, (pss_cons (ps_set (i := 2) sc__law_lengths.nd rfl (Or.inl rfl) (pe_ix (ix_listK K) (pe_callD D__law_draws (hr.mono (by decide)) pass0 (pa_cons (pv 0) (pa_cons (pe_lst (pa_cons pe_int pa_nil)) pa_nil))) pe_int (fun _ _ => rfl)))
      (pss_cons (ps_set (i := 3) sc__law_lengths.nd rfl (Or.inl rfl) (pe_ix (ix_listK K) (pe_lst (pa_cons pe_int (pa_cons pe_int (pa_cons pe_int (pa_cons (pe_op op_pow pe_int pe_int) pa_nil))))) (pv 2) (fun _ _ => rfl)))
      (pss_one (ps_ret (pe_lc (own := [("draw", 4)]) (g := gName 4) (tt := tYes) rfl sc__law_lengths.nd (pi_listK K (pe_slice (sl_listK K) (pe_callD D__law_draws (hr.mono (by decide)) pass0 (pa_cons (pv 0) (pa_cons (pe_op op_cat (pe_lst (pa_cons pe_int pa_nil)) (pe_op op_rep (pe_lst (pa_cons (pv 3) pa_nil)) (pv 1))) pa_nil))) (po_some pe_int) po_none)) (blkOk_by (N := ["cell", "many", "flavour", "size", "draw"]) (sc := defScope s__law_lengths) (by decide +kernel)) (fun _ _ _ _ _ => (by exact (pg_name (i := 4) sc__law_lengths.nd rfl (Or.inl rfl)))) (fun _ _ _ _ _ => (by exact pts_nil)) (fun _ _ _ _ _ => (by exact (pe_op op_add pe_int (pv 4))))))))), ?_⟩
    walk_at "rd"
    refine newL fun a Ha na Sa ha => ?_
    walk_at "rd"
    refine ⟨a, c, [4], rfl, SqL.of ha, by decide, fun i hi => ?_, fun p1 H1 ds np1 S1 h1 dr => ?_⟩
    · have : i = 0 := by simpa using hi
      subst this; decide
    have f0 := dr.at_ 0 (by decide)
    have f0b : ds.getD 0 0 < 4 := f0.2
    refine g_ixL (SqL.of h1) (at_int (o := 0) (by rw [dr.len]; decide)) ?_
    walk_at "rd"
    refine g_I ⟨by decide, by decide, by decide⟩ ?_
    walk_at "rd"
    refine newL fun a2 Ha2 na2 Sa2 ha2 => ?_
    walk_at "rd"
    generalize hfl : ds.getD 0 0 = fl at f0 f0b
    have hm := at_toNat (zs := [1, 1, 4, 10 ^ (9 : Int).toNat]) f0.1 (by simpa using f0b)
    generalize hsz : ([1, 1, 4, 10 ^ (9 : Int).toNat] : List Int).getD fl.toNat 0 = sz at hm
    have hsz2 : 1 ≤ sz ∧ sz ≤ 1000000000 := by
      have hc : fl = 0 ∨ fl = 1 ∨ fl = 2 ∨ fl = 3 := by omega
      rcases hc with z | z | z | z <;> (subst z; subst hsz; decide)
    refine g_ixL (xs := ([1, 1, 4, 10 ^ (9 : Int).toNat] : List Int).map V.int) (SqL.of ha2) hm ?_
    walk_at "rd"
    refine newL fun a3 Ha3 na3 Sa3 ha3 => ?_
    walk_at "rd"
    refine newL fun a4 Ha4 na4 Sa4 ha4 => ?_
    walk_at "rd"
    refine g_rep1 (k := n) ha4 (by omega) fun a5 Ha5 na5 Sa5 ha5 => ?_
    have S5 : Same Ha3 Ha5 := Sa4.trans Sa5
    refine g_cat (xs := [4]) (S5 _ _ ha3) ha5 (by rw [List.length_replicate]; simp; omega) fun a6 Ha6 na6 Sa6 ha6 => ?_
    walk_at "rd"
    refine ⟨a6, c, _, rfl, SqL.of ha6, by simp; omega, fun i hi => ?_, fun p2 H2 es np2 S2 h2 dr2 => ?_⟩
    · cases i with
      | zero => exact (by decide : (0 : Int) < 4 ∧ (4 : Int) < 2 ^ 64)
      | succ i =>
        have hi' : i < n := by simpa using hi
        have e : (([4] : List Int) ++ List.replicate n sz).getD (i + 1) 0 = sz := getD_rep hi'
        rw [e]; omega
    walk_at "rd"
    have dt : Dr (List.replicate n sz) (es.drop 1) := Dr.tail dr2
    refine g_sl1 (SqL.of h2) (by rw [dr2.len]; simp) fun p3 H3 np3 S3 h3 => ?_
    refine ⟨p3, rfl, ⟨_, SqL.of h3⟩, fun D nD => ?_⟩
    have hl : (es.drop 1).length = n := by rw [dt.len, List.length_replicate]
    have ST : Same H H3 := (((((((Sa.trans S1).trans Sa2).trans Sa3).trans Sa4).trans Sa5).trans Sa6).trans S2).trans S3
    refine lc_ints (fun x => 1 + x) (SqL.of h3) nD (by omega) (fun i x H' hx S' Q' hq => ?_) (fun H' S' h' => ?_)
    · walk_at "rd"
      refine ⟨rfl, ?_⟩
      walk_at "rd"
      exact hq H' (Same.refl _)
    · refine q D H' _ (ST.free nD) (ST.trans S') h' (by rw [List.length_map, hl]) fun y hy => ?_
      obtain ⟨x, hx, rfl⟩ := List.mem_map.mp hy
      obtain ⟨i, hi, rfl⟩ := mem_getD hx
      have hb := dt.at_ i (by rw [List.length_replicate]; omega)
      rw [getD_rep (by omega)] at hb
      show 1 ≤ 1 + _ ∧ 1 + _ ≤ _
      omega
/-! ### _law_strengths -/
theorem sl_draw {Q : VK} {p2 : Addr} {es ms : List Int} {H0 H2 : Hp} (ST : Same H0 H2) (h2 : H2 p2 = some (.lst (es.map V.int))) {m : Int} (dr : Dr (m :: ms) es) (hm : ∀ i, i < ms.length → ms.getD i 0 < 2 ^ 64)
    (q : ∀ (p : Addr) (H' : Hp) (ss : List Int), H0 p = none → Same H0 H' → H' p = some (.lst (ss.map V.int)) → ss.length = ms.length → (∀ x ∈ ss, 0 ≤ x ∧ x < 2 ^ 64) → Q (.ref p) H') : rSlL K (.ref p2) (some 1) none H2 Q := by
  refine g_sl1 (SqL.of h2) (by rw [dr.len]; simp) fun p3 H3 np3 S3 h3 => ?_
  have dt := Dr.tail dr
  refine q p3 H3 _ (ST.free np3) (ST.trans S3) h3 dt.len fun x hx => ?_
  obtain ⟨i, hi, rfl⟩ := mem_getD hx
  have hb := dt.at_ i (by rw [← dt.len]; exact hi)
  have hc := hm i (by rw [← dt.len]; exact hi)
  omega
def spStrengths (K : PySem.W.Frag) : Sp := fun vs H Q _ => ∃ (c : Int) (l : Addr) (ls : List Int), vs = [.int c, .ref l] ∧ SqL K H l (ls.map V.int) ∧ ls.length ≤ 900 ∧ (∀ x ∈ ls, 1 ≤ x ∧ x ≤ 1000000000) ∧
  ∀ (p : Addr) (H' : Hp) (ss : List Int), H p = none → Same H H' → H' p = some (.lst (ss.map V.int)) → ss.length = ls.length → (∀ x ∈ ss, 0 ≤ x ∧ x < 2 ^ 64) → Q (.ref p) H'
theorem ok_strengths (F : Fun K "_law_strengths" "_law_strengths" s__law_strengths f fd) (T : Txt K mg A) (D__law_draws : DefOk P w K mg base CX0 1 "_law_draws" ["cell", "sizes"] (Rt.spDraws K)) : FnOk P w K mg base CX0 2 f fd ["cell", "sizes"] (Rt.spStrengths K) := by
  refine F.ok sc__law_strengths (fun vs H Q E h => ?_) (fun cdv A1 outer s H vs Q E hr h => ?_)
  · obtain ⟨c, l, ls, rfl, _⟩ := h
    rfl
  · obtain ⟨c, l, ls, rfl, hs, hn, hb, q⟩ := h
    have t0 : 0 ≤ ls.sum := sum_ge fun x hx => by have := hb x hx; omega
    have t1 : ls.sum ≤ 1000000000 * ls.length := sum_le fun x hx => (hb x hx).2
    have t2 : ls.sum ≤ 900000000000 := by omega
    refine ⟨_, (pss_cons (ps_set (i := 2) sc__law_strengths.nd rfl (Or.inl rfl) (pe_ix (ix_listK K) (pe_callD D__law_draws (hr.mono (by decide)) pass0 (pa_cons (pv 0) (pa_cons (pe_lst (pa_cons pe_int pa_nil)) pa_nil))) pe_int (fun _ _ => rfl)))
      (pss_cons (ps_set (i := 3) sc__law_strengths.nd rfl (Or.inl rfl) (pe_callB (cr_sumK K rfl) (by rfl) T.m_sum (by decide +kernel) (pa_cons (pv 1) pa_nil)))
      (pss_cons (ps_if (pt_cmpR op_eq (pv 2) pe_int (nomark _)) (pss_one (ps_ret (pe_slice (sl_listK K) (pe_callD D__law_draws (hr.mono (by decide)) pass0 (pa_cons (pv 0) (pa_cons (pe_op op_cat (pe_lst (pa_cons pe_int pa_nil)) (pe_lc (own := [("size", 4)]) (g := gName 4) (tt := tYes) rfl sc__law_strengths.nd (pi_listK K (pv 1)) (blkOk_by (N := ["cell", "sizes", "flavour", "total", "size", "level", "most"]) (sc := defScope s__law_strengths) (by decide +kernel)) (fun _ _ _ _ _ => (by exact (pg_name (i := 4) sc__law_strengths.nd rfl (Or.inl rfl)))) (fun _ _ _ _ _ => (by exact pts_nil)) (fun _ _ _ _ _ => (by exact (pe_op op_add (pv 4) pe_int))))) pa_nil))) (po_some pe_int) po_none))) pss_nil)
      (pss_cons (ps_if (pt_cmpR op_eq (pv 2) pe_int (nomark _)) (pss_cons (ps_set (i := 5) sc__law_strengths.nd rfl (Or.inr rfl) (pe_ix (ix_listK K) (pe_callD D__law_draws (hr.mono (by decide)) pass0 (pa_cons (pv 0) (pa_cons (pe_lst (pa_cons pe_int (pa_cons (pe_op op_add (pv 3) pe_int) pa_nil))) pa_nil))) pe_int (fun _ _ => rfl)))
      (pss_one (ps_ret (pe_lc (own := [("size", 4)]) (g := gName 4) (tt := tYes) rfl sc__law_strengths.nd (pi_listK K (pv 1)) (blkOk_by (N := ["cell", "sizes", "flavour", "total", "size", "level", "most"]) (sc := defScope s__law_strengths) (by decide +kernel)) (fun _ _ _ _ _ => (by exact (pg_name (i := 4) sc__law_strengths.nd rfl (Or.inl rfl)))) (fun _ _ _ _ _ => (by exact pts_nil)) (fun _ _ _ _ _ => (by exact (pv 5))))))) pss_nil)
      (pss_cons (ps_set (i := 6) sc__law_strengths.nd rfl (Or.inl rfl) (pe_ix (ix_listK K) (pe_lst (pa_cons pe_int (pa_cons (pe_op op_add (pe_callB (call_lenK K) (by rfl) T.m_len PySem.boot_len (pa_cons (pv 1) pa_nil)) pe_int) (pa_cons (pe_op op_add (pv 3) pe_int) (pa_cons pe_int (pa_cons pe_int (pa_cons (pe_op op_add (pe_op op_pow pe_int pe_int) pe_int) pa_nil))))))) (pv 2) (fun _ _ => rfl)))
      (pss_one (ps_ret (pe_slice (sl_listK K) (pe_callD D__law_draws (hr.mono (by decide)) pass0 (pa_cons (pv 0) (pa_cons (pe_op op_cat (pe_lst (pa_cons pe_int pa_nil)) (pe_op op_rep (pe_lst (pa_cons (pv 6) pa_nil)) (pe_callB (call_lenK K) (by rfl) T.m_len PySem.boot_len (pa_cons (pv 1) pa_nil)))) pa_nil))) (po_some pe_int) po_none)))))))), ?_⟩
    walk_at "rd"
    refine newL fun a Ha na Sa ha => ?_
    walk_at "rd"
    refine ⟨a, c, [6], rfl, SqL.of ha, by decide, fun i hi => ?_, fun p1 H1 ds np1 S1 h1 dr => ?_⟩
    · have : i = 0 := by simpa using hi
      subst this; decide
    have f0 := dr.at_ 0 (by decide)
    have f0b : ds.getD 0 0 < 6 := f0.2
    refine g_ixL (SqL.of h1) (at_int (o := 0) (by rw [dr.len]; decide)) ?_
    generalize hfl : ds.getD 0 0 = fl at f0 f0b
    walk_at "rd"
    have SA : Same H H1 := Sa.trans S1
    refine ⟨l, ls, rfl, SA.seq hs, ?_⟩
    walk_at "rd"
    refine g_ite (fun e => ?_) (fun e => ?_)
    · walk_at "rd"
      refine newL fun a4 Ha4 na4 Sa4 ha4 => ?_
      walk_at "rd"
      have SB : Same H Ha4 := SA.trans Sa4
      refine ⟨l, rfl, ⟨_, SB.seq hs⟩, fun D nD => ?_⟩
      refine lc_ints (fun x => x + 1) (SB.seq hs) nD (by omega) (fun i x H' hx S' Q' hq => ?_) (fun H' S' h' => ?_)
      · walk_at "rd"
        refine ⟨rfl, ?_⟩
        walk_at "rd"
        exact hq H' (Same.refl _)
      · refine g_cat (xs := [6]) (S' _ _ ha4) h' (by simp; omega) fun a6 Ha6 na6 Sa6 ha6 => ?_
        walk_at "rd"
        refine ⟨a6, c, _, rfl, SqL.of ha6, by simp; omega, fun i hi => ?_, fun p2 H2 es np2 S2 h2 dr2 => ?_⟩
        · cases i with
          | zero => exact (by decide : (0 : Int) < 6 ∧ (6 : Int) < 2 ^ 64)
          | succ i =>
            have hi' : i < ls.length := by simpa using hi
            have e : (([6] : List Int) ++ ls.map fun x => x + 1).getD (i + 1) 0 = ls.getD i 0 + 1 := getD_map hi'
            have := hb _ (getD_mem hi')
            rw [e]; omega
        walk_at "rd"
        refine sl_draw (m := 6) (ms := ls.map fun x => x + 1) (((SB.trans S').trans Sa6).trans S2) h2 dr2 (fun i hi => ?_) fun p H' ss np S h hl hx => q p H' ss np S h (by rw [hl, List.length_map]) hx
        have hi' : i < ls.length := by simpa using hi
        have := hb _ (getD_mem hi')
        rw [getD_map hi']; omega
    · walk_at "rd"
      refine g_ite (fun e4 => ?_) (fun e4 => ?_)
      · walk_at "rd"
        refine newL fun a6 Ha6 na6 Sa6 ha6 => ?_
        walk_at "rd"
        refine ⟨a6, c, [6, ls.sum + 3], rfl, SqL.of ha6, by simp, fun i hi => ?_, fun p2 H2 es np2 S2 h2 dr2 => ?_⟩
        · have : i = 0 ∨ i = 1 := by have : i < 2 := by simpa using hi
                                     omega
          rcases this with z | z <;> subst z
          · exact (by decide : (0 : Int) < 6 ∧ (6 : Int) < 2 ^ 64)
          · exact (by omega : (0 : Int) < ls.sum + 3 ∧ ls.sum + 3 < 2 ^ 64)
        have g1 := dr2.at_ 1 (by simp)
        have g1b : es.getD 1 0 < ls.sum + 3 := g1.2
        refine g_ixL (SqL.of h2) (at_int (o := 1) (by rw [dr2.len]; simp)) ?_
        generalize hlv : es.getD 1 0 = lv at g1 g1b
        walk_at "rd"
        have SB : Same H H2 := (SA.trans Sa6).trans S2
        refine ⟨l, rfl, ⟨_, SB.seq hs⟩, fun D nD => ?_⟩
        refine lc_ints (fun _ => lv) (SB.seq hs) nD (by omega) (fun i x H' hx S' Q' hq => ?_) (fun H' S' h' => ?_)
        · walk_at "rd"
          refine ⟨rfl, ?_⟩
          walk_at "rd"
          exact hq H' (Same.refl _)
        · refine q D H' _ (SB.free nD) (SB.trans S') h' (by rw [List.length_map]) fun y hy => ?_
          obtain ⟨x, hx, rfl⟩ := List.mem_map.mp hy
          show 0 ≤ lv ∧ lv < _
          omega
      · walk_at "rd"
        refine ⟨l, _, rfl, .inl (SA.seq hs), ?_⟩
        rw [List.length_map]
        walk_at "rd"
        refine g_I ⟨by decide, by decide, by decide⟩ ?_
        walk_at "rd"
        refine newL fun a5 Ha5 na5 Sa5 ha5 => ?_
        walk_at "rd"
        have hm := at_toNat (zs := [3, (ls.length : Int) + 2, ls.sum + 3, 0, 0, 10 ^ (12 : Int).toNat + 1]) f0.1 (by simpa using f0b)
        generalize hsz : ([3, (ls.length : Int) + 2, ls.sum + 3, 0, 0, 10 ^ (12 : Int).toNat + 1] : List Int).getD fl.toNat 0 = sz at hm
        have hsz2 : 0 < sz ∧ sz < 2 ^ 64 := by
          have n3 : fl ≠ 3 := by simpa using e
          have n4 : fl ≠ 4 := by simpa using e4
          have hc : fl = 0 ∨ fl = 1 ∨ fl = 2 ∨ fl = 5 := by omega
          rcases hc with z | z | z | z <;> (subst z; subst hsz)
          · exact (by decide : (0 : Int) < 3 ∧ (3 : Int) < 2 ^ 64)
          · exact (by omega : (0 : Int) < (ls.length : Int) + 2 ∧ (ls.length : Int) + 2 < 2 ^ 64)
          · exact (by omega : (0 : Int) < ls.sum + 3 ∧ ls.sum + 3 < 2 ^ 64)
          · exact (by decide : (0 : Int) < 10 ^ (12 : Int).toNat + 1 ∧ (10 : Int) ^ (12 : Int).toNat + 1 < 2 ^ 64)
        refine g_ixL (xs := ([3, (ls.length : Int) + 2, ls.sum + 3, 0, 0, 10 ^ (12 : Int).toNat + 1] : List Int).map V.int) (SqL.of ha5) hm ?_
        walk_at "rd"
        refine newL fun a3 Ha3 na3 Sa3 ha3 => ?_
        walk_at "rd"
        refine newL fun a4 Ha4 na4 Sa4 ha4 => ?_
        walk_at "rd"
        have SC : Same H Ha4 := (((SA.trans Sa5).trans Sa3).trans Sa4)
        refine ⟨l, _, rfl, .inl (SC.seq hs), ?_⟩
        rw [List.length_map]
        refine g_rep1 (k := ls.length) ha4 (by omega) fun a7 Ha7 na7 Sa7 ha7 => ?_
        have S5 : Same Ha3 Ha7 := Sa4.trans Sa7
        refine g_cat (xs := [6]) (S5 _ _ ha3) ha7 (by rw [List.length_replicate]; simp; omega) fun a6 Ha6 na6 Sa6 ha6 => ?_
        walk_at "rd"
        refine ⟨a6, c, _, rfl, SqL.of ha6, by simp; omega, fun i hi => ?_, fun p2 H2 es np2 S2 h2 dr2 => ?_⟩
        · cases i with
          | zero => exact (by decide : (0 : Int) < 6 ∧ (6 : Int) < 2 ^ 64)
          | succ i =>
            have hi' : i < ls.length := by simpa using hi
            have e : (([6] : List Int) ++ List.replicate ls.length sz).getD (i + 1) 0 = sz := getD_rep hi'
            rw [e]; omega
        walk_at "rd"
        refine sl_draw (m := 6) (ms := List.replicate ls.length sz) (((SC.trans Sa7).trans Sa6).trans S2) h2 dr2 (fun i hi => ?_) fun p H' ss np S h hl hx => q p H' ss np S h (by rw [hl, List.length_replicate]) hx
        have hi' : i < ls.length := by simpa using hi
        rw [getD_rep hi']; omega
/-! ### -/
end
end Rt
set_option Elab.async false
set_option linter.all false
set_option maxRecDepth 100000
set_option maxHeartbeats 4000000
namespace Rt
open PySem PySem.Spec L2
open PyProof.Rows (envOfC)
open LamX (CodeO TabS Tabs TabB)
local macro_rules | `(tactic| walk_at "rd1") => `(tactic| (with_reducible first
  | refine g_var (by with_unfolding_all rfl) ?_
  | refine g_c ?_
  | refine g_op ?_
  | refine g_I0 ?_
  | refine g_eqI ?_
  | refine g_neI ?_
  | refine g_eqB ?_
  | refine g_neB ?_
  | refine g_cons ?_
  | refine g_nil ?_
  | refine g_seq ?_
  | refine g_asg ?_
  | refine g_name ?_
  | refine g_ret ?_
  | refine g_retN ?_
  | refine g_drop ?_
  | refine g_next ?_
  | refine g_if ?_
  | refine g_test ?_
  | refine g_tB ?_
  | refine g_bl ?_
  | refine g_and ?_
  | refine g_or ?_
  | refine g_not ?_
  | refine g_andV ?_
  | refine g_orV ?_
  | refine g_notV ?_
  | refine g_ifE ?_
  | refine g_cb ?_
  | refine g_meth ?_
  | refine g_rev ?_
  | refine g_gcons ?_
  | refine g_gnil ?_
  | refine g_isB' ?_
  | refine g_gsub ?_
  | refine g_call ?_
  | refine g_callS ?_
  | refine g_bm ?_
  | refine g_un ?_
  | refine g_U ?_
  | refine g_chain ?_
  | refine g_sl ?_
  | refine g_brk ?_
  | refine g_ct ?_
  | refine g_ipI ?_
  | refine g_fld ?_
  | refine g_lst ?_
  | refine g_int ?_
  | refine g_for ?_
  | refine g_rg1 ?_
  | refine g_rg2 ?_
  | refine g_il ?_
  | refine g_it ?_
  | refine g_lc ?_
  | refine g_yes ?_
  | refine g_tup ?_
  | refine g_part ?_
  | refine g_xf ?_
  | refine g_nn ?_
  | refine g_mko ?_
  | refine g_lrg ?_
  | refine g_tr1 ?_
  | refine g_tr2 ?_
  | refine g_oi2 ?_
  | refine g_mk ?_
  | refine g_sfld ?_
  | refine g_ost ?_
  | refine g_oi ?_
  | refine g_nopart ?_
  | refine g_tt ?_
  | refine g_ff ?_
  | refine g_nt ?_
  | refine g_nf ?_
  | refine g_drn ?_
  | refine g_din ?_
  | refine g_dnn ?_
  | refine g_nrn ?_
  | refine g_nin ?_
  | refine g_nnn ?_))
local macro_rules | `(tactic| walk_at "rd") => `(tactic| (repeat walk_at "rd1"))

section
variable {P : Program} {w : World} {K : PySem.W.Frag} {mg : Str → Option Value} {base : Heap} {f : Addr} {fd : FuncData} {A : Ad}
theorem flat2 {c : Nat} {x : Int} : (List.replicate c [x]).flatten = List.replicate c x := by
  induction c with
  | zero => rfl
  | succ c ih => rw [List.replicate_succ, List.flatten_cons, ih, List.replicate_succ]; rfl
theorem cons_rep {a b : Int} {c i : Nat} (h : i < 1 + c) : ([a] ++ List.replicate c b).getD i 0 = if i = 0 then a else b := by
  cases i with
  | zero => rfl
  | succ i =>
    show (List.replicate c b).getD i 0 = _
    rw [getD_rep (by omega), if_neg (by omega)]
/-- drawn: a first number below a, c more below b -/
theorem bits_of {a b : Int} {c : Nat} {ds : List Int} (dr : Dr ([a] ++ List.replicate c b) ds) : ds.length = 1 + c ∧ (0 ≤ ds.getD 0 0 ∧ ds.getD 0 0 < a) ∧ ∀ k, k < c → 0 ≤ ds.getD (1 + k) 0 ∧ ds.getD (1 + k) 0 < b := by
  have l : ([a] ++ List.replicate c b).length = 1 + c := by rw [List.length_append, List.length_replicate]; rfl
  refine ⟨by rw [dr.len, l], ?_, fun k hk => ?_⟩
  · have := dr.at_ 0 (by rw [l]; omega)
    rw [cons_rep (by omega), if_pos rfl] at this
    exact this
  · have := dr.at_ (1 + k) (by rw [l]; omega)
    rw [cons_rep (by omega), if_neg (by omega)] at this
    exact this
theorem rep_ok {a b : Int} {c : Nat} (ha : 0 < a ∧ a < 2 ^ 64) (hb : 0 < b ∧ b < 2 ^ 64) : ∀ i, i < ([a] ++ List.replicate c b).length → 0 < ([a] ++ List.replicate c b).getD i 0 ∧ ([a] ++ List.replicate c b).getD i 0 < 2 ^ 64 := fun i hi => by
  rw [List.length_append, List.length_replicate] at hi
  rw [cons_rep (by simpa using hi)]
  split
  · exact ha
  · exact hb
/-! ### -/
end
end Rt
set_option Elab.async false
set_option linter.all false
set_option maxRecDepth 100000
set_option maxHeartbeats 4000000
namespace Rt
open PySem PySem.Spec L2
open PyProof.Rows (envOfC)
open LamX (CodeO TabS Tabs TabB)
local macro_rules | `(tactic| walk_at "rd1") => `(tactic| (with_reducible first
  | refine g_var (by with_unfolding_all rfl) ?_
  | refine g_c ?_
  | refine g_op ?_
  | refine g_I0 ?_
  | refine g_eqI ?_
  | refine g_neI ?_
  | refine g_eqB ?_
  | refine g_neB ?_
  | refine g_cons ?_
  | refine g_nil ?_
  | refine g_seq ?_
  | refine g_asg ?_
  | refine g_name ?_
  | refine g_ret ?_
  | refine g_retN ?_
  | refine g_drop ?_
  | refine g_next ?_
  | refine g_if ?_
  | refine g_test ?_
  | refine g_tB ?_
  | refine g_bl ?_
  | refine g_and ?_
  | refine g_or ?_
  | refine g_not ?_
  | refine g_andV ?_
  | refine g_orV ?_
  | refine g_notV ?_
  | refine g_ifE ?_
  | refine g_cb ?_
  | refine g_meth ?_
  | refine g_rev ?_
  | refine g_gcons ?_
  | refine g_gnil ?_
  | refine g_isB' ?_
  | refine g_gsub ?_
  | refine g_call ?_
  | refine g_callS ?_
  | refine g_bm ?_
  | refine g_un ?_
  | refine g_U ?_
  | refine g_chain ?_
  | refine g_sl ?_
  | refine g_brk ?_
  | refine g_ct ?_
  | refine g_ipI ?_
  | refine g_fld ?_
  | refine g_lst ?_
  | refine g_int ?_
  | refine g_for ?_
  | refine g_rg1 ?_
  | refine g_rg2 ?_
  | refine g_il ?_
  | refine g_it ?_
  | refine g_lc ?_
  | refine g_yes ?_
  | refine g_tup ?_
  | refine g_part ?_
  | refine g_xf ?_
  | refine g_nn ?_
  | refine g_mko ?_
  | refine g_lrg ?_
  | refine g_tr1 ?_
  | refine g_tr2 ?_
  | refine g_oi2 ?_
  | refine g_mk ?_
  | refine g_sfld ?_
  | refine g_ost ?_
  | refine g_oi ?_
  | refine g_nopart ?_
  | refine g_tt ?_
  | refine g_ff ?_
  | refine g_nt ?_
  | refine g_nf ?_
  | refine g_drn ?_
  | refine g_din ?_
  | refine g_dnn ?_
  | refine g_nrn ?_
  | refine g_nin ?_
  | refine g_nnn ?_))
local macro_rules | `(tactic| walk_at "rd") => `(tactic| (repeat walk_at "rd1"))

section
variable {P : Program} {w : World} {K : PySem.W.Frag} {mg : Str → Option Value} {base : Heap} {f : Addr} {fd : FuncData} {A : Ad}
/-! ### _law_heads -/
def spHeads (K : PySem.W.Frag) : Sp := fun vs H Q _ => ∃ (sa : Addr) (ls : List Int) (k : Nat) (a : Int), vs = [.ref sa, .int (k : Int), .int a] ∧ SqL K H sa (ls.map V.int) ∧ Ps ls ∧ k < ls.length ∧ ls.length ≤ 900 ∧ ∀ (t : Addr) (H' : Hp), H t = none → Same H H' → H' t = some (.lst (nI (hdF ls k a))) → Q (.ref t) H'
theorem ok_heads (F : Fun K "_law_heads" "_law_heads" s__law_heads f fd) (T : Txt K mg A) : FnOk P w K mg base CX0 1 f fd ["sizes", "first", "arc"] (spHeads K) := by
  refine F.ok sc__law_heads (fun vs H Q E h => ?_) (fun cdv A1 outer s H vs Q E hr h => ?_)
  · obtain ⟨sa, ls, k, a, rfl, _⟩ := h
    rfl
  · obtain ⟨sa, ls, k, a, rfl, hs, hl, kl, n9, q⟩ := h
    have h0 : 0 < ls.length := by omega
    have nope : (∀ S, ¬ Steps ls k a S) → nI (hdF ls k a) = [] := fun no => by
      rw [← HdR.eq (r := []) (.inr ⟨rfl, no⟩) hl h0]; rfl
    refine ⟨_, (pss_cons (ps_set (i := 3) sc__law_heads.nd rfl (Or.inl rfl) (pe_lst pa_nil))
      (pss_cons (ps_set (i := 4) sc__law_heads.nd rfl (Or.inl rfl) pe_int)
      (pss_cons (ps_for (PassesOwn.never) rfl (pi_range1 rfl T.m_range (pa_cons (pe_callB (call_lenK K) (by rfl) T.m_len PySem.boot_len (pa_cons (pv 0) pa_nil)) pa_nil)) (pg_name (i := 5) sc__law_heads.nd rfl (Or.inl rfl)) (pss_cons (ps_set (i := 6) sc__law_heads.nd rfl (Or.inl rfl) (pe_op op_mod (pe_callTy call_int1 (by rfl) T.m_int (by decide +kernel) (pa_cons (pe_op op_add (pv 1) (pv 5)) pa_nil)) (pe_callB (call_lenK K) (by rfl) T.m_len PySem.boot_len (pa_cons (pv 0) pa_nil))))
      (pss_cons (ps_if (pt_cmpR op_eq (pv 4) pe_int (nomark _)) (pss_one (ps_expr (pe_appK K (pv 3) (pa_cons (pv 6) pa_nil)))) pss_nil)
      (pss_cons (ps_set (i := 4) sc__law_heads.nd rfl (Or.inl rfl) (pe_op op_add (pv 4) (pe_ix (ix_listK K) (pv 0) (pv 6) (fun _ _ => rfl))))
      (pss_cons (ps_if (pt_cmpR op_gt (pv 4) (pv 2) (nomark _)) (pss_one (ps_ret (pe_lst pa_nil))) pss_nil)
      (pss_one (ps_if (pt_cmpR op_eq (pv 4) (pv 2) (nomark _)) (pss_one (ps_set (i := 4) sc__law_heads.nd rfl (Or.inl rfl) pe_int)) pss_nil)))))))
      (pss_cons (ps_if (pt_cmpR op_ne (pv 4) pe_int (nomark _)) (pss_one (ps_ret (pe_lst pa_nil))) pss_nil)
      (pss_one (ps_ret (pe_callB (cr_sortedIK K) (by rfl) T.m_sorted (by decide +kernel) (pa_cons (pv 3) pa_nil)))))))), ?_⟩
    walk_at "rd"
    refine newL fun ha H1 nha S1 hha => ?_
    walk_at "rd"
    refine ⟨sa, _, rfl, .inl (S1.seq hs), ?_⟩
    rw [List.length_map]
    walk_at "rd"
    refine ⟨_, rfl, by omega, by omega, for_range (lo := 0) (fun i σ H' => ∃ (v5 v6 : Option V) (run : Int) (S : List Nat), σ = [some (.ref sa), some (.int (k : Int)), some (.int a), some (.ref ha), some (.int run), v5, v6] ∧ Same H H' ∧ H' ha = some (.lst (nI (S.map (plc ls.length k)))) ∧ WkI ls k a i run S ∧ S.length ≤ i) ⟨none, none, 0, [], rfl, S1, hha, WkI.init, Nat.le_refl _⟩ ?_ ?_⟩
    · rintro i σ H' hi ⟨v5, v6, run, S, rfl, S', hh, wk, sl⟩
      have hi' : i < ls.length := by omega
      rw [Int.zero_add]
      walk_at "rd"
      refine ⟨sa, _, rfl, .inl (S'.seq hs), ?_⟩
      rw [List.length_map]
      refine g_I (by omega) ?_
      rw [show ((k : Int) + (i : Int)) % (ls.length : Int) = (((k + i) % ls.length : Nat) : Int) by rw [← Int.natCast_add, Int.natCast_emod]]
      have pl : (k + i) % ls.length < ls.length := Nat.mod_lt _ h0
      refine g_name ?_
      dsimp only
      refine g_seq ?_
      refine g_st ([some (.ref sa), some (.int (k : Int)), some (.int a), some (.ref ha), some (.int run), some (.int (i : Int)), some (.int (((k + i) % ls.length : Nat) : Int))]) rfl ?_
      refine g_join (fun σ' H2 => σ' = [some (.ref sa), some (.int (k : Int)), some (.int a), some (.ref ha), some (.int run), some (.int (i : Int)), some (.int (((k + i) % ls.length : Nat) : Int))] ∧ Same H H2 ∧ H2 ha = some (.lst (nI ((if run = 0 then S ++ [i] else S).map (plc ls.length k))))) ?_ ?_
      · intro D' hD'
        walk_at "rd"
        refine g_ite (fun e => ?_) (fun e => ?_)
        · walk_at "rd"
          refine ⟨ty_l hh, ?_⟩
          walk_at "rd"
          refine g_app hh (by rw [nI_len, List.length_map]; exact slt1000 (by omega)) ?_
          refine hD' _ _ ⟨rfl, S'.mut nha, ?_⟩
          rw [upd_same, if_pos (of_decide_eq_true e), List.map_append, nI_app]; rfl
        · walk_at "rd"
          refine hD' _ _ ⟨rfl, S', ?_⟩
          rw [if_neg (of_decide_eq_false e)]; exact hh
      · clear hh S'
        rintro σ' H2 ⟨rfl, S2, hh⟩
        walk_at "rd"
        refine g_ixL (S2.seq hs) (at_int pl) ?_
        walk_at "rd"
        refine g_ite (fun e => ?_) (fun e => ?_)
        · walk_at "rd"
          refine newL fun e0 H3 ne0 S3 he0 => ?_
          have no := wk.no hl h0 hi' (of_decide_eq_true e)
          exact q e0 H3 (S2.free ne0) (S2.trans S3) (by rw [nope no]; exact he0)
        · have le : run + ls.getD ((k + i) % ls.length) 0 ≤ a := by have := of_decide_eq_false e; omega
          have wn := wk.next hl h0 le
          walk_at "rd"
          refine g_ifset (.int 0) (.int (run + ls.getD ((k + i) % ls.length) 0)) rfl (fun Q' hq => ?_) ?_
          · walk_at "rd"
            exact hq
          rw [ite_int]
          refine ⟨_, _, _, _, rfl, S2, hh, ?_, ?_⟩
          · rw [show (if decide (run + ls.getD ((k + i) % ls.length) 0 = a) = true then (0 : Int) else run + ls.getD ((k + i) % ls.length) 0) = if run + ls.getD ((k + i) % ls.length) 0 = a then 0 else run + ls.getD ((k + i) % ls.length) 0 by simp]
            exact wn
          · split
            · rw [List.length_append]; show S.length + 1 ≤ _; omega
            · omega
    · rintro σ H' ⟨v5, v6, run, S, rfl, S', hh, wk, sl⟩
      rw [show ((ls.length : Int)).toNat = ls.length by omega] at wk
      walk_at "rd"
      refine g_ite (fun e => ?_) (fun e => ?_)
      · have ne : run ≠ 0 := by simpa using e
        walk_at "rd"
        refine newL fun e0 H3 ne0 S3 he0 => ?_
        exact q e0 H3 (S'.free ne0) (S'.trans S3) (by rw [nope (wk.left ne)]; exact he0)
      · have e0 : run = 0 := by simpa using e
        subst e0
        have st := wk.done hl h0
        walk_at "rd"
        refine ⟨ha, iI (S.map (plc ls.length k)), rfl, SqL.of (by rw [← nI_eq]; exact hh), fun ns' p pm pw np => ?_⟩
        obtain ⟨r, rfl, pr, pwr⟩ := int_perm pm pw
        have er : r = hdF ls k a := HdR.eq (.inl ⟨S, st, pr, pwr⟩) hl h0
        exact q p _ (S'.free np) (S'.trans (Same.new np)) (by rw [upd_same, ← er, nI_eq])
/-! ### -/
end
end Rt
set_option Elab.async false
set_option linter.all false
set_option maxRecDepth 100000
set_option maxHeartbeats 4000000
namespace Rt
open PySem PySem.Spec L2
open PyProof.Rows (envOfC)
local macro_rules | `(tactic| walk_at "rd1") => `(tactic| (with_reducible first
  | refine g_var (by with_unfolding_all rfl) ?_
  | refine g_c ?_
  | refine g_op ?_
  | refine g_I0 ?_
  | refine g_eqI ?_
  | refine g_neI ?_
  | refine g_eqB ?_
  | refine g_neB ?_
  | refine g_cons ?_
  | refine g_nil ?_
  | refine g_seq ?_
  | refine g_asg ?_
  | refine g_name ?_
  | refine g_ret ?_
  | refine g_retN ?_
  | refine g_drop ?_
  | refine g_next ?_
  | refine g_if ?_
  | refine g_test ?_
  | refine g_tB ?_
  | refine g_bl ?_
  | refine g_and ?_
  | refine g_or ?_
  | refine g_not ?_
  | refine g_andV ?_
  | refine g_orV ?_
  | refine g_notV ?_
  | refine g_ifE ?_
  | refine g_cb ?_
  | refine g_meth ?_
  | refine g_rev ?_
  | refine g_gcons ?_
  | refine g_gnil ?_
  | refine g_isB' ?_
  | refine g_gsub ?_
  | refine g_call ?_
  | refine g_callS ?_
  | refine g_bm ?_
  | refine g_un ?_
  | refine g_U ?_
  | refine g_chain ?_
  | refine g_sl ?_
  | refine g_brk ?_
  | refine g_ct ?_
  | refine g_ipI ?_
  | refine g_fld ?_
  | refine g_lst ?_
  | refine g_int ?_
  | refine g_for ?_
  | refine g_rg1 ?_
  | refine g_rg2 ?_
  | refine g_il ?_
  | refine g_it ?_
  | refine g_lc ?_
  | refine g_yes ?_
  | refine g_tup ?_
  | refine g_part ?_
  | refine g_xf ?_
  | refine g_nn ?_
  | refine g_mko ?_
  | refine g_lrg ?_
  | refine g_tr1 ?_
  | refine g_tr2 ?_
  | refine g_oi2 ?_
  | refine g_mk ?_
  | refine g_sfld ?_
  | refine g_ost ?_
  | refine g_oi ?_
  | refine g_nopart ?_
  | refine g_tt ?_
  | refine g_ff ?_
  | refine g_nt ?_
  | refine g_nf ?_
  | refine g_drn ?_
  | refine g_din ?_
  | refine g_dnn ?_
  | refine g_nrn ?_
  | refine g_nin ?_
  | refine g_nnn ?_))
local macro_rules | `(tactic| walk_at "rd") => `(tactic| (repeat walk_at "rd1"))

section
variable {P : Program} {w : World} {K : PySem.W.Frag} {mg : Str → Option Value} {base : Heap} {f : Addr} {fd : FuncData} {A : Ad}
/-! ### standings that are drawn -/
theorem stOk_of {ss ls : List Int} (h0 : 0 < ls.length) (hn : ls.length ≤ 900) (e : ss.length = ls.length) (h1 : ∀ x ∈ ss, 0 ≤ x ∧ x < 1000000000001) (h2 : ∀ x ∈ ls, 1 ≤ x ∧ x ≤ 1000000000) : StOk ss ls :=
  ⟨by omega, by omega, e.symm, fun x hx => (h1 x hx).1, fun x hx => (h2 x hx).1⟩
theorem places_of {ds : List Int} {n : Nat} (h : ∀ x ∈ ds, 0 ≤ x ∧ x < (n : Int)) : ∃ ps : List Nat, ds.map V.int = nI ps ∧ ps.length = ds.length ∧ ∀ p ∈ ps, p < n := by
  refine ⟨ds.map Int.toNat, ?_, List.length_map _, fun p hp => ?_⟩
  · unfold nI
    rw [List.map_map]
    refine List.map_congr_left fun x hx => ?_
    have := (h x hx).1
    show V.int x = V.int ((x.toNat : Nat) : Int)
    rw [Int.toNat_of_nonneg this]
  · obtain ⟨x, hx, rfl⟩ := List.mem_map.mp hp
    have := h x hx
    omega
theorem Dr.all {ns ds : List Int} (h : Dr ns ds) {n : Int} (hn : ∀ x ∈ ns, x = n) : ∀ x ∈ ds, 0 ≤ x ∧ x < n := fun x hx => by
  obtain ⟨i, hi, rfl⟩ := mem_getD hx
  have hi' : i < ns.length := by rw [← h.len]; exact hi
  have a := h.at_ i hi'
  rw [hn _ (getD_mem hi')] at a
  exact a
/-! ### woken -/
def wok (r : Bool) (ss ls : List Int) (ps : List Nat) : List Int := ps.foldl (fun e p => e.set p (rch r ss ls p)) ss
theorem wok_len {r : Bool} {ss ls : List Int} (ps : List Nat) : (wok r ss ls ps).length = ss.length := by
  unfold wok
  suffices h : ∀ (ps : List Nat) (e : List Int), (ps.foldl (fun e p => e.set p (rch r ss ls p)) e).length = e.length from h ps ss
  intro ps
  induction ps with
  | nil => intro e; rfl
  | cons p ps ih => intro e; rw [List.foldl_cons, ih, List.length_set]
theorem wok_app {r : Bool} {ss ls : List Int} (ps : List Nat) (p : Nat) : wok r ss ls (ps ++ [p]) = (wok r ss ls ps).set p (rch r ss ls p) := by
  unfold wok
  rw [List.foldl_append]; rfl
theorem wok_nn {r : Bool} {ss ls : List Int} (ok : StOk ss ls) (ps : List Nat) (hps : ∀ p ∈ ps, p < ss.length) : ∀ x ∈ wok r ss ls ps, 0 ≤ x := by
  unfold wok
  suffices h : ∀ (ps : List Nat) (e : List Int), (∀ p ∈ ps, p < ss.length) → (∀ x ∈ e, 0 ≤ x) → ∀ x ∈ ps.foldl (fun e p => e.set p (rch r ss ls p)) e, 0 ≤ x from h ps ss hps ok.s0
  intro ps
  induction ps with
  | nil => intro e _ h; exact h
  | cons p ps ih =>
    intro e hp h
    rw [List.foldl_cons]
    refine ih _ (fun y hy => hp y (List.mem_cons_of_mem _ hy)) fun x hx => ?_
    rcases List.mem_or_eq_of_mem_set hx with z | z
    · exact h x z
    · have hp' := hp p List.mem_cons_self
      have a := ok.pos.pos p hp'
      have b := sm_ge0 (ls := ls) (trn r ss p) fun o ho => by have := ok.pos.pos o (trn_lt hp' o ho); omega
      rw [z, rch_eq]; omega
/-! ### _law_numbers, the due ones a tuple -/
def spNumbersT (K : PySem.W.Frag) : Sp := fun vs H Q _ => ∃ (a l : Addr) (b : Bool) (xs ys : List Int), vs = [.ref a, .ref l, .bl b] ∧ SeqAt' H b a xs ∧ SqT K H l (ys.map V.int) ∧ ys.length ≤ 100000 ∧ Q (.bl (decide (xs = ys))) H
theorem ok_numbersT (F : Fun K "_law_numbers" "_law_numbers" s__law_numbers f fd) (T : Txt K mg A) (D__law_is_integer : DefOk P w K mg base CX0 1 "_law_is_integer" ["actual"] Rt.spInt) : FnOk P w K mg base CX0 2 f fd ["actual", "due", "as_tuple"] (spNumbersT K) := by
  refine F.ok sc__law_numbers (fun vs H Q E h => ?_) (fun cdv A1 outer s H vs Q E hr h => ?_)
  · obtain ⟨a, l, b, xs, ys, rfl, _⟩ := h
    rfl
  · obtain ⟨a, l, b, xs, ys, rfl, ha, hs, hy, q⟩ := h
    refine ⟨_, (pss_cons (ps_if (PW.pt (pw_or (PW.pt (pw_and (pt_val (pv 2)) (pw_and1 (pt_not (pt_val (pe_callB (call_isiQ K) (by rfl) T.m_isinstance (by decide +kernel) (pa_cons (pv 0) (pa_cons (pe_bltn (v := .ty "tuple") (by rfl) T.m_tuple (by decide +kernel) rfl) pa_nil)))))))) (pw_or1 (PW.pt (pw_and (pt_not (pt_val (pv 2))) (pw_and1 (pt_not (pt_val (pe_callB (call_isiQ K) (by rfl) T.m_isinstance (by decide +kernel) (pa_cons (pv 0) (pa_cons (pe_bltn (v := .ty "list") (by rfl) T.m_list (by decide +kernel) rfl) pa_nil))))))))))) (pss_one (ps_ret pe_bl)) pss_nil)
      (pss_cons (ps_if (pt_cmpR op_ne (pe_callB (call_lenK K) (by rfl) T.m_len PySem.boot_len (pa_cons (pv 0) pa_nil)) (pe_callB (call_lenK K) (by rfl) T.m_len PySem.boot_len (pa_cons (pv 1) pa_nil)) (nomark _)) (pss_one (ps_ret pe_bl)) pss_nil)
      (pss_cons (ps_for (PassesOwn.never) rfl (pi_range1 rfl T.m_range (pa_cons (pe_callB (call_lenK K) (by rfl) T.m_len PySem.boot_len (pa_cons (pv 1) pa_nil)) pa_nil)) (pg_name (i := 3) sc__law_numbers.nd rfl (Or.inl rfl)) (pss_one (ps_if (PW.pt (pw_or (pt_not (pt_val (pe_callD D__law_is_integer (hr.mono (by decide)) pass0 (pa_cons (pe_ix (ix_seqK K) (pv 0) (pv 3) (fun _ _ => rfl)) pa_nil)))) (pw_or1 (pt_cmpR op_ne (pe_ix (ix_seqK K) (pv 0) (pv 3) (fun _ _ => rfl)) (pe_ix (ix_tupK K) (pv 1) (pv 3) (fun _ _ => rfl)) (nomark _))))) (pss_one (ps_ret pe_bl)) pss_nil)))
      (pss_one (ps_ret pe_bl))))), ?_⟩
    have hlen : SqL K H a (xs.map V.int) ∨ SqT K H a (xs.map V.int) := by
      cases b with
      | true => exact .inr (SqT.of ha)
      | false => exact .inl (SqL.of ha)
    have hix : ∀ (i : Nat) (Q : VK), i < xs.length → Q (.int (xs.getD i 0)) H → rIx K (.ref a) (.int (i : Int)) H Q := fun i Q hi h => by
      cases b with
      | true => exact .inr (.inl (g_ixT (SqT.of ha) (at_int hi) h))
      | false => exact .inl (g_ixL (SqL.of ha) (at_int hi) h)
    have step : ∀ (i : Nat), i < ys.length → i < xs.length → (∀ j, j < i → xs.getD j 0 = ys.getD j 0) → xs.getD i 0 = ys.getD i 0 → ∀ j, j < i + 1 → xs.getD j 0 = ys.getD j 0 := fun i _ _ h h2 j hj => by
      rcases Nat.lt_succ_iff_lt_or_eq.mp hj with z | z
      · exact h j z
      · rw [z]; exact h2
    cases b
    all_goals
      walk_at "rd"
      refine g_isi (b := true) (.base (by first | exact .tup ha | exact .lst ha)) (by decide +kernel) ?_
      walk_at "rd"
      refine ⟨a, _, rfl, hlen, ?_⟩
      walk_at "rd"
      refine ⟨l, _, rfl, .inr hs, ?_⟩
      rw [List.length_map, List.length_map]
      walk_at "rd"
      refine g_ite (fun e => ?_) (fun e => ?_)
      · walk_at "rd"
        have ne : ¬ xs = ys := fun z => by
          rw [z] at e; simp at e
        rw [decide_eq_false ne] at q
        exact q
      · have el : xs.length = ys.length := by
          have := e; simp at this
          omega
        walk_at "rd"
        refine ⟨l, _, rfl, .inr hs, ?_⟩
        rw [List.length_map]
        walk_at "rd"
        refine ⟨_, rfl, by omega, by omega, ?_⟩
        refine for_range (lo := 0) (fun i σ H' => ∃ v3 : Option V, σ = [some (.ref a), some (.ref l), some (.bl _), v3] ∧ H' = H ∧ ∀ j, j < i → xs.getD j 0 = ys.getD j 0) ⟨none, rfl, rfl, fun j h => absurd h (Nat.not_lt_zero j)⟩ ?_ ?_
        · rintro i σ H' hi ⟨v3, rfl, rfl, hin⟩
          have hi' : i < ys.length := by simpa using hi
          rw [Int.zero_add]
          walk_at "rd"
          refine hix i _ (by omega) ?_
          walk_at "rd"
          refine ⟨_, rfl, ?_⟩
          walk_at "rd"
          refine hix i _ (by omega) ?_
          walk_at "rd"
          refine g_ixT hs (at_int hi') ?_
          walk_at "rd"
          refine g_ite (fun e2 => ?_) (fun e2 => ?_)
          · walk_at "rd"
            have ne : ¬ xs = ys := fun z => by
              rw [z] at e2; simp at e2
            rw [decide_eq_false ne] at q
            exact q
          · walk_at "rd"
            have h2 : xs.getD i 0 = ys.getD i 0 := by simpa using e2
            exact ⟨_, rfl, rfl, step i hi' (by omega) hin h2⟩
        · rintro σ H' ⟨v3, rfl, rfl, hin⟩
          walk_at "rd"
          have e3 : xs = ys := ext_getD el fun i hi => hin i (by simpa using (by omega : i < ys.length))
          rw [decide_eq_true e3] at q
          exact q
/-! ### -/
end
end Rt
set_option Elab.async false
set_option linter.all false
set_option maxRecDepth 100000
set_option maxHeartbeats 4000000
namespace Rt
open PySem PySem.Spec L2
open PyProof.Rows (envOfC)
open LamX (CodeO TabS Tabs TabB)
local macro_rules | `(tactic| walk_at "rd1") => `(tactic| (with_reducible first
  | refine g_var (by with_unfolding_all rfl) ?_
  | refine g_c ?_
  | refine g_op ?_
  | refine g_I0 ?_
  | refine g_eqI ?_
  | refine g_neI ?_
  | refine g_eqB ?_
  | refine g_neB ?_
  | refine g_cons ?_
  | refine g_nil ?_
  | refine g_seq ?_
  | refine g_asg ?_
  | refine g_name ?_
  | refine g_ret ?_
  | refine g_retN ?_
  | refine g_drop ?_
  | refine g_next ?_
  | refine g_if ?_
  | refine g_test ?_
  | refine g_tB ?_
  | refine g_bl ?_
  | refine g_and ?_
  | refine g_or ?_
  | refine g_not ?_
  | refine g_andV ?_
  | refine g_orV ?_
  | refine g_notV ?_
  | refine g_ifE ?_
  | refine g_cb ?_
  | refine g_meth ?_
  | refine g_rev ?_
  | refine g_gcons ?_
  | refine g_gnil ?_
  | refine g_isB' ?_
  | refine g_gsub ?_
  | refine g_call ?_
  | refine g_callS ?_
  | refine g_bm ?_
  | refine g_un ?_
  | refine g_U ?_
  | refine g_chain ?_
  | refine g_sl ?_
  | refine g_brk ?_
  | refine g_ct ?_
  | refine g_ipI ?_
  | refine g_fld ?_
  | refine g_lst ?_
  | refine g_int ?_
  | refine g_for ?_
  | refine g_rg1 ?_
  | refine g_rg2 ?_
  | refine g_il ?_
  | refine g_it ?_
  | refine g_lc ?_
  | refine g_yes ?_
  | refine g_tup ?_
  | refine g_part ?_
  | refine g_xf ?_
  | refine g_nn ?_
  | refine g_mko ?_
  | refine g_lrg ?_
  | refine g_tr1 ?_
  | refine g_tr2 ?_
  | refine g_oi2 ?_
  | refine g_mk ?_
  | refine g_sfld ?_
  | refine g_ost ?_
  | refine g_oi ?_
  | refine g_nopart ?_
  | refine g_tt ?_
  | refine g_ff ?_
  | refine g_nt ?_
  | refine g_nf ?_
  | refine g_drn ?_
  | refine g_din ?_
  | refine g_dnn ?_
  | refine g_nrn ?_
  | refine g_nin ?_
  | refine g_nnn ?_))
local macro_rules | `(tactic| walk_at "rd") => `(tactic| (repeat walk_at "rd1"))

local macro_rules | `(tactic| walk_at "rd1") => `(tactic| (with_reducible first
  | refine g_max2 ?_
  | refine g_min2 ?_))
section
variable {P : Program} {w : World} {K : PySem.W.Frag} {mg : Str → Option Value} {base : Heap} {f : Addr} {fd : FuncData} {A : Ad}
/-! ### woken -/
theorem StOk.wok {r : Bool} {ss ls : List Int} (ok : StOk ss ls) {ps : List Nat} (hps : ∀ p ∈ ps, p < ss.length) : StOk (Rt.wok r ss ls ps) ls := ⟨by rw [wok_len]; exact ok.n0, by rw [wok_len]; exact ok.n1, by rw [wok_len]; exact ok.len, wok_nn ok _ hps, ok.l1⟩
/-! ### -/
end
end Rt
set_option Elab.async false
set_option linter.all false
set_option maxRecDepth 100000
set_option maxHeartbeats 4000000
namespace Rt
open PySem PySem.Spec L2
open PyProof.Rows (envOfC)
open LamX (CodeO TabS Tabs TabB)
local macro_rules | `(tactic| walk_at "rd1") => `(tactic| (with_reducible first
  | refine g_var (by with_unfolding_all rfl) ?_
  | refine g_c ?_
  | refine g_op ?_
  | refine g_I0 ?_
  | refine g_eqI ?_
  | refine g_neI ?_
  | refine g_eqB ?_
  | refine g_neB ?_
  | refine g_cons ?_
  | refine g_nil ?_
  | refine g_seq ?_
  | refine g_asg ?_
  | refine g_name ?_
  | refine g_ret ?_
  | refine g_retN ?_
  | refine g_drop ?_
  | refine g_next ?_
  | refine g_if ?_
  | refine g_test ?_
  | refine g_tB ?_
  | refine g_bl ?_
  | refine g_and ?_
  | refine g_or ?_
  | refine g_not ?_
  | refine g_andV ?_
  | refine g_orV ?_
  | refine g_notV ?_
  | refine g_ifE ?_
  | refine g_cb ?_
  | refine g_meth ?_
  | refine g_rev ?_
  | refine g_gcons ?_
  | refine g_gnil ?_
  | refine g_isB' ?_
  | refine g_gsub ?_
  | refine g_call ?_
  | refine g_callS ?_
  | refine g_bm ?_
  | refine g_un ?_
  | refine g_U ?_
  | refine g_chain ?_
  | refine g_sl ?_
  | refine g_brk ?_
  | refine g_ct ?_
  | refine g_ipI ?_
  | refine g_fld ?_
  | refine g_lst ?_
  | refine g_int ?_
  | refine g_for ?_
  | refine g_rg1 ?_
  | refine g_rg2 ?_
  | refine g_il ?_
  | refine g_it ?_
  | refine g_lc ?_
  | refine g_yes ?_
  | refine g_tup ?_
  | refine g_part ?_
  | refine g_xf ?_
  | refine g_nn ?_
  | refine g_mko ?_
  | refine g_lrg ?_
  | refine g_tr1 ?_
  | refine g_tr2 ?_
  | refine g_oi2 ?_
  | refine g_mk ?_
  | refine g_sfld ?_
  | refine g_ost ?_
  | refine g_oi ?_
  | refine g_nopart ?_
  | refine g_tt ?_
  | refine g_ff ?_
  | refine g_nt ?_
  | refine g_nf ?_
  | refine g_drn ?_
  | refine g_din ?_
  | refine g_dnn ?_
  | refine g_nrn ?_
  | refine g_nin ?_
  | refine g_nnn ?_))
local macro_rules | `(tactic| walk_at "rd") => `(tactic| (repeat walk_at "rd1"))

local macro_rules | `(tactic| walk_at "rd1") => `(tactic| (with_reducible first
  | refine g_max2 ?_
  | refine g_min2 ?_))
section
variable {P : Program} {w : World} {K : PySem.W.Frag} {mg : Str → Option Value} {base : Heap} {f : Addr} {fd : FuncData} {A : Ad}
/-- a drawn standing: two lists in a list -/
def TwoL (H H' : Hp) (t : Addr) (ls ss : List Int) : Prop := ∃ la sa : Addr, H la = none ∧ H sa = none ∧ H' t = some (.lst [.ref la, .ref sa]) ∧ H' la = some (.lst (ls.map V.int)) ∧ H' sa = some (.lst (ss.map V.int))
theorem filt_take {p : List Int → Bool} {l : List (List Int)} {i : Nat} {row : List Int} (h : l[i]? = some row) : (l.take (i + 1)).filter p = (l.take i).filter p ++ (if p row = true then [row] else []) := by
  rw [take_more h, List.filter_append, List.filter_cons]
  split <;> rfl
/-! ### _law_strongest -/
def spStrg (K : PySem.W.Frag) : Sp := fun vs H Q _ => ∃ (sa : Addr) (ss : List Int), vs = [.ref sa] ∧ SqL K H sa (ss.map V.int) ∧ 0 < ss.length ∧ ss.length ≤ 1000 ∧
  ∀ m, m ∈ ss → (∀ y ∈ ss, y ≤ m) → ∀ (t : Addr) (H' : Hp), H t = none → Same H H' → H' t = some (.lst (nI (strN ss m))) → Q (.ref t) H'
theorem ok_strg (F : Fun K "_law_strongest" "_law_strongest" s__law_strongest f fd) (T : Txt K mg A) : FnOk P w K mg base CX0 1 f fd ["strengths"] (spStrg K) := by
  refine F.ok sc__law_strongest (fun vs H Q E h => ?_) (fun cdv A1 outer s H vs Q E hr h => ?_)
  · obtain ⟨sa, ss, rfl, _⟩ := h
    rfl
  · obtain ⟨sa, ss, rfl, hs, l0, l1, q⟩ := h
    refine ⟨_, (pss_cons (ps_set (i := 1) sc__law_strongest.nd rfl (Or.inr rfl) (pe_callB (cr_maxK K rfl) (by rfl) T.m_max (by decide +kernel) (pa_cons (pv 0) pa_nil)))
      (pss_one (ps_ret (pe_lc (own := [("k", 2)]) (g := gName 2) (tt := _) rfl sc__law_strongest.nd (pi_range1 rfl T.m_range (pa_cons (pe_callB (call_lenK K) (by rfl) T.m_len PySem.boot_len (pa_cons (pv 0) pa_nil)) pa_nil)) (blkOk_by (N := ["strengths", "greatest", "k"]) (sc := defScope s__law_strongest) (by decide +kernel)) (fun _ _ _ _ _ => (by exact (pg_name (i := 2) sc__law_strongest.nd rfl (Or.inl rfl)))) (fun _ _ _ _ _ => (by exact (pts_one (pt_cmpR op_eq (pe_ix (ix_listK K) (pv 0) (pv 2) (fun _ _ => rfl)) (pv 1) (nomark _))))) (fun _ _ _ _ _ => (by exact (pv 2))))))), ?_⟩
    walk_at "rd"
    refine ⟨sa, ss, rfl, hs, l0, fun m hm hx => ?_⟩
    walk_at "rd"
    refine ⟨sa, _, rfl, .inl hs, ?_⟩
    rw [List.length_map]
    walk_at "rd"
    refine ⟨_, rfl, by omega, by omega, fun D nD => ?_⟩
    rw [Int.toNat_natCast]
    refine lc_range (fun i H' => Same H H' ∧ H' D = some (.lst (nI ((List.range i).filter fun k => decide (ss.getD k 0 = m))))) ⟨Same.new nD, upd_same⟩ ?_ ?_
    · rintro i H' hi ⟨S', hD⟩
      rw [Int.zero_add]
      walk_at "rd"
      refine ⟨rfl, ?_⟩
      walk_at "rd"
      refine g_ixL (S'.seq hs) (at_int hi) ?_
      walk_at "rd"
      have st := filt_step (p := fun k => decide (ss.getD k 0 = m)) (n := i)
      refine g_ite (fun e => ?_) (fun e => ?_)
      · rw [if_pos e] at st
        walk_at "rd"
        refine ⟨_, hD, by rw [nI_len]; exact slt1000 (by have := filt_len (p := fun k => decide (ss.getD k 0 = m)) (n := i); omega), S'.mut nD, ?_⟩
        rw [upd_same, st, nI_app]; rfl
      · rw [if_neg (by rw [e]; exact Bool.false_ne_true), List.append_nil] at st
        exact ⟨S', by rw [st]; exact hD⟩
    · rintro H1 ⟨S1, hD⟩
      exact q m hm hx D H1 nD S1 hD
/-! ### -/
end
end Rt
set_option Elab.async false
set_option linter.all false
set_option maxRecDepth 100000
set_option maxHeartbeats 4000000
namespace Rt
open PySem PySem.Spec L2
open PyProof.Rows (envOfC)
open LamX (CodeO TabS Tabs TabB)
local macro_rules | `(tactic| walk_at "rd1") => `(tactic| (with_reducible first
  | refine g_var (by with_unfolding_all rfl) ?_
  | refine g_c ?_
  | refine g_op ?_
  | refine g_I0 ?_
  | refine g_eqI ?_
  | refine g_neI ?_
  | refine g_eqB ?_
  | refine g_neB ?_
  | refine g_cons ?_
  | refine g_nil ?_
  | refine g_seq ?_
  | refine g_asg ?_
  | refine g_name ?_
  | refine g_ret ?_
  | refine g_retN ?_
  | refine g_drop ?_
  | refine g_next ?_
  | refine g_if ?_
  | refine g_test ?_
  | refine g_tB ?_
  | refine g_bl ?_
  | refine g_and ?_
  | refine g_or ?_
  | refine g_not ?_
  | refine g_andV ?_
  | refine g_orV ?_
  | refine g_notV ?_
  | refine g_ifE ?_
  | refine g_cb ?_
  | refine g_meth ?_
  | refine g_rev ?_
  | refine g_gcons ?_
  | refine g_gnil ?_
  | refine g_isB' ?_
  | refine g_gsub ?_
  | refine g_call ?_
  | refine g_callS ?_
  | refine g_bm ?_
  | refine g_un ?_
  | refine g_U ?_
  | refine g_chain ?_
  | refine g_sl ?_
  | refine g_brk ?_
  | refine g_ct ?_
  | refine g_ipI ?_
  | refine g_fld ?_
  | refine g_lst ?_
  | refine g_int ?_
  | refine g_for ?_
  | refine g_rg1 ?_
  | refine g_rg2 ?_
  | refine g_il ?_
  | refine g_it ?_
  | refine g_lc ?_
  | refine g_yes ?_
  | refine g_tup ?_
  | refine g_part ?_
  | refine g_xf ?_
  | refine g_nn ?_
  | refine g_mko ?_
  | refine g_lrg ?_
  | refine g_tr1 ?_
  | refine g_tr2 ?_
  | refine g_oi2 ?_
  | refine g_mk ?_
  | refine g_sfld ?_
  | refine g_ost ?_
  | refine g_oi ?_
  | refine g_nopart ?_
  | refine g_tt ?_
  | refine g_ff ?_
  | refine g_nt ?_
  | refine g_nf ?_
  | refine g_drn ?_
  | refine g_din ?_
  | refine g_dnn ?_
  | refine g_nrn ?_
  | refine g_nin ?_
  | refine g_nnn ?_))
local macro_rules | `(tactic| walk_at "rd") => `(tactic| (repeat walk_at "rd1"))

local macro_rules | `(tactic| walk_at "rd1") => `(tactic| (with_reducible first
  | refine g_lam3 ?_))
section
variable {P : Program} {w : World} {K : PySem.W.Frag} {mg : Str → Option Value} {base : Heap} {f : Addr} {fd : FuncData} {A : Ad}
/-! ### check_handful -/
def spChkH (K : PySem.W.Frag) (A : Ad) : Sp := fun vs H Q E => ∃ (n : Int) (ha : Addr) (c : Bool) (qs : List Int), vs = [.int n, .ref ha] ∧ SqB K c H ha (qs.map V.int) ∧ (badQ n qs = none → Q .non H) ∧ (∀ q, badQ n qs = some q → BadP A H E q)
theorem ok_chkH (F : Fun K "check_handful" "check_handful" s_check_handful f fd) (T : Txt K mg A) (D_check_place : DefOk P w K mg base (L2N.CX P w) 4 "check_place" ["many", "place"] (spCheck A)) : FnOk P w K mg base (L2N.CX P w) 5 f fd ["many", "handful"] (spChkH K A) := by
  refine okN F sc_check_handful (fun vs H Q E h => ?_) (fun cdv A1 outer s H vs Q E hr h => ?_)
  · obtain ⟨n, ha, c, qs, rfl, _⟩ := h
    rfl
  · obtain ⟨n, ha, c, qs, rfl, hs, h1, h2⟩ := h
    refine ⟨_, (pss_one (ps_for (passes_ofN rfl) rfl (pi_or (pi_listK K (pv 1)) (pi_tupK K (pv 1))) (pg_name (i := 2) sc_check_handful.nd rfl (Or.inl rfl)) (pss_one (ps_expr (pe_callD D_check_place (hr.mono (by decide)) (passes_callN (takes_ofN rfl rfl rfl rfl)) (pa_cons (pv 0) (pa_cons (pv 2) pa_nil))))))), ?_⟩
    refine g_for ?_
    have turn : ∀ (i : Nat) (x : V) (σ : L2.St) (H' : Hp) (D : Ends), (qs.map V.int)[i]? = some x → (∃ v3 : Option V, σ = [some (.int n), some (.ref ha), v3] ∧ H' = H ∧ badQ n (qs.take i) = none) → (∀ σ2 H2, (∃ v3 : Option V, σ2 = [some (.int n), some (.ref ha), v3] ∧ H2 = H ∧ badQ n (qs.take (i + 1)) = none) → D.nx σ2 H2) →
        (tDrop (tCall (spCheck A) [] E (tCons (tVar 0) (tCons (tVar 2) tNil)))) D (σ.set 2 (some x)) H' := by
      rintro i x σ H' D hx ⟨v3, rfl, rfl, hb⟩ hD
      obtain ⟨li, rfl⟩ := map_at hx
      have st : badQ n (qs.take (i + 1)) = if 0 ≤ qs.getD i 0 ∧ qs.getD i 0 < n then none else some (qs.getD i 0) := by
        unfold badQ at hb ⊢
        rw [take_getD li, List.find?_append, hb, Option.none_or]
        by_cases z : 0 ≤ qs.getD i 0 ∧ qs.getD i 0 < n
        · rw [if_pos z, List.find?_cons, decide_eq_true z.1, decide_eq_true z.2]; rfl
        · rw [if_neg z, List.find?_cons]
          have : (!(decide (0 ≤ qs.getD i 0) && decide (qs.getD i 0 < n))) = true := by
            simp only [Bool.not_eq_true', Bool.and_eq_false_iff, decide_eq_false_iff_not]
            omega
          rw [this]
      walk_at "rd"
      refine ⟨n, qs.getD i 0, rfl, fun z => ?_, fun z => ?_⟩
      · rw [if_pos z] at st
        exact hD _ _ ⟨_, rfl, rfl, st⟩
      · rw [if_neg z] at st
        refine h2 _ ?_
        unfold badQ at st ⊢
        have e : qs.find? (fun q => !(decide (0 ≤ q) && decide (q < n))) = (qs.take (i + 1) ++ qs.drop (i + 1)).find? (fun q => !(decide (0 ≤ q) && decide (q < n))) := by rw [List.take_append_drop]
        rw [e, List.find?_append, st]; rfl
    have done : ∀ (i : Nat), i = qs.length → badQ n (qs.take i) = none → badQ n qs = none := fun i e h => by rw [e, List.take_length] at h; exact h
    cases c with
    | false =>
      refine .inl ?_
      walk_at "rd"
      refine ⟨ha, rfl, ⟨_, hs⟩, for_list (xs := qs.map V.int) (fun i σ H' => ∃ v3 : Option V, σ = [some (.int n), some (.ref ha), v3] ∧ H' = H ∧ badQ n (qs.take i) = none) ⟨none, rfl, rfl, rfl⟩ (fun i σ H' _ ⟨_, _, e, _⟩ => by rw [e]; exact hs) ?_ ?_⟩
      · rintro i x σ H' hx hP
        refine g_name ?_
        exact turn i x σ H' _ hx hP fun σ2 H2 z => z
      · rintro σ H' ⟨v3, rfl, rfl, hb⟩
        walk_at "rd"
        exact h1 (done _ (List.length_map _) hb)
    | true =>
      refine .inr ?_
      walk_at "rd"
      refine ⟨ha, rfl, ⟨_, hs⟩, for_tup (xs := qs.map V.int) (fun i σ H' => ∃ v3 : Option V, σ = [some (.int n), some (.ref ha), v3] ∧ H' = H ∧ badQ n (qs.take i) = none) ⟨none, rfl, rfl, rfl⟩ (fun i σ H' _ ⟨_, _, e, _⟩ => by rw [e]; exact hs) ?_ ?_⟩
      · rintro i x σ H' hx hP
        refine g_name ?_
        exact turn i x σ H' _ hx hP fun σ2 H2 z => z
      · rintro σ H' ⟨v3, rfl, rfl, hb⟩
        walk_at "rd"
        exact h1 (done _ (List.length_map _) hb)
/-! ### changes_at -/
def ttCh (K : PySem.W.Frag) : (V → Hp → VK → Prop) → V → V → Hp → VK → Prop := fun tl v1 v2 H Q => ∃ (sa ha : Addr) (ss : List Int) (c : Bool) (qs : List Int) (aft : Int → Int), v1 = .ref sa ∧ v2 = .ref ha ∧ SqT K H sa (ss.map V.int) ∧ SqB K c H ha (qs.map V.int) ∧ qs.length < 1000 ∧ (∀ q ∈ qs, 0 ≤ q ∧ q < (ss.length : Int)) ∧
  (∀ (q : Int) (H1 : Hp) (Q1 : VK), q ∈ qs → Same H H1 → (∀ H2, Same H1 H2 → Q1 (.int (aft q)) H2) → tl (.int q) H1 Q1) ∧
  ∀ (a : Addr) (xs : List V) (H' : Hp), H a = none → Same H H' → H' a = some (.lst xs) → RW (fun t => H t = none ∧ t ≠ a) true H' xs (chgL ss aft qs) → Q (.ref a) H'
theorem gives_chAt {g : Addr} (T : Txt K mg A) (cdv : Value) (A0 : Around) (stk : List Env) (q : Str) : Gives3 P w K mg base A0 stk ["strengths", "handful", "tell", "changes", "place", "before", "after"] "changes_at" (defScope s_changes_at) g cdv (defBody s_changes_at) "tell" q 0 (ttCh K) := by
  rintro f c' v1 v2 s H Q tl hr TL hco ⟨sa, ha, ss, c, qs, aft, rfl, rfl, hs, hh, h1000, hq, ht, k⟩
  refine ⟨_, (pss_cons (ps_set (i := 3) sc_changes_at.nd rfl (Or.inl rfl) (pe_lst pa_nil))
      (pss_cons (ps_for (PassesOwn.never) rfl (pi_listK K (pe_callB (cr_sortW (w := w) rfl) (by rfl) T.m_sorted (by decide +kernel) (pa_cons (pe_callTy (cr_or (cr_setL (w := w) K rfl) (cr_setT1 (w := w) K rfl)) (by rfl) T.m_set (by decide +kernel) (pa_cons (pv 1) pa_nil)) pa_nil))) (pg_name (i := 4) sc_changes_at.nd rfl (Or.inl rfl)) (pss_cons (ps_set (i := 5) sc_changes_at.nd rfl (Or.inl rfl) (pe_ix (ix_tupK K) (pv 0) (pv 4) (fun _ _ => rfl)))
      (pss_cons (ps_set (i := 6) sc_changes_at.nd rfl (Or.inl rfl) (TL _ _ _ _ (pa_cons (pv 4) pa_nil) rfl))
      (pss_one (ps_if (pt_cmpR op_ne (pv 6) (pv 5) (nomark _)) (pss_one (ps_expr (pe_appK K (pv 3) (pa_cons (pe_tup (pa_cons (pv 4) (pa_cons (pv 5) (pa_cons (pv 6) pa_nil)))) pa_nil)))) pss_nil)))))
      (pss_one (ps_ret (pv 3))))), ?_⟩
  walk_at "rd"
  refine newL fun ch H1 nch S1 hch => ?_
  walk_at "rd"
  refine g_setB (c := c) (SqB.mono S1 hh) h1000 fun S cc nS hcc => ?_
  walk_at "rd"
  refine ⟨S, _, cc, rfl, upd_same, by omega, fun vs a3 pw mem len na3 => ?_⟩
  have ev : vs = ascI qs := ascI_eq pw fun v => by rw [mem]; exact decide_eq_true_iff
  subst ev
  have S2 : Same H1 (upd H1 S (SetO w S (fun j => decide (j ∈ qs)) cc)) := Same.new nS
  have S3 : Same (upd H1 S (SetO w S (fun j => decide (j ∈ qs)) cc)) (upd (upd H1 S (SetO w S (fun j => decide (j ∈ qs)) cc)) a3 (.lst ((ascI qs).map V.int))) := Same.new na3
  have n3 : a3 ≠ ch := fun z => by rw [z, S2 _ _ hch] at na3; cases na3
  generalize hH3 : upd (upd H1 S (SetO w S (fun j => decide (j ∈ qs)) cc)) a3 (.lst ((ascI qs).map V.int)) = H3 at S3 ⊢
  have h3 : H3 a3 = some (.lst ((ascI qs).map V.int)) := by rw [← hH3, upd_same]
  have S13 : Same H1 H3 := S2.trans S3
  walk_at "rd"
  refine ⟨a3, rfl, ⟨_, SqL.of h3⟩, for_list (xs := (ascI qs).map V.int) (fun i σ H' => ∃ (v4 v5 v6 : Option V) (zs : List V), σ = [some (.ref sa), some (.ref ha), some (.ref f), some (.ref ch), v4, v5, v6] ∧ Same H H' ∧ H' a3 = some (.lst ((ascI qs).map V.int)) ∧ H' ch = some (.lst zs) ∧ RW (fun u => H u = none ∧ u ≠ ch) true H' zs (chgP ss aft qs i))
    ⟨none, none, none, [], rfl, S1.trans S13, h3, S13 _ _ hch, RW.nil⟩ (fun i σ H' _ ⟨_, _, _, _, _, _, e, _⟩ => SqL.of e) ?_ ?_⟩
  · rintro i x σ H' hx ⟨v4, v5, v6, zs, rfl, S', h3', hch', hP⟩
    obtain ⟨v, hv, rfl⟩ : ∃ v, (ascI qs)[i]? = some v ∧ x = V.int v := by
      rw [List.getElem?_map] at hx
      obtain ⟨v, a, b⟩ := Option.map_eq_some_iff.mp hx
      exact ⟨v, a, b.symm⟩
    have hvq : v ∈ qs := (ascI_mem qs).mp (List.mem_of_getElem? hv)
    obtain ⟨v0, v1⟩ := hq v hvq
    walk_at "rd"
    refine g_ixT (L2.Same.tup S' hs) (at_toNat v0 v1) ?_
    walk_at "rd"
    refine g_tell rfl ?_
    walk_at "rd"
    refine ⟨_, rfl, S' _ _ hco, ht v H' _ hvq S' fun H4 S4 => ?_⟩
    walk_at "rd"
    have st := chgP_step (ss := ss) (aft := aft) hv
    have hch4 := S4 _ _ hch'
    refine g_ite (fun e => ?_) (fun e => ?_)
    · have ne : ¬ aft v = ss.getD v.toNat 0 := by simpa using e
      rw [if_neg ne] at st
      walk_at "rd"
      refine ⟨ty_l hch4, ?_⟩
      walk_at "rd"
      refine newT fun u H5 nu S5 hu => ?_
      walk_at "rd"
      refine g_app (S5 _ _ hch4) (by rw [hP.len]; exact slt1000 (by have := chgP_len (ss := ss) (aft := aft) (qs := qs) i; omega)) ?_
      have S45 := S4.trans S5
      have uch : u ≠ ch := fun z => by rw [z, hch4] at nu; cases nu
      refine ⟨_, _, _, _, rfl, (S'.trans S45).mut nch, by rw [upd_ne n3]; exact S45 _ _ h3', upd_same, ?_⟩
      rw [st]
      exact ((hP.mono S45).more (row := [v, ss.getD v.toNat 0, aft v]) ⟨S'.free (S4.free nu), uch⟩ hu).upd fun t c => c.2
    · have eq : aft v = ss.getD v.toNat 0 := by simpa using e
      rw [if_pos eq, List.append_nil] at st
      walk_at "rd"
      exact ⟨_, _, _, zs, rfl, S'.trans S4, S4 _ _ h3', hch4, by rw [st]; exact hP.mono S4⟩
  · rintro σ H' ⟨v4, v5, v6, zs, rfl, S', h3', hch', hP⟩
    walk_at "rd"
    rw [List.length_map] at hP
    exact k ch zs H' nch S' hch' hP
/-! ### strengths_after -/
def spAfter (K : PySem.W.Frag) : Sp := fun vs H Q _ => ∃ (sa ca : Addr) (ss : List Int) (xs : List V) (l : List (List Int)), vs = [.ref sa, .ref ca] ∧ SqT K H sa (ss.map V.int) ∧ H ca = some (.lst xs) ∧ RW (fun _ => True) true H xs l ∧ (∀ row ∈ l, ∃ (p : Nat) (b a : Int), row = [(p : Int), b, a] ∧ p < ss.length) ∧
  ∀ (t : Addr) (H' : Hp), H t = none → Same H H' → H' t = some (.lst ((doC ss l).map V.int)) → Q (.ref t) H'
theorem ok_after (F : Fun K "strengths_after" "strengths_after" s_strengths_after f fd) (T : Txt K mg A) : FnOk P w K mg base CX0 1 f fd ["strengths", "changes"] (spAfter K) := by
  refine F.ok sc_strengths_after (fun vs H Q E h => ?_) (fun cdv A1 outer s H vs Q E hr h => ?_)
  · obtain ⟨sa, ca, ss, xs, l, rfl, _⟩ := h
    rfl
  · obtain ⟨sa, ca, ss, xs, l, rfl, hs, hc, hP, hl, q⟩ := h
    refine ⟨_, (pss_cons (ps_set (i := 2) sc_strengths_after.nd rfl (Or.inl rfl) (pe_callTy (call_listK K) (by rfl) T.m_list (by decide +kernel) (pa_cons (pv 0) pa_nil)))
      (pss_cons (ps_for (PassesOwn.never) rfl (pi_listK K (pv 1)) (pg_tup rfl (pgs_cons (pg_name (i := 3) sc_strengths_after.nd rfl (Or.inl rfl)) (pgs_cons (pg_name (i := 4) sc_strengths_after.nd rfl (Or.inl rfl)) (pgs_cons (pg_name (i := 5) sc_strengths_after.nd rfl (Or.inl rfl)) pgs_nil)))) (pss_one (ps_asg (pv 5) (pg_sub (pv 2) (pv 3) set_list))))
      (pss_one (ps_ret (pv 2))))), ?_⟩
    walk_at "rd"
    refine g_lo (.inr hs) fun t H1 nt S1 ht => ?_
    walk_at "rd"
    refine ⟨ca, rfl, ⟨_, SqL.of (S1 _ _ hc)⟩, for_list (xs := xs) (fun i σ H' => ∃ (v3 v4 v5 : Option V), σ = [some (.ref sa), some (.ref ca), some (.ref t), v3, v4, v5] ∧ Same H H' ∧ H' t = some (.lst ((doC ss (l.take i)).map V.int)))
      ⟨none, none, none, rfl, S1, ht⟩ (fun i σ H' _ ⟨_, _, _, _, S, _⟩ => SqL.of (S _ _ hc)) ?_ ?_⟩
    · rintro i x σ H' hx ⟨v3, v4, v5, rfl, S', ht'⟩
      obtain ⟨row, u, hrow, rfl, _, hu⟩ := hP.of hx
      obtain ⟨p, b, a, rfl, hp⟩ := hl row (List.mem_of_getElem? hrow)
      refine g_gtup (SqT.of (S' _ _ hu)) rfl ?_
      refine g_gcons ?_
      refine g_name ?_
      refine g_gcons ?_
      refine g_name ?_
      refine g_gcons ?_
      refine g_name ?_
      refine g_gnil ?_
      walk_at "rd"
      refine g_set ht' (by rw [doC_len]; exact hp) ?_
      refine ⟨_, _, _, rfl, S'.mut nt, ?_⟩
      rw [upd_same, take_more hrow, doC_app]; rfl
    · rintro σ H' ⟨v3, v4, v5, rfl, S', ht'⟩
      walk_at "rd"
      rw [hP.len, List.take_length] at ht'
      exact q t H' nt S' ht'
/-! ### changed -/
def spChanged (K : PySem.W.Frag) (A : Ad) : Sp := fun vs H Q _ => ∃ (b ts tl ca : Addr) (r : Bool) (ss ls : List Int) (xs : List V) (l : List (List Int)), vs = [.ref b, .ref ca] ∧ BAt A.Beads H b ts tl r ss ls ∧ StOk ss ls ∧ H ca = some (.lst xs) ∧ RW (fun _ => True) true H xs l ∧ (∀ row ∈ l, ∃ (p : Nat) (b a : Int), row = [(p : Int), b, a] ∧ p < ss.length) ∧ StOk (doC ss l) ls ∧
  ∀ (nb ts' : Addr) (H' : Hp), H nb = none → Same H H' → BAt A.Beads H' nb ts' tl r (doC ss l) ls → Q (.ref nb) H'
theorem ok_changed (F : Fun K "changed" "changed" s_changed f fd) (T : Txt K mg A) (D_strengths_after : DefOk P w K mg base CX0 1 "strengths_after" ["strengths", "changes"] (spAfter K)) (MK_Beads : CtorD P w K mg base CX0 2 "Beads" A.Beads 2 ["ring"] gBeads (spNew K A)) : FnOk P w K mg base CX0 4 f fd ["beads", "changes"] (spChanged K A) := by
  refine F.ok sc_changed (fun vs H Q E h => ?_) (fun cdv A1 outer s H vs Q E hr h => ?_)
  · obtain ⟨b, ts, tl, ca, r, ss, ls, xs, l, rfl, _⟩ := h
    rfl
  · obtain ⟨b, ts, tl, ca, r, ss, ls, xs, l, rfl, B, ok, hc, hP, hl, ok2, q⟩ := h
    refine ⟨_, (pss_one (ps_ret (pe_makeD MK_Beads (hr.mono (by decide)) pass0 (pa_cons (pe_callD D_strengths_after (hr.mono (by decide)) pass0 (pa_cons (pe_fldK K (pv 0) rfl) (pa_cons (pv 1) pa_nil))) (pa_cons (pe_fldK K (pv 0) rfl) pa_nil)) (pk_cons (pe_fldK K (pv 0) rfl) pk_nil)))), ?_⟩
    walk_at "rd"
    refine f_s T B ?_
    walk_at "rd"
    refine ⟨ts, ca, ss, xs, l, rfl, SqT.of B.st, hc, hP, hl, fun t H1 nt S1 ht => ?_⟩
    have B1 := B.mono S1
    walk_at "rd"
    refine f_l T B1 ?_
    walk_at "rd"
    refine f_r T B1 ?_
    walk_at "rd"
    refine mk_newX (c := false) (ss := doC ss l) ht B1.ln ok2 fun x ts' H' nx S' _ B' => ?_
    exact q x ts' H' (S1.free nx) (S1.trans S') B'
/-! ### changes_of -/
theorem BAt.monoT {H H' : Hp} {b ts tl : Addr} {r : Bool} {ss ls : List Int} (B : BAt A.Beads H b ts tl r ss ls) (S : SameT H H') : BAt A.Beads H' b ts tl r ss ls := by
  obtain ⟨dx, e⟩ := B.ob
  exact ⟨⟨dx, S.ins e⟩, S.tup B.st, S.tup B.ln⟩
def spChOf (K : PySem.W.Frag) (A : Ad) (TL : List (Addr × Str)) : Sp := fun vs H Q E => ∃ (b ts tl ha : Addr) (r : Bool) (ss ls : List Int) (c : Bool) (qs : List Int), vs = [.ref b, .ref ha] ∧ BAt A.Beads H b ts tl r ss ls ∧ StOk ss ls ∧ SqB K c H ha (qs.map V.int) ∧ qs.length < 1000 ∧ Tabs TL H ∧
  (badQ ss.length qs = none → ∀ (a : Addr) (xs : List V) (H' : Hp), H a = none → SameT H H' → Tabs TL H' → H' a = some (.lst xs) → RW (fun t => H t = none ∧ t ≠ a) true H' xs (chgL ss (fun q => rch r ss ls q.toNat) qs) → Q (.ref a) H') ∧ (∀ q, badQ ss.length qs = some q → BadP A H E q)
theorem ok_chOf {c Pt : Addr} {TL : List (Addr × Str)} (F : Fun K "changes_of" "changes_of" s_changes_of f fd) (T : Txt K mg A) (hc : codeAt K f c = true) (TB : TabB base mg c Pt) (LT : LamT TL Pt ((("changes_of" : Str) ++ ".<locals>.") ++ "<lambda>")) (LN : LenD P w K mg base A.Beads (spLen A))
    (D_check_handful : DefOk P w K mg base (L2N.CX P w) 5 "check_handful" ["many", "handful"] (spChkH K A)) (G_changes_at : GivesD P w K mg base 0 "changes_at" "tell" (ttCh K)) (D_reach_of : DefOk P w K mg base (L2N.CX P w) 6 "reach_of" ["beads", "place"] (spPl A RReach)) : FnOk P w K mg base (L2N.CX P w) 9 f fd ["beads", "handful"] (spChOf K A TL) := by
  refine okLN F sc_changes_of hc (fun vs H Q E h => ?_) (fun A1 outer s H vs Q E hr h => ?_)
  · obtain ⟨b, ts, tl, ha, r, ss, ls, c, qs, rfl, _⟩ := h
    rfl
  · obtain ⟨b, ts, tl, ha, r, ss, ls, cb, qs, rfl, B, ok, hs, h1000, hT, h1, h2⟩ := h
    have n1 := ok.n1
    refine ⟨_, (pss_cons (ps_expr (pe_callD D_check_handful (hr.mono (by decide)) (passes_callN (takes_ofN rfl rfl rfl rfl)) (pa_cons (pe_callB (call_lenD LN (hr.mono (by decide))) (by rfl) T.m_len PySem.boot_len (pa_cons (pv 0) pa_nil)) (pa_cons (pv 1) pa_nil))))
      (pss_one (ps_ret (pe_lamD (k := 6) G_changes_at (by decide) TB LT (hr.mono (by decide)) (lamP_by (a := "place") (show lamPB (defScope s_changes_of) _ _ = true from (by decide +kernel))) (show ¬ ("place" : Str) ∈ (["beads", "handful"] : List Str) from (by decide)) (pe_fldK K (pv 0) rfl) (pv 1) (fun _ _ _ _ _ _ hr => (by exact (pe_callD D_reach_of (hr.mono (by decide)) passN (pa_cons (pv 0) (pa_cons (pv 2) pa_nil))))))))), ?_⟩
    walk_at "rd"
    refine g_lenB B n1 ?_
    walk_at "rd"
    refine ⟨ss.length, ha, cb, qs, rfl, hs, fun z => ?_, fun q z => ?_⟩
    · walk_at "rd"
      refine f_s T B ?_
      walk_at "rd"
      refine ⟨hT, fun H3 S3 T3 => ?_⟩
      have B3 := B.monoT S3
      have hs3 : SqB K cb H3 ha (qs.map V.int) := by
        cases cb with
        | true => exact S3.sqt hs
        | false => exact S3.seq hs
      have good := good_of z
      refine ⟨ts, ha, ss, cb, qs, fun q => rch r ss ls q.toNat, rfl, rfl, SqT.of B3.st, hs3, h1000, good, fun q H4 Q4 hq S4 k4 => ?_, fun a xs H4 na S4 ha4 hP => ?_⟩
      · obtain ⟨q0, q1⟩ := good q hq
        walk_at "rd"
        refine ⟨b, ts, tl, r, ss, ls, q, rfl, B3.mono S4, ok.len, n1, fun _ => fun H5 S5 => k4 H5 S5, fun y => absurd ⟨q0, q1⟩ y⟩
      · exact h1 z a xs H4 (S3.free na) (S3.trans (SameT.of S4)) (T3.ext S4) ha4 (hP.weak fun t c => ⟨S3.free c.1, c.2⟩)
    · exact h2 q z
/-! ### -/
end
end Rt
set_option Elab.async false
set_option linter.all false
set_option maxRecDepth 100000
set_option maxHeartbeats 4000000
namespace Rt
open PySem PySem.Spec L2
open PyProof.Rows (envOfC)
open LamX (CodeO TabS Tabs TabB)
local macro_rules | `(tactic| walk_at "rd1") => `(tactic| (with_reducible first
  | refine g_var (by with_unfolding_all rfl) ?_
  | refine g_c ?_
  | refine g_op ?_
  | refine g_I0 ?_
  | refine g_eqI ?_
  | refine g_neI ?_
  | refine g_eqB ?_
  | refine g_neB ?_
  | refine g_cons ?_
  | refine g_nil ?_
  | refine g_seq ?_
  | refine g_asg ?_
  | refine g_name ?_
  | refine g_ret ?_
  | refine g_retN ?_
  | refine g_drop ?_
  | refine g_next ?_
  | refine g_if ?_
  | refine g_test ?_
  | refine g_tB ?_
  | refine g_bl ?_
  | refine g_and ?_
  | refine g_or ?_
  | refine g_not ?_
  | refine g_andV ?_
  | refine g_orV ?_
  | refine g_notV ?_
  | refine g_ifE ?_
  | refine g_cb ?_
  | refine g_meth ?_
  | refine g_rev ?_
  | refine g_gcons ?_
  | refine g_gnil ?_
  | refine g_isB' ?_
  | refine g_gsub ?_
  | refine g_call ?_
  | refine g_callS ?_
  | refine g_bm ?_
  | refine g_un ?_
  | refine g_U ?_
  | refine g_chain ?_
  | refine g_sl ?_
  | refine g_brk ?_
  | refine g_ct ?_
  | refine g_ipI ?_
  | refine g_fld ?_
  | refine g_lst ?_
  | refine g_int ?_
  | refine g_for ?_
  | refine g_rg1 ?_
  | refine g_rg2 ?_
  | refine g_il ?_
  | refine g_it ?_
  | refine g_lc ?_
  | refine g_yes ?_
  | refine g_tup ?_
  | refine g_part ?_
  | refine g_xf ?_
  | refine g_nn ?_
  | refine g_mko ?_
  | refine g_lrg ?_
  | refine g_tr1 ?_
  | refine g_tr2 ?_
  | refine g_oi2 ?_
  | refine g_mk ?_
  | refine g_sfld ?_
  | refine g_ost ?_
  | refine g_oi ?_
  | refine g_nopart ?_
  | refine g_tt ?_
  | refine g_ff ?_
  | refine g_nt ?_
  | refine g_nf ?_
  | refine g_drn ?_
  | refine g_din ?_
  | refine g_dnn ?_
  | refine g_nrn ?_
  | refine g_nin ?_
  | refine g_nnn ?_))
local macro_rules | `(tactic| walk_at "rd") => `(tactic| (repeat walk_at "rd1"))

section
variable {P : Program} {w : World} {K : PySem.W.Frag} {mg : Str → Option Value} {base : Heap} {f : Addr} {fd : FuncData} {A : Ad}
/-! ### wake -/
theorem StOk.wkS {ss ls : List Int} (r : Bool) (qs : List Int) (h : StOk ss ls) : StOk (wkS r ss ls qs) ls where
  n0 := by rw [wkS_len]; exact h.n0
  n1 := by rw [wkS_len]; exact h.n1
  len := by rw [wkS_len]; exact h.len
  s0 := fun x hx => by
    obtain ⟨k, hk, rfl⟩ := mem_getD hx
    rw [wkS_len] at hk
    rw [wkS_at hk]
    split
    · have a := h.pos.pos k hk
      have b := sm_ge0 (ls := ls) (trn r ss k) fun o ho => by have := h.pos.pos o (trn_lt hk o ho); omega
      rw [rch_eq]; omega
    · exact h.s0 _ (getD_mem hk)
  l1 := h.l1
def spWake (K : PySem.W.Frag) (A : Ad) (TL : List (Addr × Str)) : Sp := fun vs H Q E => ∃ (b ts tl ha : Addr) (r : Bool) (ss ls : List Int) (c : Bool) (qs : List Int), vs = [.ref b, .ref ha] ∧ BAt A.Beads H b ts tl r ss ls ∧ StOk ss ls ∧ SqB K c H ha (qs.map V.int) ∧ qs.length < 1000 ∧ Tabs TL H ∧
  (badQ ss.length qs = none → ∀ (nb ts' : Addr) (H' : Hp), H nb = none → SameT H H' → Tabs TL H' → BAt A.Beads H' nb ts' tl r (wkS r ss ls qs) ls → Q (.ref nb) H') ∧ (∀ q, badQ ss.length qs = some q → BadP A H E q)
theorem ok_wake {TL : List (Addr × Str)} (F : Fun K "wake" "wake" s_wake f fd) (T : Txt K mg A) (D_changes_of : DefOk P w K mg base (L2N.CX P w) 9 "changes_of" ["beads", "handful"] (spChOf K A TL)) (D_changed : DefOk P w K mg base CX0 4 "changed" ["beads", "changes"] (spChanged K A)) : FnOk P w K mg base (L2N.CX P w) 10 f fd ["beads", "handful"] (spWake K A TL) := by
  refine okN F sc_wake (fun vs H Q E h => ?_) (fun cdv A1 outer s H vs Q E hr h => ?_)
  · obtain ⟨b, ts, tl, ha, r, ss, ls, c, qs, rfl, _⟩ := h
    rfl
  · obtain ⟨b, ts, tl, ha, r, ss, ls, cb, qs, rfl, B, ok, hs, h1000, hT, h1, h2⟩ := h
    refine ⟨_, (pss_one (ps_ret (pe_callD D_changed (hr.mono (by decide)) pass0 (pa_cons (pv 0) (pa_cons (pe_callD D_changes_of (hr.mono (by decide)) (passes_callN (takes_ofN rfl rfl rfl rfl)) (pa_cons (pv 0) (pa_cons (pv 1) pa_nil))) pa_nil))))), ?_⟩
    walk_at "rd"
    refine ⟨b, ts, tl, ha, r, ss, ls, cb, qs, rfl, B, ok, hs, h1000, hT, fun z a xs H1 na S1 T1 hxs hP => ?_, h2⟩
    have good := good_of z
    walk_at "rd"
    refine ⟨b, ts, tl, a, r, ss, ls, xs, _, rfl, B.monoT S1, ok, hxs, hP.weak fun _ _ => trivial, ?_, ?_, fun nb ts' H2 nnb S2 B2 => ?_⟩
    · rw [chg_wkS good]; exact chgR_row (Nat.le_refl _)
    · rw [doC_wkS good]; exact ok.wkS r qs
    · rw [doC_wkS good] at B2
      exact h1 z nb ts' H2 (S1.free nnb) (S1.trans (SameT.of S2)) (T1.ext S2) B2
/-! ### restless -/
def spRest' (A : Ad) (g : Bool → List Int → List Int → Nat → List Nat) : Sp := fun vs H Q _ => ∃ (b ts tl : Addr) (r : Bool) (ss ls : List Int), vs = [.ref b] ∧ BAt A.Beads H b ts tl r ss ls ∧ StOk ss ls ∧ ∀ (a : Addr) (H' : Hp), H a = none → Same H H' → H' a = some (.lst (nI (g r ss ls ss.length))) → Q (.ref a) H'
theorem ok_restP (F : Fun K "restless" "restless" s_restless f fd) (T : Txt K mg A) (LN : LenD P w K mg base A.Beads (spLen A)) (D_reaches : DefOk P w K mg base CX0 7 "reaches" ["beads"] (spReaches A)) : FnOk P w K mg base CX0 8 f fd ["beads"] (spRest' A rsN) := by
  refine F.ok sc_restless (fun vs H Q E h => ?_) (fun cdv A1 outer s H vs Q E hr h => ?_)
  · obtain ⟨b, ts, tl, r, ss, ls, rfl, _⟩ := h
    rfl
  · obtain ⟨b, ts, tl, r, ss, ls, rfl, B, ok, q⟩ := h
    have n1 := ok.n1
    refine ⟨_, (pss_cons (ps_set (i := 1) sc_restless.nd rfl (Or.inr rfl) (pe_callD D_reaches (hr.mono (by decide)) pass0 (pa_cons (pv 0) pa_nil)))
      (pss_one (ps_ret (pe_lc (own := [("place", 2)]) (g := gName 2) (tt := _) rfl sc_restless.nd (pi_range1 rfl T.m_range (pa_cons (pe_callB (call_lenD LN (hr.mono (by decide))) (by rfl) T.m_len PySem.boot_len (pa_cons (pv 0) pa_nil)) pa_nil)) (blkOk_by (N := ["beads", "told", "place"]) (sc := defScope s_restless) (by decide +kernel)) (fun _ _ _ _ _ => (by exact (pg_name (i := 2) sc_restless.nd rfl (Or.inl rfl)))) (fun _ _ _ _ _ => (by exact (pts_one (pt_cmpR op_ne (pe_ix (ix_listK K) (pv 1) (pv 2) (fun _ _ => rfl)) (pe_ix (ix_tupK K) (pe_fldK K (pv 0) rfl) (pv 2) (fun _ _ => rfl)) (nomark _))))) (fun _ _ _ _ _ => (by exact (pv 2))))))), ?_⟩
    walk_at "rd"
    refine ⟨b, ts, tl, r, ss, ls, rfl, B, ok.len, n1, fun ta H1 nta S1 hta => ?_⟩
    have B1 := B.mono S1
    walk_at "rd"
    refine g_lenB B1 n1 ?_
    walk_at "rd"
    refine ⟨_, rfl, by omega, by omega, fun D nD => ?_⟩
    rw [Int.toNat_natCast]
    refine lc_range (fun i H' => Same H1 H' ∧ H' D = some (.lst (nI (rsN r ss ls i)))) ⟨Same.new nD, by rw [upd_same]; rfl⟩ ?_ ?_
    · rintro i H' hi ⟨S', hD⟩
      have B' := B1.mono S'
      rw [Int.zero_add]
      walk_at "rd"
      refine ⟨rfl, ?_⟩
      walk_at "rd"
      refine g_ixL (SqL.of (S' _ _ hta)) (atI_nat (j := i) (by rw [List.getElem?_map, List.getElem?_map, List.getElem?_range hi]; rfl)) ?_
      walk_at "rd"
      refine f_s T B' ?_
      walk_at "rd"
      refine g_ixT (SqT.of B'.st) (at_int hi) ?_
      walk_at "rd"
      have st : rsN r ss ls (i + 1) = rsN r ss ls i ++ (if decide (rch r ss ls i ≠ ss.getD i 0) = true then [i] else []) := filt_step
      refine g_ite (fun e => ?_) (fun e => ?_)
      · have ne : rch r ss ls i ≠ ss.getD i 0 := by simpa using e
        rw [if_pos (decide_eq_true ne)] at st
        walk_at "rd"
        refine ⟨_, hD, by rw [nI_len]; exact slt1000 (by have := filt_len (p := fun k => decide (rch r ss ls k ≠ ss.getD k 0)) (n := i); unfold rsN; omega), S'.mut nD, ?_⟩
        rw [upd_same, st, nI_app]; rfl
      · have eq : ¬ rch r ss ls i ≠ ss.getD i 0 := by simpa using e
        rw [if_neg (by simpa using eq), List.append_nil] at st
        exact ⟨S', by rw [st]; exact hD⟩
    · rintro H' ⟨S', hD⟩
      exact q D H' (S1.free nD) (S1.trans S') hD
/-! ### -/
end
end Rt
set_option Elab.async false
set_option linter.all false
set_option maxRecDepth 100000
set_option maxHeartbeats 4000000
namespace Rt
open PySem PySem.Spec L2
open PyProof.Rows (envOfC)
local macro_rules | `(tactic| walk_at "rd1") => `(tactic| (with_reducible first
  | refine g_var (by with_unfolding_all rfl) ?_
  | refine g_c ?_
  | refine g_op ?_
  | refine g_I0 ?_
  | refine g_eqI ?_
  | refine g_neI ?_
  | refine g_eqB ?_
  | refine g_neB ?_
  | refine g_cons ?_
  | refine g_nil ?_
  | refine g_seq ?_
  | refine g_asg ?_
  | refine g_name ?_
  | refine g_ret ?_
  | refine g_retN ?_
  | refine g_drop ?_
  | refine g_next ?_
  | refine g_if ?_
  | refine g_test ?_
  | refine g_tB ?_
  | refine g_bl ?_
  | refine g_and ?_
  | refine g_or ?_
  | refine g_not ?_
  | refine g_andV ?_
  | refine g_orV ?_
  | refine g_notV ?_
  | refine g_ifE ?_
  | refine g_cb ?_
  | refine g_meth ?_
  | refine g_rev ?_
  | refine g_gcons ?_
  | refine g_gnil ?_
  | refine g_isB' ?_
  | refine g_gsub ?_
  | refine g_call ?_
  | refine g_callS ?_
  | refine g_bm ?_
  | refine g_un ?_
  | refine g_U ?_
  | refine g_chain ?_
  | refine g_sl ?_
  | refine g_brk ?_
  | refine g_ct ?_
  | refine g_ipI ?_
  | refine g_fld ?_
  | refine g_lst ?_
  | refine g_int ?_
  | refine g_for ?_
  | refine g_rg1 ?_
  | refine g_rg2 ?_
  | refine g_il ?_
  | refine g_it ?_
  | refine g_lc ?_
  | refine g_yes ?_
  | refine g_tup ?_
  | refine g_part ?_
  | refine g_xf ?_
  | refine g_nn ?_
  | refine g_mko ?_
  | refine g_lrg ?_
  | refine g_tr1 ?_
  | refine g_tr2 ?_
  | refine g_oi2 ?_
  | refine g_mk ?_
  | refine g_sfld ?_
  | refine g_ost ?_
  | refine g_oi ?_
  | refine g_nopart ?_
  | refine g_tt ?_
  | refine g_ff ?_
  | refine g_nt ?_
  | refine g_nf ?_
  | refine g_drn ?_
  | refine g_din ?_
  | refine g_dnn ?_
  | refine g_nrn ?_
  | refine g_nin ?_
  | refine g_nnn ?_))
local macro_rules | `(tactic| walk_at "rd") => `(tactic| (repeat walk_at "rd1"))

local macro_rules | `(tactic| walk_at "rd1") => `(tactic| (with_reducible first
  | refine g_lrev ?_
  | refine g_enum ?_))
section
variable {P : Program} {w : World} {K : PySem.W.Frag} {mg : Str → Option Value} {base : Heap} {f : Addr} {fd : FuncData} {A : Ad}
/-! ### _lord_of, lords_of, leaders_of -/
def spLordOf (A : Ad) : Sp := fun vs H Q _ => ∃ (b ts tl : Addr) (r : Bool) (ss ls : List Int) (p : Nat), vs = [.ref b, .int (p : Int)] ∧ BAt A.Beads H b ts tl r ss ls ∧ p < ss.length ∧ ss.length ≤ 1000 ∧ ∀ H', Same H H' → Q (oV (lrd r ss p)) H'
theorem ok_lordOf (F : Fun K "_lord_of" "_lord_of" s__lord_of f fd) (T : Txt K mg A) (LN : LenD P w K mg base A.Beads (spLen A)) : FnOk P w K mg base CX0 4 f fd ["beads", "place"] (spLordOf A) := by
  refine F.ok sc__lord_of (fun vs H Q E h => ?_) (fun cdv A1 outer s H vs Q E hr h => ?_)
  · obtain ⟨b, ts, tl, r, ss, ls, p, rfl, _⟩ := h
    rfl
  · obtain ⟨b, ts, tl, r, ss, ls, p, rfl, B, hp, hn, q⟩ := h
    refine ⟨_, (pss_cons (ps_set (i := 2) sc__lord_of.nd rfl (Or.inl rfl) (pe_listRevR rfl (by rfl) T.m_list (by rfl) T.m_reversed (prg_1 (by rfl) T.m_range (pv 1))))
      (pss_cons (ps_if (pt_val (pe_fldK K (pv 0) rfl)) (pss_one (ps_set (i := 2) sc__lord_of.nd rfl (Or.inl rfl) (pe_op op_cat (pv 2) (pe_listRevR rfl (by rfl) T.m_list (by rfl) T.m_reversed (prg_2 (by rfl) T.m_range (pe_op op_add (pv 1) pe_int) (pe_callB (call_lenD LN (hr.mono (by decide))) (by rfl) T.m_len PySem.boot_len (pa_cons (pv 0) pa_nil))))))) pss_nil)
      (pss_cons (ps_for (PassesOwn.never) rfl (pi_listK K (pv 2)) (pg_name (i := 3) sc__lord_of.nd rfl (Or.inl rfl)) (pss_one (ps_if (pt_cmpR op_gt (pe_ix (ix_tupK K) (pe_fldK K (pv 0) rfl) (pv 3) (fun _ _ => rfl)) (pe_ix (ix_tupK K) (pe_fldK K (pv 0) rfl) (pv 1) (fun _ _ => rfl)) (nomark _)) (pss_one (ps_ret (pv 3))) pss_nil)))
      (pss_one (ps_ret pe_non))))), ?_⟩
    walk_at "rd"
    refine newDn (a := 0) (b := p) (by omega) (by omega) fun a Ha na Sa ha => ?_
    have e0 : ((List.range (p - 0)).map fun i => 0 + i).reverse = (List.range p).reverse := by simp
    rw [e0] at ha
    walk_at "rd"
    refine f_r T (B.mono Sa) ?_
    walk_at "rd"
    refine g_ite (fun e => ?ca) (fun e => ?cb)
    case' ca =>
      subst e
      walk_at "rd"
      refine g_lenB (B.mono Sa) hn ?_
      walk_at "rd"
      refine newDn (a := p + 1) (b := ss.length) (by omega) (by omega) fun a2 Ha2 na2 Sa2 ha2 => ?_
      have ha' := Sa2 _ _ ha
      rw [nI_eq] at ha' ha2
      refine g_cat ha' ha2 (by unfold iI; simp; omega) fun a3 Ha3 na3 Sa3 ha3 => ?_
      have S1 : Same H Ha3 := (Sa.trans Sa2).trans Sa3
      have hb : Ha3 a3 = some (.lst (nI (bef true ss.length p))) := by
        rw [ha3, nI_eq]
        unfold bef iI
        simp only [if_true, List.map_append]
      walk_at "rd"
      refine ⟨a3, rfl, ⟨_, SqL.of hb⟩, for_list (xs := nI (bef true ss.length p)) (fun i σ H' => ∃ v3 : Option V, σ = [some (.ref b), some (.int (p : Int)), some (.ref a3), v3] ∧ H' = Ha3 ∧ ∀ j, j < i → ∀ y, (bef true ss.length p)[j]? = some y → ss.getD y 0 ≤ ss.getD p 0)
        ⟨none, rfl, rfl, fun j hj => absurd hj (Nat.not_lt_zero j)⟩ (fun i σ H' _ ⟨_, _, h, _⟩ => by rw [h]; exact SqL.of hb) ?_ ?_⟩
    case' cb =>
      subst e
      walk_at "rd"
      have S1 := Sa
      have hb : Ha a = some (.lst (nI (bef false ss.length p))) := by
        rw [ha]
        unfold bef
        simp
      refine ⟨a, rfl, ⟨_, SqL.of hb⟩, for_list (xs := nI (bef false ss.length p)) (fun i σ H' => ∃ v3 : Option V, σ = [some (.ref b), some (.int (p : Int)), some (.ref a), v3] ∧ H' = Ha ∧ ∀ j, j < i → ∀ y, (bef false ss.length p)[j]? = some y → ss.getD y 0 ≤ ss.getD p 0)
        ⟨none, rfl, rfl, fun j hj => absurd hj (Nat.not_lt_zero j)⟩ (fun i σ H' _ ⟨_, _, h, _⟩ => by rw [h]; exact SqL.of hb) ?_ ?_⟩
    all_goals first
      | rintro i x σ H' hi ⟨v3, rfl, rfl, weak⟩
        obtain ⟨o, ho, rfl⟩ := nI_at hi
        obtain ⟨_, hol⟩ := bef_lt hp ho
        have B' := B.mono S1
        walk_at "rd"
        refine f_s T B' ?_
        walk_at "rd"
        refine g_ixT (SqT.of B'.st) (at_int hol) ?_
        walk_at "rd"
        refine f_s T B' ?_
        walk_at "rd"
        refine g_ixT (SqT.of B'.st) (at_int hp) ?_
        walk_at "rd"
        refine g_ite (fun e3 => ?_) (fun e3 => ?_)
        · walk_at "rd"
          have := q _ S1
          unfold lrd at this
          rw [find_at ho (by have := of_decide_eq_true e3; exact decide_eq_true (by omega)) fun j hj y hy => by have := weak j hj y hy; exact decide_eq_false (by omega)] at this
          exact this
        · walk_at "rd"
          refine ⟨_, rfl, rfl, fun j hj y hy => ?_⟩
          by_cases c : j < i
          · exact weak j c y hy
          · have ej : j = i := by omega
            subst ej
            rw [ho] at hy
            have ey := Option.some.inj hy
            subst ey
            have := of_decide_eq_false e3
            omega
      | rintro σ H' ⟨v3, rfl, rfl, weak⟩
        walk_at "rd"
        have := q _ S1
        unfold lrd at this
        rw [find_no fun j hj y hy => by have := weak j (by unfold nI; rw [List.length_map]; exact hj) y hy; exact decide_eq_false (by omega)] at this
        exact this
def lordsV (r : Bool) (ss : List Int) : List V := (List.range ss.length).map fun p => oV (lrd r ss p)
def spLords (A : Ad) : Sp := fun vs H Q _ => ∃ (b ts tl : Addr) (r : Bool) (ss ls : List Int), vs = [.ref b] ∧ BAt A.Beads H b ts tl r ss ls ∧ ss.length ≤ 1000 ∧ ∀ (a : Addr) (H' : Hp), H a = none → Same H H' → H' a = some (.lst (lordsV r ss)) → Q (.ref a) H'
theorem ok_lords (F : Fun K "lords_of" "lords_of" s_lords_of f fd) (T : Txt K mg A) (LN : LenD P w K mg base A.Beads (spLen A)) (D__lord_of : DefOk P w K mg base CX0 4 "_lord_of" ["beads", "place"] (spLordOf A)) : FnOk P w K mg base CX0 5 f fd ["beads"] (spLords A) := by
  refine F.ok sc_lords_of (fun vs H Q E h => ?_) (fun cdv A1 outer s H vs Q E hr h => ?_)
  · obtain ⟨b, ts, tl, r, ss, ls, rfl, _⟩ := h
    rfl
  · obtain ⟨b, ts, tl, r, ss, ls, rfl, B, hn, q⟩ := h
    refine ⟨_, (pss_one (ps_ret (pe_lc (own := [("place", 1)]) (g := gName 1) (tt := tYes) rfl sc_lords_of.nd (pi_range1 rfl T.m_range (pa_cons (pe_callB (call_lenD LN (hr.mono (by decide))) (by rfl) T.m_len PySem.boot_len (pa_cons (pv 0) pa_nil)) pa_nil)) (blkOk_by (N := ["beads", "place"]) (sc := defScope s_lords_of) (by decide +kernel)) (fun _ _ _ _ _ => (by exact (pg_name (i := 1) sc_lords_of.nd rfl (Or.inl rfl)))) (fun _ _ _ _ _ => (by exact pts_nil)) (fun _ _ _ _ _ => (by exact (pe_callD D__lord_of (hr.mono (by decide)) pass0 (pa_cons (pv 0) (pa_cons (pv 1) pa_nil)))))))), ?_⟩
    walk_at "rd"
    refine g_lenB B hn ?_
    walk_at "rd"
    refine ⟨_, rfl, by omega, by omega, fun D nD => ?_⟩
    rw [Int.toNat_natCast]
    refine lc_rangeV (fun p => oV (lrd r ss p)) nD (by omega) (fun i H' hi S' Q' hq => ?_) (fun H' S' h' => ?_)
    · rw [Int.zero_add]
      walk_at "rd"
      refine ⟨rfl, ?_⟩
      walk_at "rd"
      exact ⟨b, ts, tl, r, ss, ls, i, rfl, B.mono S', hi, hn, fun H2 S2 => hq H2 S2⟩
    · exact q D H' nD S' h'
def headsN (r : Bool) (ss : List Int) : List Nat := (List.range ss.length).filter fun p => (lrd r ss p).isNone
def spLeaders (A : Ad) : Sp := fun vs H Q _ => ∃ (b ts tl : Addr) (r : Bool) (ss ls : List Int), vs = [.ref b] ∧ BAt A.Beads H b ts tl r ss ls ∧ ss.length ≤ 1000 ∧ ∀ (a : Addr) (H' : Hp), H a = none → Same H H' → H' a = some (.lst (nI (headsN r ss))) → Q (.ref a) H'
theorem ok_leaders (F : Fun K "leaders_of" "leaders_of" s_leaders_of f fd) (T : Txt K mg A) (D_lords_of : DefOk P w K mg base CX0 5 "lords_of" ["beads"] (spLords A)) : FnOk P w K mg base CX0 6 f fd ["beads"] (spLeaders A) := by
  refine F.ok sc_leaders_of (fun vs H Q E h => ?_) (fun cdv A1 outer s H vs Q E hr h => ?_)
  · obtain ⟨b, ts, tl, r, ss, ls, rfl, _⟩ := h
    rfl
  · obtain ⟨b, ts, tl, r, ss, ls, rfl, B, hn, q⟩ := h
    refine ⟨_, (pss_one (ps_ret (pe_lc (own := [("place", 1), ("lord", 2)]) (g := gTup K 2 (gCons (gName 1) (gCons (gName 2) gNil))) (tt := _) rfl sc_leaders_of.nd (pi_enumK K (by rfl) T.m_enumerate (pa_cons (pe_callD D_lords_of (hr.mono (by decide)) pass0 (pa_cons (pv 0) pa_nil)) pa_nil)) (blkOk_by (N := ["beads", "place", "lord"]) (sc := defScope s_leaders_of) (by decide +kernel)) (fun _ _ _ _ _ => (by exact (pg_tup rfl (pgs_cons (pg_name (i := 1) sc_leaders_of.nd rfl (Or.inl rfl)) (pgs_cons (pg_name (i := 2) sc_leaders_of.nd rfl (Or.inl rfl)) pgs_nil))))) (fun _ _ _ _ _ => (by exact (pts_one (pt_cmpR op_isN (pv 2) pe_non (nomark _))))) (fun _ _ _ _ _ => (by exact (pv 1)))))), ?_⟩
    walk_at "rd"
    refine ⟨b, ts, tl, r, ss, ls, rfl, B, hn, fun a H1 na S1 ha => ?_⟩
    walk_at "rd"
    refine ⟨a, _, rfl, SqL.of ha, fun D nD => ?_⟩
    have lenL : (lordsV r ss).length = ss.length := by unfold lordsV; rw [List.length_map, List.length_range]
    refine lc_enum (xs := lordsV r ss) (fun i H' => Same H1 H' ∧ H' D = some (.lst (nI ((List.range i).filter fun p => (lrd r ss p).isNone)))) ⟨Same.new nD, upd_same⟩ (fun i H' h => SqL.of (h.1 _ _ ha)) ?_ ?_
    · rintro i x t H' hx ⟨S', hD⟩ nt
      have hi : i < ss.length := by
        have := (List.getElem?_eq_some_iff.mp hx).1
        rw [lenL] at this; exact this
      have ex : x = oV (lrd r ss i) := by
        unfold lordsV at hx
        rw [List.getElem?_map, List.getElem?_range hi] at hx
        exact (Option.some.inj hx).symm
      subst ex
      have S2 : Same H1 (upd H' t (.tup [.int (i : Nat), oV (lrd r ss i)])) := S'.newS nt
      have hD2 : (upd H' t (.tup [.int (i : Nat), oV (lrd r ss i)])) D = some (.lst (nI ((List.range i).filter fun p => (lrd r ss p).isNone))) := by
        rw [upd_ne (ne_of_none hD nt)]; exact hD
      refine g_gtup (SqT.of upd_same) rfl ?_
      walk_at "rd"
      refine ⟨rfl, ?_⟩
      walk_at "rd"
      have few : (nI ((List.range i).filter fun p => (lrd r ss p).isNone)).length < sizeLine := by
        unfold nI
        rw [List.length_map]
        have := List.length_filter_le (fun p => (lrd r ss p).isNone) (List.range i)
        rw [List.length_range] at this
        exact slt1000 (by omega)
      rw [oV_non]
      refine g_ite (fun e => ?_) (fun e => ?_)
      · walk_at "rd"
        refine ⟨_, hD2, few, S2.mut nD, ?_⟩
        rw [upd_same, List.range_succ, List.filter_append]
        simp [e, nI]
      · refine ⟨S2, ?_⟩
        rw [hD2, List.range_succ, List.filter_append]
        simp [e, nI]
    · rintro H' ⟨S', hD⟩
      rw [lenL] at hD
      exact q D H' (S1.free nD) (S1.trans S') hD
/-! ### -/
end
end Rt
set_option Elab.async false
set_option linter.all false
set_option maxRecDepth 100000
set_option maxHeartbeats 4000000
namespace Rt
open PySem PySem.Spec L2
open PyProof.Rows (envOfC)
open LamX (CodeO TabS Tabs TabB)
local macro_rules | `(tactic| walk_at "rd1") => `(tactic| (with_reducible first
  | refine g_var (by with_unfolding_all rfl) ?_
  | refine g_c ?_
  | refine g_op ?_
  | refine g_I0 ?_
  | refine g_eqI ?_
  | refine g_neI ?_
  | refine g_eqB ?_
  | refine g_neB ?_
  | refine g_cons ?_
  | refine g_nil ?_
  | refine g_seq ?_
  | refine g_asg ?_
  | refine g_name ?_
  | refine g_ret ?_
  | refine g_retN ?_
  | refine g_drop ?_
  | refine g_next ?_
  | refine g_if ?_
  | refine g_test ?_
  | refine g_tB ?_
  | refine g_bl ?_
  | refine g_and ?_
  | refine g_or ?_
  | refine g_not ?_
  | refine g_andV ?_
  | refine g_orV ?_
  | refine g_notV ?_
  | refine g_ifE ?_
  | refine g_cb ?_
  | refine g_meth ?_
  | refine g_rev ?_
  | refine g_gcons ?_
  | refine g_gnil ?_
  | refine g_isB' ?_
  | refine g_gsub ?_
  | refine g_call ?_
  | refine g_callS ?_
  | refine g_bm ?_
  | refine g_un ?_
  | refine g_U ?_
  | refine g_chain ?_
  | refine g_sl ?_
  | refine g_brk ?_
  | refine g_ct ?_
  | refine g_ipI ?_
  | refine g_fld ?_
  | refine g_lst ?_
  | refine g_int ?_
  | refine g_for ?_
  | refine g_rg1 ?_
  | refine g_rg2 ?_
  | refine g_il ?_
  | refine g_it ?_
  | refine g_lc ?_
  | refine g_yes ?_
  | refine g_tup ?_
  | refine g_part ?_
  | refine g_xf ?_
  | refine g_nn ?_
  | refine g_mko ?_
  | refine g_lrg ?_
  | refine g_tr1 ?_
  | refine g_tr2 ?_
  | refine g_oi2 ?_
  | refine g_mk ?_
  | refine g_sfld ?_
  | refine g_ost ?_
  | refine g_oi ?_
  | refine g_nopart ?_
  | refine g_tt ?_
  | refine g_ff ?_
  | refine g_nt ?_
  | refine g_nf ?_
  | refine g_drn ?_
  | refine g_din ?_
  | refine g_dnn ?_
  | refine g_nrn ?_
  | refine g_nin ?_
  | refine g_nnn ?_))
local macro_rules | `(tactic| walk_at "rd") => `(tactic| (repeat walk_at "rd1"))

local macro_rules | `(tactic| walk_at "rd1") => `(tactic| (with_reducible first
  | refine g_zipB ?_
  | refine g_enum ?_
  | refine g_enuT ?_))
section
variable {P : Program} {w : World} {K : PySem.W.Frag} {mg : Str → Option Value} {base : Heap} {f : Addr} {fd : FuncData} {A : Ad}
/-! ### heads -/
-- ["beads", "place", "lord"]
theorem heads_most {ss : List Int} {m : Int} (hm : m ∈ ss) (hx : ∀ y, y ∈ ss → y ≤ m) : headsN true ss = (List.range ss.length).filter fun p => decide (ss.getD p 0 = m) := by
  unfold headsN
  refine List.filter_congr fun p hp => ?_
  have hp' := List.mem_range.mp hp
  cases e : lrd true ss p with
  | none =>
    obtain ⟨o, ho, eo⟩ := mem_getD hm
    have := lrd_none_ring hp' e ho
    have := hx _ (getD_mem hp')
    show true = _
    exact (decide_eq_true (by omega)).symm
  | some o =>
    obtain ⟨ho, hs⟩ := lrd_some hp' e
    have := hx _ (getD_mem ho)
    show false = _
    exact (decide_eq_false (by omega)).symm
/-! ### a bead has no such field -/
theorem bfs_none {ts tl : Addr} {r : Bool} {m : Str} (h1 : ¬ (m = "ring")) (h2 : ¬ (m = "lengths")) (h3 : ¬ (m = "strengths")) : (bfs ts tl r).lookup m = none := by
  unfold bfs; rw [lookup_putF, if_neg h1, lookup_putF, if_neg h2, lookup_putF, if_neg h3]; rfl
theorem g_methB {H : Hp} {b ts tl : Addr} {r : Bool} {ss ls : List Int} {m : Str} {R : V → Hp → Prop} (B : BAt A.Beads H b ts tl r ss ls) (h1 : ¬ (m = "ring")) (h2 : ¬ (m = "lengths")) (h3 : ¬ (m = "strengths")) (h : R (.ref b) H) : ∃ a dx fs, V.ref b = .ref a ∧ H a = some (.ins A.Beads dx fs) ∧ fs.lookup m = none ∧ R (.ref a) H :=
  let ⟨dx, e⟩ := B.ob; ⟨b, dx, _, rfl, e, bfs_none h1 h2 h3, h⟩
/-! ### Beads.total -/
def spTotal (A : Ad) : Sp := fun vs H Q _ => ∃ (b ts tl : Addr) (r : Bool) (ss ls : List Int), vs = [.ref b] ∧ BAt A.Beads H b ts tl r ss ls ∧ Q (.int ls.sum) H
theorem ok_total (F : Fun K "total" "Beads.total" s_Beads_total f fd) (T : Txt K mg A) : FnOk P w K mg base CX0 1 f fd ["self"] (spTotal A) := by
  refine F.ok sc_Beads_total (fun vs H Q E h => ?_) (fun cdv A1 outer s H vs Q E hr h => ?_)
  · obtain ⟨b, ts, tl, r, ss, ls, rfl, _⟩ := h
    rfl
  · obtain ⟨b, ts, tl, r, ss, ls, rfl, B, q⟩ := h
    refine ⟨_, (pss_one (ps_ret (pe_callB (cr_sumT K rfl) (by rfl) T.m_sum (by decide +kernel) (pa_cons (pe_fldK K (pv 0) rfl) pa_nil)))), ?_⟩
    walk_at "rd"
    refine f_l T B ?_
    walk_at "rd"
    exact ⟨tl, ls, rfl, SqT.of B.ln, q⟩
/-! ### Beads.greatest -/
def spGreat (A : Ad) : Sp := fun vs H Q _ => ∃ (b ts tl : Addr) (r : Bool) (ss ls : List Int), vs = [.ref b] ∧ BAt A.Beads H b ts tl r ss ls ∧ 0 < ss.length ∧ ∀ m, m ∈ ss → (∀ y ∈ ss, y ≤ m) → Q (.int m) H
theorem ok_great (F : Fun K "greatest" "Beads.greatest" s_Beads_greatest f fd) (T : Txt K mg A) : FnOk P w K mg base CX0 1 f fd ["self"] (spGreat A) := by
  refine F.ok sc_Beads_greatest (fun vs H Q E h => ?_) (fun cdv A1 outer s H vs Q E hr h => ?_)
  · obtain ⟨b, ts, tl, r, ss, ls, rfl, _⟩ := h
    rfl
  · obtain ⟨b, ts, tl, r, ss, ls, rfl, B, h0, q⟩ := h
    refine ⟨_, (pss_one (ps_ret (pe_callB (cr_maxT K rfl hr.units) (by rfl) T.m_max (by decide +kernel) (pa_cons (pe_fldK K (pv 0) rfl) pa_nil)))), ?_⟩
    walk_at "rd"
    refine f_s T B ?_
    walk_at "rd"
    exact ⟨ts, ss, rfl, SqT.of B.st, h0, fun m hm hx => q m hm hx⟩
/-! ### exceptions of one field -/
def GoesX (C : Addr) (fld : Str) (v : V) (H : Hp) (E : XK) : Prop := ∀ d H', H d = none → Same H H' → H' d = some (.xd [(fld, v)]) → E (.ref C) (some d) H'
theorem GoesX.mono {C : Addr} {fld : Str} {v : V} {H H1 : Hp} {E : XK} (h : GoesX C fld v H E) (S : Same H H1) : GoesX C fld v H1 E := fun d H' n S' e => h d H' (S.free n) (S.trans S') e
theorem ok_WrongKind (F : Fun K "__init__" "WrongKind.__init__" s_WrongKind_init f fd) : FnOk P w K mg base CX0 1 f fd ["self", "ring"] (spExc1 K A.WrongKind "ring") := by
  refine F.ok sc_WrongKind_init (fun vs H Q E h => ?_) (fun cdv A1 outer s H vs Q E hr h => ?_)
  · obtain ⟨a, v, rfl, _⟩ := h
    rfl
  · obtain ⟨a, v, rfl, ha, T, no, q⟩ := h
    refine ⟨_, (pss_one (ps_ostK K (pv 0) (pv 1))), ?_⟩
    walk_at "rd"
    exact ⟨a, _, rfl, T, no, .inl ⟨ha, fun dx n ne => q dx n ne⟩⟩
/-! ### NotAtRest @k09,k15,k23,k24,k43,k45,k54,k58,k61,k63 -/
theorem ok_NotAtRest (F : Fun K "__init__" "NotAtRest.__init__" s_NotAtRest_init f fd) : FnOk P w K mg base CX0 1 f fd ["self", "place"] (spExc1 K A.NotAtRest "place") := by
  refine F.ok sc_NotAtRest_init (fun vs H Q E h => ?_) (fun cdv A1 outer s H vs Q E hr h => ?_)
  · obtain ⟨a, v, rfl, _⟩ := h
    rfl
  · obtain ⟨a, v, rfl, ha, T, no, q⟩ := h
    refine ⟨_, (pss_one (ps_ostK K (pv 0) (pv 1))), ?_⟩
    walk_at "rd"
    exact ⟨a, _, rfl, T, no, .inl ⟨ha, fun dx n ne => q dx n ne⟩⟩
/-! ### BadCut -/
theorem ok_BadCut (F : Fun K "__init__" "BadCut.__init__" s_BadCut_init f fd) : FnOk P w K mg base CX0 1 f fd ["self", "cut"] (spExc1 K A.BadCut "cut") := by
  refine F.ok sc_BadCut_init (fun vs H Q E h => ?_) (fun cdv A1 outer s H vs Q E hr h => ?_)
  · obtain ⟨a, v, rfl, _⟩ := h
    rfl
  · obtain ⟨a, v, rfl, ha, T, no, q⟩ := h
    refine ⟨_, (pss_one (ps_ostK K (pv 0) (pv 1))), ?_⟩
    walk_at "rd"
    exact ⟨a, _, rfl, T, no, .inl ⟨ha, fun dx n ne => q dx n ne⟩⟩
/-! ### check_ring -/
def spRingX (A : Ad) : Sp := fun vs H Q E => ∃ (b ts tl : Addr) (r : Bool) (ss ls : List Int), vs = [.ref b] ∧ BAt A.Beads H b ts tl r ss ls ∧ (r = true → Q .non H) ∧ (r = false → GoesX A.WrongKind "ring" (.bl false) H E)
theorem ok_ringX (F : Fun K "check_ring" "check_ring" s_check_ring f fd) (T : Txt K mg A) (X_WrongKind : ExcDef P w K mg base "WrongKind" A.WrongKind "ring") : FnOk P w K mg base (L2N.CX P w) 3 f fd ["beads"] (spRingX A) := by
  refine okN F sc_check_ring (fun vs H Q E h => ?_) (fun cdv A1 outer s H vs Q E hr h => ?_)
  · obtain ⟨b, ts, tl, r, ss, ls, rfl, _⟩ := h
    rfl
  · obtain ⟨b, ts, tl, r, ss, ls, rfl, B, q1, q2⟩ := h
    refine ⟨_, (pss_one (ps_if (pt_not (pt_val (pe_fldK K (pv 0) rfl))) (pss_one (L2N.ps_raise rfl (takes_ofN rfl rfl rfl rfl) (pmk_D X_WrongKind (hr.mono (by decide)) (pa_cons pe_bl pa_nil)))) pss_nil)), ?_⟩
    walk_at "rd"
    refine f_r T B ?_
    walk_at "rd"
    cases r with
    | true =>
      walk_at "rd"
      exact q1 rfl
    | false =>
      walk_at "rd"
      exact mk1 T.oWK T.no_WrongKind_ring (q2 rfl)
/-! ### check_rest -/
def spRstX (A : Ad) : Sp := fun vs H Q E => ∃ (b ts tl : Addr) (r : Bool) (ss ls : List Int), vs = [.ref b] ∧ BAt A.Beads H b ts tl r ss ls ∧ StOk ss ls ∧ (rsN r ss ls ss.length = [] → ∀ H', Same H H' → Q .non H') ∧ (∀ (p : Nat) ps, rsN r ss ls ss.length = p :: ps → GoesX A.NotAtRest "place" (.int (p : Int)) H E)
theorem ok_rstX (F : Fun K "check_rest" "check_rest" s_check_rest f fd) (T : Txt K mg A) (D_restless : DefOk P w K mg base CX0 8 "restless" ["beads"] (spRest' A rsN)) (X_NotAtRest : ExcDef P w K mg base "NotAtRest" A.NotAtRest "place") : FnOk P w K mg base (L2N.CX P w) 9 f fd ["beads"] (spRstX A) := by
  refine okN F sc_check_rest (fun vs H Q E h => ?_) (fun cdv A1 outer s H vs Q E hr h => ?_)
  · obtain ⟨b, ts, tl, r, ss, ls, rfl, _⟩ := h
    rfl
  · obtain ⟨b, ts, tl, r, ss, ls, rfl, B, ok, q1, q2⟩ := h
    refine ⟨_, (pss_cons (ps_set (i := 1) sc_check_rest.nd rfl (Or.inl rfl) (pe_callD D_restless (hr.mono (by decide)) pass0 (pa_cons (pv 0) pa_nil)))
      (pss_one (ps_if (pt_cmpR op_gt (pe_callB (call_lenK K) (by rfl) T.m_len PySem.boot_len (pa_cons (pv 1) pa_nil)) pe_int (nomark _)) (pss_one (L2N.ps_raise rfl (takes_ofN rfl rfl rfl rfl) (pmk_D X_NotAtRest (hr.mono (by decide)) (pa_cons (pe_ix (ix_listK K) (pv 1) pe_int (fun _ _ => rfl)) pa_nil)))) pss_nil))), ?_⟩
    walk_at "rd"
    refine ⟨b, ts, tl, r, ss, ls, rfl, B, ok, fun a H1 na S1 ha => ?_⟩
    walk_at "rd"
    refine ⟨a, _, rfl, .inl (SqL.of ha), ?_⟩
    rw [nI_len]
    cases e : rsN r ss ls ss.length with
    | nil =>
      walk_at "rd"
      refine g_iff (by rfl) ?_
      exact q1 e H1 S1
    | cons p ps =>
      rw [e] at ha
      walk_at "rd"
      refine g_itt (decide_eq_true (by rw [List.length_cons]; omega)) ?_
      walk_at "rd"
      refine g_ixL (SqL.of ha) (atI_nat (j := 0) (v := V.int (p : Int)) rfl) ?_
      exact mk1 T.oNR T.no_NotAtRest_place ((q2 p ps e).mono S1)
/-! ### offsets_of -/
def offsL (ls : List Int) : List Int := (List.range ls.length).map fun k => off ls k
theorem offsL_len {ls : List Int} : (offsL ls).length = ls.length := by unfold offsL; rw [List.length_map, List.length_range]
theorem offsL_at {ls : List Int} {k : Nat} (h : k < ls.length) : (offsL ls).getD k 0 = off ls k := by
  unfold offsL
  rw [List.getD_eq_getElem?_getD, List.getElem?_map, List.getElem?_range h]; rfl
def spOffs (K : PySem.W.Frag) : Sp := fun vs H Q _ => ∃ (la : Addr) (ls : List Int), vs = [.ref la] ∧ SqT K H la (ls.map V.int) ∧ ls.length ≤ 1000 ∧ ∀ (t : Addr) (H' : Hp), H t = none → Same H H' → H' t = some (.lst ((offsL ls).map V.int)) → Q (.ref t) H'
theorem ok_offs (F : Fun K "offsets_of" "offsets_of" s_offsets_of f fd) (T : Txt K mg A) : FnOk P w K mg base CX0 1 f fd ["lengths"] (spOffs K) := by
  refine F.ok sc_offsets_of (fun vs H Q E h => ?_) (fun cdv A1 outer s H vs Q E hr h => ?_)
  · obtain ⟨la, ls, rfl, _⟩ := h
    rfl
  · obtain ⟨la, ls, rfl, hl, l9, q⟩ := h
    refine ⟨_, (pss_cons (ps_set (i := 1) sc_offsets_of.nd rfl (Or.inl rfl) (pe_lst pa_nil))
      (pss_cons (ps_set (i := 2) sc_offsets_of.nd rfl (Or.inl rfl) pe_int)
      (pss_cons (ps_for (PassesOwn.never) rfl (pi_tupK K (pv 0)) (pg_name (i := 3) sc_offsets_of.nd rfl (Or.inl rfl)) (pss_cons (ps_expr (pe_appK K (pv 1) (pa_cons (pv 2) pa_nil)))
      (pss_one (ps_aug (i := 2) sc_offsets_of.nd rfl (Or.inl rfl) (pv 3) ip_add))))
      (pss_one (ps_ret (pv 1)))))), ?_⟩
    walk_at "rd"
    refine newL fun t H1 nt S1 ht => ?_
    walk_at "rd"
    refine ⟨la, rfl, ⟨_, L2.Same.tup S1 hl⟩, for_tup (xs := ls.map V.int) (fun i σ H' => ∃ (v3 : Option V), σ = [some (.ref la), some (.ref t), some (.int (off ls i)), v3] ∧ i ≤ ls.length ∧ Same H H' ∧ H' t = some (.lst (((List.range i).map fun k => off ls k).map V.int))) ⟨none, rfl, Nat.zero_le _, S1, ht⟩ (fun i σ H' _ ⟨_, _, _, S, _⟩ => L2.Same.tup S hl) ?_ ?_⟩
    · rintro i x σ H' hx ⟨v3, rfl, _, S', ht'⟩
      obtain ⟨li, rfl⟩ := map_at hx
      refine g_name ?_
      walk_at "rd"
      refine ⟨ty_l ht', ?_⟩
      walk_at "rd"
      refine g_app ht' (by rw [List.length_map, List.length_map, List.length_range]; exact slt1000 (by omega)) ?_
      walk_at "rd"
      refine g_aug (by with_unfolding_all rfl) ?_
      walk_at "rd"
      refine ⟨_, by rw [off_succ li]; rfl, by omega, S'.mut nt, ?_⟩
      rw [upd_same, List.range_succ, List.map_append, List.map_append]; rfl
    · rintro σ H' ⟨v3, rfl, _, S', ht'⟩
      rw [List.length_map] at ht'
      walk_at "rd"
      exact q t H' nt S' ht'
/-! ### is_ascending -/
theorem SqB.ix {K : PySem.W.Frag} {c : Bool} {H : Hp} {a : Addr} {xs : List V} {i : Int} {v : V} {Q : VK} (h : SqB K c H a xs) (e : atI xs i = some v) (q : Q v H) : rIx K (.ref a) (.int i) H Q := by
  cases c with
  | true => exact .inr (.inl (g_ixT h e q))
  | false => exact .inl (g_ixL h e q)
theorem SqB.or {K : PySem.W.Frag} {c : Bool} {H : Hp} {a : Addr} {xs : List V} (h : SqB K c H a xs) : SqL K H a xs ∨ SqT K H a xs := by
  cases c with
  | true => exact .inr h
  | false => exact .inl h
theorem SqB.mono' {K : PySem.W.Frag} {c : Bool} {H H' : Hp} {a : Addr} {xs : List V} (h : SqB K c H a xs) (S : Same H H') : SqB K c H' a xs := by
  cases c with
  | true => exact L2.Same.tup S h
  | false => exact S.seq h
theorem at_end {ss : List Int} (h : 0 < ss.length) : atI (ss.map V.int) (-1) = some (.int (ss.getD (ss.length - 1) 0)) := by
  refine at_last ?_
  rw [List.length_map, List.getElem?_map, List.getD_eq_getElem?_getD, List.getElem?_eq_getElem (by omega)]; rfl
def spAsc (K : PySem.W.Frag) : Sp := fun vs H Q _ => ∃ (ca : Addr) (c : Bool) (cs : List Int) (n : Nat), vs = [.ref ca, .int (n : Int)] ∧ SqB K c H ca (cs.map V.int) ∧ cs.length ≤ 1000 ∧ ∀ H', Same H H' → Q (.bl (ascB n cs)) H'
theorem ok_asc (F : Fun K "is_ascending" "is_ascending" s_is_ascending f fd) (T : Txt K mg A) : FnOk P w K mg base CX0 1 f fd ["cut", "many"] (spAsc K) := by
  refine F.ok sc_is_ascending (fun vs H Q E h => ?_) (fun cdv A1 outer s H vs Q E hr h => ?_)
  · obtain ⟨ca, c, cs, n, rfl, _⟩ := h
    rfl
  · obtain ⟨ca, c, cs, n, rfl, hc, n9, q⟩ := h
    unfold ascB at q
    refine ⟨_, (pss_cons (ps_if (PW.pt (pw_or (pt_cmpR op_eq (pe_callB (call_lenK K) (by rfl) T.m_len PySem.boot_len (pa_cons (pv 0) pa_nil)) pe_int (nomark _)) (pw_or (pt_cmpR op_lt (pe_ix (ix_seqK K) (pv 0) pe_int (fun _ _ => rfl)) pe_int (nomark _)) (pw_or1 (pt_cmpR op_ge (pe_ix (ix_seqK K) (pv 0) (pe_un un_neg pe_int) (fun _ _ => rfl)) (pv 1) (nomark _)))))) (pss_one (ps_ret pe_bl)) pss_nil)
      (pss_one (ps_ret (pe_callB (cr_allK K rfl) (by rfl) T.m_all (by decide +kernel) (pa_cons (pe_lc (own := [("k", 2)]) (g := gName 2) (tt := tYes) rfl sc_is_ascending.nd (pi_range1 rfl T.m_range (pa_cons (pe_op op_sub (pe_callB (call_lenK K) (by rfl) T.m_len PySem.boot_len (pa_cons (pv 0) pa_nil)) pe_int) pa_nil)) (blkOk_by (N := ["cut", "many", "k"]) (sc := defScope s_is_ascending) (by decide +kernel)) (fun _ _ _ _ _ => (by exact (pg_name (i := 2) sc_is_ascending.nd rfl (Or.inl rfl)))) (fun _ _ _ _ _ => (by exact pts_nil)) (fun _ _ _ _ _ => (by exact (pe_cmpR op_lt (pe_ix (ix_seqK K) (pv 0) (pv 2) (fun _ _ => rfl)) (pe_ix (ix_seqK K) (pv 0) (pe_op op_add (pv 2) pe_int) (fun _ _ => rfl)) (nomark _))))) pa_nil))))), ?_⟩
    walk_at "rd"
    refine ⟨ca, _, rfl, hc.or, ?_⟩
    rw [List.length_map]
    walk_at "rd"
    refine g_ite (fun e => ?_) (fun e => ?_)
    · have e0 : cs = [] := List.eq_nil_of_length_eq_zero (by have := of_decide_eq_true e; omega)
      walk_at "rd"
      rw [decide_eq_false (by rw [e0]; simp)] at q
      exact q H (Same.refl _)
    have l0 : 0 < cs.length := by have := of_decide_eq_false e; omega
    have ne : cs ≠ [] := fun z => by rw [z] at l0; simp at l0
    rw [decide_eq_true ne, Bool.true_and] at q
    walk_at "rd"
    refine hc.ix (at_int (o := 0) l0) ?_
    walk_at "rd"
    refine g_ite (fun e => ?_) (fun e => ?_)
    · walk_at "rd"
      rw [decide_eq_false (by have := of_decide_eq_true e; omega)] at q
      exact q H (Same.refl _)
    rw [decide_eq_true (by have := of_decide_eq_false e; omega), Bool.true_and] at q
    walk_at "rd"
    refine hc.ix (at_end l0) ?_
    walk_at "rd"
    refine g_ite (fun e => ?_) (fun e => ?_)
    · walk_at "rd"
      rw [decide_eq_false (by have := of_decide_eq_true e; omega)] at q
      exact q H (Same.refl _)
    rw [decide_eq_true (by have := of_decide_eq_false e; omega), Bool.true_and] at q
    walk_at "rd"
    refine ⟨ca, _, rfl, hc.or, ?_⟩
    rw [List.length_map]
    walk_at "rd"
    refine ⟨_, rfl, by omega, by omega, fun D nD => ?_⟩
    rw [show ((cs.length : Int) - 1).toNat = cs.length - 1 by omega]
    refine lc_range (fun i H' => Same H H' ∧ H' D = some (.lst (((List.range i).map fun k => decide (cs.getD k 0 < cs.getD (k + 1) 0)).map V.bl))) ⟨Same.new nD, upd_same⟩ ?_ ?_
    · rintro i H' hi ⟨S', hD⟩
      rw [Int.zero_add]
      walk_at "rd"
      refine ⟨rfl, ?_⟩
      walk_at "rd"
      refine (hc.mono' S').ix (at_int (o := i) (by omega)) ?_
      walk_at "rd"
      rw [show (i : Int) + 1 = ((i + 1 : Nat) : Int) by omega]
      refine (hc.mono' S').ix (at_int (o := i + 1) (by omega)) ?_
      walk_at "rd"
      refine ⟨_, hD, by rw [List.length_map, List.length_map, List.length_range]; exact slt1000 (by omega), S'.mut nD, ?_⟩
      rw [upd_same, List.range_succ, List.map_append, List.map_append]; rfl
    · rintro H1 ⟨S1, hD⟩
      walk_at "rd"
      refine ⟨D, _, rfl, SqL.of hD, ?_⟩
      have := q H1 S1
      rw [List.all_map]
      exact this
/-! ### -/
end
end Rt
set_option Elab.async false
set_option linter.all false
set_option maxRecDepth 100000
set_option maxHeartbeats 4000000
namespace Rt
open PySem PySem.Spec L2
open PyProof.Rows (envOfC)
open LamX (CodeO TabS Tabs TabB)
local macro_rules | `(tactic| walk_at "rd1") => `(tactic| (with_reducible first
  | refine g_var (by with_unfolding_all rfl) ?_
  | refine g_c ?_
  | refine g_op ?_
  | refine g_I0 ?_
  | refine g_eqI ?_
  | refine g_neI ?_
  | refine g_eqB ?_
  | refine g_neB ?_
  | refine g_cons ?_
  | refine g_nil ?_
  | refine g_seq ?_
  | refine g_asg ?_
  | refine g_name ?_
  | refine g_ret ?_
  | refine g_retN ?_
  | refine g_drop ?_
  | refine g_next ?_
  | refine g_if ?_
  | refine g_test ?_
  | refine g_tB ?_
  | refine g_bl ?_
  | refine g_and ?_
  | refine g_or ?_
  | refine g_not ?_
  | refine g_andV ?_
  | refine g_orV ?_
  | refine g_notV ?_
  | refine g_ifE ?_
  | refine g_cb ?_
  | refine g_meth ?_
  | refine g_rev ?_
  | refine g_gcons ?_
  | refine g_gnil ?_
  | refine g_isB' ?_
  | refine g_gsub ?_
  | refine g_call ?_
  | refine g_callS ?_
  | refine g_bm ?_
  | refine g_un ?_
  | refine g_U ?_
  | refine g_chain ?_
  | refine g_sl ?_
  | refine g_brk ?_
  | refine g_ct ?_
  | refine g_ipI ?_
  | refine g_fld ?_
  | refine g_lst ?_
  | refine g_int ?_
  | refine g_for ?_
  | refine g_rg1 ?_
  | refine g_rg2 ?_
  | refine g_il ?_
  | refine g_it ?_
  | refine g_lc ?_
  | refine g_yes ?_
  | refine g_tup ?_
  | refine g_part ?_
  | refine g_xf ?_
  | refine g_nn ?_
  | refine g_mko ?_
  | refine g_lrg ?_
  | refine g_tr1 ?_
  | refine g_tr2 ?_
  | refine g_oi2 ?_
  | refine g_mk ?_
  | refine g_sfld ?_
  | refine g_ost ?_
  | refine g_oi ?_
  | refine g_nopart ?_
  | refine g_tt ?_
  | refine g_ff ?_
  | refine g_nt ?_
  | refine g_nf ?_
  | refine g_drn ?_
  | refine g_din ?_
  | refine g_dnn ?_
  | refine g_nrn ?_
  | refine g_nin ?_
  | refine g_nnn ?_))
local macro_rules | `(tactic| walk_at "rd") => `(tactic| (repeat walk_at "rd1"))

local macro_rules | `(tactic| walk_at "rd1") => `(tactic| (with_reducible first
  | refine g_zipB ?_
  | refine g_enum ?_
  | refine g_enuT ?_))
section
variable {P : Program} {w : World} {K : PySem.W.Frag} {mg : Str → Option Value} {base : Heap} {f : Addr} {fd : FuncData} {A : Ad}
def optV : Option Int → V
  | none => .non
  | some a => .int a
/-! ### common_arc -/
theorem mapR_at {g : Nat → Int} {n k : Nat} (h : k < n) : ((List.range n).map g).getD k 0 = g k := by
  rw [List.getD_eq_getElem?_getD, List.getElem?_map, List.getElem?_range h]; rfl
def spArcX (K : PySem.W.Frag) (A : Ad) : Sp := fun vs H Q _ => ∃ (b ts tl ca : Addr) (r c : Bool) (ss ls cs : List Int), vs = [.ref b, .ref ca] ∧ BAt A.Beads H b ts tl r ss ls ∧ StOk ss ls ∧ SqB K c H ca (cs.map V.int) ∧ cs.length ≤ 1000 ∧ ∀ H', Same H H' → Q (optV (arcOf ls cs)) H'
theorem ok_arcX (F : Fun K "common_arc" "common_arc" s_common_arc f fd) (T : Txt K mg A) (LN : LenD P w K mg base A.Beads (spLen A)) (D_is_ascending : DefOk P w K mg base CX0 1 "is_ascending" ["cut", "many"] (spAsc K)) (D_offsets_of : DefOk P w K mg base CX0 1 "offsets_of" ["lengths"] (spOffs K))
    (ME_total : MethD P w K mg base CX0 1 A.Beads "total" ["self"] (spTotal A)) : FnOk P w K mg base CX0 4 f fd ["beads", "cut"] (spArcX K A) := by
  refine F.ok sc_common_arc (fun vs H Q E h => ?_) (fun cdv A1 outer s H vs Q E hr h => ?_)
  · obtain ⟨b, ts, tl, ca, r, c, ss, ls, cs, rfl, _⟩ := h
    rfl
  · obtain ⟨b, ts, tl, ca, r, c, ss, ls, cs, rfl, B, ok, hc, n9, q⟩ := h
    have n1 := ok.n1
    have el := ok.len
    refine ⟨_, (pss_cons (ps_if (pt_not (pt_val (pe_callD D_is_ascending (hr.mono (by decide)) pass0 (pa_cons (pv 1) (pa_cons (pe_callB (call_lenD LN (hr.mono (by decide))) (by rfl) T.m_len PySem.boot_len (pa_cons (pv 0) pa_nil)) pa_nil))))) (pss_one (ps_ret pe_non)) pss_nil)
      (pss_cons (ps_set (i := 2) sc_common_arc.nd rfl (Or.inr rfl) (pe_callD D_offsets_of (hr.mono (by decide)) pass0 (pa_cons (pe_fldK K (pv 0) rfl) pa_nil)))
      (pss_cons (ps_setLc (i := 3) (own := [("head", 4)]) (g := gName 4) (tt := tYes) rfl sc_common_arc.nd rfl rfl (sw_true rfl rfl rfl (by decide +kernel)) (pi_or (pi_listK K (pv 1)) (pi_tupK K (pv 1))) (blkOk_by (N := ["beads", "cut", "offsets", "starts", "head", "ends", "arcs", "start", "end"]) (sc := defScope s_common_arc) (by decide +kernel)) (fun _ _ _ _ _ => (by exact (pg_name (i := 4) sc_common_arc.nd rfl (Or.inl rfl)))) (fun _ _ _ _ _ => (by exact pts_nil)) (fun _ _ _ _ _ => (by exact (pe_ix (ix_listK K) (pv 2) (pv 4) (fun _ _ => rfl)))))
      (pss_cons (ps_set (i := 5) sc_common_arc.nd rfl (Or.inl rfl) (pe_op op_cat (pe_slice (sl_listK K) (pv 3) (po_some pe_int) po_none) (pe_lst (pa_cons (pe_op op_add (pe_ix (ix_listK K) (pv 3) pe_int (fun _ _ => rfl)) (pe_methD0 ME_total (hr.mono (by decide)) pass0 (pv 0))) pa_nil))))
      (pss_cons (ps_setLc (i := 6) (own := [("start", 7), ("end", 8)]) (g := gTup K 2 (gCons (gName 7) (gCons (gName 8) gNil))) (tt := tYes) rfl sc_common_arc.nd rfl rfl (sw_true rfl rfl rfl (by decide +kernel)) (pi_zipB K false false (by rfl) T.m_zip (pa_cons (pv 3) (pa_cons (pv 5) pa_nil))) (blkOk_by (N := ["beads", "cut", "offsets", "starts", "head", "ends", "arcs", "start", "end"]) (sc := defScope s_common_arc) (by decide +kernel)) (fun _ _ _ _ _ => (by exact (pg_tup rfl (pgs_cons (pg_name (i := 7) sc_common_arc.nd rfl (Or.inl rfl)) (pgs_cons (pg_name (i := 8) sc_common_arc.nd rfl (Or.inl rfl)) pgs_nil))))) (fun _ _ _ _ _ => (by exact pts_nil)) (fun _ _ _ _ _ => (by exact (pe_op op_sub (pv 8) (pv 7)))))
      (pss_one (ps_ret (pe_ifExp (pt_cmpR op_eq (pe_callB (cr_minKL K rfl) (by rfl) T.m_min (by decide +kernel) (pa_cons (pv 6) pa_nil)) (pe_callB (cr_maxK K rfl) (by rfl) T.m_max (by decide +kernel) (pa_cons (pv 6) pa_nil)) (nomark _)) (pe_ix (ix_listK K) (pv 6) pe_int (fun _ _ => rfl)) pe_non)))))))), ?_⟩
    walk_at "rd"
    refine g_lenB B n1 ?_
    walk_at "rd"
    refine ⟨ca, c, cs, ss.length, rfl, hc, n9, fun H1 S1 => ?_⟩
    walk_at "rd"
    unfold arcOf at q
    cases ea : ascB (ss.length : Int) cs with
    | false =>
      rw [if_neg (fun z => by rw [el, ea] at z; cases z.1)] at q
      walk_at "rd"
      exact q H1 S1
    | true =>
      obtain ⟨c', hA, rfl⟩ := ascB_iff.mp ea
      rw [el] at q
      have lt : ∀ k, k < c'.length → c'.getD k 0 < ls.length := fun k hk => by
        rw [List.getD_eq_getElem?_getD, List.getElem?_eq_getElem hk, el]
        exact hA.lt _ (List.getElem_mem hk)
      have m0 := hA.ne
      have ml := iI_len (c := c')
      walk_at "rd"
      have B1 := B.mono S1
      refine f_l T B1 ?_
      walk_at "rd"
      refine ⟨tl, ls, rfl, SqT.of B1.ln, by omega, fun oa H2 noa S2 hoa => ?_⟩
      have S02 := S1.trans S2
      have hc2 := hc.mono' S02
      have turn : ∀ (D : Addr), H2 D = none → ∀ (i : Nat) (x : V) (H' : Hp), ((iI c').map V.int)[i]? = some x → (Same H2 H' ∧ H' D = some (.lst (((List.range i).map fun k => offI ls ((iI c').getD k 0)).map V.int))) → rIxL K (.ref oa) x H' fun y H4 => ∃ acc, H4 D = some (.lst acc) ∧ acc.length < sizeLine ∧ (Same H2 (upd H4 D (.lst (acc ++ [y]))) ∧ (upd H4 D (.lst (acc ++ [y]))) D = some (.lst (((List.range (i + 1)).map fun k => offI ls ((iI c').getD k 0)).map V.int))) := fun D nD i x H' hx h => by
        obtain ⟨li, rfl⟩ := map_at hx
        rw [iI_getD]
        rw [iI_len] at li
        refine g_ixL (SqL.of (h.1 _ _ hoa)) (at_int (by rw [offsL_len]; exact lt i li)) ?_
        refine ⟨_, h.2, by rw [List.length_map, List.length_map, List.length_range]; exact slt1000 (by omega), h.1.mut nD, ?_⟩
        rw [upd_same, offsL_at (lt i li), List.range_succ, List.map_append, List.map_append]
        show _ = some (HO.lst (_ ++ [V.int (offI ls ((iI c').getD i 0))]))
        rw [offI_nat]
      refine g_name ?_
      dsimp only
      refine g_seq ?_
      refine g_st ([some (.ref b), some (.ref ca), some (.ref oa), none, none, none, none, none, none]) rfl ?_
      refine g_join (fun σ' H3 => ∃ D : Addr, σ' = [some (.ref b), some (.ref ca), some (.ref oa), some (.ref D), none, none, none, none, none] ∧ Same H2 H3 ∧ H3 D = some (.lst (((List.range c'.length).map fun k => offI ls ((iI c').getD k 0)).map V.int))) ?_ ?_
      · intro D' hD'
        have fin : ∀ (D : Addr) (H3 : Hp), Same H2 H3 → H3 D = some (.lst (((List.range ((iI c').map V.int).length).map fun k => offI ls ((iI c').getD k 0)).map V.int)) → D'.nx [some (.ref b), some (.ref ca), some (.ref oa), some (.ref D), none, none, none, none, none] H3 := fun D H3 S h => by
          rw [List.length_map, ml] at h
          exact hD' _ _ ⟨D, rfl, S, h⟩
        cases c with
        | false =>
          walk_at "rd"
          refine .inl ?_
          walk_at "rd"
          refine ⟨ca, rfl, ⟨_, hc2⟩, fun D nD => ?_⟩
          refine lc_list (xs := (iI c').map V.int) (fun i H' => Same H2 H' ∧ H' D = some (.lst (((List.range i).map fun k => offI ls ((iI c').getD k 0)).map V.int))) ⟨Same.new nD, upd_same⟩ (fun i H' _ h => h.1.seq hc2) ?_ ?_
          · intro i x H' hx h
            walk_at "rd"
            refine ⟨rfl, ?_⟩
            walk_at "rd"
            exact turn D nD i x H' hx h
          · rintro H3 ⟨S3, h3⟩
            walk_at "rd"
            exact fin D H3 S3 h3
        | true =>
          walk_at "rd"
          refine .inr ?_
          walk_at "rd"
          refine ⟨ca, rfl, ⟨_, hc2⟩, fun D nD => ?_⟩
          refine lc_tup (xs := (iI c').map V.int) (fun i H' => Same H2 H' ∧ H' D = some (.lst (((List.range i).map fun k => offI ls ((iI c').getD k 0)).map V.int))) ⟨Same.new nD, upd_same⟩ (fun i H' _ h => L2.Same.tup h.1 hc2) ?_ ?_
          · intro i x H' hx h
            walk_at "rd"
            refine ⟨rfl, ?_⟩
            walk_at "rd"
            exact turn D nD i x H' hx h
          · rintro H3 ⟨S3, h3⟩
            walk_at "rd"
            exact fin D H3 S3 h3
      · clear turn
        rintro σ' H3 ⟨D, rfl, S3, h3⟩
        have S03 := S02.trans S3
        have sat : ∀ k, k < c'.length → ((List.range c'.length).map fun k => offI ls ((iI c').getD k 0)).getD k 0 = offI ls ((iI c').getD k 0) := fun k hk => mapR_at hk
        have sl : ((List.range c'.length).map fun k => offI ls ((iI c').getD k 0)).length = c'.length := by rw [List.length_map, List.length_range]
        generalize ((List.range c'.length).map fun k => offI ls ((iI c').getD k 0)) = st at h3 sat sl
        walk_at "rd"
        refine g_cut (SqL.of h3) fun e1 H4 ne1 S4 he1 => ?_
        rw [show (1 : Int) = ((1 : Nat) : Int) from rfl, cut_lo (by rw [List.length_map]; omega), ← List.map_drop] at he1
        walk_at "rd"
        refine g_ixL (SqL.of (S4 _ _ h3)) (at_int (o := 0) (by omega)) ?_
        walk_at "rd"
        have S04 := S03.trans S4
        obtain ⟨dx, eb⟩ := (B.mono S04).ob
        refine ⟨b, dx, _, rfl, eb, bfs_none (by decide +kernel) (by decide +kernel) (by decide +kernel), ?_⟩
        walk_at "rd"
        refine ⟨b, ts, tl, r, ss, ls, rfl, B.mono S04, ?_⟩
        walk_at "rd"
        refine newL fun e2 H5 ne2 S5 he2 => ?_
        walk_at "rd"
        refine g_cat (xs := st.drop 1) (zs := [st.getD 0 0 + ls.sum]) (S5 _ _ he1) he2 (by rw [List.length_drop]; simp; omega) fun e3 H6 ne3 S6 he3 => ?_
        have h36 := S6 _ _ (S5 _ _ (S4 _ _ h3))
        have S06 := S04.trans (S5.trans S6)
        have lE : (st.drop 1 ++ [st.getD 0 0 + ls.sum]).length = c'.length := by rw [List.length_append, List.length_drop, List.length_singleton]; omega
        have eat : ∀ k, k < c'.length → (st.drop 1 ++ [st.getD 0 0 + ls.sum]).getD k 0 - st.getD k 0 = (arcsI ls (iI c')).getD k 0 := fun k hk => by
          rw [arcsI_at (by rw [ml]; exact hk), ml, sat k hk]
          congr 1
          by_cases z : k + 1 < c'.length
          · rw [if_pos z, List.getD_eq_getElem?_getD, List.getElem?_append_left (by rw [List.length_drop]; omega), List.getElem?_drop, Nat.add_comm 1 k, ← List.getD_eq_getElem?_getD, sat (k + 1) z]
          · rw [if_neg z, List.getD_eq_getElem?_getD, List.getElem?_append_right (by rw [List.length_drop]; omega), List.length_drop, show k - (st.length - 1) = 0 by omega]
            show st.getD 0 0 + ls.sum = _
            rw [sat 0 m0]
        have al : (arcsI ls (iI c')).length = c'.length := by rw [arcsI_len, ml]
        generalize hen : (st.drop 1 ++ [st.getD 0 0 + ls.sum]) = en at he3 lE eat
        generalize arcsI ls (iI c') = ar at q eat al
        walk_at "rd"
        refine ⟨D, e3, st.map V.int, en.map V.int, rfl, SqL.of h36, SqL.of he3, fun D2 nD2 => ?_⟩
        refine lc_zipB (c := false) (d := false) (xs := st.map V.int) (ys := en.map V.int) (by rw [List.length_map, List.length_map]; omega) (fun i H' => Same H6 H' ∧ H' D2 = some (.lst ((ar.take i).map V.int))) ⟨Same.new nD2, upd_same⟩ (fun i H' h => ⟨SqL.of (h.1 _ _ h36), SqL.of (h.1 _ _ he3)⟩) ?_ ?_
        · rintro i x y t H' hx hy ⟨S', hD⟩ nt
          obtain ⟨li, rfl⟩ := map_at hx
          obtain ⟨_, rfl⟩ := map_at hy
          have hD2 : (upd H' t (.tup [V.int (st.getD i 0), V.int (en.getD i 0)])) D2 = some (.lst ((ar.take i).map V.int)) := by rw [upd_ne (ne_of_none hD nt)]; exact hD
          have S2' := S'.newS (o := .tup [V.int (st.getD i 0), V.int (en.getD i 0)]) nt
          refine g_gtup (SqT.of upd_same) rfl ?_
          walk_at "rd"
          refine ⟨rfl, ?_⟩
          walk_at "rd"
          refine ⟨_, hD2, by rw [List.length_map, List.length_take]; exact slt1000 (by omega), S2'.mut nD2, ?_⟩
          rw [upd_same, eat i (by omega), take_getD (by omega), List.map_append]; rfl
        rintro H7 ⟨S7, h7⟩
        rw [List.length_map, sl, ← al, List.take_length] at h7
        walk_at "rd"
        refine ⟨D2, ar, rfl, SqL.of h7, by omega, fun m1 hm1 lo => ?_⟩
        walk_at "rd"
        refine ⟨D2, ar, rfl, SqL.of h7, by omega, fun m2 hm2 hi => ?_⟩
        walk_at "rd"
        have S07 := S06.trans S7
        refine g_ite (fun e => ?_) (fun e => ?_)
        · have em := of_decide_eq_true e
          have all : ∀ x ∈ ar, x = ar.getD 0 0 := fun x hx => by
            have a0 := getD_mem (l := ar) (i := 0) (by omega)
            have := lo x hx; have := hi x hx; have := lo _ a0; have := hi _ a0
            omega
          rw [if_pos ⟨ea, all⟩] at q
          walk_at "rd"
          refine g_ixL (SqL.of h7) (at_int (o := 0) (by omega)) ?_
          exact q H7 S07
        · have em := of_decide_eq_false e
          have no : ¬ ∀ x ∈ ar, x = ar.getD 0 0 := fun z => em ((z m1 hm1).trans (z m2 hm2).symm)
          rw [if_neg (fun z => no z.2)] at q
          walk_at "rd"
          exact q H7 S07
/-! ### arc_length -/
def spLenX (K : PySem.W.Frag) (A : Ad) : Sp := fun vs H Q E => ∃ (b ts tl ca : Addr) (r c : Bool) (ss ls cs : List Int), vs = [.ref b, .ref ca] ∧ BAt A.Beads H b ts tl r ss ls ∧ StOk ss ls ∧ SqB K c H ca (cs.map V.int) ∧ cs.length ≤ 1000 ∧ (r = false → GoesX A.WrongKind "ring" (.bl false) H E) ∧
  (r = true → (∀ a, arcOf ls cs = some a → ∀ H', Same H H' → Q (.int a) H') ∧ (arcOf ls cs = none → ∀ (t : Addr) (H' : Hp), Same H H' → (c = true → t = ca) → (c = false → H' t = some (.tup (cs.map V.int))) → GoesX A.BadCut "cut" (.ref t) H' E))
theorem ok_lenX (F : Fun K "arc_length" "arc_length" s_arc_length f fd) (T : Txt K mg A) (D_check_ring : DefOk P w K mg base (L2N.CX P w) 3 "check_ring" ["beads"] (spRingX A)) (D_common_arc : DefOk P w K mg base CX0 4 "common_arc" ["beads", "cut"] (spArcX K A)) (X_BadCut : ExcDef P w K mg base "BadCut" A.BadCut "cut") : FnOk P w K mg base (L2N.CX P w) 5 f fd ["beads", "cut"] (spLenX K A) := by
  refine okN F sc_arc_length (fun vs H Q E h => ?_) (fun cdv A1 outer s H vs Q E hr h => ?_)
  · obtain ⟨b, ts, tl, ca, r, c, ss, ls, cs, rfl, _⟩ := h
    rfl
  · obtain ⟨b, ts, tl, ca, r, c, ss, ls, cs, rfl, B, ok, hc, n9, q1, q2⟩ := h
    refine ⟨_, (pss_cons (ps_expr (pe_callD D_check_ring (hr.mono (by decide)) (passes_callN (takes_ofN rfl rfl rfl rfl)) (pa_cons (pv 0) pa_nil)))
      (pss_cons (ps_set (i := 2) sc_arc_length.nd rfl (Or.inl rfl) (pe_callD D_common_arc (hr.mono (by decide)) pass0 (pa_cons (pv 0) (pa_cons (pv 1) pa_nil))))
      (pss_cons (ps_if (pt_cmpR op_isN (pv 2) pe_non (nomark _)) (pss_one (L2N.ps_raise rfl (takes_ofN rfl rfl rfl rfl) (pmk_D X_BadCut (hr.mono (by decide)) (pa_cons (pe_callTy (call_tupleK K) (by rfl) T.m_tuple (by decide +kernel) (pa_cons (pv 1) pa_nil)) pa_nil)))) pss_nil)
      (pss_one (ps_ret (pv 2)))))), ?_⟩
    walk_at "rd"
    refine ⟨b, ts, tl, r, ss, ls, rfl, B, fun er => ?_, q1⟩
    obtain ⟨q3, q4⟩ := q2 er
    walk_at "rd"
    refine ⟨b, ts, tl, ca, r, c, ss, ls, cs, rfl, B, ok, hc, n9, fun H1 S1 => ?_⟩
    cases e : arcOf ls cs with
    | some a =>
      walk_at "rd"
      refine g_iff (by rfl) ?_
      walk_at "rd"
      exact q3 a e H1 S1
    | none =>
      walk_at "rd"
      refine g_itt (by rfl) ?_
      walk_at "rd"
      have hc1 := hc.mono' S1
      cases c with
      | true =>
        refine ⟨ca, _, rfl, .inr ⟨hc1, ?_⟩⟩
        exact mk1 T.oBC T.no_BadCut_cut (q4 e ca H1 S1 (fun _ => rfl) (fun z => nomatch z))
      | false =>
        refine ⟨ca, _, rfl, .inl ⟨hc1, fun t nt => ?_⟩⟩
        exact mk1 T.oBC T.no_BadCut_cut (q4 e t _ (S1.trans (Same.new nt)) (fun z => nomatch z) (fun _ => upd_same))
/-! ### heads -/
-- ["beads", "place", "lord"]
theorem headsN_lt {r : Bool} {ss : List Int} {x : Nat} (h : x ∈ headsN r ss) : x < ss.length := List.mem_range.mp (List.mem_filter.mp h).1
theorem headsN_len {r : Bool} {ss : List Int} : (headsN r ss).length ≤ ss.length := by
  have := List.length_filter_le (fun p => (lrd r ss p).isNone) (List.range ss.length)
  rw [List.length_range] at this
  exact this
/-! ### resting_cut -/
def spRestX (A : Ad) : Sp := fun vs H Q E => ∃ (b ts tl : Addr) (r : Bool) (ss ls : List Int), vs = [.ref b] ∧ BAt A.Beads H b ts tl r ss ls ∧ StOk ss ls ∧ (r = false → GoesX A.WrongKind "ring" (.bl false) H E) ∧
  (r = true → (rsN true ss ls ss.length = [] → ∀ (t : Addr) (H' : Hp), H t = none → Same H H' → H' t = some (.tup (nI (headsN true ss))) → Q (.ref t) H') ∧ ∀ (p : Nat) ps, rsN true ss ls ss.length = p :: ps → GoesX A.NotAtRest "place" (.int (p : Int)) H E)
theorem ok_restX (F : Fun K "resting_cut" "resting_cut" s_resting_cut f fd) (T : Txt K mg A) (D_check_ring : DefOk P w K mg base (L2N.CX P w) 3 "check_ring" ["beads"] (spRingX A)) (D_check_rest : DefOk P w K mg base (L2N.CX P w) 9 "check_rest" ["beads"] (spRstX A)) (D_leaders_of : DefOk P w K mg base CX0 6 "leaders_of" ["beads"] (spLeaders A)) :
    FnOk P w K mg base (L2N.CX P w) 10 f fd ["beads"] (spRestX A) := by
  refine okN F sc_resting_cut (fun vs H Q E h => ?_) (fun cdv A1 outer s H vs Q E hr h => ?_)
  · obtain ⟨b, ts, tl, r, ss, ls, rfl, _⟩ := h
    rfl
  · obtain ⟨b, ts, tl, r, ss, ls, rfl, B, ok, q1, q2⟩ := h
    refine ⟨_, (pss_cons (ps_expr (pe_callD D_check_ring (hr.mono (by decide)) (passes_callN (takes_ofN rfl rfl rfl rfl)) (pa_cons (pv 0) pa_nil)))
      (pss_cons (ps_expr (pe_callD D_check_rest (hr.mono (by decide)) (passes_callN (takes_ofN rfl rfl rfl rfl)) (pa_cons (pv 0) pa_nil)))
      (pss_one (ps_ret (pe_callTy (call_tupleK K) (by rfl) T.m_tuple (by decide +kernel) (pa_cons (pe_callD D_leaders_of (hr.mono (by decide)) pass0 (pa_cons (pv 0) pa_nil)) pa_nil)))))), ?_⟩
    walk_at "rd"
    refine ⟨b, ts, tl, r, ss, ls, rfl, B, fun er => ?_, q1⟩
    obtain ⟨q3, q4⟩ := q2 er
    subst er
    walk_at "rd"
    refine ⟨b, ts, tl, true, ss, ls, rfl, B, ok, fun e0 H1 S1 => ?_, q4⟩
    walk_at "rd"
    refine ⟨b, ts, tl, true, ss, ls, rfl, B.mono S1, ok.n1, fun a H2 na S2 ha => ?_⟩
    have S02 := S1.trans S2
    walk_at "rd"
    refine ⟨a, _, rfl, .inl ⟨SqL.of ha, fun t nt => ?_⟩⟩
    exact q3 e0 t _ (S02.free nt) (S02.trans (Same.new nt)) upd_same
/-! ### -/
end
end Rt
set_option Elab.async false
set_option linter.all false
set_option maxRecDepth 100000
set_option maxHeartbeats 4000000
namespace Rt
open PySem PySem.Spec L2
open PyProof.Rows (envOfC)
open LamX (CodeO TabS Tabs TabB)
local macro_rules | `(tactic| walk_at "rd1") => `(tactic| (with_reducible first
  | refine g_var (by with_unfolding_all rfl) ?_
  | refine g_c ?_
  | refine g_op ?_
  | refine g_I0 ?_
  | refine g_eqI ?_
  | refine g_neI ?_
  | refine g_eqB ?_
  | refine g_neB ?_
  | refine g_cons ?_
  | refine g_nil ?_
  | refine g_seq ?_
  | refine g_asg ?_
  | refine g_name ?_
  | refine g_ret ?_
  | refine g_retN ?_
  | refine g_drop ?_
  | refine g_next ?_
  | refine g_if ?_
  | refine g_test ?_
  | refine g_tB ?_
  | refine g_bl ?_
  | refine g_and ?_
  | refine g_or ?_
  | refine g_not ?_
  | refine g_andV ?_
  | refine g_orV ?_
  | refine g_notV ?_
  | refine g_ifE ?_
  | refine g_cb ?_
  | refine g_meth ?_
  | refine g_rev ?_
  | refine g_gcons ?_
  | refine g_gnil ?_
  | refine g_isB' ?_
  | refine g_gsub ?_
  | refine g_call ?_
  | refine g_callS ?_
  | refine g_bm ?_
  | refine g_un ?_
  | refine g_U ?_
  | refine g_chain ?_
  | refine g_sl ?_
  | refine g_brk ?_
  | refine g_ct ?_
  | refine g_ipI ?_
  | refine g_fld ?_
  | refine g_lst ?_
  | refine g_int ?_
  | refine g_for ?_
  | refine g_rg1 ?_
  | refine g_rg2 ?_
  | refine g_il ?_
  | refine g_it ?_
  | refine g_lc ?_
  | refine g_yes ?_
  | refine g_tup ?_
  | refine g_part ?_
  | refine g_xf ?_
  | refine g_nn ?_
  | refine g_mko ?_
  | refine g_lrg ?_
  | refine g_tr1 ?_
  | refine g_tr2 ?_
  | refine g_oi2 ?_
  | refine g_mk ?_
  | refine g_sfld ?_
  | refine g_ost ?_
  | refine g_oi ?_
  | refine g_nopart ?_
  | refine g_tt ?_
  | refine g_ff ?_
  | refine g_nt ?_
  | refine g_nf ?_
  | refine g_drn ?_
  | refine g_din ?_
  | refine g_dnn ?_
  | refine g_nrn ?_
  | refine g_nin ?_
  | refine g_nnn ?_))
local macro_rules | `(tactic| walk_at "rd") => `(tactic| (repeat walk_at "rd1"))

local macro_rules | `(tactic| walk_at "rd1") => `(tactic| (with_reducible first
  | refine g_neS ?_
  | refine g_eqS ?_
  | refine g_notB ?_
  | refine g_max2 ?_
  | refine g_min2 ?_))
section
variable {P : Program} {w : World} {K : PySem.W.Frag} {mg : Str → Option Value} {base : Heap} {f : Addr} {fd : FuncData} {A : Ad}
theorem str_ne {a b : Str} (h : ¬ a = b) : decide (V.str a = V.str b) = false := decide_eq_false fun z => h (V.str.inj z)
theorem str_eq {a : Str} : decide (V.str a = V.str a) = true := decide_eq_true rfl
/-! ### _law_resting @k09,k58 -/
def spRestg (A : Ad) : Sp := fun vs H Q _ => ∃ (b ts tl : Addr) (r : Bool) (ss ls : List Int), vs = [.ref b] ∧ BAt A.Beads H b ts tl r ss ls ∧ StOk ss ls ∧ (r = false → ∀ (t : Addr) (H' : Hp), H t = none → Same H H' → H' t = some (.tup [.str "kind", .bl false]) → Q (.ref t) H') ∧
  (r = true → (rsN true ss ls ss.length = [] → ∀ (t u : Addr) (H' : Hp), H t = none → Same H H' → H' t = some (.tup [.str "told", .ref u]) → H' u = some (.tup (nI (headsN true ss))) → Q (.ref t) H') ∧ ∀ (p : Nat) ps, rsN true ss ls ss.length = p :: ps → ∀ (t : Addr) (H' : Hp), H t = none → Same H H' → H' t = some (.tup [.str "restless", .int (p : Int)]) → Q (.ref t) H')
theorem ok_restg (F : Fun K "_law_resting" "_law_resting" s__law_resting f fd) (T : Txt K mg A) (D_resting_cut : DefOk P w K mg base (L2N.CX P w) 10 "resting_cut" ["beads"] (spRestX A)) : FnOk P w K mg base CX0 11 f fd ["beads"] (spRestg A) := by
  refine F.ok sc__law_resting (fun vs H Q E h => ?_) (fun cdv A1 outer s H vs Q E hr h => ?_)
  · obtain ⟨b, ts, tl, r, ss, ls, rfl, _⟩ := h
    rfl
  · obtain ⟨b, ts, tl, r, ss, ls, rfl, B, ok, q1, q2⟩ := h
    refine ⟨_, (pss_one (L2N.ps_try_each (Wout := fun _ _ _ _ => False) rfl rfl sc__law_resting.nd takes0N (fun W pn xe tk _ => (pss_one (ps_ret (pe_tup (pa_cons pe_str (pa_cons (pe_callDS D_resting_cut (hr.mono (by decide)) (fun σ => L2N.passAt tk σ) (pa_cons (pv 0) pa_nil)) pa_nil)))))) (.named (i := 1) rfl rfl ⟨rfl, by decide, .inl T.g_NotAtRest⟩ (fun a oe cls d pn hz hf => (pss_cons (ps_if (PW.pt (pw_or (pt_not (pt_val (pe_callB (call_isX K hz.zc hf) (by rfl) T.m_isinstance (by decide +kernel) (pa_cons (pv 1) (pa_cons (pe_glob (v := .ref A.RetinueError) rfl T.g_RetinueError rfl) pa_nil))))) (pw_or (pt_not (pt_val (pe_callB (call_isX K hz.zc hf) (by rfl) T.m_isinstance (by decide +kernel) (pa_cons (pv 1) (pa_cons (pe_bltn (v := .ty "ValueError") (by rfl) T.m_ValueError (by decide +kernel) rfl) pa_nil))))) (pw_or1 (pt_val (pe_callB (call_isXs K hz.zc hf) (by rfl) T.m_isinstance (by decide +kernel) (pa_cons (pv 1) (pa_cons (pe_tup (pa_cons (pe_glob (v := .ref A.BadPlace) rfl T.g_BadPlace rfl) (pa_cons (pe_glob (v := .ref A.NotSettled) rfl T.g_NotSettled rfl) pa_nil))) pa_nil)))))))) (pss_one (ps_ret (pe_tup (pa_cons pe_str (pa_cons pe_non pa_nil))))) pss_nil)
      (pss_one (ps_ret (pe_tup (pa_cons pe_str (pa_cons (pe_xf T.x_NotAtRest T.no_NotAtRest_place hz.zc hf (pv 1)) pa_nil))))))) (.named (i := 1) rfl rfl ⟨rfl, by decide, .inl T.g_WrongKind⟩ (fun a oe cls d pn hz hf => (pss_cons (ps_if (PW.pt (pw_or (pt_not (pt_val (pe_callB (call_isX K hz.zc hf) (by rfl) T.m_isinstance (by decide +kernel) (pa_cons (pv 1) (pa_cons (pe_glob (v := .ref A.RetinueError) rfl T.g_RetinueError rfl) pa_nil))))) (pw_or (pt_not (pt_val (pe_callB (call_isX K hz.zc hf) (by rfl) T.m_isinstance (by decide +kernel) (pa_cons (pv 1) (pa_cons (pe_bltn (v := .ty "ValueError") (by rfl) T.m_ValueError (by decide +kernel) rfl) pa_nil))))) (pw_or1 (pt_val (pe_callB (call_isX K hz.zc hf) (by rfl) T.m_isinstance (by decide +kernel) (pa_cons (pv 1) (pa_cons (pe_glob (v := .ref A.BadPlace) rfl T.g_BadPlace rfl) pa_nil)))))))) (pss_one (ps_ret (pe_tup (pa_cons pe_str (pa_cons pe_non pa_nil))))) pss_nil)
      (pss_one (ps_ret (pe_tup (pa_cons pe_str (pa_cons (pe_xf T.x_WrongKind T.no_WrongKind_ring hz.zc hf (pv 1)) pa_nil))))))) .nil)))), ?_⟩
    walk_at "rd"
    refine ⟨b, ts, tl, r, ss, ls, rfl, B, ok, fun er d H1 nd S1 hd => ?_, fun er => ⟨fun e0 t H1 nt S1 ht => ?_, fun p ps e0 d H1 nd S1 hd => ?_⟩⟩
    · refine ⟨false, T.xm_WrongKind_NotAtRest, (fun z => nomatch z), fun _ => ⟨true, T.eWK, fun _ a na => ?_, fun z => nomatch z⟩⟩
      dsimp only [L2N.sufD]
      walk_at "rd"
      refine g_isX hd T.xc_WrongKind T.xk_WrongKind_RetinueError ?_
      walk_at "rd"
      refine g_isXT hd T.xc_WrongKind T.xk_WrongKind_ValueError ?_
      walk_at "rd"
      refine g_isX hd T.xc_WrongKind T.xk_WrongKind_BadPlace ?_
      walk_at "rd"
      refine ⟨rfl, rfl, d, _, _, rfl, hd, rfl, ?_⟩
      walk_at "rd"
      refine newT fun u H2 nu S2 hu => ?_
      exact q1 er u H2 (S1.free nu) (S1.trans S2) hu
    · walk_at "rd"
      refine newT fun u H2 nu S2 hu => ?_
      exact (q2 er).1 e0 u t H2 (S1.free nu) (S1.trans S2) hu (S2 _ _ ht)
    · refine ⟨true, T.eNR, fun _ a na => ?_, fun z => nomatch z⟩
      dsimp only [L2N.sufD]
      walk_at "rd"
      refine g_isX hd T.xc_NotAtRest T.xk_NotAtRest_RetinueError ?_
      walk_at "rd"
      refine g_isXT hd T.xc_NotAtRest T.xk_NotAtRest_ValueError ?_
      walk_at "rd"
      refine newT fun u H2 nu S2 hu => ?_
      walk_at "rd"
      refine g_isXs2 (S2 _ _ hd) T.xc_NotAtRest hu T.xk_NotAtRest_BadPlace T.xk_NotAtRest_NotSettled ?_
      walk_at "rd"
      refine ⟨rfl, rfl, d, _, _, rfl, S2 _ _ hd, rfl, ?_⟩
      walk_at "rd"
      refine newT fun v H3 nv S3 hv => ?_
      have S12 := S1.trans S2
      exact (q2 er).2 p ps e0 v H3 (S12.free nv) (S12.trans S3) hv
/-! ### -/
end
end Rt
set_option Elab.async false
set_option linter.all false
set_option maxRecDepth 100000
set_option maxHeartbeats 4000000
namespace Rt
open PySem PySem.Spec L2
open PyProof.Rows (envOfC)
open LamX (CodeO TabS Tabs TabB)
local macro_rules | `(tactic| walk_at "rd1") => `(tactic| (with_reducible first
  | refine g_var (by with_unfolding_all rfl) ?_
  | refine g_c ?_
  | refine g_op ?_
  | refine g_I0 ?_
  | refine g_eqI ?_
  | refine g_neI ?_
  | refine g_eqB ?_
  | refine g_neB ?_
  | refine g_cons ?_
  | refine g_nil ?_
  | refine g_seq ?_
  | refine g_asg ?_
  | refine g_name ?_
  | refine g_ret ?_
  | refine g_retN ?_
  | refine g_drop ?_
  | refine g_next ?_
  | refine g_if ?_
  | refine g_test ?_
  | refine g_tB ?_
  | refine g_bl ?_
  | refine g_and ?_
  | refine g_or ?_
  | refine g_not ?_
  | refine g_andV ?_
  | refine g_orV ?_
  | refine g_notV ?_
  | refine g_ifE ?_
  | refine g_cb ?_
  | refine g_meth ?_
  | refine g_rev ?_
  | refine g_gcons ?_
  | refine g_gnil ?_
  | refine g_isB' ?_
  | refine g_gsub ?_
  | refine g_call ?_
  | refine g_callS ?_
  | refine g_bm ?_
  | refine g_un ?_
  | refine g_U ?_
  | refine g_chain ?_
  | refine g_sl ?_
  | refine g_brk ?_
  | refine g_ct ?_
  | refine g_ipI ?_
  | refine g_fld ?_
  | refine g_lst ?_
  | refine g_int ?_
  | refine g_for ?_
  | refine g_rg1 ?_
  | refine g_rg2 ?_
  | refine g_il ?_
  | refine g_it ?_
  | refine g_lc ?_
  | refine g_yes ?_
  | refine g_tup ?_
  | refine g_part ?_
  | refine g_xf ?_
  | refine g_nn ?_
  | refine g_mko ?_
  | refine g_lrg ?_
  | refine g_tr1 ?_
  | refine g_tr2 ?_
  | refine g_oi2 ?_
  | refine g_mk ?_
  | refine g_sfld ?_
  | refine g_ost ?_
  | refine g_oi ?_
  | refine g_nopart ?_
  | refine g_tt ?_
  | refine g_ff ?_
  | refine g_nt ?_
  | refine g_nf ?_
  | refine g_drn ?_
  | refine g_din ?_
  | refine g_dnn ?_
  | refine g_nrn ?_
  | refine g_nin ?_
  | refine g_nnn ?_))
local macro_rules | `(tactic| walk_at "rd") => `(tactic| (repeat walk_at "rd1"))

local macro_rules | `(tactic| walk_at "rd1") => `(tactic| (with_reducible first
  | refine g_max2 ?_
  | refine g_min2 ?_
  | refine g_callN ?_
  | refine g_xfG ?_))
section
variable {P : Program} {w : World} {K : PySem.W.Frag} {mg : Str → Option Value} {base : Heap} {f : Addr} {fd : FuncData} {A : Ad}
/-! ### woken -/
theorem wok_at {r : Bool} {ss ls : List Int} {k : Nat} : ∀ ps : List Nat, (∀ p ∈ ps, p < ss.length) → (wok r ss ls ps).getD k 0 = if k ∈ ps then rch r ss ls k else ss.getD k 0 := by
  intro ps
  generalize hn : ps.length = n
  induction n generalizing ps with
  | zero =>
    intro _
    have e : ps = [] := List.eq_nil_of_length_eq_zero hn
    subst e
    rw [if_neg (by simp)]; rfl
  | succ n ih =>
    intro h
    have ne : ps ≠ [] := fun e => by rw [e] at hn; cases hn
    have e : ps = ps.dropLast ++ [ps.getLast ne] := (List.dropLast_concat_getLast ne).symm
    generalize ps.getLast ne = p at e
    generalize hq : ps.dropLast = qs at e
    have lq : qs.length = n := by rw [← hq, List.length_dropLast]; omega
    subst e
    have hp := h p (List.mem_append_right _ List.mem_cons_self)
    rw [wok_app, getD_set (by rw [wok_len]; exact hp), ih qs lq fun y hy => h y (List.mem_append_left _ hy)]
    by_cases c : k = p
    · subst c; rw [if_pos rfl, if_pos (by simp)]
    · rw [if_neg c]
      by_cases d : k ∈ qs
      · rw [if_pos d, if_pos (by simp [d])]
      · rw [if_neg d, if_neg (by simp [d, c])]
theorem wok_wkS {r : Bool} {ss ls : List Int} {ps : List Nat} {qs : List Int} (h : ∀ p ∈ ps, p < ss.length) (e : ∀ k : Nat, k ∈ ps ↔ (k : Int) ∈ qs) : wok r ss ls ps = wkS r ss ls qs := by
  refine ext_getD (by rw [wok_len, wkS_len]) fun k hk => ?_
  rw [wok_len] at hk
  rw [wok_at ps h, wkS_at hk]
  by_cases c : k ∈ ps
  · rw [if_pos c, if_pos ((e k).mp c)]
  · rw [if_neg c, if_neg (fun z => c ((e k).mpr z))]
theorem map_int_inj : ∀ {a b : List Int}, a.map V.int = b.map V.int → a = b
  | [], [], _ => rfl
  | [], _ :: _, h => by simp at h
  | _ :: _, [], h => by simp at h
  | x :: a, y :: b, h => by
    rw [List.map_cons, List.map_cons] at h
    injection h with h1 h2
    injection h1 with h1
    rw [h1, map_int_inj h2]
theorem mem_nI {qs : List Int} {ps : List Nat} (e : qs.map V.int = nI ps) (k : Nat) : k ∈ ps ↔ (k : Int) ∈ qs := by
  have e2 : qs = iI ps := by
    rw [nI_eq] at e
    exact map_int_inj e
  rw [e2]
  unfold iI
  rw [List.mem_map]
  constructor
  · intro h; exact ⟨k, h, rfl⟩
  · rintro ⟨j, hj, ej⟩
    rw [show k = j by omega]; exact hj
/-! ### _law_reach -/
def spReachR (K : PySem.W.Frag) : Sp := fun vs H Q _ => ∃ (la sa : Addr) (ls ss : List Int) (p : Nat), vs = [.ref la, .ref sa, .int (p : Int)] ∧ SqL K H la (ls.map V.int) ∧ SqL K H sa (ss.map V.int) ∧ ls.length = ss.length ∧ p < ss.length ∧ ss.length ≤ 1000 ∧ Q (.int (rch true ss ls p)) H
theorem ok_reachR (F : Fun K "_law_reach" "_law_reach" s__law_reach f fd) (T : Txt K mg A) : FnOk P w K mg base CX0 1 f fd ["sizes", "strengths", "place"] (spReachR K) := by
  refine F.ok sc__law_reach (fun vs H Q E h => ?_) (fun cdv A1 outer s H vs Q E hr h => ?_)
  · obtain ⟨la, sa, ls, ss, p, rfl, _⟩ := h
    rfl
  · obtain ⟨la, sa, ls, ss, p, rfl, hl, hs, el, hp, hn, q⟩ := h
    refine ⟨_, (pss_cons (ps_set (i := 3) sc__law_reach.nd rfl (Or.inl rfl) (pe_ix (ix_listK K) (pv 0) (pv 2) (fun _ _ => rfl)))
      (pss_cons (ps_for (PassesOwn.never) rfl (pi_range2 rfl T.m_range (pa_cons pe_int (pa_cons (pe_callB (call_lenK K) (by rfl) T.m_len PySem.boot_len (pa_cons (pv 0) pa_nil)) pa_nil))) (pg_name (i := 4) sc__law_reach.nd rfl (Or.inl rfl)) (pss_cons (ps_set (i := 5) sc__law_reach.nd rfl (Or.inl rfl) (pe_op op_mod (pe_callTy call_int1 (by rfl) T.m_int (by decide +kernel) (pa_cons (pe_op op_add (pv 2) (pv 4)) pa_nil)) (pe_callB (call_lenK K) (by rfl) T.m_len PySem.boot_len (pa_cons (pv 0) pa_nil))))
      (pss_cons (ps_if (pt_cmpR op_ge (pe_ix (ix_listK K) (pv 1) (pv 5) (fun _ _ => rfl)) (pe_ix (ix_listK K) (pv 1) (pv 2) (fun _ _ => rfl)) (nomark _)) (pss_one ps_break) pss_nil)
      (pss_one (ps_set (i := 3) sc__law_reach.nd rfl (Or.inl rfl) (pe_op op_add (pv 3) (pe_ix (ix_listK K) (pv 0) (pv 5) (fun _ _ => rfl))))))))
      (pss_one (ps_ret (pv 3))))), ?_⟩
    walk_at "rd"
    refine g_ixL hl (at_int (by omega)) ?_
    walk_at "rd"
    refine ⟨la, _, rfl, .inl hl, ?_⟩
    rw [List.length_map, el]
    walk_at "rd"
    refine ⟨1, _, rfl, ⟨by decide, by decide, by omega, by omega⟩, ?_⟩
    have en : ((ss.length : Int) - 1).toNat = ss.length - 1 := by omega
    rw [en]
    refine for_range (lo := 1) (fun i σ H' => ∃ v5 v6 : Option V, σ = [some (.ref la), some (.ref sa), some (.int (p : Int)), some (.int (ls.getD p 0 + (((run true ss.length p).take i).map fun o => ls.getD o 0).sum)), v5, v6] ∧ H' = H ∧ Wkd true ss p i)
      ⟨none, none, by rw [List.take_zero, List.map_nil, List.sum_nil, Int.add_zero]; rfl, rfl, Wkd.zero⟩ ?_ ?_
    · rintro i σ H' hi ⟨v5, v6, rfl, rfl, wkd⟩
      walk_at "rd"
      refine ⟨la, _, rfl, .inl hl, ?_⟩
      rw [List.length_map, el]
      walk_at "rd"
      refine g_I (by omega) ?_
      have ho : (run true ss.length p)[i]? = some ((p + 1 + i) % ss.length) := by
        rw [run_ring hp, List.getElem?_map, List.getElem?_range (by omega)]; rfl
      have hol : (p + 1 + i) % ss.length < ss.length := Nat.mod_lt _ (by omega)
      rw [show ((p : Int) + (1 + (i : Int))) % (ss.length : Int) = (((p + 1 + i) % ss.length : Nat) : Int) by rw [Int.natCast_emod]; congr 1; omega]
      generalize (p + 1 + i) % ss.length = o at ho hol
      walk_at "rd"
      refine g_ixL hs (at_int hol) ?_
      walk_at "rd"
      refine g_ixL hs (at_int hp) ?_
      walk_at "rd"
      refine g_ite (fun e3 => ?_) (fun e3 => ?_)
      · have stop := wkd.stop ho (wk_f e3)
        walk_at "rd"
        have eq : ls.getD p 0 + (((run true ss.length p).take i).map fun o => ls.getD o 0).sum = rch true ss ls p := by unfold rch; rw [stop.1]
        rw [eq]
        exact q
      · walk_at "rd"
        refine g_ixL hl (at_int (by omega)) ?_
        walk_at "rd"
        exact ⟨_, _, by rw [sum_more ho, Int.add_assoc]; rfl, rfl, wkd.more ho (wk_t e3)⟩
    · rintro σ H' ⟨v5, v6, rfl, rfl, wkd⟩
      have full := wkd.full (by have := run_le (r := true) hp; omega)
      walk_at "rd"
      have eq : ls.getD p 0 + (((run true ss.length p).take (ss.length - 1)).map fun o => ls.getD o 0).sum = rch true ss ls p := by unfold rch; rw [full.1]
      rw [eq]
      exact q
/-! ### _law_woken -/
def spWokenR (K : PySem.W.Frag) : Sp := fun vs H Q _ => ∃ (la sa pa : Addr) (ls ss : List Int) (ps : List Nat), vs = [.ref la, .ref sa, .ref pa] ∧ SqL K H la (ls.map V.int) ∧ SqL K H sa (ss.map V.int) ∧ SqL K H pa (nI ps) ∧ StOk ss ls ∧ (∀ p ∈ ps, p < ss.length) ∧
  ∀ (t : Addr) (H' : Hp), H t = none → Same H H' → H' t = some (.lst ((wok true ss ls ps).map V.int)) → Q (.ref t) H'
theorem ok_wokenR (F : Fun K "_law_woken" "_law_woken" s__law_woken f fd) (T : Txt K mg A) (D__law_reach : DefOk P w K mg base CX0 1 "_law_reach" ["sizes", "strengths", "place"] (spReachR K)) : FnOk P w K mg base CX0 2 f fd ["sizes", "strengths", "places"] (spWokenR K) := by
  refine F.ok sc__law_woken (fun vs H Q E h => ?_) (fun cdv A1 outer s H vs Q E hr h => ?_)
  · obtain ⟨la, sa, pa, ls, ss, ps, rfl, _⟩ := h
    rfl
  · obtain ⟨la, sa, pa, ls, ss, ps, rfl, hl, hs, hp, ok, hps, q⟩ := h
    have n1 := ok.n1
    refine ⟨_, (pss_cons (ps_set (i := 3) sc__law_woken.nd rfl (Or.inl rfl) (pe_callTy (call_listK K) (by rfl) T.m_list (by decide +kernel) (pa_cons (pv 1) pa_nil)))
      (pss_cons (ps_for (PassesOwn.never) rfl (pi_listK K (pv 2)) (pg_name (i := 4) sc__law_woken.nd rfl (Or.inl rfl)) (pss_one (ps_asg (pe_callD D__law_reach (hr.mono (by decide)) pass0 (pa_cons (pv 0) (pa_cons (pv 1) (pa_cons (pv 4) pa_nil)))) (pg_sub (pv 3) (pv 4) set_list))))
      (pss_one (ps_ret (pv 3))))), ?_⟩
    walk_at "rd"
    refine g_lo (.inl hs) fun t H1 nt S1 ht => ?_
    walk_at "rd"
    refine ⟨pa, rfl, ⟨_, S1.seq hp⟩, for_list (xs := nI ps) (fun i σ H' => ∃ v5 : Option V, σ = [some (.ref la), some (.ref sa), some (.ref pa), some (.ref t), v5] ∧ Same H H' ∧ H' t = some (.lst ((wok true ss ls (ps.take i)).map V.int)))
      ⟨none, rfl, S1, ht⟩ (fun i σ H' _ ⟨_, _, h, _⟩ => h.seq hp) ?_ ?_⟩
    · rintro i x σ H' hi ⟨v5, rfl, S', ht'⟩
      obtain ⟨p, hpi, rfl⟩ := nI_at hi
      have hpl := hps p (List.mem_of_getElem? hpi)
      walk_at "rd"
      refine ⟨la, sa, ls, ss, p, rfl, S'.seq hl, S'.seq hs, ok.len, hpl, by omega, ?_⟩
      walk_at "rd"
      refine g_set ht' (by rw [wok_len]; exact hpl) ?_
      refine ⟨_, rfl, S'.mut nt, ?_⟩
      rw [upd_same, take_more hpi, wok_app]
    · rintro σ H' ⟨v5, rfl, S', ht'⟩
      walk_at "rd"
      have e : ps.take (nI ps).length = ps := List.take_of_length_le (by unfold nI; rw [List.length_map]; exact Nat.le_refl _)
      rw [e] at ht'
      exact q t H' nt S' ht'
/-! ### _law_restless -/
def spRestR (K : PySem.W.Frag) : Sp := fun vs H Q _ => ∃ (la sa : Addr) (ls ss : List Int), vs = [.ref la, .ref sa] ∧ SqL K H la (ls.map V.int) ∧ SqL K H sa (ss.map V.int) ∧ ls.length = ss.length ∧ ss.length ≤ 1000 ∧
  ∀ (a : Addr) (H' : Hp), H a = none → Same H H' → H' a = some (.lst (nI (rsN true ss ls ss.length))) → Q (.ref a) H'
theorem ok_restR (F : Fun K "_law_restless" "_law_restless" s__law_restless f fd) (T : Txt K mg A) (D__law_reach : DefOk P w K mg base CX0 1 "_law_reach" ["sizes", "strengths", "place"] (spReachR K)) : FnOk P w K mg base CX0 2 f fd ["sizes", "strengths"] (spRestR K) := by
  refine F.ok sc__law_restless (fun vs H Q E h => ?_) (fun cdv A1 outer s H vs Q E hr h => ?_)
  · obtain ⟨la, sa, ls, ss, rfl, _⟩ := h
    rfl
  · obtain ⟨la, sa, ls, ss, rfl, hl, hs, el, hn, q⟩ := h
    refine ⟨_, (pss_one (ps_ret (pe_lc (own := [("k", 2)]) (g := gName 2) (tt := _) rfl sc__law_restless.nd (pi_range1 rfl T.m_range (pa_cons (pe_callB (call_lenK K) (by rfl) T.m_len PySem.boot_len (pa_cons (pv 0) pa_nil)) pa_nil)) (blkOk_by (N := ["sizes", "strengths", "k"]) (sc := defScope s__law_restless) (by decide +kernel)) (fun _ _ _ _ _ => (by exact (pg_name (i := 2) sc__law_restless.nd rfl (Or.inl rfl)))) (fun _ _ _ _ _ => (by exact (pts_one (pt_cmpR op_ne (pe_callD D__law_reach (hr.mono (by decide)) pass0 (pa_cons (pv 0) (pa_cons (pv 1) (pa_cons (pv 2) pa_nil)))) (pe_ix (ix_listK K) (pv 1) (pv 2) (fun _ _ => rfl)) (nomark _))))) (fun _ _ _ _ _ => (by exact (pv 2)))))), ?_⟩
    walk_at "rd"
    refine ⟨la, _, rfl, .inl hl, ?_⟩
    rw [List.length_map, el]
    walk_at "rd"
    refine ⟨_, rfl, by omega, by omega, fun D nD => ?_⟩
    rw [Int.toNat_natCast]
    refine lc_range (fun i H' => Same H H' ∧ H' D = some (.lst (nI (rsN true ss ls i)))) ⟨Same.new nD, by rw [upd_same]; rfl⟩ ?_ ?_
    · rintro i H' hi ⟨S', hD⟩
      rw [Int.zero_add]
      walk_at "rd"
      refine ⟨rfl, ?_⟩
      walk_at "rd"
      refine ⟨la, sa, ls, ss, i, rfl, S'.seq hl, S'.seq hs, el, hi, hn, ?_⟩
      walk_at "rd"
      refine g_ixL (S'.seq hs) (at_int hi) ?_
      walk_at "rd"
      have st : rsN true ss ls (i + 1) = rsN true ss ls i ++ (if decide (rch true ss ls i ≠ ss.getD i 0) = true then [i] else []) := filt_step
      refine g_ite (fun e => ?_) (fun e => ?_)
      · have ne : rch true ss ls i ≠ ss.getD i 0 := by simpa using e
        rw [if_pos (decide_eq_true ne)] at st
        walk_at "rd"
        refine ⟨_, hD, by rw [nI_len]; exact slt1000 (by have := filt_len (p := fun k => decide (rch true ss ls k ≠ ss.getD k 0)) (n := i); unfold rsN; omega), S'.mut nD, ?_⟩
        rw [upd_same, st, nI_app]; rfl
      · have eq : ¬ rch true ss ls i ≠ ss.getD i 0 := by simpa using e
        rw [if_neg (by simpa using eq), List.append_nil] at st
        exact ⟨S', by rw [st]; exact hD⟩
    · rintro H' ⟨S', hD⟩
      exact q D H' nD S' hD
/-! ### _law_bound -/
def spBnd (K : PySem.W.Frag) : Sp := fun vs H Q _ => ∃ (la sa : Addr) (ls ss : List Int) (h : Nat), vs = [.ref la, .ref sa, .int (h : Int)] ∧ SqL K H la (ls.map V.int) ∧ SqL K H sa (ss.map V.int) ∧ 0 < ss.length ∧ 0 < h ∧ h ≤ 1000 ∧ Q (.int (bndI ls ss h)) H
theorem ok_bnd (F : Fun K "_law_bound" "_law_bound" s__law_bound f fd) (T : Txt K mg A) : FnOk P w K mg base CX0 1 f fd ["sizes", "strengths", "most"] (spBnd K) := by
  refine F.ok sc__law_bound (fun vs H Q E h => ?_) (fun cdv A1 outer s H vs Q E hr h => ?_)
  · obtain ⟨la, sa, ls, ss, h, rfl, _⟩ := h
    rfl
  · obtain ⟨la, sa, ls, ss, h, rfl, hl, hs, n0, h0, h1, q⟩ := h
    refine ⟨_, (pss_one (ps_ret (pe_callB (cr_min2 rfl) (by rfl) T.m_min (by decide +kernel) (pa_cons (pe_callB (cr_maxK K rfl) (by rfl) T.m_max (by decide +kernel) (pa_cons (pv 1) pa_nil)) (pa_cons (pe_op op_fdivW (pe_op op_sub (pe_op op_add (pe_callB (cr_sumK K rfl) (by rfl) T.m_sum (by decide +kernel) (pa_cons (pv 0) pa_nil)) (pv 2)) pe_int) (pv 2)) pa_nil))))), ?_⟩
    walk_at "rd"
    refine ⟨sa, ss, rfl, hs, n0, fun m hm hx => ?_⟩
    walk_at "rd"
    refine ⟨la, ls, rfl, hl, ?_⟩
    walk_at "rd"
    refine g_I (divW_ok (by omega) (by omega)) ?_
    walk_at "rd"
    rw [← maxI_eq hm hx]
    exact q
/-! ### least_arc -/
def kwH0 : List V → List V → List V := fun us ws => us ++ [V.int 1] ++ ws
def kwH1 : List V → List V → List V := fun us ws => us ++ ws
def spLeast (A : Ad) : Sp := fun vs H Q E => ∃ (b ts tl : Addr) (r : Bool) (ss ls : List Int) (h : Nat), vs = [.ref b, .int (h : Int)] ∧ BAt A.Beads H b ts tl r ss ls ∧ StOk ss ls ∧ 0 < h ∧ h ≤ 1000 ∧ (r = false → GoesX A.WrongKind "ring" (.bl false) H E) ∧ (r = true → Q (.int (bndI ls ss h)) H)
theorem ok_least (F : FunD K "least_arc" "least_arc" (defArgs s_least_arc) (defBody s_least_arc) (defScope s_least_arc) [] [("hand", V.int 1)] f fd) (T : Txt K mg A) (D_check_ring : DefOk P w K mg base (L2N.CX P w) 3 "check_ring" ["beads"] (spRingX A)) (ME_total : MethD P w K mg base CX0 1 A.Beads "total" ["self"] (spTotal A)) (ME_greatest : MethD P w K mg base CX0 1 A.Beads "greatest" ["self"] (spGreat A)) : FnOk P w K mg base (L2N.CX P w) 4 f fd ["beads", "hand"] (spLeast A) := by
  refine F.ok (CX := L2N.CX P w) sc_least_arc (fun vs H Q E h => ?_) (fun cdv A1 outer s H vs Q E hr h => ?_)
  · obtain ⟨b, ts, tl, r, ss, ls, h, rfl, _⟩ := h
    rfl
  · obtain ⟨b, ts, tl, r, ss, ls, h, rfl, B, ok, h0, h1, q1, q2⟩ := h
    have n0 := ok.n0
    refine ⟨_, (pss_cons (ps_expr (pe_callD D_check_ring (hr.mono (by decide)) (passes_callN (takes_ofN rfl rfl rfl rfl)) (pa_cons (pv 0) pa_nil)))
      (pss_cons (ps_set (i := 2) sc_least_arc.nd rfl (Or.inl rfl) (pe_op op_fdivW (pe_op op_sub (pe_op op_add (pe_methD0 ME_total (hr.mono (by decide)) pass0 (pv 0)) (pv 1)) pe_int) (pv 1)))
      (pss_one (ps_ret (pe_callB (cr_min2 rfl) (by rfl) T.m_min (by decide +kernel) (pa_cons (pe_methD0 ME_greatest (hr.mono (by decide)) pass0 (pv 0)) (pa_cons (pv 2) pa_nil))))))), ?_⟩
    walk_at "rd"
    refine ⟨b, ts, tl, r, ss, ls, rfl, B, fun er => ?_, q1⟩
    walk_at "rd"
    obtain ⟨dx, eb⟩ := B.ob
    refine ⟨b, dx, _, rfl, eb, bfs_none (by decide +kernel) (by decide +kernel) (by decide +kernel), ?_⟩
    walk_at "rd"
    refine ⟨b, ts, tl, r, ss, ls, rfl, B, ?_⟩
    walk_at "rd"
    refine g_I (divW_ok (by omega) (by omega)) ?_
    walk_at "rd"
    refine ⟨b, dx, _, rfl, eb, bfs_none (by decide +kernel) (by decide +kernel) (by decide +kernel), ?_⟩
    walk_at "rd"
    refine ⟨b, ts, tl, r, ss, ls, rfl, B, n0, fun m hm hx => ?_⟩
    walk_at "rd"
    rw [← maxI_eq hm hx]
    exact q2 er
/-! ### _law_bound_told -/
def spBndT (K : PySem.W.Frag) (A : Ad) : Sp := fun vs H Q _ => ∃ (b ts tl la sa : Addr) (ss ls : List Int) (h : Nat), vs = [.ref b, .ref la, .ref sa, .int (h : Int)] ∧ BAt A.Beads H b ts tl true ss ls ∧ StOk ss ls ∧ 0 < h ∧ h ≤ 1000 ∧ SqL K H la (ls.map V.int) ∧ SqL K H sa (ss.map V.int) ∧ Q (.bl true) H
theorem ok_bndT (F : Fun K "_law_bound_told" "_law_bound_told" s__law_bound_told f fd) (T : Txt K mg A) (DK_hand_least_arc : DefN P w K mg base (L2N.CX P w) 4 "least_arc" 1 ["hand"] kwH1 (spLeast A)) (D__law_is_integer : DefOk P w K mg base CX0 1 "_law_is_integer" ["actual"] Rt.spInt) (D__law_bound : DefOk P w K mg base CX0 1 "_law_bound" ["sizes", "strengths", "most"] (spBnd K)) : FnOk P w K mg base CX0 5 f fd ["beads", "sizes", "strengths", "most"] (spBndT K A) := by
  refine F.ok sc__law_bound_told (fun vs H Q E h => ?_) (fun cdv A1 outer s H vs Q E hr h => ?_)
  · obtain ⟨b, ts, tl, la, sa, ss, ls, h, rfl, _⟩ := h
    rfl
  · obtain ⟨b, ts, tl, la, sa, ss, ls, h, rfl, B, ok, h0, h1, hl, hs, q⟩ := h
    have n0 := ok.n0
    refine ⟨_, (pss_cons (ps_set (i := 4) sc__law_bound_told.nd rfl (Or.inl rfl) (pe_callKw DK_hand_least_arc (hr.mono (by decide)) passN (pa_cons (pv 0) pa_nil) (pk_cons (pv 3) pk_nil)))
      (pss_one (ps_ret (pe_and (pe_callD D__law_is_integer (hr.mono (by decide)) pass0 (pa_cons (pv 4) pa_nil)) (pe_one (pe_cmpR op_eq (pv 4) (pe_callD D__law_bound (hr.mono (by decide)) pass0 (pa_cons (pv 1) (pa_cons (pv 2) (pa_cons (pv 3) pa_nil)))) (nomark _))))))), ?_⟩
    walk_at "rd"
    refine ⟨rfl, rfl, b, ts, tl, true, ss, ls, h, rfl, B, ok, h0, h1, (fun z => nomatch z), fun _ => ?_⟩
    walk_at "rd"
    refine ⟨_, rfl, ?_⟩
    walk_at "rd"
    refine ⟨la, sa, ls, ss, h, rfl, hl, hs, n0, h0, h1, ?_⟩
    walk_at "rd"
    rw [decide_eq_true rfl]
    exact q
/-! ### -/
end
end Rt
set_option Elab.async false
set_option linter.all false
set_option maxRecDepth 100000
set_option maxHeartbeats 4000000
namespace Rt
open PySem PySem.Spec L2
open PyProof.Rows (envOfC)
open LamX (CodeO TabS Tabs TabB)
local macro_rules | `(tactic| walk_at "rd1") => `(tactic| (with_reducible first
  | refine g_var (by with_unfolding_all rfl) ?_
  | refine g_c ?_
  | refine g_op ?_
  | refine g_I0 ?_
  | refine g_eqI ?_
  | refine g_neI ?_
  | refine g_eqB ?_
  | refine g_neB ?_
  | refine g_cons ?_
  | refine g_nil ?_
  | refine g_seq ?_
  | refine g_asg ?_
  | refine g_name ?_
  | refine g_ret ?_
  | refine g_retN ?_
  | refine g_drop ?_
  | refine g_next ?_
  | refine g_if ?_
  | refine g_test ?_
  | refine g_tB ?_
  | refine g_bl ?_
  | refine g_and ?_
  | refine g_or ?_
  | refine g_not ?_
  | refine g_andV ?_
  | refine g_orV ?_
  | refine g_notV ?_
  | refine g_ifE ?_
  | refine g_cb ?_
  | refine g_meth ?_
  | refine g_rev ?_
  | refine g_gcons ?_
  | refine g_gnil ?_
  | refine g_isB' ?_
  | refine g_gsub ?_
  | refine g_call ?_
  | refine g_callS ?_
  | refine g_bm ?_
  | refine g_un ?_
  | refine g_U ?_
  | refine g_chain ?_
  | refine g_sl ?_
  | refine g_brk ?_
  | refine g_ct ?_
  | refine g_ipI ?_
  | refine g_fld ?_
  | refine g_lst ?_
  | refine g_int ?_
  | refine g_for ?_
  | refine g_rg1 ?_
  | refine g_rg2 ?_
  | refine g_il ?_
  | refine g_it ?_
  | refine g_lc ?_
  | refine g_yes ?_
  | refine g_tup ?_
  | refine g_part ?_
  | refine g_xf ?_
  | refine g_nn ?_
  | refine g_mko ?_
  | refine g_lrg ?_
  | refine g_tr1 ?_
  | refine g_tr2 ?_
  | refine g_oi2 ?_
  | refine g_mk ?_
  | refine g_sfld ?_
  | refine g_ost ?_
  | refine g_oi ?_
  | refine g_nopart ?_
  | refine g_tt ?_
  | refine g_ff ?_
  | refine g_nt ?_
  | refine g_nf ?_
  | refine g_drn ?_
  | refine g_din ?_
  | refine g_dnn ?_
  | refine g_nrn ?_
  | refine g_nin ?_
  | refine g_nnn ?_))
local macro_rules | `(tactic| walk_at "rd") => `(tactic| (repeat walk_at "rd1"))

local macro_rules | `(tactic| walk_at "rd1") => `(tactic| (with_reducible first
  | refine g_max2 ?_
  | refine g_min2 ?_
  | refine g_callN ?_
  | refine g_xfG ?_))
section
variable {P : Program} {w : World} {K : PySem.W.Frag} {mg : Str → Option Value} {base : Heap} {f : Addr} {fd : FuncData} {A : Ad}
/-! ### _law_standing -/
def spStdR (K : PySem.W.Frag) : Sp := fun vs H Q _ => ∃ (sc pa : Addr) (ns ps : List Int), vs = [.ref sc, .ref pa] ∧ SqL K H sc (ns.map V.int) ∧ SqL K H pa (ps.map V.int) ∧ ps.length = 8 ∧ (0 ≤ ps.getD 2 0 ∧ ps.getD 2 0 < 9) ∧ (0 ≤ ps.getD 6 0 ∧ ps.getD 6 0 < 3) ∧
  ∀ (t : Addr) (ls ss : List Int) (H' : Hp), H t = none → Same H H' → TwoL H H' t ls ss → StOk ss ls → ss.length ≤ 9 → (∀ x ∈ ls, 1 ≤ x ∧ x ≤ 1000000000) → Q (.ref t) H'
theorem sum_geN : ∀ {ls : List Int}, (∀ x ∈ ls, 1 ≤ x) → (ls.length : Int) ≤ ls.sum
  | [], _ => by simp
  | x :: ls, h => by
    have := sum_geN (ls := ls) fun y hy => h y (List.mem_cons_of_mem _ hy)
    have := h x List.mem_cons_self
    rw [List.sum_cons, List.length_cons]; omega
theorem flat_len {k n : Nat} {xs : List Int} (h : xs.length = n) : ((List.replicate k xs).flatten).length = k * n := by
  rw [List.length_flatten, List.map_replicate, List.sum_replicate_nat, h]
theorem flat_mem {k : Nat} {xs : List Int} {x : Int} (h : x ∈ (List.replicate k xs).flatten) : x ∈ xs := by
  obtain ⟨l, hl, hxl⟩ := List.mem_flatten.mp h
  rw [(List.mem_replicate.mp hl).2] at hxl
  exact hxl
theorem ok_stdR (F : Fun K "_law_standing" "_law_standing" s__law_standing f fd) (T : Txt K mg A) (D__law_cell : DefOk P w K mg base CX0 1 "_law_cell" ["script", "k"] (Rt.spCell K)) (D__law_lengths : DefOk P w K mg base CX0 2 "_law_lengths" ["cell", "many"] Rt.spLengths) (D__law_strengths : DefOk P w K mg base CX0 2 "_law_strengths" ["cell", "sizes"] (Rt.spStrengths K)) : FnOk P w K mg base CX0 3 f fd ["script", "plan"] (spStdR K) := by
  refine F.ok sc__law_standing (fun vs H Q E h => ?_) (fun cdv A1 outer s H vs Q E hr h => ?_)
  · obtain ⟨sc, pa, ns, ps, rfl, _⟩ := h
    rfl
  · obtain ⟨sc, pa, ns, ps, rfl, hsc, hpa, pl, p2, p6, q⟩ := h
    refine ⟨_, (pss_cons (ps_if (pt_cmpR op_eq (pe_ix (ix_listK K) (pv 1) pe_int (fun _ _ => rfl)) pe_int (nomark _)) (pss_cons (ps_set (i := 2) sc__law_standing.nd rfl (Or.inl rfl) (pe_callD D__law_lengths (hr.mono (by decide)) pass0 (pa_cons (pe_callD D__law_cell (hr.mono (by decide)) pass0 (pa_cons (pv 0) (pa_cons pe_int pa_nil))) (pa_cons (pe_op op_add pe_int (pe_ix (ix_listK K) (pv 1) pe_int (fun _ _ => rfl))) pa_nil))))
      (pss_one (ps_ret (pe_lst (pa_cons (pv 2) (pa_cons (pe_callD D__law_strengths (hr.mono (by decide)) pass0 (pa_cons (pe_callD D__law_cell (hr.mono (by decide)) pass0 (pa_cons (pv 0) (pa_cons pe_int pa_nil))) (pa_cons (pv 2) pa_nil))) pa_nil)))))) pss_nil)
      (pss_cons (ps_set (i := 3) sc__law_standing.nd rfl (Or.inl rfl) (pe_op op_add pe_int (pe_ix (ix_listK K) (pv 1) pe_int (fun _ _ => rfl))))
      (pss_cons (ps_set (i := 4) sc__law_standing.nd rfl (Or.inr rfl) (pe_callD D__law_lengths (hr.mono (by decide)) pass0 (pa_cons (pe_callD D__law_cell (hr.mono (by decide)) pass0 (pa_cons (pv 0) (pa_cons pe_int pa_nil))) (pa_cons (pe_op op_add pe_int (pe_op op_mod (pe_callTy call_int1 (by rfl) T.m_int (by decide +kernel) (pa_cons (pe_ix (ix_listK K) (pv 1) pe_int (fun _ _ => rfl)) pa_nil)) (pe_op op_fdivW pe_int (pv 3)))) pa_nil))))
      (pss_cons (ps_set (i := 5) sc__law_standing.nd rfl (Or.inl rfl) (pe_callD D__law_strengths (hr.mono (by decide)) pass0 (pa_cons (pe_callD D__law_cell (hr.mono (by decide)) pass0 (pa_cons (pv 0) (pa_cons pe_int pa_nil))) (pa_cons (pv 4) pa_nil))))
      (pss_cons (ps_if (pt_cmpR op_eq (pe_ix (ix_listK K) (pv 1) pe_int (fun _ _ => rfl)) pe_int (nomark _)) (pss_cons (ps_setLc (i := 5) (own := [("strength", 6)]) (g := gName 6) (tt := tYes) rfl sc__law_standing.nd rfl rfl (sw_true rfl rfl rfl (by decide +kernel)) (pi_listK K (pv 5)) (blkOk_by (N := ["script", "plan", "sizes", "times", "block", "strengths", "strength"]) (sc := defScope s__law_standing) (by decide +kernel)) (fun _ _ _ _ _ => (by exact (pg_name (i := 6) sc__law_standing.nd rfl (Or.inl rfl)))) (fun _ _ _ _ _ => (by exact pts_nil)) (fun _ _ _ _ _ => (by exact (pe_op op_mod (pe_callTy call_int1 (by rfl) T.m_int (by decide +kernel) (pa_cons (pv 6) pa_nil)) (pe_callB (cr_sumK K rfl) (by rfl) T.m_sum (by decide +kernel) (pa_cons (pv 4) pa_nil))))))
      (pss_one (ps_asg (pe_callB (cr_sumK K rfl) (by rfl) T.m_sum (by decide +kernel) (pa_cons (pv 4) pa_nil)) (pg_sub (pv 5) (pe_op op_mod (pe_callTy call_int1 (by rfl) T.m_int (by decide +kernel) (pa_cons (pe_ix (ix_listK K) (pv 1) pe_int (fun _ _ => rfl)) pa_nil)) (pe_callB (call_lenK K) (by rfl) T.m_len PySem.boot_len (pa_cons (pv 4) pa_nil))) set_list)))) pss_nil)
      (pss_one (ps_ret (pe_lst (pa_cons (pe_op op_rep (pv 4) (pv 3)) (pa_cons (pe_op op_rep (pv 5) (pv 3)) pa_nil)))))))))), ?_⟩
    walk_at "rd"
    refine g_ixL hpa (at_int (o := 5) (by omega)) ?_
    walk_at "rd"
    refine g_ite (fun e => ?_) (fun e => ?_)
    · walk_at "rd"
      refine ⟨sc, ns, 1, rfl, hsc, ?_⟩
      walk_at "rd"
      refine g_ixL hpa (at_int (o := 2) (by omega)) ?_
      walk_at "rd"
      obtain ⟨k, ek, k1, k9⟩ : ∃ k : Nat, 1 + ps.getD 2 0 = (k : Int) ∧ 1 ≤ k ∧ k ≤ 9 := ⟨(1 + ps.getD 2 0).toNat, by omega, by omega, by omega⟩
      rw [ek]
      refine ⟨_, k, rfl, by omega, fun la H1 ls nla S1 hla el lb => ?_⟩
      walk_at "rd"
      refine ⟨sc, ns, 2, rfl, S1.seq hsc, ?_⟩
      walk_at "rd"
      refine ⟨_, la, ls, rfl, SqL.of hla, by omega, lb, fun sa H2 ss nsa S2 hsa sl sb => ?_⟩
      walk_at "rd"
      refine newL fun t H3 nt S3 ht => ?_
      have S12 := S1.trans S2
      have ok : StOk ss ls := ⟨by omega, by omega, sl.symm, fun x hx => (sb x hx).1, fun x hx => (lb x hx).1⟩
      exact q t ls ss H3 (S12.free nt) (S12.trans S3) ⟨la, sa, nla, S1.free nsa, ht, S3 _ _ (S2 _ _ hla), S3 _ _ hsa⟩ ok (by omega) lb
    · walk_at "rd"
      refine g_ixL hpa (at_int (o := 6) (by omega)) ?_
      walk_at "rd"
      obtain ⟨tm, et, t2, t4⟩ : ∃ tm : Nat, 2 + ps.getD 6 0 = (tm : Int) ∧ 2 ≤ tm ∧ tm ≤ 4 := ⟨(2 + ps.getD 6 0).toNat, by omega, by omega, by omega⟩
      rw [et]
      walk_at "rd"
      refine ⟨sc, ns, 1, rfl, hsc, ?_⟩
      walk_at "rd"
      refine g_ixL hpa (at_int (o := 2) (by omega)) ?_
      walk_at "rd"
      refine g_I (divW_ok (by omega) (by omega)) ?_
      obtain ⟨d, ed, d2, dt⟩ : ∃ d : Nat, (9 : Int) / (tm : Int) = (d : Int) ∧ 2 ≤ d ∧ tm * d ≤ 9 := ⟨9 / tm, by rw [Int.natCast_ediv]; rfl, (Nat.le_div_iff_mul_le (by omega)).mpr (by omega), Nat.mul_div_le 9 tm⟩
      rw [ed]
      refine g_I (by omega) ?_
      walk_at "rd"
      have c1 := Int.emod_nonneg (ps.getD 2 0) (show (d : Int) ≠ 0 by omega)
      have c2 := Int.emod_lt_of_pos (ps.getD 2 0) (show 0 < (d : Int) by omega)
      obtain ⟨k, ek, k1, k9⟩ : ∃ k : Nat, 1 + ps.getD 2 0 % (d : Int) = (k : Int) ∧ 1 ≤ k ∧ k ≤ d := ⟨(1 + ps.getD 2 0 % (d : Int)).toNat, by omega, by omega, by omega⟩
      rw [ek]
      have tk : tm * k ≤ 9 := Nat.le_trans (Nat.mul_le_mul_left tm k9) dt
      have k99 : k ≤ 9 := by
        have : 1 * k ≤ tm * k := Nat.mul_le_mul_right k (by omega)
        omega
      refine ⟨_, k, rfl, by omega, fun la H1 ls nla S1 hla el lb => ?_⟩
      walk_at "rd"
      refine ⟨sc, ns, 2, rfl, S1.seq hsc, ?_⟩
      walk_at "rd"
      refine ⟨_, la, ls, rfl, SqL.of hla, by omega, lb, fun sa H2 ss nsa S2 hsa sl sb => ?_⟩
      have hla2 := S2 _ _ hla
      have S12 := S1.trans S2
      have nla2 := nla
      have nsa2 := S1.free nsa
      have sb' : ∀ x ∈ ss, 0 ≤ x := fun x hx => (sb x hx).1
      refine g_name ?_
      dsimp only
      refine g_seq ?_
      refine g_st ([some (.ref sc), some (.ref pa), none, some (.int (tm : Int)), some (.ref la), some (.ref sa), none]) rfl ?_
      refine g_join (fun σ' H' => ∃ (sb : Addr) (es : List Int), σ' = [some (.ref sc), some (.ref pa), none, some (.int (tm : Int)), some (.ref la), some (.ref sb), none] ∧ H sb = none ∧ Same H H' ∧ H' la = some (.lst (ls.map V.int)) ∧ H' sb = some (.lst (es.map V.int)) ∧ es.length = k ∧ ∀ x ∈ es, 0 ≤ x) ?_ ?_
      · intro D' hD'
        walk_at "rd"
        refine g_ixL (S12.seq hpa) (at_int (o := 5) (by omega)) ?_
        walk_at "rd"
        refine g_ite (fun e => ?_) (fun e => ?_)
        · walk_at "rd"
          refine ⟨sa, rfl, ⟨_, SqL.of hsa⟩, fun D nD => ?_⟩
          have s1 : 1 ≤ ls.sum := by have := sum_geN fun x hx => (lb x hx).1; omega
          refine lc_list (xs := ss.map V.int) (fun i H' => Same H2 H' ∧ H' D = some (.lst (((ss.map fun x => x % ls.sum).take i).map V.int))) ⟨Same.new nD, by rw [upd_same]; rfl⟩ (fun i H' _ h => SqL.of (h.1 _ _ hsa)) ?_ ?_
          · rintro i x H' hx ⟨S', hD⟩
            obtain ⟨li, rfl⟩ := map_at hx
            walk_at "rd"
            refine ⟨rfl, ?_⟩
            walk_at "rd"
            refine ⟨la, ls, rfl, SqL.of (S' _ _ hla2), ?_⟩
            refine g_I (by omega) ?_
            refine ⟨_, hD, by rw [List.length_map, List.length_take]; exact slt1000 (by omega), S'.mut nD, ?_⟩
            have li' : i < (ss.map fun x => x % ls.sum).length := by rw [List.length_map]; exact li
            have eg : (ss.map fun x => x % ls.sum).getD i 0 = ss.getD i 0 % ls.sum := by
              rw [List.getD_eq_getElem?_getD, List.getElem?_map, List.getD_eq_getElem?_getD, List.getElem?_eq_getElem li]; rfl
            rw [upd_same, take_getD li', List.map_append, eg]; rfl
          rintro H3 ⟨S3, hD⟩
          have lm : (ss.map fun x => x % ls.sum).length = k := by rw [List.length_map]; omega
          rw [List.length_map, List.take_of_length_le (show (ss.map fun x => x % ls.sum).length ≤ ss.length by rw [List.length_map]; exact Nat.le_refl _)] at hD
          have mm : ∀ x ∈ ss.map (fun x => x % ls.sum), 0 ≤ x := fun x hx => by
            obtain ⟨y, _, rfl⟩ := List.mem_map.mp hx
            exact Int.emod_nonneg _ (by omega)
          generalize (ss.map fun x => x % ls.sum) = es at hD lm mm
          have S13 := S12.trans S3
          have hla3 := S3 _ _ hla2
          have nDH : H D = none := S12.free nD
          have Dla : la ≠ D := fun z => by rw [z, nD] at hla2; cases hla2
          walk_at "rd"
          refine ⟨la, ls, rfl, SqL.of hla3, ?_⟩
          walk_at "rd"
          refine g_ixL (S13.seq hpa) (at_int (o := 7) (by omega)) ?_
          walk_at "rd"
          refine ⟨la, _, rfl, .inl (SqL.of hla3), ?_⟩
          rw [List.length_map, el]
          refine g_I (by omega) ?_
          have c3 := Int.emod_nonneg (ps.getD 7 0) (show (k : Int) ≠ 0 by omega)
          have c4 := Int.emod_lt_of_pos (ps.getD 7 0) (show 0 < (k : Int) by omega)
          obtain ⟨j, ej, hj⟩ : ∃ j : Nat, ps.getD 7 0 % (k : Int) = (j : Int) ∧ j < k := ⟨(ps.getD 7 0 % (k : Int)).toNat, by omega, by omega⟩
          rw [ej]
          refine g_set hD (by omega) ?_
          refine hD' _ _ ⟨D, es.set j ls.sum, rfl, nDH, S13.mut nDH, by rw [upd_ne Dla]; exact hla3, upd_same, by rw [List.length_set]; exact lm, fun x hx => ?_⟩
          rcases List.mem_or_eq_of_mem_set hx with z | z
          · exact mm x z
          · omega
        · exact hD' _ _ ⟨sa, ss, rfl, nsa2, S12, hla2, hsa, by omega, sb'⟩
      clear hsa hla2 S12 sb sb' nsa2 nsa S2 hla S1
      rintro σ' H5 ⟨sb, es, rfl, nsb, S5, hla5, hsb, ell, enn⟩
      dsimp only
      walk_at "rd"
      refine g_repL (xs := ls) (k := tm) hla5 (by rw [el, Nat.mul_comm]; omega) (by omega) fun t1 H6 nt1 S6 ht1 => ?_
      walk_at "rd"
      refine g_repL (xs := es) (k := tm) (S6 _ _ hsb) (by rw [ell, Nat.mul_comm]; omega) (by omega) fun t2 H7 nt2 S7 ht2 => ?_
      walk_at "rd"
      refine newL fun t H8 nt S8 ht => ?_
      have S56 := S5.trans S6
      have S57 := S56.trans S7
      have l1 := flat_len (k := tm) el
      have l2 := flat_len (k := tm) ell
      have tk0 : 0 < tm * k := Nat.mul_pos (by omega) k1
      have ok : StOk (List.replicate tm es).flatten (List.replicate tm ls).flatten := ⟨by omega, by omega, by omega, fun x hx => enn x (flat_mem hx), fun x hx => (lb x (flat_mem hx)).1⟩
      exact q t _ _ H8 (S57.free nt) (S57.trans S8) ⟨t1, t2, S5.free nt1, S56.free nt2, ht, S8 _ _ (S7 _ _ ht1), S8 _ _ ht2⟩ ok (by omega) fun x hx => lb x (flat_mem hx)
/-! ### a join, with the return -/
theorem g_joinR {D : Ends} {σ : L2.St} {H : Hp} {t : TS} (R : L2.St → Hp → Prop) (h1 : ∀ D' : Ends, D'.rt = D.rt → (∀ σ' H', R σ' H' → D'.nx σ' H') → t D' σ H) (h : ∀ σ' H', R σ' H' → D.nx σ' H') : t D σ H := h1 D rfl h
/-! ### _law_picked -/
def spPick (K : PySem.W.Frag) : Sp := fun vs H Q _ => ∃ (da la sa : Addr) (fr : Bool) (ds ls ss : List Int) (m : Nat), vs = [.ref da, .bl fr, .ref la, .ref sa] ∧ SqL K H da (ds.map V.int) ∧ ds.length = m + 1 ∧ m ≤ 100 ∧ SqL K H la (ls.map V.int) ∧ SqL K H sa (ss.map V.int) ∧ ls.length = ss.length ∧ 0 < ss.length ∧ ss.length ≤ 900 ∧
  ∀ (t : Addr) (ps : List Nat) (H' : Hp), H t = none → Same H H' → H' t = some (.lst (nI ps)) → (∀ p ∈ ps, p < ss.length) → ps.length ≤ m → Q (.ref t) H'
theorem ok_pick (F : Fun K "_law_picked" "_law_picked" s__law_picked f fd) (T : Txt K mg A) (D__law_strongest : DefOk P w K mg base CX0 1 "_law_strongest" ["strengths"] (spStrg K)) (D__law_restless : DefOk P w K mg base CX0 2 "_law_restless" ["sizes", "strengths"] (spRestR K)) : FnOk P w K mg base CX0 3 f fd ["draws", "free", "sizes", "strengths"] (spPick K) := by
  refine F.ok sc__law_picked (fun vs H Q E h => ?_) (fun cdv A1 outer s H vs Q E hr h => ?_)
  · obtain ⟨da, la, sa, fr, ds, ls, ss, m, rfl, _⟩ := h
    rfl
  · obtain ⟨da, la, sa, fr, ds, ls, ss, m, rfl, hda, dl, m1, hl, hs, el, n0, n1, q⟩ := h
    refine ⟨_, (pss_cons (ps_set (i := 4) sc__law_picked.nd rfl (Or.inl rfl) (pe_callD D__law_strongest (hr.mono (by decide)) pass0 (pa_cons (pv 3) pa_nil)))
      (pss_cons (ps_if (PW.pt (pw_and (pt_cmpR op_eq (pe_ix (ix_listK K) (pv 0) pe_int (fun _ _ => rfl)) pe_int (nomark _)) (pw_and1 (pt_cmpR op_lt (pe_callB (call_lenK K) (by rfl) T.m_len PySem.boot_len (pa_cons (pv 4) pa_nil)) (pe_callB (call_lenK K) (by rfl) T.m_len PySem.boot_len (pa_cons (pv 0) pa_nil)) (nomark _))))) (pss_one (ps_ret (pv 4))) pss_nil)
      (pss_cons (ps_set (i := 5) sc__law_picked.nd rfl (Or.inr rfl) (pe_listRg rfl (by rfl) T.m_list (prg_1 (by rfl) T.m_range (pe_callB (call_lenK K) (by rfl) T.m_len PySem.boot_len (pa_cons (pv 2) pa_nil)))))
      (pss_cons (ps_if (pt_not (pt_val (pv 1))) (pss_one (ps_set (i := 5) sc__law_picked.nd rfl (Or.inr rfl) (pe_callD D__law_restless (hr.mono (by decide)) pass0 (pa_cons (pv 2) (pa_cons (pv 3) pa_nil))))) pss_nil)
      (pss_cons (ps_if (pt_cmpR (op_eqDK K hr.units) (pv 5) (pe_lst pa_nil) (nomark _)) (pss_one (ps_ret (pe_lst pa_nil))) pss_nil)
      (pss_one (ps_ret (pe_callB (cr_sortW (w := w) rfl) (by rfl) T.m_sorted (by decide +kernel) (pa_cons (pe_callTy (cr_setL (w := w) K rfl) (by rfl) T.m_set (by decide +kernel) (pa_cons (pe_lc (own := [("draw", 6)]) (g := gName 6) (tt := tYes) rfl sc__law_picked.nd (pi_listK K (pe_slice (sl_listK K) (pv 0) (po_some pe_int) po_none)) (blkOk_by (N := ["draws", "free", "sizes", "strengths", "strongest", "choices", "draw"]) (sc := defScope s__law_picked) (by decide +kernel)) (fun _ _ _ _ _ => (by exact (pg_name (i := 6) sc__law_picked.nd rfl (Or.inl rfl)))) (fun _ _ _ _ _ => (by exact pts_nil)) (fun _ _ _ _ _ => (by exact (pe_ix (ix_listK K) (pv 5) (pe_op op_mod (pe_callTy call_int1 (by rfl) T.m_int (by decide +kernel) (pa_cons (pv 6) pa_nil)) (pe_callB (call_lenK K) (by rfl) T.m_len PySem.boot_len (pa_cons (pv 5) pa_nil))) (fun _ _ => rfl))))) pa_nil)) pa_nil))))))))), ?_⟩
    walk_at "rd"
    refine ⟨sa, ss, rfl, hs, n0, by omega, ?_⟩
    obtain ⟨hm, hx⟩ := maxI_is (ss := ss) (fun z => by rw [z] at n0; simp at n0)
    generalize maxI ss = mx at hm hx
    refine fun m' hm' hx' u H1 nu S1 hu => ?_
    obtain rfl : m' = mx := Int.le_antisymm (hx m' hm') (hx' mx hm)
    have stl : ∀ p ∈ strN ss m', p < ss.length := fun p hp => (strN_mem.mp hp).1
    have stn := strN_len (ss := ss) (m := m')
    refine g_name ?_
    dsimp only
    refine g_seq ?_
    refine g_st ([some (.ref da), some (.bl fr), some (.ref la), some (.ref sa), some (.ref u), none, none]) rfl ?_
    refine g_joinR (fun σ' H' => σ' = [some (.ref da), some (.bl fr), some (.ref la), some (.ref sa), some (.ref u), none, none] ∧ H' = H1) ?_ ?_
    · intro D' eD hD'
      walk_at "rd"
      refine g_ixL (S1.seq hda) (at_int (o := 0) (by omega)) ?_
      walk_at "rd"
      refine g_ite (fun e => ?_) (fun e => ?_)
      · walk_at "rd"
        refine ⟨u, _, rfl, .inl (SqL.of hu), ?_⟩
        rw [nI_len]
        walk_at "rd"
        refine ⟨da, _, rfl, .inl (S1.seq hda), ?_⟩
        rw [List.length_map, dl]
        walk_at "rd"
        refine g_ite (fun e => ?_) (fun e => ?_)
        · have := of_decide_eq_true e
          walk_at "rd"
          rw [eD]
          exact q u _ H1 nu S1 hu stl (by omega)
        · exact hD' _ _ ⟨rfl, rfl⟩
      · exact hD' _ _ ⟨rfl, rfl⟩
    rintro σ' _ ⟨rfl, rfl⟩
    dsimp only
    refine g_seq ?_
    walk_at "rd"
    refine ⟨la, _, rfl, .inl (S1.seq hl), ?_⟩
    rw [List.length_map, el]
    refine ⟨_, rfl, ?_⟩
    refine newRg (a := 0) (b := ss.length) (by omega) (by omega) fun ch H2 nch S2 hch => ?_
    have S02 := S1.trans S2
    refine g_name ?_
    dsimp only
    refine g_seq ?_
    refine g_st ([some (.ref da), some (.bl fr), some (.ref la), some (.ref sa), some (.ref u), some (.ref ch), none]) rfl ?_
    have hch' : H2 ch = some (.lst (nI (List.range ss.length))) := by
      rw [hch]
      congr 2
      unfold nI
      exact List.map_congr_left fun k _ => by rw [Nat.zero_add]
    refine g_join (fun σ' H' => ∃ (c2 : Addr) (ps : List Nat), σ' = [some (.ref da), some (.bl fr), some (.ref la), some (.ref sa), some (.ref u), some (.ref c2), none] ∧ Same H H' ∧ H' c2 = some (.lst (nI ps)) ∧ ps.length ≤ 900 ∧ ∀ p ∈ ps, p < ss.length) ?_ ?_
    · intro D' hD'
      walk_at "rd"
      cases fr with
      | true =>
        walk_at "rd"
        exact hD' _ _ ⟨ch, _, rfl, S02, hch', by rw [List.length_range]; exact n1, fun p hp => List.mem_range.mp hp⟩
      | false =>
        walk_at "rd"
        refine ⟨la, sa, ls, ss, rfl, S02.seq hl, S02.seq hs, el, by omega, fun c2 H3 nc2 S3 hc2 => ?_⟩
        have lr : (rsN true ss ls ss.length).length ≤ ss.length := by
          have := filt_len (p := fun k => decide (rch true ss ls k ≠ ss.getD k 0)) (n := ss.length)
          unfold rsN; exact this
        exact hD' _ _ ⟨c2, _, rfl, S02.trans S3, hc2, by omega, fun p hp => List.mem_range.mp (List.mem_filter.mp hp).1⟩
    rintro σ' H3 ⟨c2, ps, rfl, S3, hc2, pl, pb⟩
    clear hch hch' S02 S2 S1 hu
    dsimp only
    refine g_seq ?_
    rw [nI_eq] at hc2
    refine g_joinR (fun σ' H' => σ' = [some (.ref da), some (.bl fr), some (.ref la), some (.ref sa), some (.ref u), some (.ref c2), none] ∧ Same H3 H' ∧ 0 < ps.length) ?_ ?_
    · intro D' eD hD'
      walk_at "rd"
      refine newL fun e0 H4 ne0 S4 he0 => ?_
      refine g_eqL (xs := iI ps) (ys := []) (SqL.of (S4 _ _ hc2)) (SqL.of he0) ?_
      walk_at "rd"
      refine g_ite (fun e => ?_) (fun e => ?_)
      · walk_at "rd"
        refine newL fun t H5 nt S5 ht => ?_
        rw [eD]
        have S34 := S3.trans S4
        exact q t [] H5 (S34.free nt) (S34.trans S5) ht (fun p hp => by cases hp) (Nat.zero_le _)
      · refine hD' _ _ ⟨rfl, S4, ?_⟩
        have := of_decide_eq_false e
        rcases Nat.eq_zero_or_pos ps.length with z | z
        · exact absurd (List.eq_nil_of_length_eq_zero (by rw [iI_len]; exact z)) this
        · exact z
    rintro σ' H4 ⟨rfl, S4, p0⟩
    dsimp only
    walk_at "rd"
    have S04 := S3.trans S4
    have hc4 := S4 _ _ hc2
    refine g_cut (S04.seq hda) fun t1 H5 nt1 S5 ht1 => ?_
    rw [show (1 : Int) = ((1 : Nat) : Int) from rfl, cut_lo (by rw [List.length_map]; omega), ← List.map_drop] at ht1
    have S05 := S04.trans S5
    have hc5 := S5 _ _ hc4
    have tl : (ds.drop 1).length = m := by rw [List.length_drop]; omega
    generalize ds.drop 1 = us at ht1 tl
    have pl' := iI_len (c := ps)
    refine ⟨t1, rfl, ⟨_, SqL.of ht1⟩, fun D nD => ?_⟩
    refine lc_list (xs := us.map V.int) (fun i H' => Same H5 H' ∧ H' D = some (.lst (((us.map fun x => (iI ps).getD (x % (ps.length : Int)).toNat 0).take i).map V.int))) ⟨Same.new nD, by rw [upd_same]; rfl⟩ (fun i H' _ h => SqL.of (h.1 _ _ ht1)) ?_ ?_
    · rintro i x H' hx ⟨S', hD⟩
      obtain ⟨li, rfl⟩ := map_at hx
      walk_at "rd"
      refine ⟨rfl, ?_⟩
      walk_at "rd"
      refine ⟨c2, _, rfl, .inl (SqL.of (S' _ _ hc5)), ?_⟩
      rw [List.length_map, pl']
      refine g_I (by omega) ?_
      have c1 := Int.emod_nonneg (us.getD i 0) (show (ps.length : Int) ≠ 0 by omega)
      have c2' := Int.emod_lt_of_pos (us.getD i 0) (show 0 < (ps.length : Int) by omega)
      refine g_ixL (SqL.of (S' _ _ hc5)) (at_toNat (zs := iI ps) c1 (by rw [pl']; exact c2')) ?_
      have li' : i < (us.map fun x => (iI ps).getD (x % (ps.length : Int)).toNat 0).length := by rw [List.length_map]; exact li
      refine ⟨_, hD, by rw [List.length_map, List.length_take]; exact slt1000 (by omega), S'.mut nD, ?_⟩
      have eg : (us.map fun x => (iI ps).getD (x % (ps.length : Int)).toNat 0).getD i 0 = (iI ps).getD (us.getD i 0 % (ps.length : Int)).toNat 0 := by
        rw [List.getD_eq_getElem?_getD, List.getElem?_map, List.getD_eq_getElem?_getD (l := us), List.getElem?_eq_getElem li]; rfl
      rw [upd_same, take_getD li', List.map_append, eg]; rfl
    rintro H6 ⟨S6, hD⟩
    rw [List.length_map, List.take_of_length_le (by rw [List.length_map]; exact Nat.le_refl _)] at hD
    have ql : (us.map fun x => (iI ps).getD (x % (ps.length : Int)).toNat 0).length = m := by rw [List.length_map]; exact tl
    have qb : ∀ x ∈ us.map (fun x => (iI ps).getD (x % (ps.length : Int)).toNat 0), 0 ≤ x ∧ x < (ss.length : Int) := fun x hx => by
      obtain ⟨y, _, rfl⟩ := List.mem_map.mp hx
      have c1 := Int.emod_nonneg y (show (ps.length : Int) ≠ 0 by omega)
      have c2' := Int.emod_lt_of_pos y (show 0 < (ps.length : Int) by omega)
      have hj : (y % (ps.length : Int)).toNat < ps.length := by omega
      rw [iI_getD]
      have : ps.getD (y % (ps.length : Int)).toNat 0 ∈ ps := by
        rw [List.getD_eq_getElem?_getD, List.getElem?_eq_getElem hj]
        exact List.getElem_mem hj
      have := pb _ this
      omega
    generalize (us.map fun x => (iI ps).getD (x % (ps.length : Int)).toNat 0) = qs at hD ql qb
    walk_at "rd"
    refine ⟨D, qs, rfl, SqL.of hD, by omega, fun e2 cc ne2 hcc => ?_⟩
    walk_at "rd"
    refine ⟨e2, _, cc, rfl, upd_same, by omega, fun vs e3 pw mem len ne3 => ?_⟩
    have SC : Same H6 (upd H6 e2 (SetO w e2 (fun j => decide (j ∈ qs)) cc)) := Same.new ne2
    have SD : Same (upd H6 e2 (SetO w e2 (fun j => decide (j ∈ qs)) cc)) (upd (upd H6 e2 (SetO w e2 (fun j => decide (j ∈ qs)) cc)) e3 (.lst (vs.map V.int))) := Same.new ne3
    have ev : vs = ascI qs := ascI_eq pw fun v => by rw [mem]; exact decide_eq_true_iff
    have vl : vs.length ≤ m := by
      rw [ev]
      have := ascI_len qs
      omega
    have vb : ∀ x ∈ vs, 0 ≤ x ∧ x < (ss.length : Int) := fun x hx => qb x (by have := (mem x).mp hx; exact of_decide_eq_true this)
    obtain ⟨rs, ers, rl, rb⟩ := places_of vb
    have SX := (S05.trans S6).trans SC
    refine q e3 rs _ (SX.free ne3) (SX.trans SD) ?_ rb (by omega)
    rw [upd_same, ers]
/-! ### -/
end
end Rt
set_option Elab.async false
set_option linter.all false
set_option maxRecDepth 100000
set_option maxHeartbeats 4000000
namespace Rt
open PySem PySem.Spec L2
open PyProof.Rows (envOfC)
open LamX (CodeO TabS Tabs TabB)
local macro_rules | `(tactic| walk_at "rd1") => `(tactic| (with_reducible first
  | refine g_var (by with_unfolding_all rfl) ?_
  | refine g_c ?_
  | refine g_op ?_
  | refine g_I0 ?_
  | refine g_eqI ?_
  | refine g_neI ?_
  | refine g_eqB ?_
  | refine g_neB ?_
  | refine g_cons ?_
  | refine g_nil ?_
  | refine g_seq ?_
  | refine g_asg ?_
  | refine g_name ?_
  | refine g_ret ?_
  | refine g_retN ?_
  | refine g_drop ?_
  | refine g_next ?_
  | refine g_if ?_
  | refine g_test ?_
  | refine g_tB ?_
  | refine g_bl ?_
  | refine g_and ?_
  | refine g_or ?_
  | refine g_not ?_
  | refine g_andV ?_
  | refine g_orV ?_
  | refine g_notV ?_
  | refine g_ifE ?_
  | refine g_cb ?_
  | refine g_meth ?_
  | refine g_rev ?_
  | refine g_gcons ?_
  | refine g_gnil ?_
  | refine g_isB' ?_
  | refine g_gsub ?_
  | refine g_call ?_
  | refine g_callS ?_
  | refine g_bm ?_
  | refine g_un ?_
  | refine g_U ?_
  | refine g_chain ?_
  | refine g_sl ?_
  | refine g_brk ?_
  | refine g_ct ?_
  | refine g_ipI ?_
  | refine g_fld ?_
  | refine g_lst ?_
  | refine g_int ?_
  | refine g_for ?_
  | refine g_rg1 ?_
  | refine g_rg2 ?_
  | refine g_il ?_
  | refine g_it ?_
  | refine g_lc ?_
  | refine g_yes ?_
  | refine g_tup ?_
  | refine g_part ?_
  | refine g_xf ?_
  | refine g_nn ?_
  | refine g_mko ?_
  | refine g_lrg ?_
  | refine g_tr1 ?_
  | refine g_tr2 ?_
  | refine g_oi2 ?_
  | refine g_mk ?_
  | refine g_sfld ?_
  | refine g_ost ?_
  | refine g_oi ?_
  | refine g_nopart ?_
  | refine g_tt ?_
  | refine g_ff ?_
  | refine g_nt ?_
  | refine g_nf ?_
  | refine g_drn ?_
  | refine g_din ?_
  | refine g_dnn ?_
  | refine g_nrn ?_
  | refine g_nin ?_
  | refine g_nnn ?_))
local macro_rules | `(tactic| walk_at "rd") => `(tactic| (repeat walk_at "rd1"))

local macro_rules | `(tactic| walk_at "rd1") => `(tactic| (with_reducible first
  | refine g_max2 ?_
  | refine g_min2 ?_
  | refine g_callN ?_
  | refine g_xfG ?_))
section
variable {P : Program} {w : World} {K : PySem.W.Frag} {mg : Str → Option Value} {base : Heap} {f : Addr} {fd : FuncData} {A : Ad} {TL : List (Addr × Str)}
/-! ### Beads(x, y) -/
def gBeads0 (vs zs : List V) : List V := vs ++ (V.bl true :: zs)
theorem mk_newL0 {H : Hp} {Q : VK} {E : XK} {g1 g2 : Addr} {ss ls : List Int} (h1 : H g1 = some (.lst (ss.map V.int))) (h2 : H g2 = some (.lst (ls.map V.int))) (ok : StOk ss ls)
    (q : ∀ (x ts tl : Addr) (H' : Hp), H x = none → Same H H' → BAt A.Beads H' x ts tl true ss ls → Q (.ref x) H') : MakeK A.Beads (spNew K A) 2 0 gBeads0 E [.ref g1, .ref g2] [] H Q :=
  ⟨rfl, rfl, (mk_newL (r := true) h1 h2 ok q).2.2⟩
/-! ### what a waking does to the tally -/
theorem Wak.of {r : Bool} {ls ss : List Int} {ps : List Nat} (ok : StOk ss ls) (hps : ∀ p ∈ ps, p < ss.length) : Wak r ls ss (wok r ss ls ps) where
  len := wok_len ps
  ls0 := fun o => by
    rcases Nat.lt_or_ge o ls.length with z | z
    · have := ok.l1 _ (getD_mem z); omega
    · rw [List.getD_eq_getElem?_getD, List.getElem?_eq_none z]; exact Int.le_refl _
  at_ := fun k hk => by
    rw [wok_at ps hps]
    by_cases c : k ∈ ps
    · rw [if_pos c]; exact .inr rfl
    · rw [if_neg c]; exact .inl rfl
theorem due_ex {ss es : List Int} (h : mvd ss es ss.length ≠ []) : ∃ v c, Due ss es v c := by
  have ne : (mvd ss es ss.length).map (mnS ss es) ≠ [] := fun z => h (List.map_eq_nil_iff.mp z)
  obtain ⟨v, ev⟩ : ∃ v, ((mvd ss es ss.length).map (mnS ss es)).min? = some v := by
    cases e : ((mvd ss es ss.length).map (mnS ss es)).min? with
    | some v => exact ⟨v, rfl⟩
    | none => exact absurd (List.min?_eq_none_iff.mp e) ne
  obtain ⟨hm, hx⟩ := List.min?_eq_some_iff.mp ev
  obtain ⟨k, hk, ek⟩ := List.mem_map.mp hm
  obtain ⟨k1, k2⟩ := mvd_mem.mp hk
  exact ⟨v, _, ⟨fun j j1 j2 => hx _ (List.mem_map.mpr ⟨j, mvd_mem.mpr ⟨j1, j2⟩, rfl⟩), ⟨k, k1, k2, ek⟩, rfl⟩⟩
theorem cmp_wok {ls ss es : List Int} (W : Wak true ls ss es) {c : Int} (h : CmpS (tlyL ss (rnd true ls ss)) (tlyL es (rnd true ls es)) c) : c = 0 - (if (!decide (es = ss)) = true then 1 else 0) := by
  by_cases z : mvd ss es ss.length = []
  · have e := same_of W.len z
    subst e
    rw [decide_eq_true rfl]
    exact h.uniq cmp_same
  · obtain ⟨v, n, D⟩ := due_ex z
    have ne : ¬ es = ss := fun e => by
      subst e
      obtain ⟨k, _, hk, _⟩ := D.mem
      exact hk rfl
    rw [decide_eq_false ne]
    exact h.uniq (cmp_up W D).1
theorem mem_iI {ps : List Nat} {k : Nat} : k ∈ ps ↔ (k : Int) ∈ iI ps := by
  unfold iI
  rw [List.mem_map]
  constructor
  · intro h; exact ⟨k, h, rfl⟩
  · rintro ⟨j, hj, e⟩
    have : j = k := by exact_mod_cast e
    subst this; exact hj
theorem badQ_iI {n : Nat} {ps : List Nat} (h : ∀ p ∈ ps, p < n) : badQ (n : Int) (iI ps) = none := by
  unfold badQ
  rw [List.find?_eq_none]
  intro x hx
  obtain ⟨p, hp, rfl⟩ := List.mem_map.mp hx
  have := h p hp
  simp; omega
/-! ### _law_way -/
def spWay (K : PySem.W.Frag) (A : Ad) (TL : List (Addr × Str)) : Sp := fun vs H Q _ => ∃ (la sa : Addr) (c : Int) (fr : Bool) (m wd : Nat) (ls ss : List Int), vs = [.int c, .bl fr, .int (m : Int), .int (wd : Int), .ref la, .ref sa] ∧ H la = some (.lst (ls.map V.int)) ∧ H sa = some (.lst (ss.map V.int)) ∧ StOk ss ls ∧ ss.length ≤ 9 ∧ 0 < m ∧ m ≤ 9 ∧ m ≤ wd ∧ wd ≤ 1000 ∧ Tabs TL H ∧
  ∀ (t : Addr) (es : List Int) (H' : Hp), H t = none → SameT H H' → Tabs TL H' → H' t = some (.lst (es.map V.int)) → StOk es ls → es.length = ss.length → bndI ls ss wd ≤ maxI es → Q (.ref t) H'
theorem ok_way (F : Fun K "_law_way" "_law_way" s__law_way f fd) (T : Txt K mg A) (D__law_draws : DefOk P w K mg base CX0 1 "_law_draws" ["cell", "sizes"] (Rt.spDraws K)) (D__law_bound : DefOk P w K mg base CX0 1 "_law_bound" ["sizes", "strengths", "most"] (spBnd K)) (MK0_Beads : CtorD P w K mg base CX0 2 "Beads" A.Beads 2 [] gBeads0 (spNew K A))
    (D_tally_of : DefOk P w K mg base CX0 8 "tally_of" ["beads"] (spTlyOf A)) (D__law_picked : DefOk P w K mg base CX0 3 "_law_picked" ["draws", "free", "sizes", "strengths"] (spPick K)) (D__law_woken : DefOk P w K mg base CX0 2 "_law_woken" ["sizes", "strengths", "places"] (spWokenR K)) (D_wake : DefOk P w K mg base (L2N.CX P w) 10 "wake" ["beads", "handful"] (spWake K A TL))
    (D__law_is_standing : DefOk P w K mg base CX0 3 "_law_is_standing" ["actual", "round_flag", "sizes", "strengths"] (spStanding K A)) (D_compare_tallies : DefOk P w K mg base CX0 1 "compare_tallies" ["one", "other"] spCmpT) (D__law_is_integer : DefOk P w K mg base CX0 1 "_law_is_integer" ["actual"] Rt.spInt) (D__law_bound_told : DefOk P w K mg base CX0 5 "_law_bound_told" ["beads", "sizes", "strengths", "most"] (spBndT K A)) : FnOk P w K mg base CX0 11 f fd ["cell", "free", "many", "most", "sizes", "strengths"] (spWay K A TL) := by
  refine F.ok sc__law_way (fun vs H Q E h => ?_) (fun cdv A1 outer s H vs Q E hr h => ?_)
  · obtain ⟨la, sa, c, fr, m, wd, ls, ss, rfl, _⟩ := h
    rfl
  · obtain ⟨la, sa, c, fr, m, wd, ls, ss, rfl, hl, hs, ok, n9, m0, m9, mw, w9, hT, q⟩ := h
    have n0 := ok.n0
    have el := ok.len
    refine ⟨_, (pss_cons (ps_set (i := 6) sc__law_way.nd rfl (Or.inl rfl) (pe_callD D__law_draws (hr.mono (by decide)) pass0 (pa_cons (pv 0) (pa_cons (pe_op op_rep (pe_op op_cat (pe_lst (pa_cons pe_int pa_nil)) (pe_op op_rep (pe_lst (pa_cons pe_int pa_nil)) (pv 2))) pe_int) pa_nil))))
      (pss_cons (ps_set (i := 7) sc__law_way.nd rfl (Or.inl rfl) (pe_callD D__law_bound (hr.mono (by decide)) pass0 (pa_cons (pv 4) (pa_cons (pv 5) (pa_cons (pv 3) pa_nil)))))
      (pss_cons (ps_set (i := 8) sc__law_way.nd rfl (Or.inl rfl) (pe_callTy (call_listK K) (by rfl) T.m_list (by decide +kernel) (pa_cons (pv 5) pa_nil)))
      (pss_cons (ps_set (i := 9) sc__law_way.nd rfl (Or.inl rfl) (pe_makeD MK0_Beads (hr.mono (by decide)) pass0 (pa_cons (pe_callTy (call_listK K) (by rfl) T.m_list (by decide +kernel) (pa_cons (pv 5) pa_nil)) (pa_cons (pe_callTy (call_listK K) (by rfl) T.m_list (by decide +kernel) (pa_cons (pv 4) pa_nil)) pa_nil)) pk_nil))
      (pss_cons (ps_set (i := 10) sc__law_way.nd rfl (Or.inl rfl) (pe_callD D_tally_of (hr.mono (by decide)) pass0 (pa_cons (pv 9) pa_nil)))
      (pss_cons (ps_for (PassesOwn.never) rfl (pi_range1 rfl T.m_range (pa_cons pe_int pa_nil)) (pg_name (i := 11) sc__law_way.nd rfl (Or.inl rfl)) (pss_cons (ps_set (i := 12) sc__law_way.nd rfl (Or.inl rfl) (pe_callD D__law_picked (hr.mono (by decide)) pass0 (pa_cons (pe_slice (sl_listK K) (pv 6) (po_some (pe_op op_mul (pv 11) (pe_op op_add (pv 2) pe_int))) (po_some (pe_op op_mul (pe_op op_add (pv 11) pe_int) (pe_op op_add (pv 2) pe_int)))) (pa_cons (pv 1) (pa_cons (pv 4) (pa_cons (pv 8) pa_nil))))))
      (pss_cons (ps_if (pt_cmpR (op_eqDK K hr.units) (pv 12) (pe_lst pa_nil) (nomark _)) (pss_one ps_break) pss_nil)
      (pss_cons (ps_set (i := 13) sc__law_way.nd rfl (Or.inl rfl) (pe_callD D__law_woken (hr.mono (by decide)) pass0 (pa_cons (pv 4) (pa_cons (pv 8) (pa_cons (pv 12) pa_nil)))))
      (pss_cons (ps_set (i := 9) sc__law_way.nd rfl (Or.inl rfl) (pe_callD D_wake (hr.mono (by decide)) passN (pa_cons (pv 9) (pa_cons (pe_callTy (call_listK K) (by rfl) T.m_list (by decide +kernel) (pa_cons (pv 12) pa_nil)) pa_nil))))
      (pss_cons (ps_if (PW.pt (pw_or (pt_cmpR op_lt (pe_callB (cr_maxK K rfl) (by rfl) T.m_max (by decide +kernel) (pa_cons (pv 13) pa_nil)) (pv 7) (nomark _)) (pw_or1 (pt_not (pt_val (pe_callD D__law_is_standing (hr.mono (by decide)) pass0 (pa_cons (pv 9) (pa_cons pe_bl (pa_cons (pv 4) (pa_cons (pv 13) pa_nil)))))))))) (pss_one (ps_ret (pe_lst pa_nil))) pss_nil)
      (pss_cons (ps_set (i := 14) sc__law_way.nd rfl (Or.inl rfl) (pe_callD D_tally_of (hr.mono (by decide)) pass0 (pa_cons (pv 9) pa_nil)))
      (pss_cons (ps_set (i := 15) sc__law_way.nd rfl (Or.inl rfl) (pe_callD D_compare_tallies (hr.mono (by decide)) pass0 (pa_cons (pv 10) (pa_cons (pv 14) pa_nil))))
      (pss_cons (ps_if (PW.pt (pw_or (pt_not (pt_val (pe_callD D__law_is_integer (hr.mono (by decide)) pass0 (pa_cons (pv 15) pa_nil)))) (pw_or1 (pt_cmpR op_ne (pv 15) (pe_op op_sub pe_int (pe_callTy call_int1 (by rfl) T.m_int (by decide +kernel) (pa_cons (pe_cmpR (op_neDK K hr.units) (pv 13) (pv 8) (nomark _)) pa_nil))) (nomark _))))) (pss_one (ps_ret (pe_lst pa_nil))) pss_nil)
      (pss_cons (ps_if (pt_not (pt_val (pe_callD D__law_bound_told (hr.mono (by decide)) pass0 (pa_cons (pv 9) (pa_cons (pv 4) (pa_cons (pv 13) (pa_cons (pv 3) pa_nil))))))) (pss_one (ps_ret (pe_lst pa_nil))) pss_nil)
      (pss_cons (ps_set (i := 8) sc__law_way.nd rfl (Or.inl rfl) (pv 13))
      (pss_one (ps_set (i := 10) sc__law_way.nd rfl (Or.inl rfl) (pv 14))))))))))))))
      (pss_one (ps_ret (pv 8))))))))), ?_⟩
    walk_at "rd"
    refine newL fun a1 H1 na1 S1 h1 => ?_
    walk_at "rd"
    refine newL fun a2 H2 na2 S2 h2 => ?_
    walk_at "rd"
    refine g_rep1 h2 (by omega) fun a3 H3 na3 S3 h3 => ?_
    walk_at "rd"
    refine g_cat (xs := [2]) (zs := List.replicate m 5040) (S3 _ _ (S2 _ _ h1)) h3 (by rw [List.length_replicate]; show 1 + m ≤ 100000; omega) fun a4 H4 na4 S4 h4 => ?_
    walk_at "rd"
    refine g_repL (xs := [2] ++ List.replicate m 5040) (k := 40) h4 (by rw [List.length_append, List.length_replicate]; show (1 + m) * 40 ≤ 100000; omega) (by omega) fun a5 H5 na5 S5 h5 => ?_
    walk_at "rd"
    have e1 : ([2] ++ List.replicate m (5040 : Int)).length = m + 1 := by rw [List.length_append, List.length_replicate]; show 1 + m = _; omega
    have fl := flat_len (k := 40) e1
    refine ⟨a5, c, (List.replicate 40 ([2] ++ List.replicate m (5040 : Int))).flatten, rfl, SqL.of h5, by omega, fun i hi => ?_, fun da H6 ds nda S6 hda dr => ?_⟩
    · have := flat_mem (getD_mem hi)
      rcases List.mem_append.mp this with z | z
      · rw [List.mem_singleton.mp z]; decide
      · rw [(List.mem_replicate.mp z).2]; decide
    have dl : ds.length = 40 * (m + 1) := by rw [dr.len, fl]
    have S06 := S1.trans (S2.trans (S3.trans (S4.trans (S5.trans S6))))
    have hl6 := S06 _ _ hl
    have hs6 := S06 _ _ hs
    clear dr h1 h2 h3 h4 h5 S1 S2 S3 S4 S5 S6
    walk_at "rd"
    refine ⟨la, sa, ls, ss, wd, rfl, SqL.of hl6, SqL.of hs6, n0, by omega, w9, ?_⟩
    walk_at "rd"
    refine g_lo (.inl (SqL.of hs6)) fun na H7 nna S7 hna => ?_
    walk_at "rd"
    refine g_lo (.inl (SqL.of (S7 _ _ hs6))) fun g1 H8 ng1 S8 hg1 => ?_
    walk_at "rd"
    refine g_lo (.inl (SqL.of (S8 _ _ (S7 _ _ hl6)))) fun g2 H9 ng2 S9 hg2 => ?_
    walk_at "rd"
    refine mk_newL0 (S9 _ _ hg1) hg2 ok fun b ts tl H10 nb S10 B => ?_
    walk_at "rd"
    refine ⟨b, ts, tl, true, ss, ls, rfl, B, ok, by omega, fun pa xs H11 npa S11 hpa hP => ?_⟩
    have S711 := S8.trans (S9.trans (S10.trans S11))
    have S611 := S7.trans S711
    have hna11 := S711 _ _ hna
    have nna0 := S06.free nna
    have hl11 := S611 _ _ hl6
    have hda11 := S611 _ _ hda
    have B11 := B.mono S11
    have S011 := S06.trans S611
    have T11 := hT.ext S011
    have P11 : PrA (fun _ => True) H11 xs (tlyL ss (rnd true ls ss)) := hP.weak fun _ _ => trivial
    clear S711 S7 S8 S9 S10 S11 hna B hg1 hg2 hP hs6 hl6 hda S06
    walk_at "rd"
    refine ⟨40, rfl, by decide, by decide, ?_⟩
    refine for_range (lo := 0) (fun i σ H' => ∃ (na b ts tl pa : Addr) (es : List Int) (xs : List V) (v11 v12 v13 v14 v15 : Option V), σ = [some (.int c), some (.bl fr), some (.int (m : Int)), some (.int (wd : Int)), some (.ref la), some (.ref sa), some (.ref da), some (.int (bndI ls ss wd)), some (.ref na), some (.ref b), some (.ref pa), v11, v12, v13, v14, v15] ∧ SameT H11 H' ∧ Tabs TL H' ∧ H na = none ∧ H' na = some (.lst (es.map V.int)) ∧ BAt A.Beads H' b ts tl true es ls ∧ StOk es ls ∧ es.length = ss.length ∧ bndI ls ss wd ≤ maxI es ∧ H' pa = some (.lst xs) ∧ PrA (fun _ => True) H' xs (tlyL es (rnd true ls es)))
      ⟨na, b, ts, tl, pa, ss, xs, none, none, none, none, none, rfl, SameT.refl _, T11, nna0, hna11, B11, ok, rfl, Int.min_le_left _ _, hpa, P11⟩ ?_ ?_
    · clear B11 P11 hpa hna11 nna0 npa nb nna T11
      clear na b ts tl pa xs
      rintro i σ H1 hi ⟨na, b, ts, tl, pa, es, xs, v11, v12, v13, v14, v15, rfl, S1, T1, nna, hna, B, oke, ele, bnd, hpa, hP⟩
      have hi' : i < 40 := hi
      have hl1 := S1.lst hl11
      have hda1 := S1.lst hda11
      rw [Int.zero_add]
      walk_at "rd"
      refine g_I (.inl ⟨by omega, by omega⟩) ?_
      walk_at "rd"
      refine g_I (.inl ⟨by omega, by omega⟩) ?_
      have dn : (i + 1) * (m + 1) ≤ 40 * (m + 1) := Nat.mul_le_mul_right _ hi'
      have dd : (i + 1) * (m + 1) = i * (m + 1) + (m + 1) := by rw [Nat.add_mul, Nat.one_mul]
      rw [show (i : Int) * ((m : Int) + 1) = ((i * (m + 1) : Nat) : Int) by rw [Int.natCast_mul]; rfl, show ((i : Int) + 1) * ((m : Int) + 1) = (((i + 1) * (m + 1) : Nat) : Int) by rw [Int.natCast_mul]; rfl]
      refine ⟨_, rfl, ?_⟩
      refine g_cut (SqL.of hda1) fun ca H2 nca S2 hca => ?_
      rw [cut_lh (by rw [List.length_map]; omega) (by rw [List.length_map]; omega), ← List.map_drop, ← List.map_take] at hca
      have cl : ((ds.drop (i * (m + 1))).take ((i + 1) * (m + 1) - i * (m + 1))).length = m + 1 := by rw [List.length_take, List.length_drop]; omega
      generalize (ds.drop (i * (m + 1))).take ((i + 1) * (m + 1) - i * (m + 1)) = cs at hca cl
      walk_at "rd"
      have S12 := S1.trans (SameT.of S2)
      have hna2 := S2 _ _ hna
      have hl2 := S2 _ _ hl1
      have eln := oke.len
      refine ⟨ca, la, na, fr, cs, ls, es, m, rfl, SqL.of hca, cl, by omega, SqL.of hl2, SqL.of hna2, eln, by omega, by omega, fun ka ps H3 nka S3 hka pb pl => ?_⟩
      rw [nI_eq] at hka
      have hna3 := S3 _ _ hna2
      have hl3 := S3 _ _ hl2
      have S23 := S2.trans S3
      have S13 := S1.trans (SameT.of S23)
      have T3 := T1.ext S23
      have B3 := B.mono S23
      have hpa3 := S23 _ _ hpa
      have P3 := hP.mono S23
      clear S12 hca hna2 hl2 S23 hpa hP B hna hl1 T1
      walk_at "rd"
      refine newL fun e0 H4 ne0 S4 he0 => ?_
      refine g_eqL (xs := iI ps) (ys := []) (SqL.of (S4 _ _ hka)) (SqL.of he0) ?_
      walk_at "rd"
      refine g_ite (fun e => ?_) (fun e => ?_)
      · walk_at "rd"
        exact q na es H4 nna ((SameT.of S011).trans (S13.trans (SameT.of S4))) (T3.ext S4) (S4 _ _ hna3) oke ele bnd
      walk_at "rd"
      refine ⟨la, na, ka, ls, es, ps, rfl, SqL.of (S4 _ _ hl3), SqL.of (S4 _ _ hna3), SqL.of (by rw [nI_eq]; exact S4 _ _ hka), oke, pb, fun ea H5 nea S5 hea => ?_⟩
      have okf := StOk.wok (r := true) oke pb
      have elf : (wok true es ls ps).length = es.length := wok_len ps
      have ewk : wok true es ls ps = wkS true es ls (iI ps) := wok_wkS pb fun k => mem_iI
      have W := Wak.of (r := true) oke pb
      have bndf : bndI ls ss wd ≤ maxI (wok true es ls ps) := bnd_keep eln oke.l1 oke.n0 elf okf.s0 (by omega) (Nat.le_trans pl mw) (fun k hk => wok_at ps pb) bnd (Int.min_le_right _ _)
      generalize wok true es ls ps = fs at hea okf elf ewk W bndf
      walk_at "rd"
      have S35 := S4.trans S5
      refine g_lo (.inl (SqL.of (S35 _ _ hka))) fun pl2 H6 npl S6 hpl => ?_
      walk_at "rd"
      have S36 := S35.trans S6
      refine ⟨b, ts, tl, pl2, true, es, ls, false, iI ps, rfl, B3.mono S36, oke, SqL.of hpl, by rw [iI_len]; omega, T3.ext S36, fun z nb ts' H7 nnb S7 T7 B7 => ?_, fun qq hq => ?_⟩
      rotate_left
      · rw [badQ_iI pb] at hq
        cases hq
      rw [← ewk] at B7
      have U37 := (SameT.of S36).trans S7
      have hea7 := S7.lst (S6 _ _ hea)
      have hna7 := U37.lst hna3
      have hl7 := U37.lst hl3
      have hpa7 := U37.lst hpa3
      have P7 := P3.monoT U37
      have U17 := S13.trans U37
      have U07 := (SameT.of S011).trans U17
      have nea0 : H ea = none := (SameT.of S011).free (S13.free (S4.free nea))
      clear U37 S7 S36 S6 S35 S5 S4 hpl hea P3 hpa3 hl3 hna3 B3 T3 S13 he0 hka nea
      refine g_name ?_
      dsimp only
      refine g_seq ?_
      refine g_st ([some (.int c), some (.bl fr), some (.int (m : Int)), some (.int (wd : Int)), some (.ref la), some (.ref sa), some (.ref da), some (.int (bndI ls ss wd)), some (.ref na), some (.ref nb), some (.ref pa), some (.int (i : Int)), some (.ref ka), some (.ref ea), v14, v15]) rfl ?_
      walk_at "rd"
      refine ⟨ea, fs, rfl, SqL.of hea7, okf.n0, fun mf hmf hxf => ?_⟩
      walk_at "rd"
      have emf := maxI_eq hmf hxf
      rw [decide_eq_false (show ¬ mf < bndI ls ss wd by omega)]
      walk_at "rd"
      refine ⟨nb, ts', tl, la, ea, true, fs, ls, rfl, B7, SqL.of hl7, SqL.of hea7, by omega, by omega, ?_⟩
      walk_at "rd"
      refine ⟨nb, ts', tl, true, fs, ls, rfl, B7, okf, by omega, fun qa ys H8 nqa S8 hqa hQ => ?_⟩
      have Q8 : PrA (fun _ => True) H8 ys (tlyL fs (rnd true ls fs)) := hQ.weak fun _ _ => trivial
      have k1 : (tlyL es (rnd true ls es)).length ≤ es.length := tlyP_len _
      have k2 : (tlyL fs (rnd true ls fs)).length ≤ fs.length := tlyP_len _
      walk_at "rd"
      refine ⟨pa, qa, xs, ys, _, _, rfl, S8 _ _ hpa7, hqa, P7.mono S8, Q8, tlyL_asc, tlyL_asc, by omega, by omega, fun sg H9 S9 hsg => ?_⟩
      have esg := cmp_wok W hsg
      walk_at "rd"
      refine ⟨sg, rfl, ?_⟩
      walk_at "rd"
      have S79 := S8.trans S9
      refine g_neL (xs := fs) (ys := es) (SqL.of (S79 _ _ hea7)) (SqL.of (S79 _ _ hna7)) ?_
      walk_at "rd"
      refine .inr ⟨_, rfl, ?_⟩
      walk_at "rd"
      rw [decide_eq_true esg]
      walk_at "rd"
      refine ⟨nb, ts', tl, la, ea, fs, ls, wd, rfl, B7.mono S79, okf, by omega, w9, SqL.of (S79 _ _ hl7), SqL.of (S79 _ _ hea7), ?_⟩
      walk_at "rd"
      exact ⟨ea, nb, ts', tl, qa, fs, ys, _, _, _, _, _, rfl, U17.trans (SameT.of S79), T7.ext S79, nea0, S79 _ _ hea7, B7.mono S79, okf, by omega, bndf, S9 _ _ hqa, Q8.mono S9⟩
    · rintro σ H1 ⟨na, b, ts, tl, pa, es, xs, v11, v12, v13, v14, v15, rfl, S1, T1, nna, hna, B, oke, ele, bnd, hpa, hP⟩
      walk_at "rd"
      exact q na es H1 nna ((SameT.of S011).trans S1) T1 hna oke ele bnd
/-! ### the last looks -/
theorem look_ex {n i k : Nat} (hk : k < n) (hi : n ≤ i + 1) : ∃ t, t < i + 1 ∧ i + 1 ≤ t + n ∧ t % n = k := by
  have e := Nat.div_add_mod i n
  have r := Nat.mod_lt i (show 0 < n by omega)
  generalize i / n = qq at e
  generalize i % n = rr at e r
  rcases Nat.lt_or_ge rr k with z | z
  · cases qq with
    | zero => rw [Nat.mul_zero] at e; omega
    | succ qq =>
      have e2 : n * (qq + 1) = n * qq + n := Nat.mul_succ n qq
      refine ⟨n * qq + k, by omega, by omega, ?_⟩
      rw [Nat.mul_add_mod, Nat.mod_eq_of_lt hk]
  · refine ⟨n * qq + k, by omega, by omega, ?_⟩
    rw [Nat.mul_add_mod, Nat.mod_eq_of_lt hk]
theorem set_same {es : List Int} {p : Nat} (hp : p < es.length) : es.set p (es.getD p 0) = es := by
  refine ext_getD (by rw [List.length_set]) fun k hk => ?_
  rw [getD_set hp]
  split
  · next c => rw [c]
  · rfl
/-! ### _law_rested -/
def spRsd (K : PySem.W.Frag) : Sp := fun vs H Q _ => ∃ (la sa : Addr) (ls ss : List Int) (b : Int), vs = [.ref la, .ref sa] ∧ H la = some (.lst (ls.map V.int)) ∧ H sa = some (.lst (ss.map V.int)) ∧ StOk ss ls ∧ ss.length ≤ 9 ∧ b ≤ maxI ss ∧ b ≤ ls.sum ∧
  ∀ (t ea : Addr) (lo : Int) (es : List Int) (H' : Hp), H t = none → Same H H' → H' t = some (.lst [.int lo, .ref ea]) → b ≤ lo → H' ea = some (.lst (es.map V.int)) → (es ≠ [] → StOk es ls ∧ es.length = ss.length ∧ b ≤ maxI es ∧ ∀ k, k < es.length → rch true es ls k = es.getD k 0) → Q (.ref t) H'
theorem ok_rsd (F : Fun K "_law_rested" "_law_rested" s__law_rested f fd) (T : Txt K mg A) (D__law_reach : DefOk P w K mg base CX0 1 "_law_reach" ["sizes", "strengths", "place"] (spReachR K)) : FnOk P w K mg base CX0 2 f fd ["sizes", "strengths"] (spRsd K) := by
  refine F.ok sc__law_rested (fun vs H Q E h => ?_) (fun cdv A1 outer s H vs Q E hr h => ?_)
  · obtain ⟨la, sa, ls, ss, b, rfl, _⟩ := h
    rfl
  · obtain ⟨la, sa, ls, ss, b, rfl, hl, hs, ok, n9, b1, b2, q⟩ := h
    have n0 := ok.n0
    have el := ok.len
    refine ⟨_, (pss_cons (ps_set (i := 2) sc__law_rested.nd rfl (Or.inl rfl) (pe_callTy (call_listK K) (by rfl) T.m_list (by decide +kernel) (pa_cons (pv 1) pa_nil)))
      (pss_cons (ps_set (i := 3) sc__law_rested.nd rfl (Or.inl rfl) (pe_callB (cr_maxK K rfl) (by rfl) T.m_max (by decide +kernel) (pa_cons (pv 2) pa_nil)))
      (pss_cons (ps_set (i := 4) sc__law_rested.nd rfl (Or.inl rfl) pe_int)
      (pss_cons (ps_for (PassesOwn.never) rfl (pi_range1 rfl T.m_range (pa_cons pe_int pa_nil)) (pg_name (i := 5) sc__law_rested.nd rfl (Or.inl rfl)) (pss_cons (ps_set (i := 6) sc__law_rested.nd rfl (Or.inl rfl) (pe_op op_mod (pe_callTy call_int1 (by rfl) T.m_int (by decide +kernel) (pa_cons (pv 5) pa_nil)) (pe_callB (call_lenK K) (by rfl) T.m_len PySem.boot_len (pa_cons (pv 0) pa_nil))))
      (pss_cons (ps_set (i := 7) sc__law_rested.nd rfl (Or.inl rfl) (pe_callD D__law_reach (hr.mono (by decide)) pass0 (pa_cons (pv 0) (pa_cons (pv 2) (pa_cons (pv 6) pa_nil)))))
      (pss_cons (ps_set (i := 4) sc__law_rested.nd rfl (Or.inl rfl) (pe_op op_add (pv 4) pe_int))
      (pss_cons (ps_if (pt_cmpR op_ne (pv 7) (pe_ix (ix_listK K) (pv 2) (pv 6) (fun _ _ => rfl)) (nomark _)) (pss_one (ps_set (i := 4) sc__law_rested.nd rfl (Or.inl rfl) pe_int)) pss_nil)
      (pss_cons (ps_asg (pv 7) (pg_sub (pv 2) (pv 6) set_list))
      (pss_cons (ps_set (i := 3) sc__law_rested.nd rfl (Or.inl rfl) (pe_callB (cr_min2 rfl) (by rfl) T.m_min (by decide +kernel) (pa_cons (pv 3) (pa_cons (pe_callB (cr_maxK K rfl) (by rfl) T.m_max (by decide +kernel) (pa_cons (pv 2) pa_nil)) pa_nil))))
      (pss_one (ps_if (pt_cmpR op_eq (pv 4) (pe_callB (call_lenK K) (by rfl) T.m_len PySem.boot_len (pa_cons (pv 0) pa_nil)) (nomark _)) (pss_one (ps_ret (pe_lst (pa_cons (pv 3) (pa_cons (pv 2) pa_nil))))) pss_nil)))))))))
      (pss_one (ps_ret (pe_lst (pa_cons (pv 3) (pa_cons (pe_lst pa_nil) pa_nil))))))))), ?_⟩
    walk_at "rd"
    refine g_lo (.inl (SqL.of hs)) fun na H1 nna S1 hna => ?_
    walk_at "rd"
    refine ⟨na, ss, rfl, SqL.of hna, n0, fun mx hmx hxx => ?_⟩
    walk_at "rd"
    have emx := maxI_eq hmx hxx
    refine ⟨400, rfl, by decide, by decide, ?_⟩
    refine for_range (lo := 0) (fun i σ H' => ∃ (es : List Int) (lo : Int) (j : Nat) (v5 v6 v7 : Option V), σ = [some (.ref la), some (.ref sa), some (.ref na), some (.int lo), some (.int (j : Int)), v5, v6, v7] ∧ Same H H' ∧ H' na = some (.lst (es.map V.int)) ∧ StOk es ls ∧ es.length = ss.length ∧ b ≤ maxI es ∧ b ≤ lo ∧ j ≤ i ∧ j < ss.length ∧ ∀ t, t < i → i ≤ t + j → rch true es ls (t % ss.length) = es.getD (t % ss.length) 0)
      ⟨ss, mx, 0, none, none, none, rfl, S1, hna, ok, rfl, b1, by omega, Nat.le_refl _, n0, fun t h1 h2 => by omega⟩ ?_ ?_
    · rintro i σ H2 hi ⟨es, lo, j, v5, v6, v7, rfl, S2, hna2, oke, ele, be, blo, ji, jn, hst⟩
      have hi' : i < 400 := hi
      rw [Int.zero_add]
      walk_at "rd"
      refine ⟨la, _, rfl, .inl (SqL.of (S2 _ _ hl)), ?_⟩
      rw [List.length_map, el]
      refine g_I (by omega) ?_
      have hp : i % ss.length < ss.length := Nat.mod_lt _ n0
      rw [show (i : Int) % (ss.length : Int) = ((i % ss.length : Nat) : Int) from rfl]
      obtain ⟨p, ep⟩ : ∃ p, p = i % ss.length := ⟨_, rfl⟩
      rw [← ep] at hp ⊢
      walk_at "rd"
      refine ⟨la, na, ls, es, p, rfl, SqL.of (S2 _ _ hl), SqL.of hna2, by omega, by omega, by omega, ?_⟩
      refine g_name ?_
      dsimp only
      refine g_seq ?_
      refine g_join (fun σ' H' => σ' = [some (.ref la), some (.ref sa), some (.ref na), some (.int lo), some (.int ((j : Int) + 1)), some (.int (i : Int)), some (.int (p : Int)), some (.int (rch true es ls p))] ∧ H2 = H') ?_ ?_
      · intro D' hD'
        walk_at "rd"
        exact hD' _ _ ⟨rfl, rfl⟩
      rintro σ' HX ⟨rfl, eX⟩
      cases eX
      dsimp only
      refine g_seq ?_
      refine g_join (fun σ' H' => σ' = [some (.ref la), some (.ref sa), some (.ref na), some (.int lo), some (.int ((if rch true es ls p = es.getD p 0 then j + 1 else 0 : Nat) : Int)), some (.int (i : Int)), some (.int (p : Int)), some (.int (rch true es ls p))] ∧ H2 = H') ?_ ?_
      · intro D' hD'
        walk_at "rd"
        refine g_ixL (SqL.of hna2) (at_int (by omega)) ?_
        walk_at "rd"
        refine g_ite (fun e => ?_) (fun e => ?_)
        · have ne : ¬ rch true es ls p = es.getD p 0 := by simpa using e
          walk_at "rd"
          exact hD' _ _ ⟨by rw [if_neg ne]; rfl, rfl⟩
        · have eq : rch true es ls p = es.getD p 0 := by simpa using e
          exact hD' _ _ ⟨by rw [if_pos eq]; rfl, rfl⟩
      rintro σ' HX ⟨rfl, eX⟩
      cases eX
      dsimp only
      walk_at "rd"
      refine g_set hna2 (by omega) ?_
      have S2' := S2.mut (o := .lst ((es.set p (rch true es ls p)).map V.int)) nna
      have hnaf : (upd H2 na (.lst ((es.set p (rch true es ls p)).map V.int))) na = some (.lst ((es.set p (rch true es ls p)).map V.int)) := upd_same
      generalize upd H2 na (.lst ((es.set p (rch true es ls p)).map V.int)) = H3 at S2' hnaf
      have hps : ∀ x ∈ [p], x < es.length := fun x hx => by rw [List.mem_singleton.mp hx]; omega
      have ew : es.set p (rch true es ls p) = wok true es ls [p] := rfl
      have okf := StOk.wok (r := true) oke hps
      have elf : (wok true es ls [p]).length = es.length := wok_len [p]
      have bf := bnd_keep (w := 1) (W := [p]) oke.len oke.l1 oke.n0 elf okf.s0 (by decide) (Nat.le_refl 1) (fun k hk => wok_at [p] hps) be (by
        rw [show ls.sum + ((1 : Nat) : Int) - 1 = ls.sum by omega, show ((1 : Nat) : Int) = 1 from rfl, Int.ediv_one]; exact b2)
      rw [← ew] at okf elf bf
      have nst : ∀ t, t < i + 1 → i + 1 ≤ t + (if rch true es ls p = es.getD p 0 then j + 1 else 0) → rch true (es.set p (rch true es ls p)) ls (t % ss.length) = (es.set p (rch true es ls p)).getD (t % ss.length) 0 := fun t h1 h2 => by
        by_cases z : rch true es ls p = es.getD p 0
        · rw [if_pos z] at h2
          rw [z, set_same (by omega)]
          rcases Nat.lt_or_ge t i with y | y
          · exact hst t y (by omega)
          · rw [show t = i by omega, ← ep]; exact z
        · rw [if_neg z] at h2; omega
      have jj : (if rch true es ls p = es.getD p 0 then j + 1 else 0) ≤ i + 1 := by split <;> omega
      have jn' : (if rch true es ls p = es.getD p 0 then j + 1 else 0) ≤ ss.length := by split <;> omega
      generalize (if rch true es ls p = es.getD p 0 then j + 1 else 0) = j' at nst jj jn'
      generalize es.set p (rch true es ls p) = fs at hnaf okf elf bf nst
      walk_at "rd"
      refine ⟨na, fs, rfl, SqL.of hnaf, by omega, fun mf hmf hxf => ?_⟩
      have emf := maxI_eq hmf hxf
      walk_at "rd"
      refine ⟨la, _, rfl, .inl (SqL.of (S2' _ _ hl)), ?_⟩
      rw [List.length_map, el]
      walk_at "rd"
      refine g_ite (fun e => ?_) (fun e => ?_)
      · have ej : j' = ss.length := by have := of_decide_eq_true e; omega
        walk_at "rd"
        refine newL fun t H4 nt S4 ht => ?_
        refine q t na _ fs H4 (S2'.free nt) (S2'.trans S4) ht (by omega) (S4 _ _ hnaf) fun _ => ⟨okf, by omega, bf, fun k hk => ?_⟩
        obtain ⟨t, t1, t2, t3⟩ := look_ex (n := ss.length) (i := i) (k := k) (by omega) (by omega)
        have := nst t t1 (by omega)
        rw [t3] at this
        exact this
      · have ej : j' ≠ ss.length := by have := of_decide_eq_false e; omega
        exact ⟨fs, _, j', _, _, _, rfl, S2', hnaf, okf, by omega, bf, by omega, jj, by omega, nst⟩
    · rintro σ H2 ⟨es, lo, j, v5, v6, v7, rfl, S2, hna2, oke, ele, be, blo, ji, jn, hst⟩
      walk_at "rd"
      refine newL fun ea H3 nea S3 hea => ?_
      walk_at "rd"
      refine newL fun t H4 nt S4 ht => ?_
      have S03 := S2.trans S3
      exact q t ea lo [] H4 (S03.free nt) (S03.trans S4) ht blo (S4 _ _ hea) fun z => absurd rfl z
/-! ### -/
end
end Rt
set_option Elab.async false
set_option linter.all false
set_option maxRecDepth 100000
set_option maxHeartbeats 4000000
namespace Rt
open PySem PySem.Spec L2
open PyProof.Rows (envOfC)
open LamX (CodeO TabS Tabs TabB)
local macro_rules | `(tactic| walk_at "rd1") => `(tactic| (with_reducible first
  | refine g_var (by with_unfolding_all rfl) ?_
  | refine g_c ?_
  | refine g_op ?_
  | refine g_I0 ?_
  | refine g_eqI ?_
  | refine g_neI ?_
  | refine g_eqB ?_
  | refine g_neB ?_
  | refine g_cons ?_
  | refine g_nil ?_
  | refine g_seq ?_
  | refine g_asg ?_
  | refine g_name ?_
  | refine g_ret ?_
  | refine g_retN ?_
  | refine g_drop ?_
  | refine g_next ?_
  | refine g_if ?_
  | refine g_test ?_
  | refine g_tB ?_
  | refine g_bl ?_
  | refine g_and ?_
  | refine g_or ?_
  | refine g_not ?_
  | refine g_andV ?_
  | refine g_orV ?_
  | refine g_notV ?_
  | refine g_ifE ?_
  | refine g_cb ?_
  | refine g_meth ?_
  | refine g_rev ?_
  | refine g_gcons ?_
  | refine g_gnil ?_
  | refine g_isB' ?_
  | refine g_gsub ?_
  | refine g_call ?_
  | refine g_callS ?_
  | refine g_bm ?_
  | refine g_un ?_
  | refine g_U ?_
  | refine g_chain ?_
  | refine g_sl ?_
  | refine g_brk ?_
  | refine g_ct ?_
  | refine g_ipI ?_
  | refine g_fld ?_
  | refine g_lst ?_
  | refine g_int ?_
  | refine g_for ?_
  | refine g_rg1 ?_
  | refine g_rg2 ?_
  | refine g_il ?_
  | refine g_it ?_
  | refine g_lc ?_
  | refine g_yes ?_
  | refine g_tup ?_
  | refine g_part ?_
  | refine g_xf ?_
  | refine g_nn ?_
  | refine g_mko ?_
  | refine g_lrg ?_
  | refine g_tr1 ?_
  | refine g_tr2 ?_
  | refine g_oi2 ?_
  | refine g_mk ?_
  | refine g_sfld ?_
  | refine g_ost ?_
  | refine g_oi ?_
  | refine g_nopart ?_
  | refine g_tt ?_
  | refine g_ff ?_
  | refine g_nt ?_
  | refine g_nf ?_
  | refine g_drn ?_
  | refine g_din ?_
  | refine g_dnn ?_
  | refine g_nrn ?_
  | refine g_nin ?_
  | refine g_nnn ?_))
local macro_rules | `(tactic| walk_at "rd") => `(tactic| (repeat walk_at "rd1"))

local macro_rules | `(tactic| walk_at "rd1") => `(tactic| (with_reducible first
  | refine g_max2 ?_
  | refine g_min2 ?_
  | refine g_neS ?_
  | refine g_eqS ?_
  | refine g_notB ?_
  | refine g_callN ?_
  | refine g_xfG ?_))
section
variable {P : Program} {w : World} {K : PySem.W.Frag} {mg : Str → Option Value} {base : Heap} {f : Addr} {fd : FuncData} {A : Ad} {TL : List (Addr × Str)}
/-! ### _law_rest_told -/
theorem rs_nil {ss ls : List Int} (h : ∀ k, k < ss.length → rch true ss ls k = ss.getD k 0) : rsN true ss ls ss.length = [] := by
  unfold rsN
  rw [List.filter_eq_nil_iff]
  intro k hk
  simp [h k (List.mem_range.mp hk)]
def spRstT (K : PySem.W.Frag) : Sp := fun vs H Q _ => ∃ (la sa : Addr) (ls ss : List Int) (b : Int), vs = [.ref la, .ref sa, .int b] ∧ H la = some (.lst (ls.map V.int)) ∧ H sa = some (.lst (ss.map V.int)) ∧ StOk ss ls ∧ ss.length ≤ 9 ∧ b ≤ maxI ss ∧ (∀ k, k < ss.length → rch true ss ls k = ss.getD k 0) ∧ ∀ H', Same H H' → Q (.bl true) H'
theorem ok_rstT (F : Fun K "_law_rest_told" "_law_rest_told" s__law_rest_told f fd) (T : Txt K mg A) (MK0_Beads : CtorD P w K mg base CX0 2 "Beads" A.Beads 2 [] gBeads0 (spNew K A)) (D__law_strongest : DefOk P w K mg base CX0 1 "_law_strongest" ["strengths"] (spStrg K)) (D__law_resting : DefOk P w K mg base CX0 11 "_law_resting" ["beads"] (spRestg A)) (D__law_numbers : DefOk P w K mg base CX0 2 "_law_numbers" ["actual", "due", "as_tuple"] (Rt.spNumbers K))
    (D_arc_length : DefOk P w K mg base (L2N.CX P w) 5 "arc_length" ["beads", "cut"] (spLenX K A)) (D__law_is_integer : DefOk P w K mg base CX0 1 "_law_is_integer" ["actual"] Rt.spInt) (D__law_heads : DefOk P w K mg base CX0 1 "_law_heads" ["sizes", "first", "arc"] (spHeads K)) : FnOk P w K mg base CX0 12 f fd ["sizes", "strengths", "bound"] (spRstT K) := by
  refine F.ok sc__law_rest_told (fun vs H Q E h => ?_) (fun cdv A1 outer s H vs Q E hr h => ?_)
  · obtain ⟨la, sa, ls, ss, b, rfl, _⟩ := h
    rfl
  · obtain ⟨la, sa, ls, ss, b, rfl, hl, hs, ok, n9, hb, hst, q⟩ := h
    have n0 := ok.n0
    have el := ok.len
    refine ⟨_, (pss_cons (ps_set (i := 3) sc__law_rest_told.nd rfl (Or.inl rfl) (pe_makeD MK0_Beads (hr.mono (by decide)) pass0 (pa_cons (pe_callTy (call_listK K) (by rfl) T.m_list (by decide +kernel) (pa_cons (pv 1) pa_nil)) (pa_cons (pe_callTy (call_listK K) (by rfl) T.m_list (by decide +kernel) (pa_cons (pv 0) pa_nil)) pa_nil)) pk_nil))
      (pss_cons (ps_set (i := 4) sc__law_rest_told.nd rfl (Or.inl rfl) (pe_callD D__law_strongest (hr.mono (by decide)) pass0 (pa_cons (pv 1) pa_nil)))
      (pss_cons (ps_set (i := 5) sc__law_rest_told.nd rfl (Or.inl rfl) (pe_callD D__law_resting (hr.mono (by decide)) pass0 (pa_cons (pv 3) pa_nil)))
      (pss_cons (ps_if (PW.pt (pw_or (pt_cmpR op_ne (pe_ix (ix_tupK K) (pv 5) pe_int (fun _ _ => rfl)) pe_str (nomark _)) (pw_or1 (pt_not (pt_val (pe_callD D__law_numbers (hr.mono (by decide)) pass0 (pa_cons (pe_ix (ix_tupK K) (pv 5) pe_int (fun _ _ => rfl)) (pa_cons (pv 4) (pa_cons pe_bl pa_nil))))))))) (pss_one (ps_ret pe_bl)) pss_nil)
      (pss_cons (ps_set (i := 6) sc__law_rest_told.nd rfl (Or.inl rfl) (pe_callD D_arc_length (hr.mono (by decide)) passN (pa_cons (pv 3) (pa_cons (pe_ix (ix_tupK K) (pv 5) pe_int (fun _ _ => rfl)) pa_nil))))
      (pss_cons (ps_if (PW.pt (pw_or (pt_not (pt_val (pe_callD D__law_is_integer (hr.mono (by decide)) pass0 (pa_cons (pv 6) pa_nil)))) (pw_or (pt_cmpR op_ne (pv 6) (pe_callB (cr_maxK K rfl) (by rfl) T.m_max (by decide +kernel) (pa_cons (pv 1) pa_nil)) (nomark _)) (pw_or1 (pt_cmpR op_lt (pv 6) (pv 2) (nomark _)))))) (pss_one (ps_ret pe_bl)) pss_nil)
      (pss_one (ps_ret (pe_cmpR (op_eqDK K hr.units) (pe_callD D__law_heads (hr.mono (by decide)) pass0 (pa_cons (pv 0) (pa_cons (pe_ix (ix_listK K) (pv 4) pe_int (fun _ _ => rfl)) (pa_cons (pv 6) pa_nil)))) (pv 4) (nomark _)))))))))), ?_⟩
    walk_at "rd"
    refine g_lo (.inl (SqL.of hs)) fun g1 H1 ng1 S1 hg1 => ?_
    walk_at "rd"
    refine g_lo (.inl (SqL.of (S1 _ _ hl))) fun g2 H2 ng2 S2 hg2 => ?_
    walk_at "rd"
    refine mk_newL0 (S2 _ _ hg1) hg2 ok fun e ts tl H3 ne S3 B => ?_
    have S03 := S1.trans (S2.trans S3)
    walk_at "rd"
    refine ⟨sa, ss, rfl, SqL.of (S03 _ _ hs), n0, by omega, ?_⟩
    obtain ⟨hm, hx⟩ := maxI_is (ss := ss) (fun z => by rw [z] at n0; simp at n0)
    have em : maxI ss = maxI ss := rfl
    generalize maxI ss = m at hm hx hb em
    refine fun m' hm' hx' st H4 nst S4 hst4 => ?_
    obtain rfl : m' = m := Int.le_antisymm (hx m' hm') (hx' m hm)
    have asc := strN_asc hm
    have arc := arc_rest el hm hx (fun p hp => by
      obtain ⟨p1, p2⟩ := strN_mem.mp hp
      rw [hst p p1]; exact p2)
    have hdc := (hd_arc (ls := ls) (c := strN ss m') (a := m') (by rw [el]; exact asc) ok.l1).mpr arc
    walk_at "rd"
    refine ⟨e, ts, tl, true, ss, ls, rfl, B.mono S4, ok, (fun z => nomatch z), fun _ => ⟨fun _ t u H5 nt S5 ht hu => ?_, fun p ps z => by rw [rs_nil hst] at z; cases z⟩⟩
    rw [show headsN true ss = strN ss m' from heads_most hm hx, nI_eq] at hu
    rw [nI_eq] at hst4
    have hst5 := S5 _ _ hst4
    have S05 := S03.trans (S4.trans S5)
    have B5 := B.mono (S4.trans S5)
    have sl := strN_len (ss := ss) (m := m')
    walk_at "rd"
    refine g_ixT (SqT.of ht) (atI_nat (j := 0) (v := V.str "told") rfl) ?_
    walk_at "rd"
    rw [str_eq]
    walk_at "rd"
    refine g_ixT (SqT.of ht) (atI_nat (j := 1) (v := V.ref u) rfl) ?_
    walk_at "rd"
    refine ⟨u, st, true, iI (strN ss m'), iI (strN ss m'), rfl, hu, SqL.of hst5, by rw [iI_len]; omega, ?_⟩
    rw [decide_eq_true rfl]
    walk_at "rd"
    refine g_ixT (SqT.of ht) (atI_nat (j := 1) (v := V.ref u) rfl) ?_
    walk_at "rd"
    refine ⟨e, ts, tl, u, true, true, ss, ls, iI (strN ss m'), rfl, B5, ok, SqT.of hu, by rw [iI_len]; omega, (fun z => nomatch z), fun _ => ⟨fun a ea H6 S6 => ?_, fun z => by rw [arc] at z; cases z⟩⟩
    rw [arc] at ea
    obtain rfl := Option.some.inj ea
    have S06 := S05.trans S6
    walk_at "rd"
    refine ⟨_, rfl, ?_⟩
    walk_at "rd"
    refine ⟨sa, ss, rfl, SqL.of (S06 _ _ hs), n0, fun m2 hm2 hx2 => ?_⟩
    obtain rfl : m2 = m' := Int.le_antisymm (hx m2 hm2) (hx2 m' hm)
    walk_at "rd"
    rw [decide_eq_true rfl]
    walk_at "rd"
    rw [decide_eq_false (show ¬ m2 < b by omega)]
    walk_at "rd"
    have hst6 := S6 _ _ hst5
    refine g_ixL (SqL.of hst6) (at_int (o := 0) (by rw [iI_len]; exact asc.ne)) ?_
    rw [iI_getD]
    walk_at "rd"
    refine ⟨la, ls, _, m2, rfl, SqL.of (S06 _ _ hl), ok.l1, ?_, by omega, fun hh H7 nhh S7 hhh => ?_⟩
    · have := (strN_at (ss := ss) (m := m2) (k := 0) asc.ne).1
      omega
    rw [hdc, nI_eq] at hhh
    walk_at "rd"
    refine g_eqL (SqL.of hhh) (SqL.of (S7 _ _ hst6)) ?_
    rw [decide_eq_true rfl]
    exact q H7 (S06.trans S7)
/-! ### _law_start_told -/
theorem bnd1 {ls ss : List Int} : bndI ls ss ((1 : Nat) : Int) = min (maxI ss) ls.sum := by
  unfold bndI
  rw [show ls.sum + ((1 : Nat) : Int) - 1 = ls.sum by omega, show ((1 : Nat) : Int) = 1 from rfl, Int.ediv_one]
def spStartT (K : PySem.W.Frag) : Sp := fun vs H Q _ => ∃ (la sa : Addr) (ls ss : List Int), vs = [.ref la, .ref sa] ∧ H la = some (.lst (ls.map V.int)) ∧ H sa = some (.lst (ss.map V.int)) ∧ StOk ss ls ∧ ss.length ≤ 9 ∧ ∀ H', Same H H' → Q (.bl true) H'
theorem ok_startT (F : Fun K "_law_start_told" "_law_start_told" s__law_start_told f fd) (T : Txt K mg A) (MK0_Beads : CtorD P w K mg base CX0 2 "Beads" A.Beads 2 [] gBeads0 (spNew K A)) (DK_least_arc : DefN P w K mg base (L2N.CX P w) 4 "least_arc" 1 [] kwH0 (spLeast A)) (D__law_is_integer : DefOk P w K mg base CX0 1 "_law_is_integer" ["actual"] Rt.spInt) (D_tally_of : DefOk P w K mg base CX0 8 "tally_of" ["beads"] (spTlyOf A)) (D__law_restless : DefOk P w K mg base CX0 2 "_law_restless" ["sizes", "strengths"] (spRestR K)) (D__law_resting : DefOk P w K mg base CX0 11 "_law_resting" ["beads"] (spRestg A)) : FnOk P w K mg base CX0 12 f fd ["sizes", "strengths"] (spStartT K) := by
  refine F.ok sc__law_start_told (fun vs H Q E h => ?_) (fun cdv A1 outer s H vs Q E hr h => ?_)
  · obtain ⟨la, sa, ls, ss, rfl, _⟩ := h
    rfl
  · obtain ⟨la, sa, ls, ss, rfl, hl, hs, ok, n9, q⟩ := h
    have n0 := ok.n0
    have el := ok.len
    refine ⟨_, (pss_cons (ps_set (i := 2) sc__law_start_told.nd rfl (Or.inl rfl) (pe_makeD MK0_Beads (hr.mono (by decide)) pass0 (pa_cons (pe_callTy (call_listK K) (by rfl) T.m_list (by decide +kernel) (pa_cons (pv 1) pa_nil)) (pa_cons (pe_callTy (call_listK K) (by rfl) T.m_list (by decide +kernel) (pa_cons (pv 0) pa_nil)) pa_nil)) pk_nil))
      (pss_cons (ps_set (i := 3) sc__law_start_told.nd rfl (Or.inl rfl) (pe_callKw DK_least_arc (hr.mono (by decide)) passN (pa_cons (pv 2) pa_nil) pk_nil))
      (pss_cons (ps_if (PW.pt (pw_or (pt_not (pt_val (pe_callD D__law_is_integer (hr.mono (by decide)) pass0 (pa_cons (pv 3) pa_nil)))) (pw_or1 (pt_cmpR op_ne (pv 3) (pe_callB (cr_min2 rfl) (by rfl) T.m_min (by decide +kernel) (pa_cons (pe_callB (cr_maxK K rfl) (by rfl) T.m_max (by decide +kernel) (pa_cons (pv 1) pa_nil)) (pa_cons (pe_callB (cr_sumK K rfl) (by rfl) T.m_sum (by decide +kernel) (pa_cons (pv 0) pa_nil)) pa_nil))) (nomark _))))) (pss_one (ps_ret pe_bl)) pss_nil)
      (pss_cons (ps_set (i := 4) sc__law_start_told.nd rfl (Or.inl rfl) (pe_callD D_tally_of (hr.mono (by decide)) pass0 (pa_cons (pv 2) pa_nil)))
      (pss_cons (ps_set (i := 5) sc__law_start_told.nd rfl (Or.inl rfl) (pe_callTy (call_listK K) (by rfl) T.m_list (by decide +kernel) (pa_cons (pv 4) pa_nil)))
      (pss_cons (ps_expr (pe_insK K (pv 4) (pa_cons pe_int (pa_cons (pe_tup (pa_cons pe_int (pa_cons pe_int pa_nil))) pa_nil))))
      (pss_cons (ps_if (pt_cmpR (op_neDK K hr.units) (pe_callD D_tally_of (hr.mono (by decide)) pass0 (pa_cons (pv 2) pa_nil)) (pv 5) (nomark _)) (pss_one (ps_ret pe_bl)) pss_nil)
      (pss_cons (ps_set (i := 6) sc__law_start_told.nd rfl (Or.inl rfl) (pe_callD D__law_restless (hr.mono (by decide)) pass0 (pa_cons (pv 0) (pa_cons (pv 1) pa_nil))))
      (pss_cons (ps_if (pt_cmpR (op_eqDK K hr.units) (pv 6) (pe_lst pa_nil) (nomark _)) (pss_one (ps_ret pe_bl)) pss_nil)
      (pss_cons (ps_set (i := 7) sc__law_start_told.nd rfl (Or.inl rfl) (pe_callD D__law_resting (hr.mono (by decide)) pass0 (pa_cons (pv 2) pa_nil)))
      (pss_one (ps_ret (pe_and (pe_cmpR op_eq (pe_ix (ix_tupK K) (pv 7) pe_int (fun _ _ => rfl)) pe_str (nomark _)) (pe_and (pe_callD D__law_is_integer (hr.mono (by decide)) pass0 (pa_cons (pe_ix (ix_tupK K) (pv 7) pe_int (fun _ _ => rfl)) pa_nil)) (pe_one (pe_cmpR op_eq (pe_ix (ix_tupK K) (pv 7) pe_int (fun _ _ => rfl)) (pe_ix (ix_listK K) (pv 6) pe_int (fun _ _ => rfl)) (nomark _))))))))))))))))), ?_⟩
    walk_at "rd"
    refine g_lo (.inl (SqL.of hs)) fun g1 H1 ng1 S1 hg1 => ?_
    walk_at "rd"
    refine g_lo (.inl (SqL.of (S1 _ _ hl))) fun g2 H2 ng2 S2 hg2 => ?_
    walk_at "rd"
    refine mk_newL0 (S2 _ _ hg1) hg2 ok fun e ts tl H3 ne S3 B => ?_
    have S03 := S1.trans (S2.trans S3)
    walk_at "rd"
    refine ⟨rfl, rfl, e, ts, tl, true, ss, ls, 1, rfl, B, ok, by omega, by omega, (fun z => nomatch z), fun _ => ?_⟩
    rw [bnd1]
    walk_at "rd"
    refine ⟨_, rfl, ?_⟩
    walk_at "rd"
    refine ⟨sa, ss, rfl, SqL.of (S03 _ _ hs), n0, fun m hm hx => ?_⟩
    rw [maxI_eq hm hx]
    walk_at "rd"
    refine ⟨la, ls, rfl, SqL.of (S03 _ _ hl), ?_⟩
    walk_at "rd"
    rw [decide_eq_true rfl]
    walk_at "rd"
    refine ⟨e, ts, tl, true, ss, ls, rfl, B, ok, by omega, fun pa xs H4 npa S4 hpa hP => ?_⟩
    walk_at "rd"
    refine g_lo (.inl (SqL.of hpa)) fun ka H5 nka S5 hka => ?_
    walk_at "rd"
    have hpa5 := S5 _ _ hpa
    refine ⟨ty_l hpa5, ?_⟩
    walk_at "rd"
    refine newT (xs := [V.int 0, V.int 0]) fun z H6 nz S6 hz => ?_
    walk_at "rd"
    have xl : xs.length ≤ 9 := by
      have a := hP.1
      have b : (tlyL ss (rnd true ls ss)).length ≤ ss.length := tlyP_len _
      omega
    refine ⟨pa, xs, 0, _, rfl, rfl, S6 _ _ hpa5, slt1000 (by omega), by decide, by decide, ?_⟩
    have S46 := S5.trans S6
    have kp : ka ≠ pa := fun z => by rw [z, hpa] at nka; cases nka
    have S07 : Same H3 (upd H6 pa (.lst (xs.take (0 : Int).toNat ++ [V.ref z] ++ xs.drop (0 : Int).toNat))) := (S4.trans S46).mut npa
    have hk7 : (upd H6 pa (.lst (xs.take (0 : Int).toNat ++ [V.ref z] ++ xs.drop (0 : Int).toNat))) ka = some (.lst xs) := by rw [upd_ne kp]; exact S6 _ _ hka
    have hP7 : PrA (fun t => H3 t = none ∧ t ≠ pa) (upd H6 pa (.lst (xs.take (0 : Int).toNat ++ [V.ref z] ++ xs.drop (0 : Int).toNat))) xs (tlyL ss (rnd true ls ss)) := RA.upd (hP.mono S46) fun t c => c.2
    generalize upd H6 pa (.lst (xs.take (0 : Int).toNat ++ [V.ref z] ++ xs.drop (0 : Int).toNat)) = H7 at S07 hk7 hP7
    walk_at "rd"
    refine ⟨e, ts, tl, true, ss, ls, rfl, B.mono S07, ok, by omega, fun qa ys H8 nqa S8 hqa hQ => ?_⟩
    walk_at "rd"
    refine g_neD (hQ.dp (SqL.of hqa)) ((hP7.mono S8).dp (SqL.of (S8 _ _ hk7))) (shPs _) ?_
    walk_at "rd"
    have S08 := S03.trans (S07.trans S8)
    refine ⟨la, sa, ls, ss, rfl, SqL.of (S08 _ _ hl), SqL.of (S08 _ _ hs), el, by omega, fun ra H9 nra S9 hra => ?_⟩
    walk_at "rd"
    refine newL fun e0 H10 ne0 S10 he0 => ?_
    rw [nI_eq] at hra
    refine g_eqL (xs := iI (rsN true ss ls ss.length)) (ys := []) (SqL.of (S10 _ _ hra)) (SqL.of he0) ?_
    walk_at "rd"
    have S010 := S08.trans (S9.trans S10)
    cases erx : rsN true ss ls ss.length with
    | nil =>
      rw [decide_eq_true (show iI ([] : List Nat) = [] from rfl)]
      walk_at "rd"
      exact q H10 S010
    | cons p ps =>
      rw [erx] at hra
      rw [decide_eq_false (show ¬ iI (p :: ps) = [] from fun z => by simp [iI] at z)]
      walk_at "rd"
      refine ⟨e, ts, tl, true, ss, ls, rfl, B.mono (S07.trans (S8.trans (S9.trans S10))), ok, (fun z => nomatch z), fun _ => ⟨fun z => (by rw [erx] at z; cases z), fun p' ps' e' t H11 nt S11 ht => ?_⟩⟩
      rw [erx] at e'
      obtain ⟨rfl, rfl⟩ := List.cons.inj e'
      walk_at "rd"
      refine g_ixT (SqT.of ht) (atI_nat (j := 0) (v := V.str "restless") rfl) ?_
      walk_at "rd"
      rw [str_eq]
      walk_at "rd"
      refine g_ixT (SqT.of ht) (atI_nat (j := 1) (v := V.int (p : Int)) rfl) ?_
      walk_at "rd"
      refine ⟨_, rfl, ?_⟩
      walk_at "rd"
      refine g_ixT (SqT.of ht) (atI_nat (j := 1) (v := V.int (p : Int)) rfl) ?_
      walk_at "rd"
      refine g_ixL (SqL.of (S11 _ _ (S10 _ _ hra))) (at_int (o := 0) (by rw [iI_len]; exact Nat.succ_pos _)) ?_
      walk_at "rd"
      rw [iI_getD, show (p :: ps).getD 0 0 = p from rfl]
      rw [decide_eq_true rfl]
      exact q H11 (S010.trans S11)
/-! ### _law_row_refused -/
def spRowB (A : Ad) : Sp := fun vs H Q _ => ∃ (b ts tl : Addr) (ss ls : List Int) (h : Nat), vs = [.ref b, .int (h : Int)] ∧ BAt A.Beads H b ts tl false ss ls ∧ StOk ss ls ∧ 0 < h ∧ h ≤ 1000 ∧ ∀ H', Q (.bl true) H'
theorem ok_rowB (F : Fun K "_law_row_refused" "_law_row_refused" s__law_row_refused f fd) (T : Txt K mg A) (D__law_resting : DefOk P w K mg base CX0 11 "_law_resting" ["beads"] (spRestg A)) (DK_hand_least_arc : DefN P w K mg base (L2N.CX P w) 4 "least_arc" 1 ["hand"] kwH1 (spLeast A)) : FnOk P w K mg base CX0 12 f fd ["row", "most"] (spRowB A) := by
  refine F.ok sc__law_row_refused (fun vs H Q E h => ?_) (fun cdv A1 outer s H vs Q E hr h => ?_)
  · obtain ⟨b, ts, tl, ss, ls, h, rfl, _⟩ := h
    rfl
  · obtain ⟨b, ts, tl, ss, ls, h, rfl, B, ok, h0, h1, q⟩ := h
    refine ⟨_, (pss_cons (ps_set (i := 2) sc__law_row_refused.nd rfl (Or.inl rfl) (pe_callD D__law_resting (hr.mono (by decide)) pass0 (pa_cons (pv 0) pa_nil)))
      (pss_cons (ps_if (PW.pt (pw_or (pt_cmpR op_ne (pe_ix (ix_tupK K) (pv 2) pe_int (fun _ _ => rfl)) pe_str (nomark _)) (pw_or1 (pt_cmpR op_notBl (pe_ix (ix_tupK K) (pv 2) pe_int (fun _ _ => rfl)) pe_bl (nomark _))))) (pss_one (ps_ret pe_bl)) pss_nil)
      (pss_cons (L2N.ps_try_as (i := 3) (Wout := fun _ _ _ _ => False) rfl rfl sc__law_row_refused.nd rfl rfl ⟨rfl, by decide, .inl T.g_WrongKind⟩ takes0N (fun W pn xe tk _ => (pss_one (ps_expr (pe_callKwS DK_hand_least_arc (hr.mono (by decide)) (fun σ => L2N.passAt tk σ) (pa_cons (pv 0) pa_nil) (pk_cons (pv 1) pk_nil))))) (fun a oe cls d pn hz hf => (pss_one (ps_ret (pe_and (pe_cmpR op_isBl (pe_xf T.x_WrongKind T.no_WrongKind_ring hz.zc hf (pv 3)) pe_bl (nomark _)) (pe_and (pe_callB (call_isX K hz.zc hf) (by rfl) T.m_isinstance (by decide +kernel) (pa_cons (pv 3) (pa_cons (pe_glob (v := .ref A.RetinueError) rfl T.g_RetinueError rfl) pa_nil))) (pe_one (pe_not (pe_callB (call_isXs K hz.zc hf) (by rfl) T.m_isinstance (by decide +kernel) (pa_cons (pv 3) (pa_cons (pe_tup (pa_cons (pe_glob (v := .ref A.BadPlace) rfl T.g_BadPlace rfl) (pa_cons (pe_glob (v := .ref A.NotAtRest) rfl T.g_NotAtRest rfl) pa_nil))) pa_nil)))))))))))
      (pss_one (ps_ret pe_bl))))), ?_⟩
    walk_at "rd"
    refine ⟨b, ts, tl, false, ss, ls, rfl, B, ok, fun _ t H1 nt S1 ht => ?_, fun z => nomatch z⟩
    walk_at "rd"
    refine g_ixT (SqT.of ht) (atI_nat (j := 0) (v := V.str "kind") rfl) ?_
    walk_at "rd"
    rw [str_eq]
    walk_at "rd"
    refine g_ixT (SqT.of ht) (atI_nat (j := 1) (v := V.bl false) rfl) ?_
    walk_at "rd"
    refine g_iff (by rfl) ?_
    walk_at "rd"
    refine g_callNS ?_
    walk_at "rd"
    refine ⟨rfl, rfl, b, ts, tl, false, ss, ls, h, rfl, B.mono S1, ok, h0, h1, fun _ d H2 nd S2 hd => ?_, fun z => nomatch z⟩
    refine ⟨true, T.eWK, fun _ a na => ?_, fun z => nomatch z⟩
    walk_at "rd"
    refine ⟨rfl, rfl, d, _, _, rfl, hd, rfl, ?_⟩
    walk_at "rd"
    rw [decide_eq_true rfl]
    walk_at "rd"
    refine g_isX hd T.xc_WrongKind T.xk_WrongKind_RetinueError ?_
    walk_at "rd"
    refine newT fun u H3 nu S3 hu => ?_
    walk_at "rd"
    refine g_isXs2 (S3 _ _ hd) T.xc_WrongKind hu T.xk_WrongKind_BadPlace T.xk_WrongKind_NotAtRest ?_
    walk_at "rd"
    exact q H3
/-! ### -/
end
end Rt
set_option Elab.async false
set_option linter.all false
set_option maxRecDepth 100000
set_option maxHeartbeats 4000000
namespace Rt
open PySem PySem.Spec L2
open PyProof.Rows (envOfC)
open LamX (CodeO TabS Tabs TabB)
local macro_rules | `(tactic| walk_at "rd1") => `(tactic| (with_reducible first
  | refine g_var (by with_unfolding_all rfl) ?_
  | refine g_c ?_
  | refine g_op ?_
  | refine g_I0 ?_
  | refine g_eqI ?_
  | refine g_neI ?_
  | refine g_eqB ?_
  | refine g_neB ?_
  | refine g_cons ?_
  | refine g_nil ?_
  | refine g_seq ?_
  | refine g_asg ?_
  | refine g_name ?_
  | refine g_ret ?_
  | refine g_retN ?_
  | refine g_drop ?_
  | refine g_next ?_
  | refine g_if ?_
  | refine g_test ?_
  | refine g_tB ?_
  | refine g_bl ?_
  | refine g_and ?_
  | refine g_or ?_
  | refine g_not ?_
  | refine g_andV ?_
  | refine g_orV ?_
  | refine g_notV ?_
  | refine g_ifE ?_
  | refine g_cb ?_
  | refine g_meth ?_
  | refine g_rev ?_
  | refine g_gcons ?_
  | refine g_gnil ?_
  | refine g_isB' ?_
  | refine g_gsub ?_
  | refine g_call ?_
  | refine g_callS ?_
  | refine g_bm ?_
  | refine g_un ?_
  | refine g_U ?_
  | refine g_chain ?_
  | refine g_sl ?_
  | refine g_brk ?_
  | refine g_ct ?_
  | refine g_ipI ?_
  | refine g_fld ?_
  | refine g_lst ?_
  | refine g_int ?_
  | refine g_for ?_
  | refine g_rg1 ?_
  | refine g_rg2 ?_
  | refine g_il ?_
  | refine g_it ?_
  | refine g_lc ?_
  | refine g_yes ?_
  | refine g_tup ?_
  | refine g_part ?_
  | refine g_xf ?_
  | refine g_nn ?_
  | refine g_mko ?_
  | refine g_lrg ?_
  | refine g_tr1 ?_
  | refine g_tr2 ?_
  | refine g_oi2 ?_
  | refine g_mk ?_
  | refine g_sfld ?_
  | refine g_ost ?_
  | refine g_oi ?_
  | refine g_nopart ?_
  | refine g_tt ?_
  | refine g_ff ?_
  | refine g_nt ?_
  | refine g_nf ?_
  | refine g_drn ?_
  | refine g_din ?_
  | refine g_dnn ?_
  | refine g_nrn ?_
  | refine g_nin ?_
  | refine g_nnn ?_))
local macro_rules | `(tactic| walk_at "rd") => `(tactic| (repeat walk_at "rd1"))

local macro_rules | `(tactic| walk_at "rd1") => `(tactic| (with_reducible first
  | refine g_max2 ?_
  | refine g_min2 ?_
  | refine g_callN ?_
  | refine g_xfG ?_))
section
variable {P : Program} {w : World} {K : PySem.W.Frag} {mg : Str → Option Value} {base : Heap} {f : Addr} {fd : FuncData} {A : Ad} {TL : List (Addr × Str)}
/-! ### law -/
def spLaw (K : PySem.W.Frag) (TL : List (Addr × Str)) : Sp := fun vs H Q _ => ∃ (a : Addr) (ns : List Int), vs = [.ref a] ∧ SqL K H a (ns.map V.int) ∧ ns.length ≤ 63 ∧ Tabs TL H ∧ ∀ H', Q (.bl true) H'
theorem ok_law (F : Fun K "law" "law" s_law f fd) (T : Txt K mg A)
    (D__law_cell : DefOk P w K mg base CX0 1 "_law_cell" ["script", "k"] (Rt.spCell K)) (D__law_draws : DefOk P w K mg base CX0 1 "_law_draws" ["cell", "sizes"] (Rt.spDraws K)) (D__law_standing : DefOk P w K mg base CX0 3 "_law_standing" ["script", "plan"] (spStdR K)) (D__law_start_told : DefOk P w K mg base CX0 12 "_law_start_told" ["sizes", "strengths"] (spStartT K)) (MK0_Beads : CtorD P w K mg base CX0 2 "Beads" A.Beads 2 [] gBeads0 (spNew K A)) (MK_Beads : CtorD P w K mg base CX0 2 "Beads" A.Beads 2 ["ring"] gBeads (spNew K A))
    (D__law_bound_told : DefOk P w K mg base CX0 5 "_law_bound_told" ["beads", "sizes", "strengths", "most"] (spBndT K A)) (D__law_way : DefOk P w K mg base CX0 11 "_law_way" ["cell", "free", "many", "most", "sizes", "strengths"] (spWay K A TL)) (D__law_bound : DefOk P w K mg base CX0 1 "_law_bound" ["sizes", "strengths", "most"] (spBnd K)) (D__law_rested : DefOk P w K mg base CX0 2 "_law_rested" ["sizes", "strengths"] (spRsd K))
    (D__law_rest_told : DefOk P w K mg base CX0 12 "_law_rest_told" ["sizes", "strengths", "bound"] (spRstT K)) (D__law_row_refused : DefOk P w K mg base CX0 12 "_law_row_refused" ["row", "most"] (spRowB A)) : FnOk P w K mg base CX0 13 f fd ["script"] (spLaw K TL) := by
  refine F.ok sc_law (fun vs H Q E h => ?_) (fun cdv A1 outer s H vs Q E hr h => ?_)
  · obtain ⟨a, ns, rfl, _⟩ := h
    rfl
  · obtain ⟨sc, ns, rfl, hsc, hns, hT, q⟩ := h
    refine ⟨_, (pss_cons (ps_set (i := 1) sc_law.nd rfl (Or.inl rfl) (pe_callD D__law_draws (hr.mono (by decide)) pass0 (pa_cons (pe_callD D__law_cell (hr.mono (by decide)) pass0 (pa_cons (pv 0) (pa_cons pe_int pa_nil))) (pa_cons (pe_lst (pa_cons pe_int (pa_cons pe_int (pa_cons pe_int (pa_cons pe_int (pa_cons pe_int (pa_cons pe_int (pa_cons pe_int (pa_cons pe_int pa_nil))))))))) pa_nil))))
      (pss_cons (ps_set (i := 2) sc_law.nd rfl (Or.inl rfl) (pe_callD D__law_standing (hr.mono (by decide)) pass0 (pa_cons (pv 0) (pa_cons (pv 1) pa_nil))))
      (pss_cons (ps_set (i := 3) sc_law.nd rfl (Or.inl rfl) (pe_ix (ix_listK K) (pv 2) pe_int (fun _ _ => rfl)))
      (pss_cons (ps_set (i := 4) sc_law.nd rfl (Or.inl rfl) (pe_ix (ix_listK K) (pv 2) pe_int (fun _ _ => rfl)))
      (pss_cons (ps_set (i := 5) sc_law.nd rfl (Or.inl rfl) (pe_op op_add pe_int (pe_op op_mod (pe_callTy call_int1 (by rfl) T.m_int (by decide +kernel) (pa_cons (pe_ix (ix_listK K) (pv 1) pe_int (fun _ _ => rfl)) pa_nil)) (pe_callB (call_lenK K) (by rfl) T.m_len PySem.boot_len (pa_cons (pv 3) pa_nil)))))
      (pss_cons (ps_set (i := 6) sc_law.nd rfl (Or.inl rfl) (pe_op op_add (pv 5) (pe_ix (ix_listK K) (pe_lst (pa_cons pe_int (pa_cons pe_int (pa_cons pe_int (pa_cons (pe_ix (ix_listK K) (pv 1) pe_int (fun _ _ => rfl)) pa_nil))))) (pe_ix (ix_listK K) (pv 1) pe_int (fun _ _ => rfl)) (fun _ _ => rfl))))
      (pss_cons (ps_if (pt_not (pt_val (pe_callD D__law_start_told (hr.mono (by decide)) pass0 (pa_cons (pv 3) (pa_cons (pv 4) pa_nil))))) (pss_one (ps_ret pe_bl)) pss_nil)
      (pss_cons (ps_if (pt_not (pt_val (pe_callD D__law_bound_told (hr.mono (by decide)) pass0 (pa_cons (pe_makeD MK0_Beads (hr.mono (by decide)) pass0 (pa_cons (pe_callTy (call_listK K) (by rfl) T.m_list (by decide +kernel) (pa_cons (pv 4) pa_nil)) (pa_cons (pe_callTy (call_listK K) (by rfl) T.m_list (by decide +kernel) (pa_cons (pv 3) pa_nil)) pa_nil)) pk_nil) (pa_cons (pv 3) (pa_cons (pv 4) (pa_cons (pv 6) pa_nil))))))) (pss_one (ps_ret pe_bl)) pss_nil)
      (pss_cons (ps_set (i := 7) sc_law.nd rfl (Or.inl rfl) (pe_callD D__law_way (hr.mono (by decide)) pass0 (pa_cons (pe_callD D__law_cell (hr.mono (by decide)) pass0 (pa_cons (pv 0) (pa_cons pe_int pa_nil))) (pa_cons (pe_cmpR op_eq (pe_ix (ix_listK K) (pv 1) pe_int (fun _ _ => rfl)) pe_int (nomark _)) (pa_cons (pv 5) (pa_cons (pv 6) (pa_cons (pv 3) (pa_cons (pv 4) pa_nil))))))))
      (pss_cons (ps_if (pt_cmpR (op_eqDK K hr.units) (pv 7) (pe_lst pa_nil) (nomark _)) (pss_one (ps_ret pe_bl)) pss_nil)
      (pss_cons (ps_set (i := 8) sc_law.nd rfl (Or.inl rfl) (pe_callD D__law_bound (hr.mono (by decide)) pass0 (pa_cons (pv 3) (pa_cons (pv 4) (pa_cons (pv 6) pa_nil)))))
      (pss_cons (ps_asg (pe_callD D__law_rested (hr.mono (by decide)) pass0 (pa_cons (pv 3) (pa_cons (pv 7) pa_nil))) (pg_lstK K rfl (pgs_cons (pg_name (i := 9) sc_law.nd rfl (Or.inl rfl)) (pgs_cons (pg_name (i := 10) sc_law.nd rfl (Or.inl rfl)) pgs_nil))))
      (pss_cons (ps_if (pt_cmpR op_lt (pv 9) (pv 8) (nomark _)) (pss_one (ps_ret pe_bl)) pss_nil)
      (pss_cons (ps_if (PW.pt (pw_and (pt_cmpR (op_neDK K hr.units) (pv 10) (pe_lst pa_nil) (nomark _)) (pw_and1 (pt_not (pt_val (pe_callD D__law_rest_told (hr.mono (by decide)) pass0 (pa_cons (pv 3) (pa_cons (pv 10) (pa_cons (pv 8) pa_nil))))))))) (pss_one (ps_ret pe_bl)) pss_nil)
      (pss_cons (ps_if (PW.pt (pw_and (pt_cmpR (op_neDK K hr.units) (pv 10) (pe_lst pa_nil) (nomark _)) (pw_and1 (pt_not (pt_val (pe_callD D__law_bound_told (hr.mono (by decide)) pass0 (pa_cons (pe_makeD MK0_Beads (hr.mono (by decide)) pass0 (pa_cons (pe_callTy (call_listK K) (by rfl) T.m_list (by decide +kernel) (pa_cons (pv 10) pa_nil)) (pa_cons (pe_callTy (call_listK K) (by rfl) T.m_list (by decide +kernel) (pa_cons (pv 3) pa_nil)) pa_nil)) pk_nil) (pa_cons (pv 3) (pa_cons (pv 10) (pa_cons (pv 6) pa_nil)))))))))) (pss_one (ps_ret pe_bl)) pss_nil)
      (pss_one (ps_ret (pe_callD D__law_row_refused (hr.mono (by decide)) pass0 (pa_cons (pe_makeD MK_Beads (hr.mono (by decide)) pass0 (pa_cons (pe_callTy (call_listK K) (by rfl) T.m_list (by decide +kernel) (pa_cons (pv 4) pa_nil)) (pa_cons (pe_callTy (call_listK K) (by rfl) T.m_list (by decide +kernel) (pa_cons (pv 3) pa_nil)) pa_nil)) (pk_cons pe_bl pk_nil)) (pa_cons (pv 6) pa_nil)))))))))))))))))))), ?_⟩
    walk_at "rd"
    refine ⟨sc, ns, 0, rfl, hsc, ?_⟩
    walk_at "rd"
    refine newL fun a1 H1 na1 S1 h1 => ?_
    walk_at "rd"
    refine ⟨a1, _, [2, 9, 9, 4, 112, 3, 3, 24], rfl, SqL.of h1, by simp, fun i hi => ?_, fun pa H2 ps npa S2 hpa dr => ?_⟩
    · have hi' : i < 8 := hi
      have : i = 0 ∨ i = 1 ∨ i = 2 ∨ i = 3 ∨ i = 4 ∨ i = 5 ∨ i = 6 ∨ i = 7 := by omega
      rcases this with z | z | z | z | z | z | z | z <;> subst z <;> decide
    have pl : ps.length = 8 := dr.len
    have p2 : 0 ≤ ps.getD 2 0 ∧ ps.getD 2 0 < 9 := dr.at_ 2 (by simp)
    have p3 : 0 ≤ ps.getD 3 0 ∧ ps.getD 3 0 < 4 := dr.at_ 3 (by simp)
    have p4 : 0 ≤ ps.getD 4 0 ∧ ps.getD 4 0 < 112 := dr.at_ 4 (by simp)
    have p6 : 0 ≤ ps.getD 6 0 ∧ ps.getD 6 0 < 3 := dr.at_ 6 (by simp)
    have S02 := S1.trans S2
    walk_at "rd"
    refine ⟨sc, pa, ns, ps, rfl, S02.seq hsc, SqL.of hpa, pl, p2, p6, fun t ls ss H3 nt S3 tw ok l9 lb => ?_⟩
    obtain ⟨la, sa, nla, nsa, ht, hla, hsa⟩ := tw
    have n0 := ok.n0
    have el := ok.len
    have hpa3 := S3 _ _ hpa
    have S03 := S02.trans S3
    clear dr h1 S1 S2 S02 hpa
    walk_at "rd"
    refine g_ixL (SqL.of ht) (atI_nat (j := 0) (v := V.ref la) rfl) ?_
    walk_at "rd"
    refine g_ixL (SqL.of ht) (atI_nat (j := 1) (v := V.ref sa) rfl) ?_
    walk_at "rd"
    refine g_ixL (SqL.of hpa3) (at_int (o := 1) (by omega)) ?_
    walk_at "rd"
    refine ⟨la, _, rfl, .inl (SqL.of hla), ?_⟩
    rw [List.length_map]
    refine g_I (by omega) ?_
    have c1 := Int.emod_nonneg (ps.getD 1 0) (show (ls.length : Int) ≠ 0 by omega)
    have c2 := Int.emod_lt_of_pos (ps.getD 1 0) (show 0 < (ls.length : Int) by omega)
    obtain ⟨m, em, m1, m9⟩ : ∃ m : Nat, 1 + ps.getD 1 0 % (ls.length : Int) = (m : Int) ∧ 1 ≤ m ∧ m ≤ 9 := ⟨(1 + ps.getD 1 0 % (ls.length : Int)).toNat, by omega, by omega, by omega⟩
    walk_at "rd"
    rw [em]
    refine g_ixL (SqL.of hpa3) (at_int (o := 4) (by omega)) ?_
    walk_at "rd"
    refine newL fun a4 H4 na4 S4 h4 => ?_
    walk_at "rd"
    refine g_ixL (SqL.of (S4 _ _ hpa3)) (at_int (o := 3) (by omega)) ?_
    obtain ⟨k, ek, hk⟩ : ∃ k : Nat, ps.getD 3 0 = (k : Int) ∧ k < 4 := ⟨(ps.getD 3 0).toNat, by omega, by omega⟩
    rw [ek]
    refine g_ixL (SqL.of h4) (at_int (ss := [0, 0, 0, ps.getD 4 0]) (o := k) hk) ?_
    obtain ⟨wd, ew, mw, w9⟩ : ∃ wd : Nat, (m : Int) + ([0, 0, 0, ps.getD 4 0] : List Int).getD k 0 = (wd : Int) ∧ m ≤ wd ∧ wd ≤ 1000 := by
      have g : 0 ≤ ([0, 0, 0, ps.getD 4 0] : List Int).getD k 0 ∧ ([0, 0, 0, ps.getD 4 0] : List Int).getD k 0 < 112 := by
        have : k = 0 ∨ k = 1 ∨ k = 2 ∨ k = 3 := by omega
        rcases this with z | z | z | z <;> subst z
        · show (0 : Int) ≤ 0 ∧ (0 : Int) < 112; decide
        · show (0 : Int) ≤ 0 ∧ (0 : Int) < 112; decide
        · show (0 : Int) ≤ 0 ∧ (0 : Int) < 112; decide
        · exact p4
      exact ⟨((m : Int) + ([0, 0, 0, ps.getD 4 0] : List Int).getD k 0).toNat, by omega, by omega, by omega⟩
    walk_at "rd"
    rw [ew]
    have hla4 := S4 _ _ hla
    have hsa4 := S4 _ _ hsa
    have S04 := S03.trans S4
    have hpa4 := S4 _ _ hpa3
    clear S03 S4 S3 hla hsa h4 ht hpa3
    refine ⟨la, sa, ls, ss, rfl, hla4, hsa4, ok, l9, fun H5 S5 => ?_⟩
    have hla5 := S5 _ _ hla4
    have hsa5 := S5 _ _ hsa4
    walk_at "rd"
    refine g_lo (.inl (SqL.of hsa5)) fun g1 H6 ng1 S6 hg1 => ?_
    walk_at "rd"
    refine g_lo (.inl (SqL.of (S6 _ _ hla5))) fun g2 H7 ng2 S7 hg2 => ?_
    walk_at "rd"
    refine mk_newL0 (S7 _ _ hg1) hg2 ok fun e ts tl H8 ne S8 B => ?_
    have S58 := S6.trans (S7.trans S8)
    walk_at "rd"
    refine ⟨e, ts, tl, la, sa, ss, ls, wd, rfl, B, ok, by omega, w9, SqL.of (S58 _ _ hla5), SqL.of (S58 _ _ hsa5), ?_⟩
    walk_at "rd"
    have S08 := S04.trans (S5.trans S58)
    refine ⟨sc, ns, 3, rfl, S08.seq hsc, ?_⟩
    walk_at "rd"
    refine g_ixL (SqL.of ((S5.trans S58) _ _ hpa4)) (at_int (o := 0) (by omega)) ?_
    walk_at "rd"
    refine ⟨la, sa, _, _, m, wd, ls, ss, rfl, S58 _ _ hla5, S58 _ _ hsa5, ok, l9, by omega, m9, mw, w9, hT.ext S08, fun na es H9 nna S9 T9 hna oke ele bnd => ?_⟩
    have hla9 := S9.lst (S58 _ _ hla5)
    have hsa9 := S9.lst (S58 _ _ hsa5)
    clear S58 S6 S7 S8 B hg1 hg2 hla5 hsa5 S5 hla4 hsa4 hpa4 S08 S04
    walk_at "rd"
    refine newL fun e0 H10 ne0 S10 he0 => ?_
    refine g_eqL (xs := es) (ys := []) (SqL.of (S10 _ _ hna)) (SqL.of he0) ?_
    walk_at "rd"
    have esn : es ≠ [] := fun z => by rw [z] at ele; simp at ele; omega
    rw [decide_eq_false esn]
    walk_at "rd"
    refine ⟨la, sa, ls, ss, wd, rfl, SqL.of (S10 _ _ hla9), SqL.of (S10 _ _ hsa9), n0, by omega, w9, ?_⟩
    have b2 : bndI ls ss wd ≤ ls.sum := by
      have h1 : bndI ls ss wd ≤ (ls.sum + wd - 1) / wd := Int.min_le_right _ _
      have sg := sum_geN fun x hx => (lb x hx).1
      have h2 : (ls.sum + wd - 1) / (wd : Int) < ls.sum + 1 := by
        refine Int.ediv_lt_of_lt_mul (by omega) ?_
        have : ls.sum * 1 ≤ ls.sum * (wd : Int) := Int.mul_le_mul_of_nonneg_left (by omega) (by omega)
        rw [Int.add_mul]
        omega
      omega
    generalize bndI ls ss wd = bd at bnd b2
    walk_at "rd"
    refine ⟨la, na, ls, es, bd, rfl, S10 _ _ hla9, S10 _ _ hna, oke, by omega, bnd, b2, fun t2 ea lo fs H11 nt2 S11 ht2 blo hfs hea' => ?_⟩
    walk_at "rd"
    refine ⟨t2, _, rfl, SqL.of ht2, rfl, ?_⟩
    walk_at "rd"
    rw [decide_eq_false (show ¬ lo < bd by omega)]
    have S911 := S10.trans S11
    have hla11 := S911 _ _ hla9
    have hsa11 := S911 _ _ hsa9
    clear S911 S10 S11 hla9 hsa9 hna he0 ht2 nt2
    by_cases z : fs = []
    · walk_at "rd"
      refine newL fun e1 H12 ne1 S12 he1 => ?_
      refine g_neL (xs := fs) (ys := []) (SqL.of (S12 _ _ hfs)) (SqL.of he1) ?_
      walk_at "rd"
      rw [decide_eq_true z]
      walk_at "rd"
      refine newL fun e2 H13 ne2 S13 he2 => ?_
      refine g_neL (xs := fs) (ys := []) (SqL.of (S13 _ _ (S12 _ _ hfs))) (SqL.of he2) ?_
      walk_at "rd"
      rw [decide_eq_true z]
      walk_at "rd"
      have S113 := S12.trans S13
      refine g_lo (.inl (SqL.of (S113 _ _ hsa11))) fun g1 H14 ng1 S14 hg1 => ?_
      walk_at "rd"
      refine g_lo (.inl (SqL.of (S14 _ _ (S113 _ _ hla11)))) fun g2 H15 ng2 S15 hg2 => ?_
      walk_at "rd"
      refine mk_newL (r := false) (S15 _ _ hg1) hg2 ok fun e3 ts3 tl3 H16 ne3 S16 B3 => ?_
      walk_at "rd"
      refine ⟨e3, ts3, tl3, ss, ls, wd, rfl, B3, ok, by omega, w9, fun H17 => q H17⟩
    · obtain ⟨okf, elf, bf, hst⟩ := hea' z
      walk_at "rd"
      refine newL fun e1 H12 ne1 S12 he1 => ?_
      refine g_neL (xs := fs) (ys := []) (SqL.of (S12 _ _ hfs)) (SqL.of he1) ?_
      walk_at "rd"
      rw [decide_eq_false z]
      walk_at "rd"
      refine ⟨la, ea, ls, fs, bd, rfl, S12 _ _ hla11, S12 _ _ hfs, okf, by omega, bf, hst, fun H13 S13 => ?_⟩
      walk_at "rd"
      refine newL fun e2 H14 ne2 S14 he2 => ?_
      have S24 := S12.trans (S13.trans S14)
      refine g_neL (xs := fs) (ys := []) (SqL.of (S24 _ _ hfs)) (SqL.of he2) ?_
      walk_at "rd"
      rw [decide_eq_false z]
      walk_at "rd"
      refine g_lo (.inl (SqL.of (S24 _ _ hfs))) fun g1 H15 ng1 S15 hg1 => ?_
      walk_at "rd"
      refine g_lo (.inl (SqL.of (S15 _ _ (S24 _ _ hla11)))) fun g2 H16 ng2 S16 hg2 => ?_
      walk_at "rd"
      refine mk_newL0 (S16 _ _ hg1) hg2 okf fun e4 ts4 tl4 H17 ne4 S17 B4 => ?_
      have S27 := S24.trans (S15.trans (S16.trans S17))
      walk_at "rd"
      refine ⟨e4, ts4, tl4, la, ea, fs, ls, wd, rfl, B4, okf, by omega, w9, SqL.of (S27 _ _ hla11), SqL.of (S27 _ _ hfs), ?_⟩
      walk_at "rd"
      refine g_lo (.inl (SqL.of (S27 _ _ hsa11))) fun g1 H18 ng1 S18 hg1 => ?_
      walk_at "rd"
      refine g_lo (.inl (SqL.of (S18 _ _ (S27 _ _ hla11)))) fun g2 H19 ng2 S19 hg2 => ?_
      walk_at "rd"
      refine mk_newL (r := false) (S19 _ _ hg1) hg2 ok fun e3 ts3 tl3 H20 ne3 S20 B3 => ?_
      walk_at "rd"
      refine ⟨e3, ts3, tl3, ss, ls, wd, rfl, B3, ok, by omega, w9, fun H21 => q H21⟩
/-! ### -/
end
end Rt
set_option Elab.async false
set_option linter.all false
set_option maxRecDepth 100000
set_option maxHeartbeats 0
namespace Rt
open PySem PySem.Spec L2 He
open RtH
theorem facts {P : Program} {w : World} {K : PySem.W.Frag} {h : Heap} {mg : Str → Option Value} {f : Addr} (X : K.In h) (G : h.Ns mainGlobals mg) (hfa : mg ("law" : Str) = some (.ref f)) (c : He.SaysD fa fn K) (m : more K = true) {c0 P0 : Addr} {TL : List (Addr × Str)} (hcA : codeAt K (ga K "changes_of") c0 = true) (LT : LamT TL P0 ((("changes_of" : Str) ++ ".<locals>.") ++ "<lambda>")) :
    ∃ fd : FuncData, (∀ (s : Shared) (v : Value), BindsTo s fd ⟨[v], []⟩ [("script", v)]) ∧ ∀ base : Heap, K.In base → base.Ns mainGlobals mg → LamX.TabB base mg c0 P0 → FnOk P w K mg base CX0 13 f fd ["script"] (spLaw K TL) := by
  obtain ⟨mI, m1⟩ := ba m
  have mI0 := mI
  obtain ⟨mE0, m2⟩ := ba m1
  have E_BadPlace := excB_ok mE0
  obtain ⟨mE1, m3⟩ := ba m2
  have E_WrongKind := excB_ok mE1
  obtain ⟨mE2, m4⟩ := ba m3
  have E_BadCut := excB_ok mE2
  obtain ⟨mE3, m5⟩ := ba m4
  have E_NotAtRest := excB_ok mE3
  obtain ⟨mE4, m6⟩ := ba m5
  obtain ⟨mE5, m7⟩ := ba m6
  obtain ⟨mE6, m8⟩ := ba m7
  obtain ⟨mE7, m9⟩ := ba m8
  obtain ⟨mE8, m10⟩ := ba m9
  obtain ⟨mE9, m11⟩ := ba m10
  obtain ⟨mE10, m12⟩ := ba m11
  obtain ⟨mE11, m13⟩ := ba m12
  obtain ⟨mE12, m14⟩ := ba m13
  have mE13 := m14
  obtain ⟨i1, i2, i3, i4, i5⟩ := isiB_ok mI0
  obtain ⟨fd__law_bound, F__law_bound⟩ := c.def_ 0 (d := ⟨("_law_bound", none), "_law_bound", "_law_bound", defArgs s__law_bound, defBody s__law_bound, defScope s__law_bound, [], []⟩) rfl
  have U__law_bound := fun_of (st := s__law_bound) F__law_bound
  have b__law_bound := U__law_bound.binds (ps := ["sizes", "strengths", "most"]) fun _ _ _ _ _ _ us hl => match us, hl with | [_, _, _], _ => rfl
  have g__law_bound := He.glo_ok X G (c.fact 0 (f := .glo "_law_bound") rfl)
  obtain ⟨fd__law_bound_told, F__law_bound_told⟩ := c.def_ 1 (d := ⟨("_law_bound_told", none), "_law_bound_told", "_law_bound_told", defArgs s__law_bound_told, defBody s__law_bound_told, defScope s__law_bound_told, [], []⟩) rfl
  have U__law_bound_told := fun_of (st := s__law_bound_told) F__law_bound_told
  have b__law_bound_told := U__law_bound_told.binds (ps := ["beads", "sizes", "strengths", "most"]) fun _ _ _ _ _ _ us hl => match us, hl with | [_, _, _, _], _ => rfl
  have g__law_bound_told := He.glo_ok X G (c.fact 1 (f := .glo "_law_bound_told") rfl)
  obtain ⟨fd__law_cell, F__law_cell⟩ := c.def_ 2 (d := ⟨("_law_cell", none), "_law_cell", "_law_cell", defArgs s__law_cell, defBody s__law_cell, defScope s__law_cell, [], []⟩) rfl
  have U__law_cell := fun_of (st := s__law_cell) F__law_cell
  have b__law_cell := U__law_cell.binds (ps := ["script", "k"]) fun _ _ _ _ _ _ us hl => match us, hl with | [_, _], _ => rfl
  have g__law_cell := He.glo_ok X G (c.fact 2 (f := .glo "_law_cell") rfl)
  obtain ⟨fd__law_draws, F__law_draws⟩ := c.def_ 3 (d := ⟨("_law_draws", none), "_law_draws", "_law_draws", defArgs s__law_draws, defBody s__law_draws, defScope s__law_draws, [], []⟩) rfl
  have U__law_draws := fun_of (st := s__law_draws) F__law_draws
  have b__law_draws := U__law_draws.binds (ps := ["cell", "sizes"]) fun _ _ _ _ _ _ us hl => match us, hl with | [_, _], _ => rfl
  have g__law_draws := He.glo_ok X G (c.fact 3 (f := .glo "_law_draws") rfl)
  obtain ⟨fd__law_heads, F__law_heads⟩ := c.def_ 4 (d := ⟨("_law_heads", none), "_law_heads", "_law_heads", defArgs s__law_heads, defBody s__law_heads, defScope s__law_heads, [], []⟩) rfl
  have U__law_heads := fun_of (st := s__law_heads) F__law_heads
  have b__law_heads := U__law_heads.binds (ps := ["sizes", "first", "arc"]) fun _ _ _ _ _ _ us hl => match us, hl with | [_, _, _], _ => rfl
  have g__law_heads := He.glo_ok X G (c.fact 4 (f := .glo "_law_heads") rfl)
  obtain ⟨fd__law_is_integer, F__law_is_integer⟩ := c.def_ 5 (d := ⟨("_law_is_integer", none), "_law_is_integer", "_law_is_integer", defArgs s__law_is_integer, defBody s__law_is_integer, defScope s__law_is_integer, [], []⟩) rfl
  have U__law_is_integer := fun_of (st := s__law_is_integer) F__law_is_integer
  have b__law_is_integer := U__law_is_integer.binds (ps := ["actual"]) fun _ _ _ _ _ _ us hl => match us, hl with | [_], _ => rfl
  have g__law_is_integer := He.glo_ok X G (c.fact 5 (f := .glo "_law_is_integer") rfl)
  obtain ⟨fd__law_is_standing, F__law_is_standing⟩ := c.def_ 6 (d := ⟨("_law_is_standing", none), "_law_is_standing", "_law_is_standing", defArgs s__law_is_standing, defBody s__law_is_standing, defScope s__law_is_standing, [], []⟩) rfl
  have U__law_is_standing := fun_of (st := s__law_is_standing) F__law_is_standing
  have b__law_is_standing := U__law_is_standing.binds (ps := ["actual", "round_flag", "sizes", "strengths"]) fun _ _ _ _ _ _ us hl => match us, hl with | [_, _, _, _], _ => rfl
  have g__law_is_standing := He.glo_ok X G (c.fact 6 (f := .glo "_law_is_standing") rfl)
  obtain ⟨fd__law_lengths, F__law_lengths⟩ := c.def_ 7 (d := ⟨("_law_lengths", none), "_law_lengths", "_law_lengths", defArgs s__law_lengths, defBody s__law_lengths, defScope s__law_lengths, [], []⟩) rfl
  have U__law_lengths := fun_of (st := s__law_lengths) F__law_lengths
  have b__law_lengths := U__law_lengths.binds (ps := ["cell", "many"]) fun _ _ _ _ _ _ us hl => match us, hl with | [_, _], _ => rfl
  have g__law_lengths := He.glo_ok X G (c.fact 7 (f := .glo "_law_lengths") rfl)
  obtain ⟨fd__law_numbers, F__law_numbers⟩ := c.def_ 8 (d := ⟨("_law_numbers", none), "_law_numbers", "_law_numbers", defArgs s__law_numbers, defBody s__law_numbers, defScope s__law_numbers, [], []⟩) rfl
  have U__law_numbers := fun_of (st := s__law_numbers) F__law_numbers
  have b__law_numbers := U__law_numbers.binds (ps := ["actual", "due", "as_tuple"]) fun _ _ _ _ _ _ us hl => match us, hl with | [_, _, _], _ => rfl
  have g__law_numbers := He.glo_ok X G (c.fact 8 (f := .glo "_law_numbers") rfl)
  obtain ⟨fd__law_picked, F__law_picked⟩ := c.def_ 9 (d := ⟨("_law_picked", none), "_law_picked", "_law_picked", defArgs s__law_picked, defBody s__law_picked, defScope s__law_picked, [], []⟩) rfl
  have U__law_picked := fun_of (st := s__law_picked) F__law_picked
  have b__law_picked := U__law_picked.binds (ps := ["draws", "free", "sizes", "strengths"]) fun _ _ _ _ _ _ us hl => match us, hl with | [_, _, _, _], _ => rfl
  have g__law_picked := He.glo_ok X G (c.fact 9 (f := .glo "_law_picked") rfl)
  obtain ⟨fd__law_reach, F__law_reach⟩ := c.def_ 10 (d := ⟨("_law_reach", none), "_law_reach", "_law_reach", defArgs s__law_reach, defBody s__law_reach, defScope s__law_reach, [], []⟩) rfl
  have U__law_reach := fun_of (st := s__law_reach) F__law_reach
  have b__law_reach := U__law_reach.binds (ps := ["sizes", "strengths", "place"]) fun _ _ _ _ _ _ us hl => match us, hl with | [_, _, _], _ => rfl
  have g__law_reach := He.glo_ok X G (c.fact 10 (f := .glo "_law_reach") rfl)
  obtain ⟨fd__law_rest_told, F__law_rest_told⟩ := c.def_ 11 (d := ⟨("_law_rest_told", none), "_law_rest_told", "_law_rest_told", defArgs s__law_rest_told, defBody s__law_rest_told, defScope s__law_rest_told, [], []⟩) rfl
  have U__law_rest_told := fun_of (st := s__law_rest_told) F__law_rest_told
  have b__law_rest_told := U__law_rest_told.binds (ps := ["sizes", "strengths", "bound"]) fun _ _ _ _ _ _ us hl => match us, hl with | [_, _, _], _ => rfl
  have g__law_rest_told := He.glo_ok X G (c.fact 11 (f := .glo "_law_rest_told") rfl)
  obtain ⟨fd__law_rested, F__law_rested⟩ := c.def_ 12 (d := ⟨("_law_rested", none), "_law_rested", "_law_rested", defArgs s__law_rested, defBody s__law_rested, defScope s__law_rested, [], []⟩) rfl
  have U__law_rested := fun_of (st := s__law_rested) F__law_rested
  have b__law_rested := U__law_rested.binds (ps := ["sizes", "strengths"]) fun _ _ _ _ _ _ us hl => match us, hl with | [_, _], _ => rfl
  have g__law_rested := He.glo_ok X G (c.fact 12 (f := .glo "_law_rested") rfl)
  obtain ⟨fd__law_resting, F__law_resting⟩ := c.def_ 13 (d := ⟨("_law_resting", none), "_law_resting", "_law_resting", defArgs s__law_resting, defBody s__law_resting, defScope s__law_resting, [], []⟩) rfl
  have U__law_resting := fun_of (st := s__law_resting) F__law_resting
  have b__law_resting := U__law_resting.binds (ps := ["beads"]) fun _ _ _ _ _ _ us hl => match us, hl with | [_], _ => rfl
  have g__law_resting := He.glo_ok X G (c.fact 13 (f := .glo "_law_resting") rfl)
  obtain ⟨fd__law_restless, F__law_restless⟩ := c.def_ 14 (d := ⟨("_law_restless", none), "_law_restless", "_law_restless", defArgs s__law_restless, defBody s__law_restless, defScope s__law_restless, [], []⟩) rfl
  have U__law_restless := fun_of (st := s__law_restless) F__law_restless
  have b__law_restless := U__law_restless.binds (ps := ["sizes", "strengths"]) fun _ _ _ _ _ _ us hl => match us, hl with | [_, _], _ => rfl
  have g__law_restless := He.glo_ok X G (c.fact 14 (f := .glo "_law_restless") rfl)
  obtain ⟨fd__law_row_refused, F__law_row_refused⟩ := c.def_ 15 (d := ⟨("_law_row_refused", none), "_law_row_refused", "_law_row_refused", defArgs s__law_row_refused, defBody s__law_row_refused, defScope s__law_row_refused, [], []⟩) rfl
  have U__law_row_refused := fun_of (st := s__law_row_refused) F__law_row_refused
  have b__law_row_refused := U__law_row_refused.binds (ps := ["row", "most"]) fun _ _ _ _ _ _ us hl => match us, hl with | [_, _], _ => rfl
  have g__law_row_refused := He.glo_ok X G (c.fact 15 (f := .glo "_law_row_refused") rfl)
  obtain ⟨fd__law_standing, F__law_standing⟩ := c.def_ 16 (d := ⟨("_law_standing", none), "_law_standing", "_law_standing", defArgs s__law_standing, defBody s__law_standing, defScope s__law_standing, [], []⟩) rfl
  have U__law_standing := fun_of (st := s__law_standing) F__law_standing
  have b__law_standing := U__law_standing.binds (ps := ["script", "plan"]) fun _ _ _ _ _ _ us hl => match us, hl with | [_, _], _ => rfl
  have g__law_standing := He.glo_ok X G (c.fact 16 (f := .glo "_law_standing") rfl)
  obtain ⟨fd__law_start_told, F__law_start_told⟩ := c.def_ 17 (d := ⟨("_law_start_told", none), "_law_start_told", "_law_start_told", defArgs s__law_start_told, defBody s__law_start_told, defScope s__law_start_told, [], []⟩) rfl
  have U__law_start_told := fun_of (st := s__law_start_told) F__law_start_told
  have b__law_start_told := U__law_start_told.binds (ps := ["sizes", "strengths"]) fun _ _ _ _ _ _ us hl => match us, hl with | [_, _], _ => rfl
  have g__law_start_told := He.glo_ok X G (c.fact 17 (f := .glo "_law_start_told") rfl)
  obtain ⟨fd__law_strengths, F__law_strengths⟩ := c.def_ 18 (d := ⟨("_law_strengths", none), "_law_strengths", "_law_strengths", defArgs s__law_strengths, defBody s__law_strengths, defScope s__law_strengths, [], []⟩) rfl
  have U__law_strengths := fun_of (st := s__law_strengths) F__law_strengths
  have b__law_strengths := U__law_strengths.binds (ps := ["cell", "sizes"]) fun _ _ _ _ _ _ us hl => match us, hl with | [_, _], _ => rfl
  have g__law_strengths := He.glo_ok X G (c.fact 18 (f := .glo "_law_strengths") rfl)
  obtain ⟨fd__law_strongest, F__law_strongest⟩ := c.def_ 19 (d := ⟨("_law_strongest", none), "_law_strongest", "_law_strongest", defArgs s__law_strongest, defBody s__law_strongest, defScope s__law_strongest, [], []⟩) rfl
  have U__law_strongest := fun_of (st := s__law_strongest) F__law_strongest
  have b__law_strongest := U__law_strongest.binds (ps := ["strengths"]) fun _ _ _ _ _ _ us hl => match us, hl with | [_], _ => rfl
  have g__law_strongest := He.glo_ok X G (c.fact 19 (f := .glo "_law_strongest") rfl)
  obtain ⟨fd__law_way, F__law_way⟩ := c.def_ 20 (d := ⟨("_law_way", none), "_law_way", "_law_way", defArgs s__law_way, defBody s__law_way, defScope s__law_way, [], []⟩) rfl
  have U__law_way := fun_of (st := s__law_way) F__law_way
  have b__law_way := U__law_way.binds (ps := ["cell", "free", "many", "most", "sizes", "strengths"]) fun _ _ _ _ _ _ us hl => match us, hl with | [_, _, _, _, _, _], _ => rfl
  have g__law_way := He.glo_ok X G (c.fact 20 (f := .glo "_law_way") rfl)
  obtain ⟨fd__law_woken, F__law_woken⟩ := c.def_ 21 (d := ⟨("_law_woken", none), "_law_woken", "_law_woken", defArgs s__law_woken, defBody s__law_woken, defScope s__law_woken, [], []⟩) rfl
  have U__law_woken := fun_of (st := s__law_woken) F__law_woken
  have b__law_woken := U__law_woken.binds (ps := ["sizes", "strengths", "places"]) fun _ _ _ _ _ _ us hl => match us, hl with | [_, _, _], _ => rfl
  have g__law_woken := He.glo_ok X G (c.fact 21 (f := .glo "_law_woken") rfl)
  obtain ⟨fd__lord_of, F__lord_of⟩ := c.def_ 22 (d := ⟨("_lord_of", none), "_lord_of", "_lord_of", defArgs s__lord_of, defBody s__lord_of, defScope s__lord_of, [], []⟩) rfl
  have U__lord_of := fun_of (st := s__lord_of) F__lord_of
  have b__lord_of := U__lord_of.binds (ps := ["beads", "place"]) fun _ _ _ _ _ _ us hl => match us, hl with | [_, _], _ => rfl
  have g__lord_of := He.glo_ok X G (c.fact 22 (f := .glo "_lord_of") rfl)
  obtain ⟨fd_arc_length, F_arc_length⟩ := c.def_ 23 (d := ⟨("arc_length", none), "arc_length", "arc_length", defArgs s_arc_length, defBody s_arc_length, defScope s_arc_length, [], []⟩) rfl
  have U_arc_length := fun_of (st := s_arc_length) F_arc_length
  have b_arc_length := U_arc_length.binds (ps := ["beads", "cut"]) fun _ _ _ _ _ _ us hl => match us, hl with | [_, _], _ => rfl
  have g_arc_length := He.glo_ok X G (c.fact 23 (f := .glo "arc_length") rfl)
  obtain ⟨fd_changed, F_changed⟩ := c.def_ 24 (d := ⟨("changed", none), "changed", "changed", defArgs s_changed, defBody s_changed, defScope s_changed, [], []⟩) rfl
  have U_changed := fun_of (st := s_changed) F_changed
  have b_changed := U_changed.binds (ps := ["beads", "changes"]) fun _ _ _ _ _ _ us hl => match us, hl with | [_, _], _ => rfl
  have g_changed := He.glo_ok X G (c.fact 24 (f := .glo "changed") rfl)
  obtain ⟨fd_changes_at, F_changes_at⟩ := c.def_ 25 (d := ⟨("changes_at", none), "changes_at", "changes_at", defArgs s_changes_at, defBody s_changes_at, defScope s_changes_at, [], []⟩) rfl
  have U_changes_at := fun_of (st := s_changes_at) F_changes_at
  have b_changes_at := U_changes_at.binds (ps := ["strengths", "handful", "tell"]) fun _ _ _ _ _ _ us hl => match us, hl with | [_, _, _], _ => rfl
  have g_changes_at := He.glo_ok X G (c.fact 25 (f := .glo "changes_at") rfl)
  obtain ⟨fd_changes_of, F_changes_of⟩ := c.def_ 26 (d := ⟨("changes_of", none), "changes_of", "changes_of", defArgs s_changes_of, defBody s_changes_of, defScope s_changes_of, [], []⟩) rfl
  have U_changes_of := fun_of (st := s_changes_of) F_changes_of
  have b_changes_of := U_changes_of.binds (ps := ["beads", "handful"]) fun _ _ _ _ _ _ us hl => match us, hl with | [_, _], _ => rfl
  have g_changes_of := He.glo_ok X G (c.fact 26 (f := .glo "changes_of") rfl)
  obtain ⟨fd_check_handful, F_check_handful⟩ := c.def_ 27 (d := ⟨("check_handful", none), "check_handful", "check_handful", defArgs s_check_handful, defBody s_check_handful, defScope s_check_handful, [], []⟩) rfl
  have U_check_handful := fun_of (st := s_check_handful) F_check_handful
  have b_check_handful := U_check_handful.binds (ps := ["many", "handful"]) fun _ _ _ _ _ _ us hl => match us, hl with | [_, _], _ => rfl
  have g_check_handful := He.glo_ok X G (c.fact 27 (f := .glo "check_handful") rfl)
  obtain ⟨fd_check_place, F_check_place⟩ := c.def_ 28 (d := ⟨("check_place", none), "check_place", "check_place", defArgs s_check_place, defBody s_check_place, defScope s_check_place, [], []⟩) rfl
  have U_check_place := fun_of (st := s_check_place) F_check_place
  have b_check_place := U_check_place.binds (ps := ["many", "place"]) fun _ _ _ _ _ _ us hl => match us, hl with | [_, _], _ => rfl
  have g_check_place := He.glo_ok X G (c.fact 28 (f := .glo "check_place") rfl)
  obtain ⟨fd_check_rest, F_check_rest⟩ := c.def_ 29 (d := ⟨("check_rest", none), "check_rest", "check_rest", defArgs s_check_rest, defBody s_check_rest, defScope s_check_rest, [], []⟩) rfl
  have U_check_rest := fun_of (st := s_check_rest) F_check_rest
  have b_check_rest := U_check_rest.binds (ps := ["beads"]) fun _ _ _ _ _ _ us hl => match us, hl with | [_], _ => rfl
  have g_check_rest := He.glo_ok X G (c.fact 29 (f := .glo "check_rest") rfl)
  obtain ⟨fd_check_ring, F_check_ring⟩ := c.def_ 30 (d := ⟨("check_ring", none), "check_ring", "check_ring", defArgs s_check_ring, defBody s_check_ring, defScope s_check_ring, [], []⟩) rfl
  have U_check_ring := fun_of (st := s_check_ring) F_check_ring
  have b_check_ring := U_check_ring.binds (ps := ["beads"]) fun _ _ _ _ _ _ us hl => match us, hl with | [_], _ => rfl
  have g_check_ring := He.glo_ok X G (c.fact 30 (f := .glo "check_ring") rfl)
  obtain ⟨fd_common_arc, F_common_arc⟩ := c.def_ 31 (d := ⟨("common_arc", none), "common_arc", "common_arc", defArgs s_common_arc, defBody s_common_arc, defScope s_common_arc, [], []⟩) rfl
  have U_common_arc := fun_of (st := s_common_arc) F_common_arc
  have b_common_arc := U_common_arc.binds (ps := ["beads", "cut"]) fun _ _ _ _ _ _ us hl => match us, hl with | [_, _], _ => rfl
  have g_common_arc := He.glo_ok X G (c.fact 31 (f := .glo "common_arc") rfl)
  obtain ⟨fd_compare_tallies, F_compare_tallies⟩ := c.def_ 32 (d := ⟨("compare_tallies", none), "compare_tallies", "compare_tallies", defArgs s_compare_tallies, defBody s_compare_tallies, defScope s_compare_tallies, [], []⟩) rfl
  have U_compare_tallies := fun_of (st := s_compare_tallies) F_compare_tallies
  have b_compare_tallies := U_compare_tallies.binds (ps := ["one", "other"]) fun _ _ _ _ _ _ us hl => match us, hl with | [_, _], _ => rfl
  have g_compare_tallies := He.glo_ok X G (c.fact 32 (f := .glo "compare_tallies") rfl)
  obtain ⟨fd_is_ascending, F_is_ascending⟩ := c.def_ 33 (d := ⟨("is_ascending", none), "is_ascending", "is_ascending", defArgs s_is_ascending, defBody s_is_ascending, defScope s_is_ascending, [], []⟩) rfl
  have U_is_ascending := fun_of (st := s_is_ascending) F_is_ascending
  have b_is_ascending := U_is_ascending.binds (ps := ["cut", "many"]) fun _ _ _ _ _ _ us hl => match us, hl with | [_, _], _ => rfl
  have g_is_ascending := He.glo_ok X G (c.fact 33 (f := .glo "is_ascending") rfl)
  obtain ⟨fd_law, F_law⟩ := c.def_ 34 (d := ⟨("law", none), "law", "law", defArgs s_law, defBody s_law, defScope s_law, [], []⟩) rfl
  have U_law := fun_of (st := s_law) F_law
  have b_law := U_law.binds (ps := ["script"]) fun _ _ _ _ _ _ us hl => match us, hl with | [_], _ => rfl
  have g_law := He.glo_ok X G (c.fact 34 (f := .glo "law") rfl)
  obtain ⟨fd_leaders_of, F_leaders_of⟩ := c.def_ 35 (d := ⟨("leaders_of", none), "leaders_of", "leaders_of", defArgs s_leaders_of, defBody s_leaders_of, defScope s_leaders_of, [], []⟩) rfl
  have U_leaders_of := fun_of (st := s_leaders_of) F_leaders_of
  have b_leaders_of := U_leaders_of.binds (ps := ["beads"]) fun _ _ _ _ _ _ us hl => match us, hl with | [_], _ => rfl
  have g_leaders_of := He.glo_ok X G (c.fact 35 (f := .glo "leaders_of") rfl)
  obtain ⟨fd_lords_of, F_lords_of⟩ := c.def_ 36 (d := ⟨("lords_of", none), "lords_of", "lords_of", defArgs s_lords_of, defBody s_lords_of, defScope s_lords_of, [], []⟩) rfl
  have U_lords_of := fun_of (st := s_lords_of) F_lords_of
  have b_lords_of := U_lords_of.binds (ps := ["beads"]) fun _ _ _ _ _ _ us hl => match us, hl with | [_], _ => rfl
  have g_lords_of := He.glo_ok X G (c.fact 36 (f := .glo "lords_of") rfl)
  obtain ⟨fd_offsets_of, F_offsets_of⟩ := c.def_ 37 (d := ⟨("offsets_of", none), "offsets_of", "offsets_of", defArgs s_offsets_of, defBody s_offsets_of, defScope s_offsets_of, [], []⟩) rfl
  have U_offsets_of := fun_of (st := s_offsets_of) F_offsets_of
  have b_offsets_of := U_offsets_of.binds (ps := ["lengths"]) fun _ _ _ _ _ _ us hl => match us, hl with | [_], _ => rfl
  have g_offsets_of := He.glo_ok X G (c.fact 37 (f := .glo "offsets_of") rfl)
  obtain ⟨fd_reach_of, F_reach_of⟩ := c.def_ 38 (d := ⟨("reach_of", none), "reach_of", "reach_of", defArgs s_reach_of, defBody s_reach_of, defScope s_reach_of, [], []⟩) rfl
  have U_reach_of := fun_of (st := s_reach_of) F_reach_of
  have b_reach_of := U_reach_of.binds (ps := ["beads", "place"]) fun _ _ _ _ _ _ us hl => match us, hl with | [_, _], _ => rfl
  have g_reach_of := He.glo_ok X G (c.fact 38 (f := .glo "reach_of") rfl)
  obtain ⟨fd_reaches, F_reaches⟩ := c.def_ 39 (d := ⟨("reaches", none), "reaches", "reaches", defArgs s_reaches, defBody s_reaches, defScope s_reaches, [], []⟩) rfl
  have U_reaches := fun_of (st := s_reaches) F_reaches
  have b_reaches := U_reaches.binds (ps := ["beads"]) fun _ _ _ _ _ _ us hl => match us, hl with | [_], _ => rfl
  have g_reaches := He.glo_ok X G (c.fact 39 (f := .glo "reaches") rfl)
  obtain ⟨fd_resting_cut, F_resting_cut⟩ := c.def_ 40 (d := ⟨("resting_cut", none), "resting_cut", "resting_cut", defArgs s_resting_cut, defBody s_resting_cut, defScope s_resting_cut, [], []⟩) rfl
  have U_resting_cut := fun_of (st := s_resting_cut) F_resting_cut
  have b_resting_cut := U_resting_cut.binds (ps := ["beads"]) fun _ _ _ _ _ _ us hl => match us, hl with | [_], _ => rfl
  have g_resting_cut := He.glo_ok X G (c.fact 40 (f := .glo "resting_cut") rfl)
  obtain ⟨fd_restless, F_restless⟩ := c.def_ 41 (d := ⟨("restless", none), "restless", "restless", defArgs s_restless, defBody s_restless, defScope s_restless, [], []⟩) rfl
  have U_restless := fun_of (st := s_restless) F_restless
  have b_restless := U_restless.binds (ps := ["beads"]) fun _ _ _ _ _ _ us hl => match us, hl with | [_], _ => rfl
  have g_restless := He.glo_ok X G (c.fact 41 (f := .glo "restless") rfl)
  obtain ⟨fd_run_after, F_run_after⟩ := c.def_ 42 (d := ⟨("run_after", none), "run_after", "run_after", defArgs s_run_after, defBody s_run_after, defScope s_run_after, [], []⟩) rfl
  have U_run_after := fun_of (st := s_run_after) F_run_after
  have b_run_after := U_run_after.binds (ps := ["beads", "place"]) fun _ _ _ _ _ _ us hl => match us, hl with | [_, _], _ => rfl
  have g_run_after := He.glo_ok X G (c.fact 42 (f := .glo "run_after") rfl)
  obtain ⟨fd_strengths_after, F_strengths_after⟩ := c.def_ 43 (d := ⟨("strengths_after", none), "strengths_after", "strengths_after", defArgs s_strengths_after, defBody s_strengths_after, defScope s_strengths_after, [], []⟩) rfl
  have U_strengths_after := fun_of (st := s_strengths_after) F_strengths_after
  have b_strengths_after := U_strengths_after.binds (ps := ["strengths", "changes"]) fun _ _ _ _ _ _ us hl => match us, hl with | [_, _], _ => rfl
  have g_strengths_after := He.glo_ok X G (c.fact 43 (f := .glo "strengths_after") rfl)
  obtain ⟨fd_tally_at, F_tally_at⟩ := c.def_ 44 (d := ⟨("tally_at", none), "tally_at", "tally_at", defArgs s_tally_at, defBody s_tally_at, defScope s_tally_at, [], []⟩) rfl
  have U_tally_at := fun_of (st := s_tally_at) F_tally_at
  have b_tally_at := U_tally_at.binds (ps := ["strengths", "told"]) fun _ _ _ _ _ _ us hl => match us, hl with | [_, _], _ => rfl
  have g_tally_at := He.glo_ok X G (c.fact 44 (f := .glo "tally_at") rfl)
  obtain ⟨fd_tally_of, F_tally_of⟩ := c.def_ 45 (d := ⟨("tally_of", none), "tally_of", "tally_of", defArgs s_tally_of, defBody s_tally_of, defScope s_tally_of, [], []⟩) rfl
  have U_tally_of := fun_of (st := s_tally_of) F_tally_of
  have b_tally_of := U_tally_of.binds (ps := ["beads"]) fun _ _ _ _ _ _ us hl => match us, hl with | [_], _ => rfl
  have g_tally_of := He.glo_ok X G (c.fact 45 (f := .glo "tally_of") rfl)
  obtain ⟨fd_train_of, F_train_of⟩ := c.def_ 46 (d := ⟨("train_of", none), "train_of", "train_of", defArgs s_train_of, defBody s_train_of, defScope s_train_of, [], []⟩) rfl
  have U_train_of := fun_of (st := s_train_of) F_train_of
  have b_train_of := U_train_of.binds (ps := ["beads", "place"]) fun _ _ _ _ _ _ us hl => match us, hl with | [_, _], _ => rfl
  have g_train_of := He.glo_ok X G (c.fact 46 (f := .glo "train_of") rfl)
  obtain ⟨fd_wake, F_wake⟩ := c.def_ 47 (d := ⟨("wake", none), "wake", "wake", defArgs s_wake, defBody s_wake, defScope s_wake, [], []⟩) rfl
  have U_wake := fun_of (st := s_wake) F_wake
  have b_wake := U_wake.binds (ps := ["beads", "handful"]) fun _ _ _ _ _ _ us hl => match us, hl with | [_, _], _ => rfl
  have g_wake := He.glo_ok X G (c.fact 47 (f := .glo "wake") rfl)
  obtain ⟨fd__check_beads, F__check_beads⟩ := c.def_ 48 (d := ⟨("_check_beads", none), "_check_beads", "_check_beads", defArgs s__check_beads, defBody s__check_beads, defScope s__check_beads, [], []⟩) rfl
  have U__check_beads := fun_of (st := s__check_beads) F__check_beads
  have b__check_beads := U__check_beads.binds (ps := ["strengths", "lengths"]) fun _ _ _ _ _ _ us hl => match us, hl with | [_, _], _ => rfl
  have g__check_beads := He.glo_ok X G (c.fact 48 (f := .glo "_check_beads") rfl)
  obtain ⟨fd_least_arc, F_least_arc⟩ := c.def_ 49 (d := ⟨("least_arc", none), "least_arc", "least_arc", defArgs s_least_arc, defBody s_least_arc, defScope s_least_arc, [], [("hand", .int 1)]⟩) rfl
  have g_least_arc := He.glo_ok X G (c.fact 49 (f := .glo "least_arc") rfl)
  obtain ⟨fd_Beads_init, F_Beads_init⟩ := c.def_ 50 (d := ⟨("Beads", some "__init__"), "__init__", "Beads.__init__", defArgs s_Beads_init, defBody s_Beads_init, defScope s_Beads_init, [.non], [("ring", .bl true)]⟩) rfl
  obtain ⟨fd_Beads_len, F_Beads_len⟩ := c.def_ 51 (d := ⟨("Beads", some "__len__"), "__len__", "Beads.__len__", defArgs s_Beads_len, defBody s_Beads_len, defScope s_Beads_len, [], []⟩) rfl
  have U_Beads_len := fun_of (st := s_Beads_len) F_Beads_len
  have b_Beads_len := U_Beads_len.binds (ps := ["self"]) fun _ _ _ _ _ _ us hl => match us, hl with | [_], _ => rfl
  obtain ⟨fd_Beads_total, F_Beads_total⟩ := c.def_ 52 (d := ⟨("Beads", some "total"), "total", "Beads.total", defArgs s_Beads_total, defBody s_Beads_total, defScope s_Beads_total, [], []⟩) rfl
  have U_Beads_total := fun_of (st := s_Beads_total) F_Beads_total
  have b_Beads_total := U_Beads_total.binds (ps := ["self"]) fun _ _ _ _ _ _ us hl => match us, hl with | [_], _ => rfl
  obtain ⟨fd_Beads_greatest, F_Beads_greatest⟩ := c.def_ 53 (d := ⟨("Beads", some "greatest"), "greatest", "Beads.greatest", defArgs s_Beads_greatest, defBody s_Beads_greatest, defScope s_Beads_greatest, [], []⟩) rfl
  have U_Beads_greatest := fun_of (st := s_Beads_greatest) F_Beads_greatest
  have b_Beads_greatest := U_Beads_greatest.binds (ps := ["self"]) fun _ _ _ _ _ _ us hl => match us, hl with | [_], _ => rfl
  obtain ⟨fd_BadPlace_init, F_BadPlace_init⟩ := c.def_ 54 (d := ⟨("BadPlace", some "__init__"), "__init__", "BadPlace.__init__", defArgs s_BadPlace_init, defBody s_BadPlace_init, defScope s_BadPlace_init, [], []⟩) rfl
  have U_BadPlace_init := fun_of (st := s_BadPlace_init) F_BadPlace_init
  have b_BadPlace_init := U_BadPlace_init.binds (ps := ["self", "place"]) fun _ _ _ _ _ _ us hl => match us, hl with | [_, _], _ => rfl
  obtain ⟨fd_WrongKind_init, F_WrongKind_init⟩ := c.def_ 55 (d := ⟨("WrongKind", some "__init__"), "__init__", "WrongKind.__init__", defArgs s_WrongKind_init, defBody s_WrongKind_init, defScope s_WrongKind_init, [], []⟩) rfl
  have U_WrongKind_init := fun_of (st := s_WrongKind_init) F_WrongKind_init
  have b_WrongKind_init := U_WrongKind_init.binds (ps := ["self", "ring"]) fun _ _ _ _ _ _ us hl => match us, hl with | [_, _], _ => rfl
  obtain ⟨fd_BadCut_init, F_BadCut_init⟩ := c.def_ 56 (d := ⟨("BadCut", some "__init__"), "__init__", "BadCut.__init__", defArgs s_BadCut_init, defBody s_BadCut_init, defScope s_BadCut_init, [], []⟩) rfl
  have U_BadCut_init := fun_of (st := s_BadCut_init) F_BadCut_init
  have b_BadCut_init := U_BadCut_init.binds (ps := ["self", "cut"]) fun _ _ _ _ _ _ us hl => match us, hl with | [_, _], _ => rfl
  obtain ⟨fd_NotAtRest_init, F_NotAtRest_init⟩ := c.def_ 57 (d := ⟨("NotAtRest", some "__init__"), "__init__", "NotAtRest.__init__", defArgs s_NotAtRest_init, defBody s_NotAtRest_init, defScope s_NotAtRest_init, [], []⟩) rfl
  have U_NotAtRest_init := fun_of (st := s_NotAtRest_init) F_NotAtRest_init
  have b_NotAtRest_init := U_NotAtRest_init.binds (ps := ["self", "place"]) fun _ _ _ _ _ _ us hl => match us, hl with | [_, _], _ => rfl
  obtain ⟨its, mv, kb⟩ := FunD.kbinds (ps := ["self", "strengths", "lengths", "ring"]) F_Beads_init 3 ["ring"] [] (fun us its mv ws => us ++ ws) (by simp [DefD.dvs]) (by simp [DefD.kws]) (fun q h => by cases h) (fun r1 r2 r3 r4 => r1.append r4)
    (fun T D doc pm an cdv ct us its mv ws h1 h2 h3 h4 => match us, its, mv, ws, h1, h2, h3, h4 with | [_, _, _], [_], [], [_], _, _, _, _ => ⟨_, rfl, rfl⟩)
  obtain ⟨its0, mv0, kb0⟩ := FunD.kbinds (ps := ["self", "strengths", "lengths", "ring"]) F_Beads_init 3 [] [("ring", He.Dv.v K (.bl true))] (fun us its mv ws => us ++ (mv ++ ws)) (by simp [DefD.dvs]) (by simp [DefD.kws]) (fun q h => h) (fun r1 r2 r3 r4 => r1.append (r3.append r4))
    (fun T D doc pm an cdv ct us its mv ws h1 h2 h3 h4 => match us, its, mv, ws, h1, h2, h3, h4 with | [_, _, _], [_], [_], [], _, _, _, _ => ⟨_, rfl, ⟨_, _, _, _, _, _, rfl, rfl, rfl⟩⟩)
  obtain ⟨mvw0, kbw0⟩ := FunD.kbinds0 (ps := ["beads", "hand"]) F_least_arc 1 [] [("hand", He.Dv.v K (.int 1))] (fun us mv ws => us ++ mv ++ ws) (by simp [DefD.kws]) (fun q h => h) (fun r1 r2 r3 => (r1.append r2).append r3)
    (fun D doc pm an cdv ct us mv ws h1 h2 h3 => match us, mv, ws, h1, h2, h3 with | [_], [_], [], _, _, _ => ⟨_, _, _, _, _, _, rfl, rfl, rfl⟩)
  obtain ⟨mvw1, kbw1⟩ := FunD.kbinds0 (ps := ["beads", "hand"]) F_least_arc 1 ["hand"] [] (fun us mv ws => us ++ ws) (by simp [DefD.kws]) (fun q h => by cases h) (fun r1 r2 r3 => r1.append r3)
    (fun D doc pm an cdv ct us mv ws h1 h2 h3 => match us, mv, ws, h1, h2, h3 with | [_], [], [_], _, _, _ => rfl)
  have eL := hfa.symm.trans g_law
  cases eL
  have A0 : ∃ A : Ad, A = { Beads := ga K "Beads", BadPlace := ga K "BadPlace", WrongKind := ga K "WrongKind", BadCut := ga K "BadCut", NotAtRest := ga K "NotAtRest", RetinueError := ga K "RetinueError", NotSettled := ga K "NotSettled" } := ⟨_, rfl⟩
  obtain ⟨A, hA⟩ := A0
  have T : Txt K mg A := by
    subst hA
    exact {
      m_len := He.free_ok X G (c.fact 50 (f := .free "len") rfl)
      m_int := He.free_ok X G (c.fact 51 (f := .free "int") rfl)
      m_bool := He.free_ok X G (c.fact 52 (f := .free "bool") rfl)
      m_tuple := He.free_ok X G (c.fact 53 (f := .free "tuple") rfl)
      m_list := He.free_ok X G (c.fact 54 (f := .free "list") rfl)
      m_range := He.free_ok X G (c.fact 55 (f := .free "range") rfl)
      m_isinstance := He.free_ok X G (c.fact 56 (f := .free "isinstance") rfl)
      m_sum := He.free_ok X G (c.fact 57 (f := .free "sum") rfl)
      m_enumerate := He.free_ok X G (c.fact 58 (f := .free "enumerate") rfl)
      m_max := He.free_ok X G (c.fact 59 (f := .free "max") rfl)
      m_min := He.free_ok X G (c.fact 60 (f := .free "min") rfl)
      m_set := He.free_ok X G (c.fact 61 (f := .free "set") rfl)
      m_sorted := He.free_ok X G (c.fact 62 (f := .free "sorted") rfl)
      m_reversed := He.free_ok X G (c.fact 63 (f := .free "reversed") rfl)
      m_ValueError := He.free_ok X G (c.fact 64 (f := .free "ValueError") rfl)
      m_all := He.free_ok X G (c.fact 65 (f := .free "all") rfl)
      m_zip := He.free_ok X G (c.fact 66 (f := .free "zip") rfl)
      m_iter := He.free_ok X G (c.fact 67 (f := .free "iter") rfl)
      g_Beads := He.glo_ok X G (c.fact 68 (f := .glo "Beads") rfl)
      g_BadPlace := He.glo_ok X G (c.fact 69 (f := .glo "BadPlace") rfl)
      g_WrongKind := He.glo_ok X G (c.fact 70 (f := .glo "WrongKind") rfl)
      g_BadCut := He.glo_ok X G (c.fact 71 (f := .glo "BadCut") rfl)
      g_NotAtRest := He.glo_ok X G (c.fact 72 (f := .glo "NotAtRest") rfl)
      g_RetinueError := He.glo_ok X G (c.fact 73 (f := .glo "RetinueError") rfl)
      g_NotSettled := He.glo_ok X G (c.fact 74 (f := .glo "NotSettled") rfl)
      cl := He.cls_ok (c.fact 75 (f := .cls "Beads") rfl)
      nS := He.noat_ok (c.fact 76 (f := .noat "Beads" "strengths") rfl)
      nL := He.noat_ok (c.fact 77 (f := .noat "Beads" "lengths") rfl)
      nR := He.noat_ok (c.fact 78 (f := .noat "Beads" "ring") rfl)
      oBP := E_BadPlace.o
      no_BadPlace_place := E_BadPlace.no
      x_BadPlace := E_BadPlace.xf
      eBP := He.exm_ok (c.fact 79 (f := .exm "BadPlace" "BadPlace" true) rfl)
      oWK := E_WrongKind.o
      no_WrongKind_ring := E_WrongKind.no
      x_WrongKind := E_WrongKind.xf
      eWK := He.exm_ok (c.fact 80 (f := .exm "WrongKind" "WrongKind" true) rfl)
      oBC := E_BadCut.o
      no_BadCut_cut := E_BadCut.no
      x_BadCut := E_BadCut.xf
      eBC := He.exm_ok (c.fact 81 (f := .exm "BadCut" "BadCut" true) rfl)
      oNR := E_NotAtRest.o
      no_NotAtRest_place := E_NotAtRest.no
      x_NotAtRest := E_NotAtRest.xf
      eNR := He.exm_ok (c.fact 82 (f := .exm "NotAtRest" "NotAtRest" true) rfl)
      xm_WrongKind_NotAtRest := He.exm_ok (c.fact 83 (f := .exm "WrongKind" "NotAtRest" false) rfl)
      iB1 := i1
      iB2 := i2
      iB3 := i3
      iB4 := i4
      iB5 := i5
      nW := True.intro
      xc_WrongKind := isxB_ok mE4
      xc_NotAtRest := isxB_ok mE5
      xk_WrongKind_BadPlace := of_decide_eq_true mE6
      xk_WrongKind_NotAtRest := of_decide_eq_true mE7
      xk_WrongKind_RetinueError := of_decide_eq_true mE8
      xk_WrongKind_ValueError := of_decide_eq_true mE9
      xk_NotAtRest_BadPlace := of_decide_eq_true mE10
      xk_NotAtRest_NotSettled := of_decide_eq_true mE11
      xk_NotAtRest_RetinueError := of_decide_eq_true mE12
      xk_NotAtRest_ValueError := of_decide_eq_true mE13 }
  have ML_len := He.meth_ok (c.fact 84 (f := .meth "Beads" "__len__") rfl)
  have ML_total := He.meth_ok (c.fact 85 (f := .meth "Beads" "total") rfl)
  have ML_greatest := He.meth_ok (c.fact 86 (f := .meth "Beads" "greatest") rfl)
  have MK := He.mkr_ok (c.fact 87 (f := .mkr "Beads") rfl)
  refine ⟨_, fun s v => FunD.bindsA (ps := ["script"]) F_law (fun _ _ _ _ _ _ us hl => match us, hl with | [_], _ => rfl) s [v] rfl, fun base hKb hGb TB0 => ?_⟩
  have eA_Beads : A.Beads = ga K "Beads" := by rw [hA]
  have eA_BadPlace : A.BadPlace = ga K "BadPlace" := by rw [hA]
  have eA_WrongKind : A.WrongKind = ga K "WrongKind" := by rw [hA]
  have eA_BadCut : A.BadCut = ga K "BadCut" := by rw [hA]
  have eA_NotAtRest : A.NotAtRest = ga K "NotAtRest" := by rw [hA]
  have eA_RetinueError : A.RetinueError = ga K "RetinueError" := by rw [hA]
  have eA_NotSettled : A.NotSettled = ga K "NotSettled" := by rw [hA]
  have X_BadPlace : ExcDef P w K mg base "BadPlace" A.BadPlace "place" := by
    have o := ok_BadPlace (P := P) (w := w) (mg := mg) (base := base) (A := A) U_BadPlace_init
    rw [eA_BadPlace] at o ⊢
    exact ⟨_, fd_BadPlace_init, E_BadPlace.o, E_BadPlace.i, E_BadPlace.t, o, b_BadPlace_init, He.glo_ok X G (c.fact 69 (f := .glo "BadPlace") rfl), E_BadPlace.no⟩
  have X_WrongKind : ExcDef P w K mg base "WrongKind" A.WrongKind "ring" := by
    have o := ok_WrongKind (P := P) (w := w) (mg := mg) (base := base) (A := A) U_WrongKind_init
    rw [eA_WrongKind] at o ⊢
    exact ⟨_, fd_WrongKind_init, E_WrongKind.o, E_WrongKind.i, E_WrongKind.t, o, b_WrongKind_init, He.glo_ok X G (c.fact 70 (f := .glo "WrongKind") rfl), E_WrongKind.no⟩
  have X_BadCut : ExcDef P w K mg base "BadCut" A.BadCut "cut" := by
    have o := ok_BadCut (P := P) (w := w) (mg := mg) (base := base) (A := A) U_BadCut_init
    rw [eA_BadCut] at o ⊢
    exact ⟨_, fd_BadCut_init, E_BadCut.o, E_BadCut.i, E_BadCut.t, o, b_BadCut_init, He.glo_ok X G (c.fact 71 (f := .glo "BadCut") rfl), E_BadCut.no⟩
  have X_NotAtRest : ExcDef P w K mg base "NotAtRest" A.NotAtRest "place" := by
    have o := ok_NotAtRest (P := P) (w := w) (mg := mg) (base := base) (A := A) U_NotAtRest_init
    rw [eA_NotAtRest] at o ⊢
    exact ⟨_, fd_NotAtRest_init, E_NotAtRest.o, E_NotAtRest.i, E_NotAtRest.t, o, b_NotAtRest_init, He.glo_ok X G (c.fact 72 (f := .glo "NotAtRest") rfl), E_NotAtRest.no⟩
  have LN : LenD P w K mg base A.Beads (spLen A) := by
    rw [eA_Beads]
    exact ⟨_, fd_Beads_len, ⟨ML_len.at_, ML_len.fn⟩, ok_len U_Beads_len T, b_Beads_len⟩
  have D16 : DefOk P w K mg base CX0 1 "_check_beads" ["strengths", "lengths"] spChk := defOk g__check_beads U__check_beads (ok_chk U__check_beads T) b__check_beads
  have o := FnOk.or (ok_init (P := P) (w := w) (base := base) F_Beads_init T D16) (FnOk.or (ok_initT (P := P) (w := w) (base := base) F_Beads_init T D16) (ok_initM (P := P) (w := w) (base := base) F_Beads_init T D16))
  have MKB : CtorD P w K mg base CX0 2 "Beads" A.Beads 2 ["ring"] gBeads (spNew K A) := by
    have g := T.g_Beads
    rw [eA_Beads] at g ⊢
    exact ⟨_, fd_Beads_init, _, _, g, MK, o, kb⟩
  have MKB0 : CtorD P w K mg base CX0 2 "Beads" A.Beads 2 [] gBeads0 (spNew K A) := by
    have g := T.g_Beads
    rw [eA_Beads] at g ⊢
    exact ⟨_, fd_Beads_init, _, _, g, MK, o, kb0⟩
  have MEt : MethD P w K mg base CX0 1 A.Beads "total" ["self"] (spTotal A) := by
    have c := T.cl
    rw [eA_Beads] at c ⊢
    exact ⟨c, _, fd_Beads_total, ML_total, ok_total U_Beads_total T, b_Beads_total⟩
  have MEg : MethD P w K mg base CX0 1 A.Beads "greatest" ["self"] (spGreat A) := by
    have c := T.cl
    rw [eA_Beads] at c ⊢
    exact ⟨c, _, fd_Beads_greatest, ML_greatest, ok_great U_Beads_greatest T, b_Beads_greatest⟩
  have E1_law_cell : DefOk P w K mg base CX0 1 "_law_cell" ["script", "k"] (spCell K) := defOk g__law_cell U__law_cell ((ok_cell (P := P) (w := w) (base := base) U__law_cell T).mono (by decide)) b__law_cell
  have E2_law_draws : DefOk P w K mg base CX0 1 "_law_draws" ["cell", "sizes"] (spDraws K) := defOk g__law_draws U__law_draws ((ok_draws (P := P) (w := w) (base := base) U__law_draws T).mono (by decide)) b__law_draws
  have E4_law_lengths : DefOk P w K mg base CX0 2 "_law_lengths" ["cell", "many"] spLengths := defOk g__law_lengths U__law_lengths ((ok_lengths (P := P) (w := w) (base := base) U__law_lengths T E2_law_draws).mono (by decide)) b__law_lengths
  have E5_law_strengths : DefOk P w K mg base CX0 2 "_law_strengths" ["cell", "sizes"] (spStrengths K) := defOk g__law_strengths U__law_strengths ((ok_strengths (P := P) (w := w) (base := base) U__law_strengths T E2_law_draws).mono (by decide)) b__law_strengths
  have E3_law_standing : DefOk P w K mg base CX0 3 "_law_standing" ["script", "plan"] (spStdR K) := defOk g__law_standing U__law_standing ((ok_stdR (P := P) (w := w) (base := base) U__law_standing T E1_law_cell E4_law_lengths E5_law_strengths).mono (by decide)) b__law_standing
  have E7_check_ring : DefOk P w K mg base (L2N.CX P w) 3 "check_ring" ["beads"] (spRingX A) := defOk g_check_ring U_check_ring ((ok_ringX (P := P) (w := w) (base := base) U_check_ring T X_WrongKind).mono (by decide)) b_check_ring
  have o_ok_least := ok_least (P := P) (w := w) (base := base) F_least_arc T E7_check_ring MEt MEg
  have KW0 : DefN P w K mg base (L2N.CX P w) 4 "least_arc" 1 [] kwH0 (spLeast A) := ⟨_, _, _, _, g_least_arc, F_least_arc.kp, o_ok_least, kbw0⟩
  have E8_law_is_integer : DefOk P w K mg base CX0 1 "_law_is_integer" ["actual"] spInt := defOk g__law_is_integer U__law_is_integer ((ok_int (P := P) (w := w) (base := base) U__law_is_integer T).mono (by decide)) b__law_is_integer
  have E13_check_place : DefOk P w K mg base (L2N.CX P w) 4 "check_place" ["many", "place"] (spCheck A) := defOk g_check_place U_check_place ((ok_check (P := P) (w := w) (base := base) U_check_place T X_BadPlace).mono (by decide)) b_check_place
  have E14_run_after : DefOk P w K mg base CX0 4 "run_after" ["beads", "place"] (spRun A) := defOk g_run_after U_run_after ((ok_run (P := P) (w := w) (base := base) U_run_after T LN).mono (by decide)) b_run_after
  have E12_train_of : DefOk P w K mg base (L2N.CX P w) 5 "train_of" ["beads", "place"] (spPl A RTrain) := defOk g_train_of U_train_of ((ok_train (P := P) (w := w) (base := base) U_train_of T LN E13_check_place E14_run_after).mono (by decide)) b_train_of
  have E11_reach_of : DefOk P w K mg base (L2N.CX P w) 6 "reach_of" ["beads", "place"] (spPl A RReach) := defOk g_reach_of U_reach_of ((ok_reachOf (P := P) (w := w) (base := base) U_reach_of T E12_train_of).mono (by decide)) b_reach_of
  have E10_reaches : DefOk P w K mg base CX0 7 "reaches" ["beads"] (spReaches A) := defOk g_reaches U_reaches ((ok_reaches (P := P) (w := w) (base := base) U_reaches T LN E11_reach_of).mono (by decide)) b_reaches
  have E15_tally_at : DefOk P w K mg base CX0 1 "tally_at" ["strengths", "told"] (spTlyAt K) := defOk g_tally_at U_tally_at ((ok_tlyAt (P := P) (w := w) (base := base) U_tally_at T).mono (by decide)) b_tally_at
  have E9_tally_of : DefOk P w K mg base CX0 8 "tally_of" ["beads"] (spTlyOf A) := defOk g_tally_of U_tally_of ((ok_tlyOf (P := P) (w := w) (base := base) U_tally_of T E10_reaches E15_tally_at).mono (by decide)) b_tally_of
  have E17_law_reach : DefOk P w K mg base CX0 1 "_law_reach" ["sizes", "strengths", "place"] (spReachR K) := defOk g__law_reach U__law_reach ((ok_reachR (P := P) (w := w) (base := base) U__law_reach T).mono (by decide)) b__law_reach
  have E16_law_restless : DefOk P w K mg base CX0 2 "_law_restless" ["sizes", "strengths"] (spRestR K) := defOk g__law_restless U__law_restless ((ok_restR (P := P) (w := w) (base := base) U__law_restless T E17_law_reach).mono (by decide)) b__law_restless
  have E21_restless : DefOk P w K mg base CX0 8 "restless" ["beads"] (spRest' A rsN) := defOk g_restless U_restless ((ok_restP (P := P) (w := w) (base := base) U_restless T LN E10_reaches).mono (by decide)) b_restless
  have E20_check_rest : DefOk P w K mg base (L2N.CX P w) 9 "check_rest" ["beads"] (spRstX A) := defOk g_check_rest U_check_rest ((ok_rstX (P := P) (w := w) (base := base) U_check_rest T E21_restless X_NotAtRest).mono (by decide)) b_check_rest
  have E24_lord_of : DefOk P w K mg base CX0 4 "_lord_of" ["beads", "place"] (spLordOf A) := defOk g__lord_of U__lord_of ((ok_lordOf (P := P) (w := w) (base := base) U__lord_of T LN).mono (by decide)) b__lord_of
  have E23_lords_of : DefOk P w K mg base CX0 5 "lords_of" ["beads"] (spLords A) := defOk g_lords_of U_lords_of ((ok_lords (P := P) (w := w) (base := base) U_lords_of T LN E24_lord_of).mono (by decide)) b_lords_of
  have E22_leaders_of : DefOk P w K mg base CX0 6 "leaders_of" ["beads"] (spLeaders A) := defOk g_leaders_of U_leaders_of ((ok_leaders (P := P) (w := w) (base := base) U_leaders_of T E23_lords_of).mono (by decide)) b_leaders_of
  have E19_resting_cut : DefOk P w K mg base (L2N.CX P w) 10 "resting_cut" ["beads"] (spRestX A) := defOk g_resting_cut U_resting_cut ((ok_restX (P := P) (w := w) (base := base) U_resting_cut T E7_check_ring E20_check_rest E22_leaders_of).mono (by decide)) b_resting_cut
  have E18_law_resting : DefOk P w K mg base CX0 11 "_law_resting" ["beads"] (spRestg A) := defOk g__law_resting U__law_resting ((ok_restg (P := P) (w := w) (base := base) U__law_resting T E19_resting_cut).mono (by decide)) b__law_resting
  have E6_law_start_told : DefOk P w K mg base CX0 12 "_law_start_told" ["sizes", "strengths"] (spStartT K) := defOk g__law_start_told U__law_start_told ((ok_startT (P := P) (w := w) (base := base) U__law_start_told T MKB0 KW0 E8_law_is_integer E9_tally_of E16_law_restless E18_law_resting).mono (by decide)) b__law_start_told
  have KW1 : DefN P w K mg base (L2N.CX P w) 4 "least_arc" 1 ["hand"] kwH1 (spLeast A) := ⟨_, _, _, _, g_least_arc, F_least_arc.kp, o_ok_least, kbw1⟩
  have E26_law_bound : DefOk P w K mg base CX0 1 "_law_bound" ["sizes", "strengths", "most"] (spBnd K) := defOk g__law_bound U__law_bound ((ok_bnd (P := P) (w := w) (base := base) U__law_bound T).mono (by decide)) b__law_bound
  have E25_law_bound_told : DefOk P w K mg base CX0 5 "_law_bound_told" ["beads", "sizes", "strengths", "most"] (spBndT K A) := defOk g__law_bound_told U__law_bound_told ((ok_bndT (P := P) (w := w) (base := base) U__law_bound_told T KW1 E8_law_is_integer E26_law_bound).mono (by decide)) b__law_bound_told
  have E29_law_strongest : DefOk P w K mg base CX0 1 "_law_strongest" ["strengths"] (spStrg K) := defOk g__law_strongest U__law_strongest ((ok_strg (P := P) (w := w) (base := base) U__law_strongest T).mono (by decide)) b__law_strongest
  have E28_law_picked : DefOk P w K mg base CX0 3 "_law_picked" ["draws", "free", "sizes", "strengths"] (spPick K) := defOk g__law_picked U__law_picked ((ok_pick (P := P) (w := w) (base := base) U__law_picked T E29_law_strongest E16_law_restless).mono (by decide)) b__law_picked
  have E30_law_woken : DefOk P w K mg base CX0 2 "_law_woken" ["sizes", "strengths", "places"] (spWokenR K) := defOk g__law_woken U__law_woken ((ok_wokenR (P := P) (w := w) (base := base) U__law_woken T E17_law_reach).mono (by decide)) b__law_woken
  have E33_check_handful : DefOk P w K mg base (L2N.CX P w) 5 "check_handful" ["many", "handful"] (spChkH K A) := defOk g_check_handful U_check_handful ((ok_chkH (P := P) (w := w) (base := base) U_check_handful T E13_check_place).mono (by decide)) b_check_handful
  have E34_changes_at := givesD g_changes_at U_changes_at b_changes_at sc_changes_at rfl (Or.inl rfl) (fun cdv A0 stk q => gives_chAt (P := P) (w := w) (base := base) T cdv A0 stk q)
  have E32_changes_of : DefOk P w K mg base (L2N.CX P w) 9 "changes_of" ["beads", "handful"] (spChOf K A TL) := defOk g_changes_of U_changes_of ((ok_chOf (P := P) (w := w) (base := base) (TL := TL) U_changes_of T hcA TB0 LT LN E33_check_handful E34_changes_at E11_reach_of).mono (by decide)) b_changes_of
  have E36_strengths_after : DefOk P w K mg base CX0 1 "strengths_after" ["strengths", "changes"] (spAfter K) := defOk g_strengths_after U_strengths_after ((ok_after (P := P) (w := w) (base := base) U_strengths_after T).mono (by decide)) b_strengths_after
  have E35_changed : DefOk P w K mg base CX0 4 "changed" ["beads", "changes"] (spChanged K A) := defOk g_changed U_changed ((ok_changed (P := P) (w := w) (base := base) U_changed T E36_strengths_after MKB).mono (by decide)) b_changed
  have E31_wake : DefOk P w K mg base (L2N.CX P w) 10 "wake" ["beads", "handful"] (spWake K A TL) := defOk g_wake U_wake ((ok_wake (P := P) (w := w) (base := base) (TL := TL) U_wake T E32_changes_of E35_changed).mono (by decide)) b_wake
  have E38_law_numbers : DefOk P w K mg base CX0 2 "_law_numbers" ["actual", "due", "as_tuple"] (spNumbers K) := defOk g__law_numbers U__law_numbers ((ok_numbers (P := P) (w := w) (base := base) U__law_numbers T E8_law_is_integer).mono (by decide)) b__law_numbers
  have E37_law_is_standing : DefOk P w K mg base CX0 3 "_law_is_standing" ["actual", "round_flag", "sizes", "strengths"] (spStanding K A) := defOk g__law_is_standing U__law_is_standing ((ok_standing (P := P) (w := w) (base := base) U__law_is_standing T E38_law_numbers).mono (by decide)) b__law_is_standing
  have E39_compare_tallies : DefOk P w K mg base CX0 1 "compare_tallies" ["one", "other"] spCmpT := defOk g_compare_tallies U_compare_tallies ((ok_cmpT (P := P) (w := w) (base := base) U_compare_tallies T).mono (by decide)) b_compare_tallies
  have E27_law_way : DefOk P w K mg base CX0 11 "_law_way" ["cell", "free", "many", "most", "sizes", "strengths"] (spWay K A TL) := defOk g__law_way U__law_way ((ok_way (P := P) (w := w) (base := base) (TL := TL) U__law_way T E2_law_draws E26_law_bound MKB0 E9_tally_of E28_law_picked E30_law_woken E31_wake E37_law_is_standing E39_compare_tallies E8_law_is_integer E25_law_bound_told).mono (by decide)) b__law_way
  have E40_law_rested : DefOk P w K mg base CX0 2 "_law_rested" ["sizes", "strengths"] (spRsd K) := defOk g__law_rested U__law_rested ((ok_rsd (P := P) (w := w) (base := base) U__law_rested T E17_law_reach).mono (by decide)) b__law_rested
  have E44_is_ascending : DefOk P w K mg base CX0 1 "is_ascending" ["cut", "many"] (spAsc K) := defOk g_is_ascending U_is_ascending ((ok_asc (P := P) (w := w) (base := base) U_is_ascending T).mono (by decide)) b_is_ascending
  have E45_offsets_of : DefOk P w K mg base CX0 1 "offsets_of" ["lengths"] (spOffs K) := defOk g_offsets_of U_offsets_of ((ok_offs (P := P) (w := w) (base := base) U_offsets_of T).mono (by decide)) b_offsets_of
  have E43_common_arc : DefOk P w K mg base CX0 4 "common_arc" ["beads", "cut"] (spArcX K A) := defOk g_common_arc U_common_arc ((ok_arcX (P := P) (w := w) (base := base) U_common_arc T LN E44_is_ascending E45_offsets_of MEt).mono (by decide)) b_common_arc
  have E42_arc_length : DefOk P w K mg base (L2N.CX P w) 5 "arc_length" ["beads", "cut"] (spLenX K A) := defOk g_arc_length U_arc_length ((ok_lenX (P := P) (w := w) (base := base) U_arc_length T E7_check_ring E43_common_arc X_BadCut).mono (by decide)) b_arc_length
  have E46_law_heads : DefOk P w K mg base CX0 1 "_law_heads" ["sizes", "first", "arc"] (spHeads K) := defOk g__law_heads U__law_heads ((ok_heads (P := P) (w := w) (base := base) U__law_heads T).mono (by decide)) b__law_heads
  have E41_law_rest_told : DefOk P w K mg base CX0 12 "_law_rest_told" ["sizes", "strengths", "bound"] (spRstT K) := defOk g__law_rest_told U__law_rest_told ((ok_rstT (P := P) (w := w) (base := base) U__law_rest_told T MKB0 E29_law_strongest E18_law_resting E38_law_numbers E42_arc_length E8_law_is_integer E46_law_heads).mono (by decide)) b__law_rest_told
  have E47_law_row_refused : DefOk P w K mg base CX0 12 "_law_row_refused" ["row", "most"] (spRowB A) := defOk g__law_row_refused U__law_row_refused ((ok_rowB (P := P) (w := w) (base := base) U__law_row_refused T E18_law_resting KW1).mono (by decide)) b__law_row_refused
  exact (ok_law (P := P) (w := w) (base := base) (TL := TL) U_law T E1_law_cell E2_law_draws E3_law_standing E6_law_start_told MKB0 MKB E25_law_bound_told E27_law_way E26_law_bound E40_law_rested E41_law_rest_told E47_law_row_refused).mono (by decide)
end Rt
open PySem PySem.W PySem.Calls PyProof.Rows
set_option maxHeartbeats 0 in
theorem PySem.Challenge.cw_retinue_k58_whole_ring_comes_to_equal_ar_holds : PySem.Challenge.rw_retinue_k58_whole_ring_comes_to_equal_ar.Holds := by
  w_on; o_law
  refine HandSHeadRun.head_any (r := OpenLaw.row PySem.Challenge.rw_retinue_k58_whole_ring_comes_to_equal_ar) (q := view (OpenLaw.row PySem.Challenge.rw_retinue_k58_whole_ring_comes_to_equal_ar).prog [66]) (H := RtH.hk) (ob := RtH.ob) (M := 6000) (loose := RtH.loose) (d := HandSHeadRun.topDef (OpenLaw.row PySem.Challenge.rw_retinue_k58_whole_ring_comes_to_equal_ar).prog 66) (kwd := []) RtH.ob_eq
    (by kernel_rfl) (fun s => by kernel_rfl) RtH.run_ (by kernel_rfl) (by kernel_rfl) (by kernel_rfl) (by rfl) (by first | assumption | decide +kernel) (by decide +kernel) ⟨rfl, rfl, rfl, rfl, rfl, by decide +kernel⟩ ?hw ?hc
  case hw => w_witness2
  case hc =>
    refine LamX.walk_ofTsE (l := PySem.Challenge.rw_retinue_k58_whole_ring_comes_to_equal_ar) (n := 63) (k := 13) (x := "script") (CX := fun _ => L2.CX0) rfl (by decide) (by kernel_rfl) ⟨rfl, by decide, by decide⟩ ?F (fun _ _ _ _ _ z => z)
    intro w mg fa h Y G hmg0
    obtain ⟨K, cs, KX, hl, c, m, hat, hno, hcs⟩ := Y.ex
    obtain ⟨⟨c0, P0⟩, rfl⟩ : ∃ p, cs = [p] := match cs, hl with
      | [p], _ => ⟨p, rfl⟩
    have hmg : mg ("law" : PySem.Str) = some (.ref fa) := by
      have e : (HandSHeadRun.topDef (OpenLaw.row PySem.Challenge.rw_retinue_k58_whole_ring_comes_to_equal_ar).prog 66).name = ("law" : PySem.Str) := by kernel_rfl
      rw [← e]
      exact hmg0
    obtain ⟨fd, hb, hF⟩ := Rt.facts (P := (PySem.Challenge.rw_retinue_k58_whole_ring_comes_to_equal_ar).prog) (w := w) KX G hmg c m (hat 0 _ _ rfl rfl) (TL := [(P0, ((("changes_of" : PySem.Str) ++ ".<locals>.") ++ "<lambda>"))]) ⟨List.mem_singleton.mpr rfl, fun p hp _ => by rw [List.mem_singleton.mp hp]⟩
    exact ⟨K, KX, fd, [(c0, P0)], Rt.spLaw K [(P0, ((("changes_of" : PySem.Str) ++ ".<locals>.") ++ "<lambda>"))], fun p hp => (hcs p hp).1, hno, fun p hp => (hcs p hp).2, hb, fun H a ns hl _ hT hS => ⟨a, ns, rfl, hS, hl, fun p hp => by
      rw [List.mem_singleton.mp hp]
      exact LamX.TabS.nil (hT (c0, P0) (List.mem_singleton.mpr rfl)), fun _ => rfl⟩, fun base hK hG hTB => hF base hK hG (hTB _ (List.mem_singleton.mpr rfl))⟩
