import PyProof.Rows.All
import Wide.All
import OpenK.AllK
import Wide.FinOn
import PyProof.EqAt
import PyProof.EqKinds
import PyProof.TupleCall
import KE.KStateDown
import KE.KCallOwn
import HandS.ForExc
import HandS.Wide
import HandS.Gcd
import HandS.Defaults
import HandS.IsInst
import HandS.ExcInit
import HandS.ExcField
import HandS.ExcIs
import HandS.FStr
import HandS.Codes
import HandS.Dict
import HandS.Head0
import HandS.Head1
import HandS.Head2
import HandS.Head3
import HandS.HeadEnd
import HandS.HeadHook1
import HandS.HeadHook2
import KE.KExcIs
import KE.KOpsOwn
import PyProof.FactsAll.int_1
import PyProof.FactsAll.int_2
import PyProof.FactsAll.int_3
import PyProof.FactsAll.int_5
import HandS.TryOnly
import HandS.Small
import PyProof.FactsAll.str_1
import PyProof.FactsAll.tuple_1
import PyProof.FactsAll.list_1
import PyProof.FactsAll.dict_1
import PyProof.FactsAll.bool_1
import PyProof.FactsAll.NoneType_1
import HandS.OwnEq
import HandS.Comp
import HandS.Walk
import HandS.MakeKwOnly
import HandS.MakeKw
import PyProof.Rows.StrIn
import KE.GoesMore
import HandS.DictComp
import HandS.Property
import HandS.DeepEq
import KE.KEqDict
import PyProof.NeKinds
import HandS.Finally
import HandS.Star
import HandS.HotCalls
import KE.KWithOwn
import HandS.Exc
import HandS.SetFor
import HandS.Conv
import PyProof.CompUse
import HandS.WordsDict
import HandS.TupAny
import HandS.Deep
import PySem.Challenge.RW_seenshares_k32_profile_trial
set_option Elab.async false
set_option linter.all false
set_option maxRecDepth 100000
set_option maxHeartbeats 2000000
namespace Vf
open PySem PySem.Spec PyProof.Rows L2
/-! ### defs at their places -/
abbrev Pl : Type := Str × Option Str
structure OkD (P : Program) (w : World) (K : PySem.W.Frag) (mg : Str → Option Value) (base : Heap) (CX : CXT) (k : Nat) (p : Pl) (ps : List Str) (dvs : List V) (sp : Sp) : Prop where
  ex : ∃ fd ds, FnOk P w K mg base CX k (He.fAd K p) fd ps sp ∧ Binds K fd ps ds ∧ Vals dvs ds
  kp : PySem.W.keepIn K (.ref (He.fAd K p)) = true
section
variable {X : Cx} {CX : CXT} {k j : Nat} {ps : List Str} {sp : Sp} {dvs : List V} {x m : Str} {p pos apos : Pos} {e o : Expr} {es : List Expr} {ta : TE} {t : TA}
theorem c_fn {E : XK} (O : OkD X.prog X.w X.K X.mg X.base CX k (x, none) ps dvs sp) (hr : Room j X.A) (hj : k ≤ j) (hm : X.mg x = some (.ref (He.ga X.K x))) (hx : Passes CX X E) (ha : PA X (e :: es) t) (hg : Gl X x := by rfl)
    (hdb : (x == ("__debug__" : Str)) = false := by decide) (he : starEach (e :: es) X.env = (false, eval e X.env) :: starEach es X.env := by rfl) (hpl : (backTo pos (starEach es X.env)).any (·.1) = false := by rfl) :
    PE X (.Call (.Name x p) (e :: es) [] pos) (tCall sp dvs E t) := by
  obtain ⟨fd, ds, F, b, v⟩ := O.ex
  exact pe_call F (hr.mono hj) hg hm O.kp b v hx ha hdb he hpl
theorem c_fnS {E : L2.St → XK} (O : OkD X.prog X.w X.K X.mg X.base CX k (x, none) ps [] sp) (hr : Room j X.A) (hj : k ≤ j) (hm : X.mg x = some (.ref (He.ga X.K x))) (hx : ∀ σ, PassesAt CX X σ (E σ)) (ha : PA X (e :: es) t) (hg : Gl X x := by rfl)
    (hdb : (x == ("__debug__" : Str)) = false := by decide) (he : starEach (e :: es) X.env = (false, eval e X.env) :: starEach es X.env := by rfl) (hpl : (backTo pos (starEach es X.env)).any (·.1) = false := by rfl) :
    PE X (.Call (.Name x p) (e :: es) [] pos) (tCallS sp E t) := by
  obtain ⟨fd, ds, F, b, v⟩ := O.ex
  cases v
  exact pe_callS F (hr.mono hj) hg hm O.kp b hx ha hdb he hpl
theorem mk_of {K : PySem.W.Frag} {x : Str} (c : (He.Fa.mkr x).ok K = true) : Mk K (He.ga K x) (He.fAd K (x, some "__init__")) := by
  obtain ⟨h1, h2⟩ := He.ba c
  obtain ⟨h2, h3⟩ := He.ba h2
  obtain ⟨h3, h4⟩ := He.ba h3
  exact ⟨h1, He.eqO_ok h2, h3, h4⟩
theorem meth_of {K : PySem.W.Frag} {x m : Str} (c : (He.Fa.meth x m).ok K = true) : Meth K (He.ga K x) m (He.fAd K (x, some m)) := by
  obtain ⟨h1, h2⟩ := He.ba c
  obtain ⟨h2, h3⟩ := He.ba h2
  exact ⟨He.eqO_ok h1, h2, h3⟩
theorem cls_of {K : PySem.W.Frag} {x : Str} (c : (He.Fa.cls x).ok K = true) : Cls K (He.ga K x) := by
  obtain ⟨h1, h2⟩ := He.ba c
  obtain ⟨h2, h3⟩ := He.ba h2
  obtain ⟨h3, h4⟩ := He.ba h3
  exact ⟨h1, h2, h3, He.eqO_ok h4⟩
theorem noat_of {K : PySem.W.Frag} {x f : Str} (c : (He.Fa.noat x f).ok K = true) : NoAttr K (He.ga K x) f := He.eqO_ok c
/-- C(e, ..) -/
theorem c_mk {E : XK} {C : Addr} (M : Mk X.K C (He.fAd X.K (x, some "__init__"))) (O : OkD X.prog X.w X.K X.mg X.base CX k (x, some "__init__") ps dvs sp) (hr : Room j X.A) (hj : k + 1 ≤ j) (hm : X.mg x = some (.ref C)) (hx : Passes CX X E) (ha : PA X (e :: es) t) (hg : Gl X x := by rfl)
    (hdb : (x == ("__debug__" : Str)) = false := by decide) (he : starEach (e :: es) X.env = (false, eval e X.env) :: starEach es X.env := by rfl) (hpl : (backTo pos (starEach es X.env)).any (·.1) = false := by rfl) :
    PE X (.Call (.Name x p) (e :: es) [] pos) (tMake C sp dvs E t) := by
  obtain ⟨fd, ds, F, b, v⟩ := O.ex
  exact pe_make M F (hr.mono hj) hg hm b v hx ha hdb he hpl
/-- o.m() -/
theorem c_me0 {E : XK} {C : Addr} {cn : Str} (hC : C = He.ga X.K cn) (he : PE X o ta) (c : Cls X.K C) (hm : Meth X.K C m (He.fAd X.K (cn, some m))) (O : OkD X.prog X.w X.K X.mg X.base CX k (cn, some m) ps dvs sp) (hr : Room j X.A) (hj : k ≤ j) (hx : Passes CX X E) {pl : Sem Bool}
    (ht : eval (.Call (.Attribute o m apos) [] [] pos) X.env = (do
      let ov ← eval o X.env
      standAt apos.atName
      let (f, first) ← holding [ov] (getMethod ov m pl)
      callWith pos f first (backTo pos (starEach [] X.env)) (backToKw pos (keywordEach [] X.env))) := by rfl) :
    PE X (.Call (.Attribute o m apos) [] [] pos) (tMeth C m sp dvs E ta tNil) := by
  obtain ⟨fd, ds, F, b, v⟩ := O.ex
  exact pe_meth0 he c hm F (hr.mono hj) b v hx ht
theorem c_me {E : XK} {C : Addr} {cn : Str} (hC : C = He.ga X.K cn) (hb : PE X o ta) (c : Cls X.K C) (hm : Meth X.K C m (He.fAd X.K (cn, some m))) (O : OkD X.prog X.w X.K X.mg X.base CX k (cn, some m) ps dvs sp) (hr : Room j X.A) (hj : k ≤ j) (hx : Passes CX X E) (ha : PA X (e :: es) t) {pl : Sem Bool}
    (hst : starEach (e :: es) X.env = (false, eval e X.env) :: starEach es X.env := by rfl) (hpl : (backTo pos (starEach es X.env)).any (·.1) = false := by rfl)
    (ht : eval (.Call (.Attribute o m apos) (e :: es) [] pos) X.env = (do
      let ov ← eval o X.env
      standAt apos.atName
      let (f, first) ← holding [ov] (getMethod ov m pl)
      callWith pos f first (backTo pos (starEach (e :: es) X.env)) (backToKw pos (keywordEach [] X.env))) := by rfl) :
    PE X (.Call (.Attribute o m apos) (e :: es) [] pos) (tMeth C m sp dvs E ta t) := by
  obtain ⟨fd, ds, F, b, v⟩ := O.ex
  exact pe_meth hb c hm F (hr.mono hj) b v hx ha hst hpl ht
end
/-! ### a try's body whose errors are wished for at any slots -/
theorem passAny {X : Cx} {W : WX} (n : Nat) (tk : Takes X W) (hn : X.N.length = n := by rfl) : Passes (L2.CX X.prog X.w) X (fun cls d H => ∀ σ : L2.St, σ.length = n → W cls d σ H) :=
  fun _ σ _ _ e s' I c => tk e s' (XE.of_call I (fun _ _ _ h => h σ (I.len.trans hn)) c)
/-! ### operators -/
section
variable {X : Cx}
/-- // by any divisor but 0 below 2 ^ 9000 -/
theorem op_fdivG : OpR X (binaryOp .FloorDiv) (rI (fun _ j => j ≠ 0 ∧ j.natAbs.log2 < 9000) fun i j => .int (i.fdiv j)) := opI fun i j _ _ _ _ _ hc q => floordiv_int hc.1 q (.inl (PyProof.noPylong_of_log2 hc.2))
/-- a built-in class as a value -/
theorem pe_ty {x : Str} {n : String} {pos : Pos} (hm : X.mg x = none) (hv : bootBuiltins x = some (.type n)) (hg : Gl X x := by rfl) (hn : x ≠ "__name__" := by decide) (hd : (x == ("__debug__" : Str)) = false := by decide) : PE X (.Name x pos) (tC (.ty n)) := pe_bltn hg hm hv rfl hn hd
/-- a class of the text as a value -/
theorem pe_cl {x : Str} {a : Addr} {pos : Pos} (hm : X.mg x = some (.ref a)) (hg : Gl X x := by rfl) (hd : (x == ("__debug__" : Str)) = false := by decide) : PE X (.Name x pos) (tC (.ref a)) := pe_glob hg hm rfl hd
/-- str(o), o of a class of the text that has its own __str__ -/
def rStrO (C : Addr) (sp : Sp) : List V → Hp → VK → Prop := fun xs H Q => ∃ a dx fs, xs = [.ref a] ∧ H a = some (.ins C dx fs) ∧ sp [.ref a] H (fun v H' => ∃ z, v = .str z ∧ Q (.str z) H') fun _ _ _ => False
theorem call_strO {k j : Nat} {C : Addr} {cn : Str} {ps : List Str} {sp : Sp} (hC : C = He.ga X.K cn) (hm : Meth X.K C "__str__" (He.fAd X.K (cn, some "__str__"))) (O : OkD X.prog X.w X.K X.mg X.base CX0 k (cn, some "__str__") ps [] sp) (hr : Room j X.A) (hj : k + 2 ≤ j) :
    CallR X (.type "str") (rStrO C sp) := by
  obtain ⟨fd, ds, F, b, v⟩ := O.ex
  cases v
  intro pins s σ H xs us Q I r h
  obtain ⟨a, dx, fs, rfl, ha, hsp⟩ := h
  obtain ⟨u, rfl, ru⟩ : ∃ u, us = [u] ∧ RelV (.ref a) u := by
    cases r with
    | cons p q => cases q; exact ⟨_, rfl, p⟩
  cases ru
  obtain ⟨mA, J, _⟩ := ins_get I.hok ha
  obtain ⟨od, J, _⟩ := J.look
  have hr2 : Room k X.A.in1.in1 := ((hr.mono hj).in1).in1
  refine PySem.W.kso_call hr2.units0 I.kIn J hm.at_ hm.fn ?_
  have hl := F.len _ _ _ _ hsp
  have hb := b s [.ref a] I.kIn (by simpa using hl)
  simp only [List.append_nil] at hb
  refine wpAny_call (codeAny_mono (F.run X.A.in1.in1 X.stack s H ⟨[.ref a], []⟩ [.ref a] [.ref a] _ _ hr2 I.env0.in1.in1 hb (.cons rfl .nil) hsp) fun r s' hq => ?_)
  cases r with
  | error e => exact hq.elim
  | ok fl =>
    cases fl with
    | ret w =>
      obtain ⟨z, H', I', rz, y, ez, q⟩ := I.after hq
      subst ez
      obtain ⟨tk, rfl⟩ := rz
      exact ⟨.str y, H', I', ⟨tk, rfl⟩, q⟩
    | next => exact False.elim hq
    | brk => exact False.elim hq
    | cont => exact False.elim hq
end
end Vf

set_option Elab.async false
set_option linter.all false
set_option maxRecDepth 100000
set_option maxHeartbeats 2000000
namespace Vf
open PySem PySem.Spec PyProof.Rows L2
/-! ### ints and other values -/
/-- a value that is no integer -/
inductive Odd (H : Hp) : V → Prop where
  | bl (b : Bool) : Odd H (.bl b)
  | non : Odd H .non
  | str (z : Str) : Odd H (.str z)
  | tup {a : Addr} {xs : List V} (h : H a = some (.tup xs)) : Odd H (.ref a)
  | lst {a : Addr} {xs : List V} (h : H a = some (.lst xs)) : Odd H (.ref a)
  | dic {a : Addr} {kvs : List (Key × V)} (h : H a = some (.dK kvs)) : Odd H (.ref a)
theorem Odd.ext {H H' : Hp} {x : V} (o : Odd H x) (s : Same H H') : Odd H' x := by
  cases o with
  | bl b => exact .bl b
  | non => exact .non
  | str z => exact .str z
  | tup h => exact .tup (s _ _ h)
  | lst h => exact .lst (s _ _ h)
  | dic h => exact .dic (s _ _ h)
theorem odd_ty (K : PySem.W.Frag) {H : Hp} {x : V} (o : Odd H x) : ∃ (n : String) (b1 b2 : Bool), TyX K H x (.type n) ∧ kitB n "int" = some b1 ∧ kitB n "bool" = some b2 ∧ (b1 && !b2) = false := by
  cases o with
  | bl b => exact ⟨"bool", true, true, .base (.bl b), by decide +kernel, by decide +kernel, rfl⟩
  | non => exact ⟨"NoneType", false, false, .base .non, by decide +kernel, by decide +kernel, rfl⟩
  | str z => exact ⟨"str", false, false, .base (.str z), by decide +kernel, by decide +kernel, rfl⟩
  | tup h => exact ⟨"tuple", false, false, .base (.tup h), by decide +kernel, by decide +kernel, rfl⟩
  | lst h => exact ⟨"list", false, false, .base (.lst h), by decide +kernel, by decide +kernel, rfl⟩
  | dic h => exact ⟨"dict", false, false, .base (.dK h), by decide +kernel, by decide +kernel, rfl⟩
theorem int_ty (K : PySem.W.Frag) (H : Hp) (n : Int) : TyX K H (.int n) (.type "int") ∧ kitB "int" "int" = some true ∧ kitB "int" "bool" = some false :=
  ⟨.base (.int n), by decide +kernel, by decide +kernel⟩
/-- is_integer(x) -/
def spIsInt : Sp := fun vs H Q _ => ∃ x, vs = [x] ∧ (((∃ n, x = .int n) ∧ Q (.bl true) H) ∨ (Odd H x ∧ Q (.bl false) H))
def t_isint (K : PySem.W.Frag) : TS := tRet (tAndV (tCB (rIsi K) (tCons (tVar 0) (tCons (tC (.ty "int")) tNil))) (tNotV (tCB (rIsi K) (tCons (tVar 0) (tCons (tC (.ty "bool")) tNil)))))
theorem run_isint {K : PySem.W.Frag} {N : List Str} {vs : List V} {H : Hp} {Q : VK} {E : XK} (h : spIsInt vs H Q E) : t_isint K { nx := fun _ H' => Q .non H', rt := Q } (start N vs) H := by
  obtain ⟨x, rfl, h⟩ := h
  have s0 : (start N [x])[0]? = some (some x) := rfl
  rcases h with ⟨⟨n, rfl⟩, q⟩ | ⟨o, q⟩
  · obtain ⟨t1, k1, k2⟩ := int_ty K H n
    refine ⟨_, s0, _, .ty "int", _, .type "int", true, rfl, .ty _, t1, kit_ty k1, true, rfl, ?_⟩
    refine iteT ?_
    exact ⟨_, s0, _, .ty "bool", _, .type "bool", false, rfl, .ty _, t1, kit_ty k2, false, rfl, q⟩
  · obtain ⟨n, b1, b2, t1, k1, k2, e⟩ := odd_ty K o
    refine ⟨_, s0, _, .ty "int", _, .type "int", b1, rfl, .ty _, t1, kit_ty k1, b1, rfl, ?_⟩
    cases b1 with
    | false => exact iteF q
    | true =>
      cases b2 with
      | false => cases e
      | true =>
        refine iteT ?_
        exact ⟨_, s0, _, .ty "bool", _, .type "bool", true, rfl, .ty _, t1, kit_ty k2, true, rfl, q⟩
/-! ### the draws -/
/-- _law_cell(script, k): some int -/
def spCell (K : PySem.W.Frag) : Sp := fun vs H Q _ => ∃ (l : Addr) (ns : List Int) (j : Nat), vs = [.ref l, .int (j : Int)] ∧ SqL K H l (ns.map V.int) ∧ j < 1000 ∧ ∀ n : Int, Q (.int n) H
/-- _law_take(draw, size) -/
def spTake : Sp := fun vs H Q _ => ∃ (d : Addr) (n s : Int), vs = [.ref d, .int s] ∧ H d = some (.lst [.int n]) ∧ 0 < s ∧ s < 1073741824 ∧ ∀ r m : Int, 0 ≤ r → r < s → Q (.int r) (upd H d (.lst [.int m]))
theorem atI0 {α : Type} {x : α} {xs : List α} : atI (x :: xs) 0 = some x := by simp [atI, ixN]
theorem atI1 {α : Type} {x y : α} {xs : List α} : atI (x :: y :: xs) 1 = some y := by
  have h : ixN (x :: y :: xs).length 1 = some 1 := by
    unfold ixN
    rw [if_pos (by omega), if_pos (by simp only [List.length_cons]; omega)]
    rfl
  unfold atI
  rw [h]
  rfl
theorem ixN0 {n : Nat} : ixN (n + 1) 0 = some 0 := by
  unfold ixN
  rw [if_pos (by omega), if_pos (by omega)]
  all_goals rfl
abbrev rAddI : R2 := rI0 fun i j => .int (i + j)
abbrev rModI : R2 := rI (fun _ j => 0 < j) fun i j => .int (i % j)
end Vf

set_option Elab.async false
set_option linter.all false
set_option maxRecDepth 100000
set_option maxHeartbeats 2000000
namespace Vf
open PySem PySem.Spec PyProof.Rows L2
/-! ### own errors: class C(..): def __init__(self, f): self.f = f -/
def oexB (K : PySem.W.Frag) (C : Addr) : Bool := match K.lookup C with
  | some ⟨.type "type", _, .cls cd, sl⟩ => (match cd.mro, sl.toList with
    | .ref C' :: bm, [_, _, _, _, some (.builtin n), _] => C' == C && n == "ValueError.__new__" && !cd.hasDel && cd.hasDict && PySem.HandSPX.refsVE bm
    | _, _ => false)
  | _ => false
theorem oexB_ok {K : PySem.W.Frag} {C : Addr} (q : oexB K C = true) : ∃ nm qn N bs bm sn sub ab col dd k0 k1 k2 k3 k5, K.lookup C = some (excClassObj nm qn C N bs bm true sn sub ab col dd k0 k1 k2 k3 k5 "ValueError.__new__") ∧ PySem.HandSPX.refsVE bm = true := by
  unfold oexB at q
  split at q
  · rename_i dd cd sl ho
    split at q
    · rename_i C' bm k0 k1 k2 k3 n k5 hm hs
      simp only [Bool.and_eq_true, beq_iff_eq, Bool.not_eq_true'] at q
      obtain ⟨⟨⟨⟨e1, e2⟩, hdel⟩, hh⟩, hbm⟩ := q
      obtain ⟨nm, bs, mro, ns, qn, hd, sn, sub, ab, col, del⟩ := cd
      obtain ⟨l⟩ := sl
      dsimp only at hm hdel hh hs
      subst hm hdel hh hs e1 e2
      exact ⟨nm, qn, ns, bs, bm, sn, sub, ab, col, dd, k0, k1, k2, k3, k5, ho, hbm⟩
    · cases q
  · cases q
/-- what is told of the error class x whose __init__ keeps its argument as f -/
structure ExD (K : PySem.W.Frag) (x : Str) : Prop where
  o : OexC K (He.ga K x)
  gg : PySem.W.findIn K (.ref (He.ga K x)) "__getattr__" = some none
  ga : PySem.W.findIn K (.ref (He.ga K x)) "__getattribute__" = some (some (.builtin "BaseException.__getattribute__"))
  ha : PySem.W.findIn K (.ref (He.ga K x)) "__class__" = some (some (.builtin "object.__class__"))
  hm : PySem.W.mroIn K (He.ga K x) (.type "object") = some true
  hd : PySem.W.hasDictIn K (He.ga K x) = true
  hcl : (PySem.W.clsIn K (He.ga K x)).isSome = true
def exD (K : PySem.W.Frag) (x : Str) : Bool :=
  oexB K (He.ga K x) && (He.eqO (PySem.W.findIn K (.ref (He.ga K x)) "__setattr__") (some (some (.builtin "object.__setattr__"))) && (decide (PySem.W.subIn K (.ref (He.ga K x)) (.type "BaseException") = some true) && (decide (PySem.W.typeIn K (.ref (He.ga K x)) = some (.type "type")) && (PySem.W.keepIn K (.ref (He.ga K x)) &&
  (He.eqO (PySem.W.findIn K (.ref (He.ga K x)) "__getattr__") (some none) && (He.eqO (PySem.W.findIn K (.ref (He.ga K x)) "__getattribute__") (some (some (.builtin "BaseException.__getattribute__"))) && (He.eqO (PySem.W.findIn K (.ref (He.ga K x)) "__class__") (some (some (.builtin "object.__class__"))) &&
  (decide (PySem.W.mroIn K (He.ga K x) (.type "object") = some true) && (PySem.W.hasDictIn K (He.ga K x) && (PySem.W.clsIn K (He.ga K x)).isSome)))))))))
theorem exD_ok {K : PySem.W.Frag} {x : Str} (h : exD K x = true) : ExD K x := by
  obtain ⟨h1, h⟩ := He.ba h
  obtain ⟨h2, h⟩ := He.ba h
  obtain ⟨h3, h⟩ := He.ba h
  obtain ⟨h4, h⟩ := He.ba h
  obtain ⟨h5, h⟩ := He.ba h
  obtain ⟨h6, h⟩ := He.ba h
  obtain ⟨h7, h⟩ := He.ba h
  obtain ⟨h8, h⟩ := He.ba h
  obtain ⟨h9, h⟩ := He.ba h
  obtain ⟨h10, h11⟩ := He.ba h
  exact ⟨⟨oexB_ok h1, He.eqO_ok h2, of_decide_eq_true h3, of_decide_eq_true h4, h5⟩, He.eqO_ok h6, He.eqO_ok h7, He.eqO_ok h8, of_decide_eq_true h9, h10, h11⟩
/-- .. with its __init__ and its field f -/
structure ExI (K : PySem.W.Frag) (x f : Str) : Prop where
  d : ExD K x
  i : PySem.W.findIn K (.ref (He.ga K x)) "__init__" = some (some (.ref (He.fAd K (x, some "__init__"))))
  t : PySem.W.typeIn K (.ref (He.fAd K (x, some "__init__"))) = some (.type "function")
  n : PySem.W.findIn K (.ref (He.ga K x)) f = some none
def exI (K : PySem.W.Frag) (x f : Str) : Bool :=
  exD K x && (He.eqO (PySem.W.findIn K (.ref (He.ga K x)) "__init__") (some (some (.ref (He.fAd K (x, some "__init__"))))) && (decide (PySem.W.typeIn K (.ref (He.fAd K (x, some "__init__"))) = some (.type "function")) && He.eqO (PySem.W.findIn K (.ref (He.ga K x)) f) (some none)))
theorem exI_ok {K : PySem.W.Frag} {x f : Str} (h : exI K x f = true) : ExI K x f := by
  obtain ⟨h1, h⟩ := He.ba h
  obtain ⟨h2, h⟩ := He.ba h
  obtain ⟨h3, h4⟩ := He.ba h
  exact ⟨exD_ok h1, He.eqO_ok h2, of_decide_eq_true h3, He.eqO_ok h4⟩
/-- the __init__: self.f = v -/
def spExI (K : PySem.W.Frag) (C : Addr) (f : Str) : Sp := fun vs H Q _ => ∃ (a : Addr) (v : V), vs = [.ref a, v] ∧ OexC K C ∧ PySem.W.findIn K (.ref C) f = some none ∧ H a = some (exo a C none) ∧
  ∀ dx, H dx = none → dx ≠ a → Q .non (upd (upd H dx (exd dx [(f, v)])) a (exo a C (some dx)))
theorem run_exI {K : PySem.W.Frag} {C : Addr} {f : Str} {N : List Str} {vs : List V} {H : Hp} {Q : VK} {E : XK} (h : spExI K C f vs H Q E) : tOst K f (tVar 0) (tVar 1) { nx := fun _ H' => Q .non H', rt := Q } (start N vs) H := by
  obtain ⟨a, v, rfl, T, hn, ea, q⟩ := h
  have s0 : (start N [.ref a, v])[0]? = some (some (.ref a)) := rfl
  have s1 : (start N [.ref a, v])[1]? = some (some v) := rfl
  exact ⟨_, s1, _, s0, a, C, rfl, T, hn, .inl ⟨ea, fun dx h1 h2 => q dx h1 h2⟩⟩
/-- the heap behind the making: the error's own dict alone is new -/
theorem exc_heap {H : Hp} {a d : Addr} {o1 o2 o3 o4 : HO} (ha : H a = none) (hda : d ≠ a) : upd (del (upd (upd (upd H a o1) d o2) a o3) a) d o4 = upd H d o4 := by
  funext b
  by_cases h1 : b = d
  · rw [h1, upd_same, upd_same]
  · rw [upd_ne h1, upd_ne h1]
    by_cases h2 : b = a
    · rw [h2, del_same, ha]
    · rw [del_ne h2, upd_ne h2, upd_ne h1, upd_ne h2]
theorem pa_weak {X : Cx} {es : List Expr} {ta : TA} (ha : PA X es ta) : PA X es (fun σ H Q => ∃ R, ta σ H R ∧ ∀ vs H1, R vs H1 → Q vs H1) := ⟨fun pos pins s σ H Q I h => by
  obtain ⟨R, h1, h2⟩ := h
  exact thn (ha.run pos pins s σ H R I h1) fun us s1 ⟨vs, H1, I1, r, q⟩ => ⟨vs, H1, I1, r, h2 _ _ q⟩⟩
section
variable {X : Cx} {CX : CXT} {k j : Nat} {ps : List Str} {x f : Str} {p pos pos2 : Pos} {e : Expr} {es : List Expr} {ta : TA} {W : WX}
/-- raise C(e): the error's dict, new, holds f -/
def tRaiseI (C : Addr) (f : Str) (W : WX) (ta : TA) : TS := fun _ σ H => ta σ H fun vs H1 => ∃ v, vs = [v] ∧ ∀ d, H1 d = none → W (.ref C) (some d) σ (upd H1 d (.xd [(f, v)]))
theorem c_raise (T : ExI X.K x f) (O : OkD X.prog X.w X.K X.mg X.base CX0 k (x, some "__init__") ps [] (spExI X.K (He.ga X.K x) f)) (hr : Room j X.A) (hj : k + 1 ≤ j) (hm : X.mg x = some (.ref (He.ga X.K x))) (tk : Takes X W) (ha : PA X (e :: es) ta) (hc : X.calm = true := by rfl) (hg : Gl X x := by rfl)
    (hdb : (x == ("__debug__" : Str)) = false := by decide) (he : starEach (e :: es) X.env = (false, eval e X.env) :: starEach es X.env := by rfl) (hpl : (backTo pos (starEach es X.env)).any (·.1) = false := by rfl) :
    PS X (.Raise (some (.Call (.Name x p) (e :: es) [] pos)) none pos2) (tRaiseI (He.ga X.K x) f W ta) := by
  obtain ⟨fd, ds, F, b, v⟩ := O.ex
  cases v
  refine ⟨fun pins s σ H D I h => (ps_raise hc tk (pmk_oex (p := p) T.d.o T.i T.t F (hr.mono hj) b .nil pass0 hg hm (pa_weak ha) hdb he hpl)).run pins s σ H D I ?_⟩
  refine ⟨_, h, fun vs H1 z => ?_⟩
  obtain ⟨v, rfl, q⟩ := z
  refine ⟨(by show 1 ≤ 1000; decide), fun a na => ⟨a, v, rfl, T.d.o, T.n, upd_same, fun dx h1 h2 => ?_⟩⟩
  have hdx : H1 dx = none := by
    rw [upd_ne h2] at h1
    exact h1
  refine ⟨rfl, dx, [(f, v)], upd_same, ?_, hdx, ?_⟩
  · rw [upd_ne h2, upd_same]
  · rw [exc_heap na h2]
    exact q dx hdx
end
/-! ### isinstance(e, c) of a caught error -/
section
variable {X : Cx}
theorem call_isiE {a D : Addr} {d : Option Addr} {oe : Obj} {pn : List (Addr × Obj)} {x : Str} (hD : D = He.ga X.K x) (T : ExD X.K x) (hn : PySem.W.specialIn X.K (.builtin "object.__class__") "__get__" = some (some (.builtin "getset_descriptor.__get__")))
    (ht : PySem.W.takesIn X.K (.builtin "object.__class__") = some true) {cls : Value} (hz : Zc cls d oe) (hf : ∃ vs, oe.data = .fields vs) : CallR (X.suite a ((a, oe) :: pn)) (.builtin "isinstance")
      (fun xs H Q => ∃ (c : V) (cv : Value) (b : Bool), xs = [.ref a, c] ∧ cls = .ref D ∧ ClsV c cv ∧ PySem.W.kitOne X.K (.ref D) cv = some b ∧ (∃ dd fs, d = some dd ∧ H dd = some (.xd fs)) ∧ Q (.bl b) H) := by
  subst hD
  intro pins s σ H xs us Q I r h
  obtain ⟨c, cv, b, rfl, ec, hcv, e, ⟨dd, fs, ed, hdd⟩, q⟩ := h
  obtain ⟨u1, u2, rfl, r1, r2⟩ := vals2 r
  have e2 := hcv.eq r2
  subst e2
  cases r1
  obtain ⟨hget, _⟩ := I.pin (a, oe) (List.mem_append.mpr (.inl List.mem_cons_self))
  obtain ⟨vs, hv⟩ := hf
  subst ed ec
  obtain ⟨mA, ⟨od, es, ep, ho, _⟩, _⟩ := (show ObjOk X.prog X.w H s.heap dd (.xd fs) from I.hok dd _ hdd)
  have J : PySem.W.InstAt s.heap a oe (He.ga X.K x) (some od) := by
    obtain ⟨oc, odd, oda, osl⟩ := oe
    obtain ⟨h1, h2⟩ := hz
    dsimp only at h1 h2 hv
    subst h1 h2 hv
    exact ⟨hget, rfl, rfl, ho⟩
  exact PySem.W.kia_one (PySem.W.kitx_exc T.hcl T.ga T.gg T.o.exC T.ha hn ht T.hm) I.kIn J e (fun z => nomatch z) fun tk => ⟨.bl b, H, I.kept (t' := tk) fun _ _ z => z, rfl, q⟩
end
/-! ### the head's hook: any Bool over the written part, the defs -/
abbrev AlM : Type := Bool × List He.FnW
def obsM (ex : PySem.W.Frag → Bool) (fn : List He.DefD) (K : PySem.W.Frag) : AlM := (ex K && fn.all fun d => d.ok K, fn.map fun d => He.fnW K d.at_)
def SaysM (ex : PySem.W.Frag → Bool) (fn : List He.DefD) (K : PySem.W.Frag) : Prop := obsM ex fn K = (true, fn.map He.DefD.val)
def obsMG (n : Nat) (ex : PySem.W.Frag → Bool) (fn : List He.DefD) (g : Addr → Option Obj) : AlM := obsM ex fn (He.frG g (He.asD g n))
def hookM (n : Nat) (ex : PySem.W.Frag → Bool) (fn : List He.DefD) : PySem.W.Hook where
  α := AlM
  obs := fun s => obsMG n ex fn s.heap.get?
  val := fun _ => (true, fn.map He.DefD.val)
  says := fun _ h => ∃ K : PySem.W.Frag, K.In h ∧ SaysM ex fn K
  of := fun _ _ e => ⟨_, He.frG_in, e⟩
  keeps := fun _ _ _ ⟨K, hK, c⟩ k => ⟨K, PySem.W.Frag.In.keeps hK k, c⟩
theorem obsMG_eq {n : Nat} {ex : PySem.W.Frag → Bool} {fn : List He.DefD} {g : Addr → Option Obj} {s : Shared} (h : ∀ a, g a = s.heap.get? a) : obsMG n ex fn g = (hookM n ex fn).obs s := by
  have e : g = s.heap.get? := funext h
  rw [e]
  rfl
theorem SaysM.ex {ex : PySem.W.Frag → Bool} {fn : List He.DefD} {K : PySem.W.Frag} (c : SaysM ex fn K) : ex K = true := (He.ba (congrArg (fun z : AlM => z.1) c)).1
theorem SaysM.fn {ex : PySem.W.Frag → Bool} {fn : List He.DefD} {K : PySem.W.Frag} (c : SaysM ex fn K) (i : Nat) {d : He.DefD} (h : fn[i]? = some d := by rfl) : ∃ fd, FunD K d.name d.qual d.params d.body d.scope (d.dvs K) (d.kws K) (He.fAd K d.at_) fd := by
  have c2 := (He.ba (congrArg (fun z : AlM => z.1) c)).2
  have e : fn.map (fun d => He.fnW K d.at_) = fn.map He.DefD.val := congrArg (fun z : AlM => z.2) c
  have e2 : He.fnW K d.at_ = d.val := by
    have e3 : (fn.map fun d => He.fnW K d.at_)[i]? = (fn.map He.DefD.val)[i]? := by rw [e]
    simp only [List.getElem?_map, h, Option.map_some] at e3
    exact Option.some.inj e3
  exact He.DefD.funD e2 (List.all_eq_true.mp c2 d (List.mem_of_getElem? h))

end Vf

set_option Elab.async false
set_option linter.all false
set_option maxRecDepth 100000
set_option maxHeartbeats 2000000
namespace Vf
open PySem PySem.Spec PyProof.Rows L2
/-! ### Euclid's loop -/
def Eu (g B i x y : Nat) : Prop := Nat.gcd x y = g ∧ ((i % 2 = 0 ∧ y * 2 ^ (i / 2) ≤ B) ∨ (i % 2 = 1 ∧ y < x ∧ x * 2 ^ (i / 2) ≤ B))
theorem Eu.start (x y : Nat) : Eu (Nat.gcd x y) y 0 x y := ⟨rfl, .inl ⟨rfl, by simp⟩⟩
theorem Eu.step {g B i x y : Nat} (h : Eu g B i x y) (hy : y ≠ 0) : Eu g B (i + 1) y (x % y) := by
  obtain ⟨hg, h⟩ := h
  have hg2 : Nat.gcd y (x % y) = g := by
    rw [← hg, Nat.gcd_comm x y, Nat.gcd_rec y x, Nat.gcd_comm]
  have hlt : x % y < y := Nat.mod_lt x (by omega)
  refine ⟨hg2, ?_⟩
  rcases h with ⟨he, hb⟩ | ⟨ho, hxy, hb⟩
  · refine .inr ⟨by omega, hlt, ?_⟩
    have e : (i + 1) / 2 = i / 2 := by omega
    rw [e]
    exact hb
  · refine .inl ⟨by omega, ?_⟩
    have e : (i + 1) / 2 = i / 2 + 1 := by omega
    have hd := Nat.div_add_mod x y
    have h1 : 1 ≤ x / y := Nat.div_pos (by omega) (by omega)
    have h2 : y * 1 ≤ y * (x / y) := Nat.mul_le_mul_left y h1
    have h3 : 2 * (x % y) ≤ x := by omega
    rw [e, Nat.pow_succ]
    calc x % y * (2 ^ (i / 2) * 2) = (2 * (x % y)) * 2 ^ (i / 2) := by rw [Nat.mul_comm (2 ^ (i / 2)) 2, ← Nat.mul_assoc, Nat.mul_comm (x % y) 2]
      _ ≤ x * 2 ^ (i / 2) := Nat.mul_le_mul_right _ h3
      _ ≤ B := hb
theorem Eu.last {g B x y : Nat} (h : Eu g B 500 x y) (hB : B < 2 ^ 250) : x = g := by
  obtain ⟨hg, h⟩ := h
  rcases h with ⟨_, hb⟩ | ⟨ho, _⟩
  · have e : (500 : Nat) / 2 = 250 := rfl
    rw [e] at hb
    have hy : y = 0 := by
      rcases Nat.eq_zero_or_pos y with h0 | h0
      · exact h0
      · exfalso
        have : 1 * 2 ^ 250 ≤ y * 2 ^ 250 := Nat.mul_le_mul_right _ h0
        omega
    rw [hy, Nat.gcd_zero_right] at hg
    exact hg
  · omega
theorem Eu.zero {g B i x : Nat} (h : Eu g B i x 0) : x = g := by
  have hg := h.1
  rw [Nat.gcd_zero_right] at hg
  exact hg
/-! ### lowest terms -/
def nG (t b : Int) : Int := ((Nat.gcd t.natAbs b.natAbs : Nat) : Int)
def nC (t b : Int) : Int := if b < 0 then -(nG t b) else nG t b
def nT (t b : Int) : Int := t.fdiv (nC t b)
def nB (t b : Int) : Int := b.fdiv (nC t b)
/-- a and b are t over b' in lowest terms -/
structure Nf (a b : Int) : Prop where
  pos : 0 < b
  cop : Nat.gcd a.natAbs b.natAbs = 1
structure NfOf (t u a b : Int) : Prop extends Nf a b where
  eq : a * u = t * b
  le1 : a.natAbs ≤ t.natAbs
  le2 : b.natAbs ≤ u.natAbs
theorem nG_pos {t b : Int} (hb : b ≠ 0) : 0 < nG t b := by
  have : 0 < Nat.gcd t.natAbs b.natAbs := Nat.gcd_pos_of_pos_right _ (by omega)
  unfold nG
  omega
theorem nC_abs (t b : Int) : (nC t b).natAbs = Nat.gcd t.natAbs b.natAbs := by
  unfold nC nG
  split <;> omega
theorem nC_ne {t b : Int} (hb : b ≠ 0) : nC t b ≠ 0 := by
  have := nG_pos (t := t) hb
  unfold nC
  split <;> omega
theorem nC_dvd1 (t b : Int) : nC t b ∣ t := by
  rw [← Int.natAbs_dvd_natAbs, nC_abs]
  exact Nat.gcd_dvd_left _ _
theorem nC_dvd2 (t b : Int) : nC t b ∣ b := by
  rw [← Int.natAbs_dvd_natAbs, nC_abs]
  exact Nat.gcd_dvd_right _ _
theorem nT_mul (t b : Int) : nT t b * nC t b = t := Int.fdiv_mul_cancel (nC_dvd1 t b)
theorem nB_mul (t b : Int) : nB t b * nC t b = b := Int.fdiv_mul_cancel (nC_dvd2 t b)
theorem nf_of (t : Int) {b : Int} (hb : b ≠ 0) : NfOf t b (nT t b) (nB t b) := by
  have e1 := nT_mul t b
  have e2 := nB_mul t b
  have hc := nC_ne (t := t) hb
  have ga := nC_abs t b
  have g0 : 0 < Nat.gcd t.natAbs b.natAbs := Nat.gcd_pos_of_pos_right _ (by omega)
  have a1 : (nT t b).natAbs * Nat.gcd t.natAbs b.natAbs = t.natAbs := by rw [← ga, ← Int.natAbs_mul, e1]
  have a2 : (nB t b).natAbs * Nat.gcd t.natAbs b.natAbs = b.natAbs := by rw [← ga, ← Int.natAbs_mul, e2]
  refine ⟨⟨?_, ?_⟩, ?_, ?_, ?_⟩
  · rcases (show 0 < nB t b ∨ nB t b ≤ 0 by omega) with h | h
    · exact h
    · exfalso
      by_cases hn : b < 0
      · have hc2 : nC t b < 0 := by
          have := nG_pos (t := t) hb
          unfold nC
          rw [if_pos hn]
          omega
        have := Int.mul_nonneg_of_nonpos_of_nonpos h (Int.le_of_lt hc2)
        omega
      · have hc2 : 0 < nC t b := by
          have := nG_pos (t := t) hb
          unfold nC
          rw [if_neg hn]
          omega
        have := Int.mul_nonpos_of_nonpos_of_nonneg h (Int.le_of_lt hc2)
        omega
  · have h := Nat.gcd_mul_right (nT t b).natAbs (Nat.gcd t.natAbs b.natAbs) (nB t b).natAbs
    rw [a1, a2] at h
    have h2 : 1 * Nat.gcd t.natAbs b.natAbs = Nat.gcd (nT t b).natAbs (nB t b).natAbs * Nat.gcd t.natAbs b.natAbs := by rw [Nat.one_mul]; exact h
    exact (Nat.eq_of_mul_eq_mul_right g0 h2).symm
  · calc nT t b * b = nT t b * (nB t b * nC t b) := by rw [e2]
      _ = (nT t b * nC t b) * nB t b := by rw [Int.mul_comm (nB t b), Int.mul_assoc]
      _ = t * nB t b := by rw [e1]
  · calc (nT t b).natAbs = (nT t b).natAbs * 1 := by rw [Nat.mul_one]
      _ ≤ (nT t b).natAbs * Nat.gcd t.natAbs b.natAbs := Nat.mul_le_mul_left _ g0
      _ = t.natAbs := a1
  · calc (nB t b).natAbs = (nB t b).natAbs * 1 := by rw [Nat.mul_one]
      _ ≤ (nB t b).natAbs * Nat.gcd t.natAbs b.natAbs := Nat.mul_le_mul_left _ g0
      _ = b.natAbs := a2
/-- bits: below 2 ^ n -/
def Bit (n : Nat) (x : Int) : Prop := x.natAbs < 2 ^ n
theorem Bit.mono {n m : Nat} {x : Int} (h : Bit n x) (l : n ≤ m) : Bit m x := Nat.lt_of_lt_of_le h (Nat.pow_le_pow_right (by decide) l)
theorem Bit.le {n : Nat} {x y : Int} (h : Bit n y) (l : x.natAbs ≤ y.natAbs) : Bit n x := Nat.lt_of_le_of_lt l h
theorem Bit.mul {n m : Nat} {x y : Int} (h : Bit n x) (h' : Bit m y) : Bit (n + m) (x * y) := by
  unfold Bit
  rw [Int.natAbs_mul, Nat.pow_add]
  exact Nat.mul_lt_mul'' h h'
theorem Bit.add {n : Nat} {x y : Int} (h : Bit n x) (h' : Bit n y) : Bit (n + 1) (x + y) := by
  unfold Bit at *
  rw [Nat.pow_succ]
  omega
theorem Bit.sub {n : Nat} {x y : Int} (h : Bit n x) (h' : Bit n y) : Bit (n + 1) (x - y) := by
  unfold Bit at *
  rw [Nat.pow_succ]
  omega
theorem Bit.neg {n : Nat} {x : Int} (h : Bit n x) : Bit n (-x) := by
  unfold Bit at *
  omega
theorem Bit.log {n m : Nat} {x : Int} (h : Bit n x) (h0 : 0 < n) (hm : n ≤ m) : x.natAbs.log2 < m := Nat.lt_of_lt_of_le (PySem.Flt.log2_lt_of h0 h) hm
theorem Bit.wm {n m : Nat} {x y : Int} (h : Bit n x) (h' : Bit m y) (h0 : 0 < n) (h1 : 0 < m) (l : n + m ≤ 1000000) : CMulW x y := wide_mul h h' h0 h1 l
end Vf

set_option Elab.async false
set_option linter.all false
set_option maxRecDepth 100000
set_option maxHeartbeats 2000000
namespace Vf
open PySem PySem.Spec PyProof.Rows L2
section
open PySem.W PySem.Calls
variable {prog : Program} {w : World} {A : Around} {E : Value → Shared → Prop} {s : Shared} {K : Frag} {x C f f0 L : Addr} {h₀ : Heap} {m : Str → Option Value} {ox : Obj} {od : Option Obj} {nm : String}
/-- a slot of int that is handed an instance of the text's own declines -/
theorem int_no {n : Int} {t : Tok} {name : String} {g : Int → Int → Sem Fin} {refl : Bool} (hd : ox.data = .plain) (hx : s.heap.get? x = some ox) {Q : Fin → Shared → Prop}
    (h : Q (.done (.ret .notImplemented)) s) : wpAny (model prog w) A (PySem.Builtin.Int.intBinary name g refl ⟨[.int n t, .ref x], []⟩) Q E s := by
  obtain ⟨hp, gg, d, tk, os⟩ := s
  obtain ⟨oc, odd, oda, osl⟩ := ox
  dsimp only at hd
  subst hd
  unfold PySem.Builtin.Int.intBinary
  wp_walk using AutoSeq1.wpAny_loadPart' hx
  exact h
/-- B declines an instance of the text's own -/
def Declines (B : Builtin) : Prop := ∀ (prog : Program) (w : World) (A : Around) (E : Value → Shared → Prop) (s : Shared) (n : Int) (t : Tok) (x : Addr) (ox : Obj) (Q : Fin → Shared → Prop), ox.data = .plain → s.heap.get? x = some ox → Q (.done (.ret .notImplemented)) s → wpAny (model prog w) A (B ⟨[.int n t, .ref x], []⟩) Q E s
theorem decl_bin (name : String) (g : Int → Int → Sem Fin) (r : Bool) : Declines (PySem.Builtin.Int.intBinary name g r) := fun _ _ _ _ _ _ _ _ _ _ hd hx h => int_no hd hx h
theorem decl_fdv : Declines PySem.Builtin.«int.__floordiv__» := fun prog w A E s n t x ox Q hd hx h => by
  obtain ⟨hp, gg, d, tk, os⟩ := s
  obtain ⟨oc, odd, oda, osl⟩ := ox
  dsimp only at hd
  subst hd
  unfold PySem.Builtin.«int.__floordiv__» PySem.Builtin.exactOperandsForPylong
  have k := fun g => int_no (prog := prog) (w := w) (A := A) (E := E) (n := n) (t := t) (name := "__floordiv__") (g := g) (refl := false) (s := ⟨hp, gg, d, tk, os⟩) rfl hx h
  wp_walk using AutoSeq1.wpAny_loadPart' hx
  all_goals first | exact k _ | exact h
/-- n op x, n an int, x an instance of the text's own: int's slot declines, the reflected one of x's class is asked -/
theorem bin_int_own {op : Operator} {n : Int} {t : Tok} {id : String} {B : Builtin} {Q : Value → Shared → Prop} (X : K.In s.heap) (I : InstAt s.heap x ox C od) (hp : ox.data = .plain) (hc : selfFirst K C = true)
    (hs : findIn K (.ref C) (PySem.dunder op.info.2) = some (some (.ref f0))) (hr : findIn K (.ref C) (dunderR op.info.2) = some (some (.ref f))) (hf : isFn K (.ref f) = true) (hm : mroIn K C (.type "int") = some false)
    (hfT : fillsNumberSlot (.type "int") op.info.2 = pure true) (slot : Slot "int" (PySem.dunder op.info.2) id) (entry : entryFor table id = some B) (ha : argsOk id ⟨[.int n t, .ref x], []⟩)
    (hB : Declines B)
    (h : wpAny (model prog w) A (call (.ref f) [.ref x, .int n t]) (PySem.W.CmpBack Q) E s) : wpAny (model prog w) A (binaryOp op (.int n t) (.ref x)) Q E s := by
  obtain ⟨cd, rest, hcd, hmro⟩ := ksp_first hc
  rcases hi : op.info with ⟨sym, nm'⟩
  rw [hi] at hs hr slot hfT
  dsimp only at hs hr slot hfT
  have one := ksp_try X I hr hf h
  have two : wpAny (model prog w) A (tryMethod (.int n t) (PySem.dunder nm') (.ref x)) (fun r s' => r = none ∧ s' = s) E s :=
    wpAny_tryMethod_declines (typeIs_int s n t) slot (wpAny_call_entry slot (typeIs_int s n t) entry (hB _ _ _ _ _ _ _ _ _ _ hp I.at_ ⟨_, rfl, rfl, rfl, rfl⟩) ha)
  obtain ⟨hh, gg, d, tt, os⟩ := s
  have L1 : Looks (model prog w) hh (typeOf (.int n t)) (.type "int") := Looks.of_pure rfl
  have L2 : Looks (model prog w) hh (typeOf (.ref x)) (.ref C) := I.type
  have L3 : Looks (model prog w) hh (fillsNumberSlot (.type "int") nm') true := Looks.of_pure hfT
  have L4 : Looks (model prog w) hh (fillsNumberSlot (.ref C) nm') true := fills_K X hcd hmro hs
  have L5 : Looks (model prog w) hh (isSubtype (.ref C) (.type "int")) false := looks_mroIn X hm
  have L6 : Looks (model prog w) hh (numberSlotInPython (.type "int") nm') false := Looks.of_pure rfl
  have hne : (Value.type "int" == Value.ref C) = false := Bool.eq_false_iff.mpr fun q => by cases beq_iff_eq.mp q
  simp only [binaryOp, hi]
  refine wpAny_holding (wpAny_bind ?_)
  unfold binaryOp1
  refine wpAny_bind (L1.at (wpAny_bind (L2.at (wpAny_bind (L3.at ?_)))))
  simp only [hne, Bool.false_eq_true, if_false]
  ksp_lk
  refine wpAny_mono two (fun r s' hr' => ?_) fun _ _ e => e
  obtain ⟨rfl, rfl⟩ := hr'
  ksp_lk
  refine wpAny_mono one (fun r s' hr' => ?_) fun _ _ e => e
  obtain ⟨v, rfl, hq⟩ := hr'
  ksp_lk
  exact hq
/-- n ? x for a comparison: int's slot declines, the swapped one of x's class is asked -/
theorem cmp_int_own {op : CmpOp} {n : Int} {t : Tok} {id : String} {B : Builtin} {Q : Value → Shared → Prop} (hu : A.units < cLine) (X : K.In s.heap) (I : InstAt s.heap x ox C od) (hp : ox.data = .plain)
    (hr : findIn K (.ref C) (cmpInfo op).2.2 = some (some (.ref f))) (hf : isFn K (.ref f) = true) (hm : mroIn K C (.type "int") = some false)
    (slot : Slot "int" (cmpInfo op).2.1 id) (entry : entryFor table id = some B) (ha : argsOk id ⟨[.int n t, .ref x], []⟩) (hB : Declines B)
    (h : wpAny (model prog w) A (call (.ref f) [.ref x, .int n t]) (PySem.W.CmpBack Q) E s) : wpAny (model prog w) A (richCompare op (.int n t) (.ref x)) Q E s := by
  have one : wpAny (model prog w) A (tryCompare (.ref x) (cmpInfo op).2.2 (.int n t)) (fun r s' => ∃ v, r = some v ∧ Q v s') E s := by
    unfold tryCompare
    refine wpAny_bind (ifBound_K X I hr hf (wpAny_mono h (fun v s' hv => ?_) fun _ _ e => e))
    cases v <;> first | exact hv.elim | exact wpAny_pure ⟨_, rfl, hv⟩
  have two : wpAny (model prog w) A (tryCompare (.int n t) (cmpInfo op).2.1 (.ref x)) (fun r s' => r = none ∧ s' = s) E s :=
    wpAny_tryCompare_declines (typeIs_int s n t) slot (wpAny_call_entry slot (typeIs_int s n t) entry (hB _ _ _ _ _ _ _ _ _ _ hp I.at_ ⟨_, rfl, rfl, rfl, rfl⟩) ha)
  have ot : oneThing? op (.int n t) (.ref x) = none := rfl
  have hne : (Value.type "int" != Value.ref C) = true := bne_iff_ne.mpr fun q => by cases q
  unfold richCompare
  simp only [ot]
  refine wpAny_holding (wpAny_bind (wpAny_cRoomFor hu ?_))
  refine wpAny_bind ((Looks.of_pure rfl : Looks (model prog w) s.heap (typeOf (.int n t)) (.type "int")).here (wpAny_bind (I.type.here ?_)))
  simp only [hne, if_true]
  refine wpAny_bind ((looks_mroIn X hm).here ?_)
  simp only [Bool.false_eq_true, if_false]
  refine wpAny_bind (wpAny_mono two (fun r s' z => ?_) fun _ _ e => e)
  obtain ⟨rfl, rfl⟩ := z
  simp only [Bool.not_false, if_true]
  refine wpAny_bind (wpAny_mono one (fun r s' z => ?_) fun _ _ e => e)
  obtain ⟨v, rfl, hq⟩ := z
  exact wpAny_pure hq
end
/-! ### readings over the layer -/
section
variable {X : Cx} {CX : CXT} {k j : Nat} {C : Addr} {cn m : Str} {ps : List Str} {sp : Sp} {E : XK}
theorem back_of {pins : List (Addr × Obj)} {σ : L2.St} {Q : VK} {u : Value} {s' : Shared} (h : EP X pins σ Q u s') : PySem.W.CmpBack (EP X pins σ Q) u s' := by
  obtain ⟨v, H', I, r, q⟩ := id h
  cases v with
  | non => cases (show u = Value.none from r); exact h
  | bl b => cases (show u = Value.bool b from r); exact h
  | int i => obtain ⟨t, e⟩ := (show ∃ t, u = Value.int i t from r); cases e; exact h
  | str z => obtain ⟨t, e⟩ := (show ∃ t, u = Value.str z t from r); cases e; exact h
  | byt z => obtain ⟨t, e⟩ := (show ∃ t, u = Value.bytes z t from r); cases e; exact h
  | flt z => obtain ⟨t, e⟩ := (show ∃ t, u = Value.float z t from r); cases e; exact h
  | ref a => cases (show u = Value.ref a from r); exact h
  | ty n => cases (show u = Value.type n from r); exact h
/-- a method of the text's own asked by the machine, at the running body's own depth -/
theorem run_own {f : Addr} {fd : FuncData} {pins : List (Addr × Obj)} {σ : L2.St} {H : Hp} {s : Shared} {Q : VK} {us : List Value} {vs : List V} (F : FnOk X.prog X.w X.K X.mg X.base CX k f fd ps sp) (hr : Room k X.A) (hb : L2.Binds X.K fd ps []) (hx : Passes CX X E)
    (I : L2.Inv X pins σ H s) (r : Vals vs us) (h : sp vs H Q E) : wpAny (model X.prog X.w) X.A (call (.ref f) us) (PySem.W.CmpBack (EP X pins σ Q)) X.xe s :=
  wpAny_mono (run_fn F hr hb .nil hx I r (by rw [List.append_nil]; exact h)) (fun _ _ z => back_of z) fun _ _ z => z
/-- o op p, both of the class at C -/
def rOO (C : Addr) (sp : Sp) (E : XK) : R2 := fun x y H Q => ∃ a b dx dy fs gs, x = .ref a ∧ y = .ref b ∧ H a = some (.ins C dx fs) ∧ H b = some (.ins C dy gs) ∧ sp [x, y] H Q E
/-- o op n, n an int -/
def rOI (C : Addr) (sp : Sp) (E : XK) : R2 := fun x y H Q => ∃ a n dx fs, x = .ref a ∧ y = .int n ∧ H a = some (.ins C dx fs) ∧ sp [x, y] H Q E
/-- n op o, n an int: the reflected method -/
def rIO (C : Addr) (sp : Sp) (E : XK) : R2 := fun x y H Q => ∃ n b dx fs, x = .int n ∧ y = .ref b ∧ H b = some (.ins C dx fs) ∧ sp [y, x] H Q E
theorem op_oo {op : Operator} (hd : PySem.dunder op.info.2 = m) (M : Meth X.K C m (He.fAd X.K (cn, some m))) (hc : PySem.W.selfFirst X.K C = true) (O : OkD X.prog X.w X.K X.mg X.base CX k (cn, some m) ps [] sp) (hr : Room j X.A) (hj : k ≤ j) (hx : Passes CX X E) : OpR X (binaryOp op) (rOO C sp E) := by
  obtain ⟨fd, ds, F, b, v⟩ := O.ex
  cases v
  intro pins s σ H x y v u Q I rx ry h
  obtain ⟨a, b', dx, dy, fs, gs, rfl, rfl, ha, hb, hsp⟩ := h
  cases rx
  cases ry
  obtain ⟨mA, J, _⟩ := ins_get I.hok ha
  obtain ⟨mB, J', _⟩ := ins_get I.hok hb
  obtain ⟨od, J, _⟩ := J.look
  obtain ⟨od', J', _⟩ := J'.look
  obtain ⟨mm, hF⟩ := I.fr
  exact PySem.W.binop_K hF I.ok.mod.kin J J'.type hc (by rw [hd]; exact M.at_) M.fn (run_own (vs := [V.ref a, V.ref b']) F (hr.mono hj) b hx I (.cons rfl (.cons rfl .nil)) hsp)
theorem op_oi {op : Operator} {fo ro rc : Option Value} (hd : PySem.dunder op.info.2 = m) (M : Meth X.K C m (He.fAd X.K (cn, some m))) (hc : PySem.W.selfFirst X.K C = true) (h2 : PySem.W.findIn X.K (.ref C) (dunderR op.info.2) = some rc) (hp : rc = none ∨ ∃ g : Addr, rc = some (.ref g))
    (h3 : PySem.W.findIn X.K (.type "int") (PySem.dunder op.info.2) = some fo) (h4 : PySem.W.findIn X.K (.type "int") (dunderR op.info.2) = some ro) (h5 : PySem.W.subIn X.K (.type "int") (.ref C) = some false)
    (O : OkD X.prog X.w X.K X.mg X.base CX k (cn, some m) ps [] sp) (hr : Room j X.A) (hj : k ≤ j) (hx : Passes CX X E) : OpR X (binaryOp op) (rOI C sp E) := by
  obtain ⟨fd, ds, F, b, v⟩ := O.ex
  cases v
  intro pins s σ H x y v u Q I rx ry h
  obtain ⟨a, n, dx, fs, rfl, rfl, ha, hsp⟩ := h
  cases rx
  obtain ⟨t, rfl⟩ := ry
  obtain ⟨mA, J, _⟩ := ins_get I.hok ha
  obtain ⟨od, J, _⟩ := J.look
  obtain ⟨mm, hF⟩ := I.fr
  exact PySem.W.ksp_binT hF I.ok.mod.kin J rfl hc (by rw [hd]; exact M.at_) M.fn h2 hp h3 h4 h5 (run_own (vs := [V.ref a, V.int n]) F (hr.mono hj) b hx I (.cons rfl (.cons ⟨t, rfl⟩ .nil)) hsp)
theorem op_io {op : Operator} {f0 : Addr} {id : String} {B : Builtin} (hd : dunderR op.info.2 = m) (M : Meth X.K C m (He.fAd X.K (cn, some m))) (hc : PySem.W.selfFirst X.K C = true) (h2 : PySem.W.findIn X.K (.ref C) (PySem.dunder op.info.2) = some (some (.ref f0))) (hm : PySem.W.mroIn X.K C (.type "int") = some false)
    (hfT : fillsNumberSlot (.type "int") op.info.2 = pure true) (slot : Slot "int" (PySem.dunder op.info.2) id) (entry : entryFor table id = some B) (ha : ∀ a b, argsOk id ⟨[a, b], []⟩) (hB : Declines B)
    (O : OkD X.prog X.w X.K X.mg X.base CX k (cn, some m) ps [] sp) (hr : Room j X.A) (hj : k ≤ j) (hx : Passes CX X E) : OpR X (binaryOp op) (rIO C sp E) := by
  obtain ⟨fd, ds, F, b, v⟩ := O.ex
  cases v
  intro pins s σ H x y v u Q I rx ry h
  obtain ⟨n, b', dx, fs, rfl, rfl, hb, hsp⟩ := h
  obtain ⟨t, rfl⟩ := rx
  cases ry
  obtain ⟨mA, J, _⟩ := ins_get I.hok hb
  obtain ⟨od, J, _⟩ := J.look
  exact bin_int_own I.kIn J rfl hc h2 (by rw [hd]; exact M.at_) M.fn hm hfT slot entry (ha _ _) hB (run_own (vs := [V.ref b', V.int n]) F (hr.mono hj) b hx I (.cons rfl (.cons ⟨t, rfl⟩ .nil)) hsp)
/-- -o -/
def rUO (C : Addr) (sp : Sp) (E : XK) : V → Hp → VK → Prop := fun x H Q => ∃ a dx fs, x = .ref a ∧ H a = some (.ins C dx fs) ∧ sp [x] H Q E
theorem un_negO (M : Meth X.K C "__neg__" (He.fAd X.K (cn, some "__neg__"))) (O : OkD X.prog X.w X.K X.mg X.base CX k (cn, some "__neg__") ps [] sp) (hr : Room j X.A) (hj : k ≤ j) (hx : Passes CX X E) : UnR X (unaryOp .USub) (rUO C sp E) := by
  obtain ⟨fd, ds, F, b, v⟩ := O.ex
  cases v
  intro pins s σ H x v Q I rx h
  obtain ⟨a, dx, fs, rfl, ha, hsp⟩ := h
  cases rx
  obtain ⟨mA, J, _⟩ := ins_get I.hok ha
  obtain ⟨od, J, _⟩ := J.look
  obtain ⟨mm, hF⟩ := I.fr
  exact PySem.W.ksp_neg hF I.ok.mod.kin J M.at_ M.fn (run_fn (vs := [V.ref a]) F (hr.mono hj) b .nil hx I (.cons rfl .nil) hsp)
/-- abs(o) -/
def rAbsO (C : Addr) (sp : Sp) : List V → Hp → VK → Prop := fun xs H Q => ∃ a dx fs, xs = [.ref a] ∧ H a = some (.ins C dx fs) ∧ sp xs H Q fun _ _ _ => False
theorem call_absO (M : Meth X.K C "__abs__" (He.fAd X.K (cn, some "__abs__"))) (O : OkD X.prog X.w X.K X.mg X.base CX0 k (cn, some "__abs__") ps [] sp) (hr : Room j X.A) (hj : k + 2 ≤ j) : CallR X (.builtin "abs") (rAbsO C sp) := by
  obtain ⟨fd, ds, F, b, v⟩ := O.ex
  cases v
  intro pins s σ H xs us Q I r h
  obtain ⟨a, dx, fs, rfl, ha, hsp⟩ := h
  obtain ⟨u, rfl, ru⟩ : ∃ u, us = [u] ∧ RelV (.ref a) u := by
    cases r with
    | cons p q => cases q; exact ⟨_, rfl, p⟩
  cases ru
  obtain ⟨mA, J, _⟩ := ins_get I.hok ha
  obtain ⟨od, J, _⟩ := J.look
  have hr2 : Room (k + 1) X.A.in1 := (hr.mono hj).in1
  have hr3 : Room k X.A.in1 := hr2.mono (by omega)
  have hl := F.len _ _ _ _ hsp
  have hb := b s [.ref a] I.kIn (by simpa using hl)
  simp only [List.append_nil] at hb
  refine PySem.Calls.call_function_entry PyProof.Rows.kind_abs PyProof.Rows.plain_abs PyProof.Rows.entry_abs (PyProof.Rows.args_abs _) ?_
  unfold PySem.Builtin.«abs»
  refine wpAny_bind (wpAny_pure ?_)
  refine wpAny_bind (m := callSpecial? (.ref a) (Str.ofString "__abs__")) (PySem.W.special_fn I.kIn J M.at_ (beq_iff_eq.mp M.fn) ?_)
  refine wpAny_call (codeAny_mono (F.run X.A.in1 X.stack s H ⟨[.ref a], []⟩ [.ref a] [.ref a] _ _ hr3 I.env0.in1 hb (.cons rfl .nil) hsp) fun r s' hq => ?_)
  cases r with
  | error e => exact hq.elim
  | ok fl =>
    cases fl with
    | ret w => exact wpAny_pure ⟨_, rfl, I.after hq⟩
    | next => exact False.elim hq
    | brk => exact False.elim hq
    | cont => exact False.elim hq
/-- comparisons -/
theorem cmp_oo {op : CmpOp} (hd : (cmpInfo op).2.1 = m) (hop : compareOp op = richCompare op) (M : Meth X.K C m (He.fAd X.K (cn, some m))) (O : OkD X.prog X.w X.K X.mg X.base CX k (cn, some m) ps [] sp) (hr : Room j X.A) (hj : k ≤ j) (hx : Passes CX X E) : OpR X (compareOp op) (rOO C sp E) := by
  obtain ⟨fd, ds, F, b, v⟩ := O.ex
  cases v
  intro pins s σ H x y v u Q I rx ry h
  obtain ⟨a, b', dx, dy, fs, gs, rfl, rfl, ha, hb, hsp⟩ := h
  cases rx
  cases ry
  obtain ⟨mA, J, _⟩ := ins_get I.hok ha
  obtain ⟨mB, J', _⟩ := ins_get I.hok hb
  obtain ⟨od, J, _⟩ := J.look
  obtain ⟨od', J', _⟩ := J'.look
  obtain ⟨mm, hF⟩ := I.fr
  rw [hop]
  exact PySem.W.cmp_K (tb := .ref C) hr.units0 hF I.ok.mod.kin J J'.type (by simp [PySem.W.notFirst]) (by rw [hd]; exact M.at_) M.fn (run_own (vs := [V.ref a, V.ref b']) F (hr.mono hj) b hx I (.cons rfl (.cons rfl .nil)) hsp)
theorem cmp_oi {op : CmpOp} (hd : (cmpInfo op).2.1 = m) (hop : compareOp op = richCompare op) (M : Meth X.K C m (He.fAd X.K (cn, some m))) (h5 : PySem.W.subIn X.K (.type "int") (.ref C) = some false)
    (O : OkD X.prog X.w X.K X.mg X.base CX k (cn, some m) ps [] sp) (hr : Room j X.A) (hj : k ≤ j) (hx : Passes CX X E) : OpR X (compareOp op) (rOI C sp E) := by
  obtain ⟨fd, ds, F, b, v⟩ := O.ex
  cases v
  intro pins s σ H x y v u Q I rx ry h
  obtain ⟨a, n, dx, fs, rfl, rfl, ha, hsp⟩ := h
  cases rx
  obtain ⟨t, rfl⟩ := ry
  obtain ⟨mA, J, _⟩ := ins_get I.hok ha
  obtain ⟨od, J, _⟩ := J.look
  obtain ⟨mm, hF⟩ := I.fr
  rw [hop]
  exact PySem.W.cmp_K (tb := .type "int") hr.units0 hF I.ok.mod.kin J (PySem.W.Looks.of_pure rfl) (by unfold PySem.W.notFirst; rw [h5]; simp) (by rw [hd]; exact M.at_) M.fn (run_own (vs := [V.ref a, V.int n]) F (hr.mono hj) b hx I (.cons rfl (.cons ⟨t, rfl⟩ .nil)) hsp)
theorem cmp_io {op : CmpOp} {id : String} {B : Builtin} (hd : (cmpInfo op).2.2 = m) (hop : compareOp op = richCompare op) (M : Meth X.K C m (He.fAd X.K (cn, some m))) (hm : PySem.W.mroIn X.K C (.type "int") = some false)
    (slot : Slot "int" (cmpInfo op).2.1 id) (entry : entryFor table id = some B) (ha : ∀ a b, argsOk id ⟨[a, b], []⟩) (hB : Declines B)
    (O : OkD X.prog X.w X.K X.mg X.base CX k (cn, some m) ps [] sp) (hr : Room j X.A) (hj : k ≤ j) (hx : Passes CX X E) : OpR X (compareOp op) (rIO C sp E) := by
  obtain ⟨fd, ds, F, b, v⟩ := O.ex
  cases v
  intro pins s σ H x y v u Q I rx ry h
  obtain ⟨n, b', dx, fs, rfl, rfl, hb, hsp⟩ := h
  obtain ⟨t, rfl⟩ := rx
  cases ry
  obtain ⟨mA, J, _⟩ := ins_get I.hok hb
  obtain ⟨od, J, _⟩ := J.look
  rw [hop]
  exact cmp_int_own hr.units0 I.kIn J rfl (by rw [hd]; exact M.at_) M.fn hm slot entry (ha _ _) hB (run_own (vs := [V.ref b', V.int n]) F (hr.mono hj) b hx I (.cons rfl (.cons ⟨t, rfl⟩ .nil)) hsp)
end
end Vf

set_option Elab.async false
set_option linter.all false
set_option maxRecDepth 100000
set_option maxHeartbeats 2000000
namespace Vf
open PySem PySem.Spec PyProof.Rows L2
section
variable {X : Cx} {C : Addr} {bmB : List Value} {B newId initId : String}
/-- X(), X an error of the text's own without an __init__ -/
theorem pmk_own0 {x : Str} {p pos : Pos} (F : ExcBaseFacts B newId initId bmB) (q : PySem.W.excIn X.K C bmB newId = true) (gC : X.mg x = some (.ref C)) (kC : PySem.W.keepIn X.K (.ref C) = true) (r : Raises X (.ref C)) (hg : Gl X x)
    (hdb : (x == ("__debug__" : Str)) = false := by decide) : PMk X (.Call (.Name x p) [] [] pos) (fun _ H Q => Q (.ref C) none H) := by
  intro pins s σ H Q I h
  refine wpAny_Call_Name_kw (ld_glob I hg gC ?_ hdb)
  refine PySem.W.callWith_K0 I.kIn kC ?_
  obtain ⟨_, _, _, _, _, _, _, _, _, _, _, _, _, _, _, _, _, hC, hN, hni, T⟩ := exc_obj I.kIn q
  show wpAny _ _ (call (.ref C) []) _ _ _
  exact wpAny_call_exc_subT F T hC hN hni (fun h' e hm => L2.mk_of I hm r h (I.hok.gone hm.new)) (Nat.zero_le _)
end
theorem c_raise0 {X : Cx} {x : Str} {p pos pos2 : Pos} {W : WX} (c : (He.Fa.exc x).ok X.K = true) (hm : X.mg x = some (.ref (He.ga X.K x))) (tk : Takes X W) (hc : X.calm = true := by rfl) (hg : Gl X x := by rfl) (hdb : (x == ("__debug__" : Str)) = false := by decide) :
    PS X (.Raise (some (.Call (.Name x p) [] [] pos)) none pos2) (fun _ σ H => W (.ref (He.ga X.K x)) none σ H) := by
  obtain ⟨h1, h2, h3, h4⟩ := He.exc_ok c
  exact ps_raise hc tk (pmk_own0 PySem.F.excBase_ValueError h1 hm h2 (raises_own h3 h4) hg hdb)
theorem passX {X : Cx} {E : XK} (tk : Takes X (fun cls d _ H => E cls d H)) : Passes (L2.CX X.prog X.w) X E := passes_call tk fun _ _ _ _ h => h
theorem opr_or {X : Cx} {f : Value → Value → Sem Value} {r1 r2 : R2} (h1 : OpR X f r1) (h2 : OpR X f r2) : OpR X f (fun x y H Q => r1 x y H Q ∨ r2 x y H Q) := fun pins s σ H x y v u Q I rx ry h => by
  rcases h with h | h
  · exact h1 pins s σ H x y v u Q I rx ry h
  · exact h2 pins s σ H x y v u Q I rx ry h
section
variable (K : PySem.W.Frag)
theorem int_add : PySem.W.findIn K (.type "int") (PySem.dunder "add") = some (some (.builtin "int.__add__")) := by kernel_rfl
theorem int_sub : PySem.W.findIn K (.type "int") (PySem.dunder "sub") = some (some (.builtin "int.__sub__")) := by kernel_rfl
theorem int_mul : PySem.W.findIn K (.type "int") (PySem.dunder "mul") = some (some (.builtin "int.__mul__")) := by kernel_rfl
theorem int_fdv : PySem.W.findIn K (.type "int") (PySem.dunder "floordiv") = some (some (.builtin "int.__floordiv__")) := by kernel_rfl
theorem int_radd : PySem.W.findIn K (.type "int") (dunderR "add") = some (some (.builtin "int.__radd__")) := by kernel_rfl
theorem int_rsub : PySem.W.findIn K (.type "int") (dunderR "sub") = some (some (.builtin "int.__rsub__")) := by kernel_rfl
theorem int_rmul : PySem.W.findIn K (.type "int") (dunderR "mul") = some (some (.builtin "int.__rmul__")) := by kernel_rfl
theorem int_rfdv : PySem.W.findIn K (.type "int") (dunderR "floordiv") = some (some (.builtin "int.__rfloordiv__")) := by kernel_rfl
end
end Vf

set_option Elab.async false
set_option linter.all false
set_option maxRecDepth 100000
set_option maxHeartbeats 2000000
namespace Vf
open PySem PySem.Spec PyProof.Rows L2
section
open PySem.W PySem.Calls
variable {prog : Program} {w : World} {A : Around} {E : Value → Shared → Prop} {s : Shared} {K : Frag} {x C f L : Addr} {h₀ : Heap} {m : Str → Option Value} {ox : Obj} {od : Option Obj}
/-- x, an instance of the text's own, is of no built-in type T -/
theorem inst_not {T : String} {Q : Bool → Shared → Prop} (X : K.In s.heap) (I : InstAt s.heap x ox C od) (hm : mroIn K C (.type T) = some false) (h : Q false s) : wpAny (model prog w) A (isInstance (.ref x) (.type T)) Q E s := by
  unfold isInstance
  exact wpAny_bind (I.type.here ((looks_mroIn X hm).here h))
theorem eq_no_none {Q : Fin → Shared → Prop} (h : Q (.done (.ret .notImplemented)) s) : wpAny (model prog w) A (PySem.Builtin.«NoneType.__eq__» ⟨[.none, .ref x], []⟩) Q E s := by
  unfold PySem.Builtin.«NoneType.__eq__»
  wp_walk
  exact h
theorem eq_no_int {n : Value} (hn : (∃ b, n = .bool b) ∨ ∃ i t, n = .int i t) (hd : ox.data = .plain) (hx : s.heap.get? x = some ox) {Q : Fin → Shared → Prop} (h : Q (.done (.ret .notImplemented)) s) : wpAny (model prog w) A (PySem.Builtin.«int.__eq__» ⟨[n, .ref x], []⟩) Q E s := by
  obtain ⟨hp, gg, d, tk, os⟩ := s
  obtain ⟨oc, odd, oda, osl⟩ := ox
  dsimp only at hd
  subst hd
  rcases hn with ⟨b, rfl⟩ | ⟨i, t, rfl⟩
  · wp_walk using AutoSeq1.wpAny_loadPart' hx
    exact h
  · wp_walk using AutoSeq1.wpAny_loadPart' hx
    exact h
theorem eq_no_str {z : Str} {t : Tok} (hd : ox.data = .plain) (hx : s.heap.get? x = some ox) {Q : Fin → Shared → Prop} (h : Q (.done (.ret .notImplemented)) s) : wpAny (model prog w) A (PySem.Builtin.«str.__eq__» ⟨[.str z t, .ref x], []⟩) Q E s := by
  obtain ⟨hp, gg, d, tk, os⟩ := s
  obtain ⟨oc, odd, oda, osl⟩ := ox
  dsimp only at hd
  subst hd
  wp_walk using AutoSeq1.wpAny_loadPart' hx
  exact h
theorem eq_no_tup {a : Addr} (X : K.In s.heap) (I : InstAt s.heap x ox C od) (hm : mroIn K C (.type "tuple") = some false) {Q : Fin → Shared → Prop} (h : Q (.done (.ret .notImplemented)) s) : wpAny (model prog w) A (PySem.Builtin.«tuple.__eq__» ⟨[.ref a, .ref x], []⟩) Q E s := by
  wp_walk using inst_not X I hm
  exact h
theorem eq_no_lst {a : Addr} (X : K.In s.heap) (I : InstAt s.heap x ox C od) (hm : mroIn K C (.type "list") = some false) {Q : Fin → Shared → Prop} (h : Q (.done (.ret .notImplemented)) s) : wpAny (model prog w) A (PySem.Builtin.«list.__eq__» ⟨[.ref a, .ref x], []⟩) Q E s := by
  wp_walk using inst_not X I hm
  exact h
theorem eq_no_dic {a : Addr} {oa : Obj} (ha : s.heap.get? a = some oa) (X : K.In s.heap) (I : InstAt s.heap x ox C od) (hm : mroIn K C (.type "dict") = some false) {Q : Fin → Shared → Prop} (h : Q (.done (.ret .notImplemented)) s) : wpAny (model prog w) A (PySem.Builtin.«dict.__eq__» ⟨[.ref a, .ref x], []⟩) Q E s := by
  wp_walk using inst_not X I hm
  exact h
/-- v == x: v's slot declines, x's own is asked -/
theorem eq_any_own {v : Value} {T id : String} {B : Builtin} {Q : Value → Shared → Prop} (hT : s.TypeIs v T) (hu : A.units < cLine) (X : K.In s.heap) (I : InstAt s.heap x ox C od)
    (hr : findIn K (.ref C) "__eq__" = some (some (.ref f))) (hf : isFn K (.ref f) = true) (hm : mroIn K C (.type T) = some false)
    (slot : Slot T (cmpInfo .Eq).2.1 id) (entry : entryFor table id = some B) (ha : argsOk id ⟨[v, .ref x], []⟩) (hB : ∀ Q : Fin → Shared → Prop, Q (.done (.ret .notImplemented)) s → wpAny (model prog w) A.in1 (B ⟨[v, .ref x], []⟩) Q E s)
    (h : wpAny (model prog w) A (call (.ref f) [.ref x, v]) (PySem.W.CmpBack Q) E s) : wpAny (model prog w) A (richCompare .Eq v (.ref x)) Q E s := by
  have one : wpAny (model prog w) A (tryCompare (.ref x) "__eq__" v) (fun r s' => ∃ z, r = some z ∧ Q z s') E s := by
    unfold tryCompare
    refine wpAny_bind (ifBound_K X I hr hf (wpAny_mono h (fun z s' hv => ?_) fun _ _ e => e))
    cases z <;> first | exact hv.elim | exact wpAny_pure ⟨_, rfl, hv⟩
  have two : wpAny (model prog w) A (tryCompare v (cmpInfo .Eq).2.1 (.ref x)) (fun r s' => r = none ∧ s' = s) E s :=
    wpAny_tryCompare_declines hT slot (wpAny_call_entry slot hT entry (hB _ ⟨_, rfl, rfl, rfl, rfl⟩) ha)
  have hne : (Value.type T != Value.ref C) = true := bne_iff_ne.mpr fun q => by cases q
  unfold richCompare
  simp only [hT.oneThing_none]
  refine wpAny_holding (wpAny_bind (wpAny_cRoomFor hu ?_))
  refine wpAny_bind (wpAny_typeOf hT (wpAny_bind (I.type.here ?_)))
  simp only [hne, if_true]
  refine wpAny_bind ((looks_mroIn X hm).here ?_)
  simp only [Bool.false_eq_true, if_false]
  refine wpAny_bind (wpAny_mono two (fun r s' z => ?_) fun _ _ e => e)
  obtain ⟨rfl, rfl⟩ := z
  simp only [Bool.not_false, if_true]
  refine wpAny_bind (wpAny_mono one (fun r s' z => ?_) fun _ _ e => e)
  obtain ⟨z, rfl, hq⟩ := z
  exact wpAny_pure hq
theorem sub_not {n : String} {l : List Value} (e : fastBuiltinMro n = some l) (h : ∀ a, l.contains (.ref a) = false) : subIn K (.type n) (.ref C) = some false := by
  show (fastBuiltinMro n).map (·.contains (.ref C)) = some false
  rw [e, Option.map_some, h]
end
theorem looks_ty {M : Model} {s : Shared} {u : Value} {n : String} (h : s.TypeIs u n) : PySem.W.Looks M s.heap (typeOf u) (.type n) := fun A Q E s' k q => by
  refine wpAny_typeOf (T := n) ?_ q
  cases u with
  | ref a =>
    obtain ⟨o, h1, h2⟩ := h
    exact ⟨o, k _ _ h1, h2⟩
  | _ => exact h
/-! ### odd values beside an own object -/
def oddK : List String := ["bool", "NoneType", "str", "tuple", "list", "dict"]
section
variable {X : Cx} {CX : CXT} {k j : Nat} {C : Addr} {cn m : Str} {ps : List Str} {sp : Sp} {E : XK}
/-- a built-in type none of our classes is over, nor they over it -/
theorem odd_is {pins : List (Addr × Obj)} {s : Shared} {σ : L2.St} {H : Hp} {x : V} {u : Value} (I : L2.Inv X pins σ H s) (o : Odd H x) (r : RelV x u) :
    ∃ n ∈ oddK, s.TypeIs u n := by
  cases o with
  | bl b => cases r; exact ⟨"bool", by simp [oddK], rfl⟩
  | non => cases r; exact ⟨"NoneType", by simp [oddK], rfl⟩
  | str z => obtain ⟨t, rfl⟩ := r; exact ⟨"str", by simp [oddK], rfl⟩
  | tup h =>
    cases r
    obtain ⟨_, _, _, o, h1, h2, _⟩ := (show ObjOk X.prog X.w H s.heap _ (.tup _) from I.hok _ _ h)
    exact ⟨"tuple", by simp [oddK], o, h1, h2⟩
  | lst h =>
    cases r
    obtain ⟨_, _, n, _, h1⟩ := (show ObjOk X.prog X.w H s.heap _ (.lst _) from I.hok _ _ h)
    exact ⟨"list", by simp [oddK], _, h1, rfl⟩
  | dic h =>
    cases r
    obtain ⟨_, _, vs, _, o, es, ep, h1, h2, _⟩ := (show ObjOk X.prog X.w H s.heap _ (.dK _) from I.hok _ _ h)
    exact ⟨"dict", by simp [oddK], o, h1, h2.1⟩
theorem odd_first {n : String} (h : n ∈ oddK) : PySem.W.subIn X.K (.type n) (.ref C) = some false := by
  simp only [oddK, List.mem_cons, List.not_mem_nil, or_false] at h
  rcases h with rfl | rfl | rfl | rfl | rfl | rfl
  · exact sub_not (l := [.type "bool", .type "int", .type "object"]) (by decide +kernel) fun a => by simp
  · exact sub_not (l := [.type "NoneType", .type "object"]) (by decide +kernel) fun a => by simp
  · exact sub_not (l := [.type "str", .type "object"]) (by decide +kernel) fun a => by simp
  · exact sub_not (l := [.type "tuple", .type "object"]) (by decide +kernel) fun a => by simp
  · exact sub_not (l := [.type "list", .type "object"]) (by decide +kernel) fun a => by simp
  · exact sub_not (l := [.type "dict", .type "object"]) (by decide +kernel) fun a => by simp
/-- a method of the text's own asked by the machine, somewhere below the running body -/
theorem run_ownA {A : Around} {f : Addr} {fd : FuncData} {pins : List (Addr × Obj)} {σ : L2.St} {H : Hp} {s : Shared} {Q : VK} {us : List Value} {vs : List V} (F : FnOk X.prog X.w X.K X.mg X.base CX k f fd ps sp) (sb : Sub X k A) (hb : L2.Binds X.K fd ps []) (hx : Passes CX X E)
    (I : L2.Inv X pins σ H s) (r : Vals vs us) (h : sp vs H Q E) : wpAny (model X.prog X.w) A (call (.ref f) us) (PySem.W.CmpBack (EP X pins σ Q)) X.xe s := by
  have e0 : Env0 X.prog X.w X.K X.mg X.base A X.stack s H := by
    have e := I.env0
    exact ⟨by rw [sb.fr]; exact e.frames, e.mod, e.bs, e.bsz, e.funs, e.frf, e.hok, e.bare⟩
  have hl := F.len _ _ _ _ h
  refine wpAny_call (codeAny_mono (F.run A X.stack s H ⟨us, []⟩ us vs _ E sb.room e0 (by
    have := hb s us I.kIn (by rw [List.append_nil, ← r.length, hl])
    simpa using this) r h) fun r s' hq => ?_)
  cases r with
  | error e => exact hx pins σ H s e s' I hq
  | ok fl =>
    cases fl with
    | ret w => exact back_of (I.after hq)
    | next => exact False.elim hq
    | brk => exact False.elim hq
    | cont => exact False.elim hq
/-- x == y, x odd, y of the class at C: its own == is asked -/
theorem rc_odd {A : Around} {pins : List (Addr × Obj)} {s : Shared} {σ : L2.St} {H : Hp} {x : V} {u : Value} {b dx : Addr} {fs : List (Str × V)} {Q : VK} (sb : Sub X k A) (M : Meth X.K C "__eq__" (He.fAd X.K (cn, some "__eq__")))
    (hm : ∀ n ∈ oddK, PySem.W.mroIn X.K C (.type n) = some false) (O : OkD X.prog X.w X.K X.mg X.base CX k (cn, some "__eq__") ps [] sp) (hx : Passes CX X E) (I : L2.Inv X pins σ H s) (o : Odd H x) (rx : RelV x u) (hb : H b = some (.ins C dx fs)) (h0 : sp [.ref b, x] H Q E) :
    wpAny (model X.prog X.w) A (richCompare .Eq u (.ref b)) (EP X pins σ Q) X.xe s := by
  obtain ⟨fd, ds, F, bi, v⟩ := O.ex
  cases v
  obtain ⟨mA, J, _⟩ := ins_get I.hok hb
  obtain ⟨od, J, _⟩ := J.look
  have go := run_ownA (vs := [V.ref b, x]) (us := [.ref b, u]) F sb bi hx I (.cons rfl (.cons rx .nil)) h0
  have hu := sb.room.units0
  cases o with
  | bl y =>
    cases rx
    exact eq_any_own (T := "bool") rfl hu I.kIn J M.at_ M.fn (hm _ (by simp [oddK])) PySem.F.slot_bool_eq PySem.F.entry_int_eq (PySem.F.args_int_eq_2 _ _) (fun Q q => eq_no_int (.inl ⟨_, rfl⟩) rfl J.at_ q) go
  | non =>
    cases rx
    exact eq_any_own (T := "NoneType") rfl hu I.kIn J M.at_ M.fn (hm _ (by simp [oddK])) PySem.F.slot_NoneType_eq PySem.F.entry_NoneType_eq (PySem.F.args_NoneType_eq_2 _ _) (fun Q q => eq_no_none q) go
  | str z =>
    obtain ⟨t, rfl⟩ := rx
    exact eq_any_own (T := "str") rfl hu I.kIn J M.at_ M.fn (hm _ (by simp [oddK])) PySem.F.slot_str_eq PySem.F.entry_str_eq (PySem.F.args_str_eq_2 _ _) (fun Q q => eq_no_str rfl J.at_ q) go
  | tup h =>
    cases rx
    obtain ⟨_, _, _, o, h1, h2, _⟩ := (show ObjOk X.prog X.w H s.heap _ (.tup _) from I.hok _ _ h)
    exact eq_any_own (T := "tuple") ⟨o, h1, h2⟩ hu I.kIn J M.at_ M.fn (hm _ (by simp [oddK])) PySem.F.slot_tuple_eq PySem.F.entry_tuple_eq (PySem.F.args_tuple_eq_2 _ _) (fun Q q => eq_no_tup I.kIn J (hm _ (by simp [oddK])) q) go
  | lst h =>
    cases rx
    obtain ⟨_, _, n, _, h1⟩ := (show ObjOk X.prog X.w H s.heap _ (.lst _) from I.hok _ _ h)
    exact eq_any_own (T := "list") ⟨_, h1, rfl⟩ hu I.kIn J M.at_ M.fn (hm _ (by simp [oddK])) PySem.F.slot_list_eq PySem.F.entry_list_eq (PySem.F.args_list_eq_2 _ _) (fun Q q => eq_no_lst I.kIn J (hm _ (by simp [oddK])) q) go
  | dic h =>
    cases rx
    obtain ⟨_, _, vs, _, o, es, ep, h1, h2, _⟩ := (show ObjOk X.prog X.w H s.heap _ (.dK _) from I.hok _ _ h)
    exact eq_any_own (T := "dict") ⟨o, h1, h2.1⟩ hu I.kIn J M.at_ M.fn (hm _ (by simp [oddK])) PySem.F.slot_dict_eq PySem.F.entry_dict_eq (PySem.F.args_dict_eq_2 _ _) (fun Q q => eq_no_dic h1 I.kIn J (hm _ (by simp [oddK])) q) go
/-- odd == o -/
def rDO (C : Addr) (sp : Sp) (E : XK) : R2 := fun x y H Q => ∃ b dx fs, Odd H x ∧ y = .ref b ∧ H b = some (.ins C dx fs) ∧ sp [y, x] H Q E
theorem eq_do (M : Meth X.K C "__eq__" (He.fAd X.K (cn, some "__eq__"))) (hm : ∀ n ∈ oddK, PySem.W.mroIn X.K C (.type n) = some false) (O : OkD X.prog X.w X.K X.mg X.base CX k (cn, some "__eq__") ps [] sp) (hr : Room j X.A) (hj : k ≤ j) (hx : Passes CX X E) : OpR X (compareOp .Eq) (rDO C sp E) := by
  intro pins s σ H x y v u Q I rx ry h
  obtain ⟨b, dx, fs, o, rfl, hb, hsp⟩ := h
  cases ry
  exact rc_odd ⟨hr.mono hj, rfl⟩ M hm O hx I o rx hb hsp
/-- o ? odd -/
def rOD (C : Addr) (sp : Sp) (E : XK) : R2 := fun x y H Q => ∃ a dx fs, x = .ref a ∧ H a = some (.ins C dx fs) ∧ Odd H y ∧ sp [x, y] H Q E
theorem cmp_od {op : CmpOp} (hd : (cmpInfo op).2.1 = m) (hop : compareOp op = richCompare op) (M : Meth X.K C m (He.fAd X.K (cn, some m))) (O : OkD X.prog X.w X.K X.mg X.base CX k (cn, some m) ps [] sp) (hr : Room j X.A) (hj : k ≤ j) (hx : Passes CX X E) : OpR X (compareOp op) (rOD C sp E) := by
  obtain ⟨fd, ds, F, b, v⟩ := O.ex
  cases v
  intro pins s σ H x y v u Q I rx ry h
  obtain ⟨a, dx, fs, rfl, ha, o, hsp⟩ := h
  cases rx
  obtain ⟨mA, J, _⟩ := ins_get I.hok ha
  obtain ⟨od, J, _⟩ := J.look
  obtain ⟨mm, hF⟩ := I.fr
  obtain ⟨n, hn, ht⟩ := odd_is I o ry
  rw [hop]
  exact PySem.W.cmp_K (tb := .type n) hr.units0 hF I.ok.mod.kin J (looks_ty ht) (by unfold PySem.W.notFirst; rw [odd_first hn]; simp) (by rw [hd]; exact M.at_) M.fn (run_own (vs := [V.ref a, y]) F (hr.mono hj) b hx I (.cons rfl (.cons ry .nil)) hsp)
/-! ### x in a list, where == is the text's own -/
/-- == inside a built-in's body: its answer; it only makes objects -/
abbrev Eqb := V → V → Hp → Bool → Prop
def EqB (X : Cx) (n : Nat) (D : Eqb) : Prop :=
  ∀ (A : Around) (pins : List (Addr × Obj)) (s : Shared) (σ : L2.St) (H : Hp) (x y : V) (u v : Value) (b : Bool), Sub X n A → L2.Inv X pins σ H s → RelV x u → RelV y v → D x y H b →
    wpAny (model X.prog X.w) A (eqBool u v) (fun r s' => r = b ∧ ∃ H', L2.Inv X pins σ H' s' ∧ Ext H H') X.xe s
theorem EqB.or {n : Nat} {D D' : Eqb} (h : EqB X n D) (h' : EqB X n D') : EqB X n (fun x y H b => D x y H b ∨ D' x y H b) := fun A pins s σ H x y u v b sb I rx ry d => by
  rcases d with d | d
  · exact h A pins s σ H x y u v b sb I rx ry d
  · exact h' A pins s σ H x y u v b sb I rx ry d
def DOO (C : Addr) (sp : Sp) (E : XK) : Eqb := fun x y H b => ∃ a c dx dy fs gs, x = .ref a ∧ y = .ref c ∧ H a = some (.ins C dx fs) ∧ H c = some (.ins C dy gs) ∧ (a = c → b = true) ∧ sp [x, y] H (fun v H' => v = .bl b ∧ Ext H H') E
def DDO (C : Addr) (sp : Sp) (E : XK) : Eqb := fun x y H b => ∃ c dy gs, Odd H x ∧ y = .ref c ∧ H c = some (.ins C dy gs) ∧ (x = y → b = true) ∧ sp [y, x] H (fun v H' => v = .bl b ∧ Ext H H') E
theorem eqB_of_rc {A : Around} {pins : List (Addr × Obj)} {s : Shared} {σ : L2.St} {H : Hp} {u v : Value} {b : Bool} (hs : (u == v) = true → b = true) (hf : ∀ i t, u ≠ .float i t) (I : L2.Inv X pins σ H s)
    (h : wpAny (model X.prog X.w) A (richCompare .Eq u v) (EP X pins σ (fun v H' => v = .bl b ∧ Ext H H')) X.xe s) : wpAny (model X.prog X.w) A (eqBool u v) (fun r s' => r = b ∧ ∃ H', L2.Inv X pins σ H' s' ∧ Ext H H') X.xe s := by
  unfold eqBool
  refine wpAny_holding ?_
  refine wpAny_ite_split (fun hab => ?_) (fun _ => ?_)
  · refine wpAny_bind (wpAny_rule ?_)
    exact wpAny_pure ⟨(hs hab).symm, H, I, Ext.rfl'⟩
  · have tail : wpAny (model X.prog X.w) A (richCompare .Eq u v >>= truthOfDropped) (fun r s' => r = b ∧ ∃ H', L2.Inv X pins σ H' s' ∧ Ext H H') X.xe s := by
      refine wpAny_bind (wpAny_mono h (fun z s' hz => ?_) fun _ _ x => x)
      obtain ⟨v', H', I', rz, e, ex⟩ := hz
      subst e
      cases rz
      exact wpAny_truthy_bool ⟨rfl, H', I', ex⟩
    cases u with
    | float i t => exact absurd rfl (hf i t)
    | _ => exact tail
theorem eqB_oo {n : Nat} (M : Meth X.K C "__eq__" (He.fAd X.K (cn, some "__eq__"))) (O : OkD X.prog X.w X.K X.mg X.base CX n (cn, some "__eq__") ps [] sp) (hx : Passes CX X E) : EqB X n (DOO C sp E) := by
  obtain ⟨fd, ds, F, bi, v⟩ := O.ex
  cases v
  intro A pins s σ H x y u v b sb I rx ry d
  obtain ⟨a, c, dx, dy, fs, gs, rfl, rfl, ha, hc, he, hsp⟩ := d
  cases rx
  cases ry
  obtain ⟨mA, J, _⟩ := ins_get I.hok ha
  obtain ⟨mB, J', _⟩ := ins_get I.hok hc
  obtain ⟨od, J, _⟩ := J.look
  obtain ⟨od', J', _⟩ := J'.look
  obtain ⟨mm, hF⟩ := I.fr
  refine eqB_of_rc (fun h => he (by have := eq_of_beq h; injection this)) (fun _ _ z => nomatch z) I ?_
  exact PySem.W.cmp_K (op := .Eq) (tb := .ref C) sb.room.units0 hF I.ok.mod.kin J J'.type (by simp [PySem.W.notFirst]) M.at_ M.fn (run_ownA (vs := [V.ref a, V.ref c]) F sb bi hx I (.cons rfl (.cons rfl .nil)) hsp)
theorem eqB_do {n : Nat} (M : Meth X.K C "__eq__" (He.fAd X.K (cn, some "__eq__"))) (hm : ∀ n ∈ oddK, PySem.W.mroIn X.K C (.type n) = some false) (O : OkD X.prog X.w X.K X.mg X.base CX n (cn, some "__eq__") ps [] sp) (hx : Passes CX X E) : EqB X n (DDO C sp E) := by
  intro A pins s σ H x y u v b sb I rx ry d
  obtain ⟨c, dy, gs, o, rfl, hc, he, hsp⟩ := d
  cases ry
  refine eqB_of_rc (fun h => he ?_) (fun i t z => ?_) I (rc_odd sb M hm O hx I o rx hc hsp)
  · have := eq_of_beq h
    subst this
    cases x with
    | ref a => cases rx; rfl
    | int i => obtain ⟨t, h⟩ := rx; cases h
    | str i => obtain ⟨t, h⟩ := rx; cases h
    | byt i => obtain ⟨t, h⟩ := rx; cases h
    | flt i => obtain ⟨t, h⟩ := rx; cases h
    | _ => cases rx
  · subst z
    cases o with
    | bl => cases rx
    | non => cases rx
    | str => obtain ⟨t, h⟩ := rx; cases h
    | tup => cases rx
    | lst => cases rx
    | dic => cases rx
/-- the loop of list.__contains__; at each turn the list is read anew -/
theorem in_loop {P : Program} {w : World} {A : Around} {R : Result → Shared → Prop} {l : Addr} {N : Nat} {x : Value} (J : Shared → Prop) (e : Nat → Bool)
    (hl : ∀ i s, J s → ∃ (its : List Value) (n : Nat) (dd : Option Addr) (sl : Array (Option Value)), s.heap.get? l = some { cls := .type "list", dict := dd, data := .seq its.toArray n, slots := sl } ∧ its.length = N ∧ ∀ h : i < its.length, wpAny (model P w) A.in1 (eqBool its[i] x) (fun r s' => r = e i ∧ J s') (fun e s' => R (.error e) s') s) (k : Nat) :
    ∀ i : Nat, N - i = k → i ≤ N → ∀ s, J s → (∀ s', J s' → R (.ok (.ret (.bool ((List.range' i k).any e)))) s') →
      wpAny (model P w) A.in1 (Builtin.«list.__contains__.loop» ⟨[.ref l, x, rawInt i], []⟩) (GQ.FinOf P w A R) (fun e s' => R (.error e) s') s := by
  induction k with
  | zero =>
    intro i hk hi s h fin
    obtain ⟨items, n, dd, sl, ho, hn, _⟩ := hl i s h
    have q := fin s h
    obtain ⟨hp, g, d, tk, os⟩ := s
    wp_walk using AutoSeq1.wpAny_loadPart' ho
    have hi : items.toArray[((i : Nat) : Int).toNat]? = none := by simp; omega
    rw [hi]
    wp_walk
    exact q
  | succ k ih =>
    intro i hk hi s h fin
    obtain ⟨items, n, dd, sl, ho, hn, turn⟩ := hl i s h
    have hlt : i < items.length := by omega
    have t := turn hlt
    obtain ⟨hp, g, d, tk, os⟩ := s
    wp_walk using AutoSeq1.wpAny_loadPart' ho
    have hi : items.toArray[((i : Nat) : Int).toNat]? = some items[i] := by simp [hlt]
    rw [hi]
    refine wpAny_bind (wpAny_mono t (fun r s2 q => ?_) fun _ _ z => z)
    obtain ⟨rfl, h2⟩ := q
    rw [List.range'_succ, List.any_cons] at fin
    cases hb : e i with
    | true =>
      rw [hb] at fin
      have q := fin s2 h2
      obtain ⟨hp2, g2, d2, tk2, os2⟩ := s2
      wp_walk
      exact q
    | false =>
      rw [hb] at fin
      have hc : ((i : Int) + 1) = ((i + 1 : Nat) : Int) := by push_cast; rfl
      have go := ih (i + 1) (by omega) (by omega) s2 h2 (fun s' h' => by simpa using fin s' h')
      obtain ⟨hp2, g2, d2, tk2, os2⟩ := s2
      wp_walk
      rw [hc]
      exact ⟨plainId_quiet MeetsSeq.plain_contains_loop _, codeAny_builtin MeetsSeq.entry_contains_loop (by
        rw [Around.under_plainId MeetsSeq.plain_contains_loop _]
        exact go)⟩
/-- x in the list at y: item by item D says how they compare -/
def rInB (K : PySem.W.Frag) (neg : Bool) (D : Eqb) : R2 := fun x y H Q => ∃ (p : Addr) (xs : List V) (bs : List Bool), y = .ref p ∧ SqL K H p xs ∧ Paired (fun z b => ∀ H', Ext H H' → D z x H' b) xs bs ∧ ∀ H', Ext H H' → Q (.bl (if neg then !bs.any id else bs.any id)) H'
theorem any_range (bs : List Bool) : (List.range' 0 bs.length).any (fun i => bs.getD i false) = bs.any id := by
  rw [← List.range_eq_range']
  rw [Bool.eq_iff_iff, List.any_eq_true, List.any_eq_true]
  constructor
  · rintro ⟨i, hi, e⟩
    have h := List.mem_range.mp hi
    refine ⟨bs[i], List.getElem_mem h, ?_⟩
    simpa [List.getD_eq_getElem?_getD, List.getElem?_eq_getElem h] using e
  · rintro ⟨b, hb, e⟩
    obtain ⟨i, h, rfl⟩ := List.mem_iff_getElem.mp hb
    exact ⟨i, List.mem_range.mpr h, by simpa [List.getD_eq_getElem?_getD, List.getElem?_eq_getElem h] using e⟩
theorem paired_get {α β : Type} {R : α → β → Prop} : ∀ {xs : List α} {bs : List β}, Paired R xs bs → ∀ i (h : i < xs.length), ∃ b, bs[i]? = some b ∧ R xs[i] b
  | _, _, .nil, i, h => absurd h (Nat.not_lt_zero _)
  | _ :: _, _ :: _, .cons r p, 0, _ => ⟨_, rfl, r⟩
  | _ :: _, _ :: _, .cons r p, i + 1, h => paired_get p i (by simpa using h)
theorem paired_len {α β : Type} {R : α → β → Prop} : ∀ {xs : List α} {bs : List β}, Paired R xs bs → xs.length = bs.length
  | _, _, .nil => rfl
  | _, _, .cons _ p => congrArg (· + 1) (paired_len p)
theorem in_body {n : Nat} {D : Eqb} {neg : Bool} (h : EqB X n D) (hr : Room (n + 1) X.A) {pins : List (Addr × Obj)} {s : Shared} {σ : L2.St} {H : Hp} {x y : V} {u v : Value} {Q : VK} (I : L2.Inv X pins σ H s) (rx : RelV x u) (ry : RelV y v) (hq : rInB X.K neg D x y H Q) :
    wpAny (model X.prog X.w) X.A (contains v u) (fun r s' => EP X pins σ Q (.bool (if neg then !r else r)) s') X.xe s := by
  obtain ⟨p, xs, bs, rfl, hS, pr, q⟩ := hq
  cases ry
  obtain ⟨its, r, pl, hz⟩ := I.list hS
  have hT : s.TypeIs (.ref p) "list" := by
    obtain ⟨⟨cls, dd, data, sl⟩, n', ho, hc, _⟩ := id pl
    exact ⟨_, ho, hc⟩
  have J0 : (fun s' => ∃ H', L2.Inv X pins σ H' s' ∧ Ext H H') s := ⟨H, I, Ext.rfl'⟩
  refine wpAny_contains_slot hT PySem.F.slot_list_contains ?_
  refine GQ.call_here PySem.F.slot_list_contains hT PySem.F.entry_list_contains (PySem.F.args_list_contains_2 _ _) ?_
  have lp := in_loop (P := X.prog) (w := X.w) (A := X.A) (R := wants (fun r s' => wpAny (model X.prog X.w) X.A (truthy r) (fun r s' => EP X pins σ Q (Value.bool (if neg = true then !r else r)) s') X.xe s') X.xe) (l := p) (N := xs.length) (x := u) (fun s' => ∃ H', L2.Inv X pins σ H' s' ∧ Ext H H') (fun i => bs.getD i false) ?hl bs.length 0 (by rw [paired_len pr]; rfl) (Nat.zero_le _) s J0 ?fin
  case hl =>
    rintro i s' ⟨H', I', e⟩
    obtain ⟨its', r', pl', _⟩ := I'.list (SqL.ext hS e)
    obtain ⟨o, n', ho, hc, hd, hs⟩ := pl'
    obtain ⟨cls, dd, data, sl⟩ := o
    dsimp only at hc hd hs
    refine ⟨its', n', dd, sl, by first | (rw [ho, hc, hs]) | (rw [ho]; subst hc; subst hs; rfl), r'.length.symm, fun hi => ?_⟩
    have hx : i < xs.length := by rw [r'.length]; exact hi
    obtain ⟨z, hz', rz⟩ := r'.get (List.getElem?_eq_getElem hx)
    rw [List.getElem?_eq_getElem hi] at hz'
    obtain ⟨b, hb, hd'⟩ := paired_get pr i hx
    have eb : bs.getD i false = b := by simp [List.getD_eq_getElem?_getD, hb]
    rw [Option.some.inj hz', eb]
    refine wpAny_mono (h X.A.in1 pins s' σ H' _ x _ u b ⟨hr.in1, rfl⟩ I' rz rx (hd' _ e)) (fun r2 s2 q2 => ?_) fun _ _ z => z
    obtain ⟨h2, H2, I2, e2⟩ := q2
    exact ⟨h2, H2, I2, e.trans e2⟩
  case fin =>
    rintro s' ⟨H', I', e⟩
    rw [any_range]
    exact wpAny_truthy_bool ⟨.bl _, H', I', rfl, q H' e⟩
  obtain ⟨hp, g, d, tk, os⟩ := s
  wp_walk
  exact ⟨plainId_quiet MeetsSeq.plain_contains_loop _, codeAny_builtin MeetsSeq.entry_contains_loop (by
    rw [Around.under_plainId MeetsSeq.plain_contains_loop _]
    exact lp)⟩
theorem op_inB {n : Nat} {D : Eqb} (h : EqB X n D) (hr : Room (n + 1) X.A) : OpR X (compareOp .In) (rInB X.K false D) := fun pins s σ H x y v u Q I rx ry hq => by
  show wpAny (model X.prog X.w) X.A (do return Value.bool (← contains u v)) (EP X pins σ Q) X.xe s
  exact wpAny_bind (wpAny_mono (in_body h hr I rx ry hq) (fun _ _ z => wpAny_pure z) fun _ _ z => z)
theorem op_notInB {n : Nat} {D : Eqb} (h : EqB X n D) (hr : Room (n + 1) X.A) : OpR X (compareOp .NotIn) (rInB X.K true D) := fun pins s σ H x y v u Q I rx ry hq => by
  show wpAny (model X.prog X.w) X.A (do return Value.bool (!(← contains u v))) (EP X pins σ Q) X.xe s
  exact wpAny_bind (wpAny_mono (in_body h hr I rx ry hq) (fun _ _ z => wpAny_pure z) fun _ _ z => z)
end
end Vf

set_option Elab.async false
set_option linter.all false
set_option maxRecDepth 100000
set_option maxHeartbeats 2000000
namespace Vf
open PySem PySem.Spec PyProof.Rows L2
/-! ### names of the text that stand for an int, a text, a tuple of texts -/
section
variable {X : Cx}
theorem c_gint {x : Str} {i : Int} {pos : Pos} (hm : ∃ t, X.mg x = some (.int i t)) (hg : Gl X x := by rfl) (hd : (x == ("__debug__" : Str)) = false := by decide) : PE X (.Name x pos) (tC (.int i)) := by
  obtain ⟨t, h⟩ := hm
  exact pe_glob hg h ⟨t, rfl⟩ hd
theorem c_gstr {x z : Str} {pos : Pos} (hm : ∃ t, X.mg x = some (.str z t)) (hg : Gl X x := by rfl) (hd : (x == ("__debug__" : Str)) = false := by decide) : PE X (.Name x pos) (tC (.str z)) := by
  obtain ⟨t, h⟩ := hm
  exact pe_glob hg h ⟨t, rfl⟩ hd
end
def strsB : List Value → List Str → Bool
  | [], [] => true
  | .str y _ :: us, z :: zs => decide (y = z) && strsB us zs
  | _, _ => false
theorem strsB_ok : ∀ {us : List Value} {zs : List Str}, strsB us zs = true → Vals (zs.map V.str) us
  | [], [], _ => .nil
  | .str y t :: us, z :: zs, h => by
    obtain ⟨h1, h2⟩ := He.ba h
    have e := of_decide_eq_true h1
    subst e
    exact .cons ⟨t, rfl⟩ (strsB_ok h2)
/-- at a a tuple of the texts zs -/
def kTup (K : PySem.W.Frag) (a : Addr) (zs : List Str) : Bool := match K.lookup a with
  | some ⟨.type n, _, .seq its _, _⟩ => decide (n = "tuple") && (decide (its.size ≤ sizeLine) && strsB its.toList zs)
  | _ => false
theorem kTup_ok {K : PySem.W.Frag} {a : Addr} {zs : List Str} (h : kTup K a zs = true) (H : Hp) : SqT K H a (zs.map V.str) := by
  unfold kTup at h
  split at h
  · rename_i n od its m sl e
    obtain ⟨h1, h2⟩ := He.ba h
    obtain ⟨h2, h3⟩ := He.ba h2
    have e1 := of_decide_eq_true h1
    subst e1
    exact .inr ⟨_, its, m, e, rfl, rfl, of_decide_eq_true h2, strsB_ok h3⟩
  · cases h
/-! ### C(.., k = v, ..) -/
structure OkK (P : Program) (w : World) (K : PySem.W.Frag) (mg : Str → Option Value) (base : Heap) (CX : CXT) (k : Nat) (p : Pl) (ps : List Str) (n : Nat) (ks : List Str) (gV : List V → List V → List V) (sp : Sp) : Prop where
  ex : ∃ fd g, FnOk P w K mg base CX k (He.fAd K p) fd ps sp ∧ KBn K fd ps n ks g gV
theorem c_mkK {X : Cx} {CX : CXT} {k j n : Nat} {ps ks : List Str} {sp : Sp} {x : Str} {p pos : Pos} {e : Expr} {es : List Expr} {kws : List Keyword} {t tk : TA} {gV : List V → List V → List V} {E : XK} {C : Addr} (M : Mk X.K C (He.fAd X.K (x, some "__init__"))) (O : OkK X.prog X.w X.K X.mg X.base CX k (x, some "__init__") ps (n + 1) ks gV sp) (hr : Room j X.A) (hj : k + 1 ≤ j) (hm : X.mg x = some (.ref C)) (hx : Passes CX X E) (ha : PA X (e :: es) t) (hkw : PK X kws tk) (hg : Gl X x := by rfl)
    (hall : (backToKw pos (keywordEach kws X.env)).all (·.1.isSome) = true := by rfl) (hks : (backToKw pos (keywordEach kws X.env)).filterMap (·.1) = ks := by rfl) (hdb : (x == ("__debug__" : Str)) = false := by decide)
    (he : starEach (e :: es) X.env = (false, eval e X.env) :: starEach es X.env := by rfl) (hpl : ((backTo pos (starEach (e :: es) X.env)).any (·.1) || (backToKw pos (keywordEach kws X.env)).any (·.1.isNone)) = false := by rfl) :
    PE X (.Call (.Name x p) (e :: es) kws pos) (tMakeK C n ks.length sp gV E t tk) := by
  obtain ⟨fd, g, F, b⟩ := O.ex
  exact pe_makeK M F (hr.mono hj) hg hm b hx ha hkw hall hks hdb he hpl
/-! ### texts -/
/-- one sign in a text -/
theorem sign_in (x : Str) (c : Nat) : (!(Builtin.Str.occurrences x ⟨#[c]⟩ 0 x.length 1).isEmpty) = decide (c ∈ x.cps.toList) := PySem.StrLaws.found_one x c
/-- a value that is no text -/
inductive OddS (H : Hp) : V → Prop where
  | bl (b : Bool) : OddS H (.bl b)
  | non : OddS H .non
  | int (i : Int) : OddS H (.int i)
  | tup {a : Addr} {xs : List V} (h : H a = some (.tup xs)) : OddS H (.ref a)
  | lst {a : Addr} {xs : List V} (h : H a = some (.lst xs)) : OddS H (.ref a)
  | dic {a : Addr} {kvs : List (Key × V)} (h : H a = some (.dK kvs)) : OddS H (.ref a)
theorem oddS_ty (K : PySem.W.Frag) {H : Hp} {x : V} (o : OddS H x) : ∃ n : String, TyX K H x (.type n) ∧ kitB n "str" = some false := by
  cases o with
  | bl b => exact ⟨"bool", .base (.bl b), by decide +kernel⟩
  | non => exact ⟨"NoneType", .base .non, by decide +kernel⟩
  | int i => exact ⟨"int", .base (.int i), by decide +kernel⟩
  | tup h => exact ⟨"tuple", .base (.tup h), by decide +kernel⟩
  | lst h => exact ⟨"list", .base (.lst h), by decide +kernel⟩
  | dic h => exact ⟨"dict", .base (.dK h), by decide +kernel⟩
/-- a value that is no bool -/
inductive OddB (H : Hp) : V → Prop where
  | str (z : Str) : OddB H (.str z)
  | non : OddB H .non
  | int (i : Int) : OddB H (.int i)
  | tup {a : Addr} {xs : List V} (h : H a = some (.tup xs)) : OddB H (.ref a)
  | lst {a : Addr} {xs : List V} (h : H a = some (.lst xs)) : OddB H (.ref a)
  | dic {a : Addr} {kvs : List (Key × V)} (h : H a = some (.dK kvs)) : OddB H (.ref a)
theorem oddB_ty (K : PySem.W.Frag) {H : Hp} {x : V} (o : OddB H x) : ∃ n : String, TyX K H x (.type n) ∧ kitB n "bool" = some false := by
  cases o with
  | str z => exact ⟨"str", .base (.str z), by decide +kernel⟩
  | non => exact ⟨"NoneType", .base .non, by decide +kernel⟩
  | int i => exact ⟨"int", .base (.int i), by decide +kernel⟩
  | tup h => exact ⟨"tuple", .base (.tup h), by decide +kernel⟩
  | lst h => exact ⟨"list", .base (.lst h), by decide +kernel⟩
  | dic h => exact ⟨"dict", .base (.dK h), by decide +kernel⟩
end Vf

set_option Elab.async false
set_option linter.all false
set_option maxRecDepth 100000
set_option maxHeartbeats 2000000
namespace Vf
open PySem PySem.Spec PyProof.Rows L2
/-- the callee's errors are the def's own -/
theorem passE {X : Cx} {E : XK} (hs : X.stack = X.env :: X.outer) (hf : X.env.frame = some X.env.locals) (hex : X.ex = []) {E₁ : Value → Shared → Prop}
    (hx : X.xe = fun e s' => wpAny (model X.prog X.w) X.A (leaving X.env e) (fun _ s'' => L2.CX X.prog X.w X.outer X.H_0 X.s_0 E e s'') E₁ s') : Passes (L2.CX X.prog X.w) X E :=
  passes_call (takes_of hs hf hex hx) fun _ _ _ _ h => h
/-! ### o.m(k = v, ..) -/
def tMethK (C : Addr) (m : Str) (n : Nat) (sp : Sp) (gV : List V → List V → List V) (E : XK) (ta : TE) (tk : TA) : TE := fun σ H Q => ta σ H fun x H1 => ∃ a dx fs, x = .ref a ∧ H1 a = some (.ins C dx fs) ∧ fs.lookup m = none ∧
  tk σ H1 fun zs H2 => zs.length = n ∧ sp (gV [.ref a] zs) H2 Q E
theorem c_meK {X : Cx} {CX : CXT} {k j : Nat} {ps ks : List Str} {sp : Sp} {m cn : Str} {o : Expr} {pos apos : Pos} {kws : List Keyword} {ta : TE} {tk : TA} {gV : List V → List V → List V} {E : XK} {C : Addr} (hC : C = He.ga X.K cn) (hb : PE X o ta) (c : Cls X.K C) (hm : Meth X.K C m (He.fAd X.K (cn, some m)))
    (O : OkK X.prog X.w X.K X.mg X.base CX k (cn, some m) ps 1 ks gV sp) (hr : Room j X.A) (hj : k ≤ j) (hx : Passes CX X E) (hkw : PK X kws tk) {pl : Sem Bool}
    (hall : (backToKw pos (keywordEach kws X.env)).all (·.1.isSome) = true := by rfl) (hks : (backToKw pos (keywordEach kws X.env)).filterMap (·.1) = ks := by rfl)
    (hpl : ((backTo pos (starEach [] X.env)).any (·.1) || (backToKw pos (keywordEach kws X.env)).any (·.1.isNone)) = false := by rfl)
    (ht : eval (.Call (.Attribute o m apos) [] kws pos) X.env = (do
      let ov ← eval o X.env
      standAt apos.atName
      let (f, first) ← holding [ov] (getMethod ov m pl)
      callWith pos f first (backTo pos (starEach [] X.env)) (backToKw pos (keywordEach kws X.env))) := by rfl) :
    PE X (.Call (.Attribute o m apos) [] kws pos) (tMethK C m ks.length sp gV E ta tk) := by
  obtain ⟨fd, g, F, b⟩ := O.ex
  refine ⟨fun pins s σ H Q I h => ?_⟩
  refine PySem.W.methodCall_KW (pl := pl) (thn (hb.run pins s σ H _ I h) fun u s1 ⟨x, H1, I1, rx, a, dx, fs, ex, ea, l, q⟩ => ?_) ht
  subst ex
  obtain rfl : u = Value.ref a := rx
  refine getmeth_ok I1 ea c hm l ?_
  refine PySem.W.callWith_KW0 (first := [.ref a]) (h₀ := X.base) I.ok.mod.kin hm.kp hall ?_ hpl
  refine thn (hkw.run pos pins s1 σ H1 _ I1 q) fun ws s2 ⟨zs, H2, I2, rz, l2, q2⟩ => ⟨I2.kIn, ?_⟩
  rw [hks]
  exact run_fnN (us := [.ref a]) (vs := [.ref a]) F (hr.mono hj) b hx I2 (.cons rfl .nil) rz rfl l2 q2
/-! ### o != o of a class with an own == alone -/
section
open PySem.W PySem.Calls
variable {M : Model} {prog : Program} {w : World} {A : Around} {E : Value → Shared → Prop} {s : Shared} {K : Frag} {x y C f : Addr} {ox oy : Obj} {od od' : Option Obj}
theorem ifBound_objNe {args : List Value} {Q : Option Value → Shared → Prop} (X : K.In s.heap) (I : InstAt s.heap x ox C od) (hs : findIn K (.ref C) "__ne__" = some (some (.builtin "object.__ne__")))
    (h : wpAny M A (call (.builtin "object.__ne__") (.ref x :: args)) (fun v => Q (some v)) E s) : wpAny M A (callSpecialIfBound? (.ref x) "__ne__" args) Q E s := by
  simp only [callSpecialIfBound?, bindSpecialIfBound?]
  refine wpAny_holding (wpAny_bind (wpAny_bind (wpAny_bind (I.type.here ((looks_findIn X hs).here ?_)))))
  refine wpAny_bind (wpAny_askSetting (wpAny_ite ?_))
  have fin : wpAny M A (call (.builtin "object.__ne__") ([.ref x] ++ args) >>= fun v => pure (some v)) Q E s := wpAny_bind (wpAny_mono h (fun v s' h' => wpAny_pure h') fun _ _ h' => h')
  split
  · exact wpAny_bind (wpAny_of_eq (F.cmp_object.ne.bind _) (wpAny_pure (by exact fin)))
  · exact wpAny_tryCatch (wpAny_bind (wpAny_of_eq (F.cmp_object.ne.bind _) (wpAny_pure (by exact fin))))
def NeBack (Q : Value → Shared → Prop) (v : Value) (s' : Shared) : Prop := ∃ t, v = .bool t ∧ Q (.bool (!t)) s'
theorem entry_ne {Q : Fin → Shared → Prop} (hu : A.units < cLine) (X : K.In s.heap) (I : InstAt s.heap x ox C od) (hs : findIn K (.ref C) "__eq__" = some (some (.ref f))) (hf : isFn K (.ref f) = true)
    (h : wpAny (model prog w) A (call (.ref f) [.ref x, .ref y]) (NeBack fun v => Q (.done (.ret v))) E s) : wpAny (model prog w) A (Builtin.«object.__ne__» ⟨[.ref x, .ref y], []⟩) Q E s := by
  have e : wpAny (model prog w) A (callSpecialIfBound? (.ref x) "__eq__" [.ref y]) (fun r s' => ∃ t, r = some (.bool t) ∧ Q (.done (.ret (.bool (!t)))) s') E s :=
    ifBound_K X I hs hf (wpAny_mono h (fun v s' hv => by obtain ⟨t, rfl, q⟩ := hv; exact ⟨t, rfl, q⟩) fun _ _ e => e)
  unfold Builtin.«object.__ne__»
  repeat (first | with_reducible refine wpAny_cRoomFor hu ?_ | with_reducible refine wpAny_mono e ?_ (fun _ _ e => e) | wp_step)
  rintro r s' ⟨t, rfl, q⟩
  refine wpAny_bind (wpAny_truthy_bool ?_)
  exact wpAny_pure q
theorem call_ne {Q : Value → Shared → Prop} (hu : A.in1.units < cLine) (X : K.In s.heap) (I : InstAt s.heap x ox C od) (hm : mroIn K C (.type "object") = some true) (hs : findIn K (.ref C) "__eq__" = some (some (.ref f))) (hf : isFn K (.ref f) = true)
    (h : wpAny (model prog w) A.in1 (call (.ref f) [.ref x, .ref y]) (NeBack Q) E s) :
    wpAny (model prog w) A (call (.builtin "object.__ne__") [.ref x, .ref y]) Q E s :=
  wpAny_call (codeAny_call_builtin F.cmp_object.ne.plain F.cmpEntry_ne (check_slot F.cmpKind_ne F.cmpSplit_ne (I.type.andThen (looks_mroIn X hm)) (F.cmpArgs_ne _ _) (entry_ne hu X I hs hf h)))
theorem rc_ne {Q : Value → Shared → Prop} (hu : A.units < cLine) (hu1 : A.in1.units < cLine) (X : K.In s.heap) (I : InstAt s.heap x ox C od) (I' : InstAt s.heap y oy C od') (hm : mroIn K C (.type "object") = some true)
    (hn : findIn K (.ref C) "__ne__" = some (some (.builtin "object.__ne__"))) (hs : findIn K (.ref C) "__eq__" = some (some (.ref f))) (hf : isFn K (.ref f) = true)
    (h : wpAny (model prog w) A.in1 (call (.ref f) [.ref x, .ref y]) (NeBack Q) E s) : wpAny (model prog w) A (richCompare .NotEq (.ref x) (.ref y)) Q E s := by
  have one : wpAny (model prog w) A (tryCompare (.ref x) "__ne__" (.ref y)) (fun r s' => ∃ v, r = some v ∧ Q v s') E s := by
    unfold tryCompare
    refine wpAny_bind (ifBound_objNe X I hn (call_ne hu1 X I hm hs hf (wpAny_mono h (fun v s' hv => ?_) fun _ _ e => e)))
    obtain ⟨t, rfl, q⟩ := hv
    exact ⟨t, rfl, wpAny_pure ⟨_, rfl, q⟩⟩
  unfold richCompare
  simp only [oneThing_ref]
  refine wpAny_holding (wpAny_bind (wpAny_cRoomFor hu ?_))
  refine wpAny_bind (I.type.here (wpAny_bind (I'.type.here ?_)))
  split
  · rename_i q
    exact absurd q (by simp)
  · refine wpAny_bind (wpAny_pure ?_)
    simp only [Bool.false_eq_true, if_false]
    refine wpAny_bind (wpAny_mono one (fun r s' z => ?_) fun _ _ e => e)
    obtain ⟨v, rfl, hq⟩ := z
    exact wpAny_pure hq
end
def rNeO (C : Addr) (sp : Sp) : R2 := fun x y H Q => ∃ a b dx dy fs gs, x = .ref a ∧ y = .ref b ∧ H a = some (.ins C dx fs) ∧ H b = some (.ins C dy gs) ∧ sp [.ref a, .ref b] H (fun v H' => ∃ t, v = .bl t ∧ Q (.bl (!t)) H') fun _ _ _ => False
theorem cmp_neO {X : Cx} {k j : Nat} {C : Addr} {cn : Str} {ps : List Str} {sp : Sp} (hC : C = He.ga X.K cn) (M : Meth X.K C "__eq__" (He.fAd X.K (cn, some "__eq__"))) (hn : PySem.W.findIn X.K (.ref C) "__ne__" = some (some (.builtin "object.__ne__"))) (hm : PySem.W.mroIn X.K C (.type "object") = some true)
    (O : OkD X.prog X.w X.K X.mg X.base CX0 k (cn, some "__eq__") ps [] sp) (hr : Room j X.A) (hj : k + 1 ≤ j) : OpR X (compareOp .NotEq) (rNeO C sp) := by
  obtain ⟨fd, ds, F, b, v⟩ := O.ex
  cases v
  intro pins s σ H x y v u Q I rx ry h
  obtain ⟨a, b', dx, dy, fs, gs, rfl, rfl, ha, hb, hsp⟩ := h
  cases rx
  cases ry
  obtain ⟨mA, J, _⟩ := ins_get I.hok ha
  obtain ⟨mB, J', _⟩ := ins_get I.hok hb
  obtain ⟨od, J, _⟩ := J.look
  obtain ⟨od', J', _⟩ := J'.look
  have hr1 : Room k X.A.in1 := (hr.mono hj).in1
  refine rc_ne hr.units0 hr1.units0 I.kIn J J' hm hn M.at_ M.fn ?_
  have hl := F.len _ _ _ _ hsp
  have hbb := b s [.ref a, .ref b'] I.kIn (by simpa using hl)
  simp only [List.append_nil] at hbb
  refine wpAny_call (codeAny_mono (F.run X.A.in1 X.stack s H ⟨[.ref a, .ref b'], []⟩ [.ref a, .ref b'] [.ref a, .ref b'] _ _ hr1 I.env0.in1 hbb (.cons rfl (.cons rfl .nil)) hsp) fun r s' hq => ?_)
  cases r with
  | error e => exact hq.elim
  | ok fl =>
    cases fl with
    | ret w =>
      obtain ⟨z, H', I', rz, t, ez, q⟩ := I.after hq
      subst ez
      cases rz
      exact ⟨t, rfl, .bl (!t), H', I', rfl, q⟩
    | next => exact False.elim hq
    | brk => exact False.elim hq
    | cont => exact False.elim hq
end Vf

set_option Elab.async false
set_option linter.all false
set_option maxRecDepth 100000
set_option maxHeartbeats 2000000
/-! ### enumerate over a tuple -/
namespace PySem
open Sem (wp)
open AutoSeq1 (wpAny_loadPart')
theorem vf_enum_newT (l : Addr) (items : Array Value) (n : Nat) (dct : Option Addr) (sl : Array (Option Value)) :
    Meets (Builtin.«enumerate.__new__» ⟨[.type "enumerate", .ref l], []⟩) (fun _ R s => s.heap.get? l = some { cls := .type "tuple", dict := dct, data := .seq items n, slots := sl } ∧
      R (.ok (.ret (.ref (s.heap.push { cls := .type "tuple_iterator", data := .fields #[.ref l, .int 0 0] }).objs.size)))
        { s with heap := (s.heap.push { cls := .type "tuple_iterator", data := .fields #[.ref l, .int 0 0] }).push { cls := .type "enumerate", data := .fields #[.none, .bool false, .ref s.heap.objs.size, rawInt 0, .none, .none] } }) :=
  .of_wp fun prog w A R s h => by
    obtain ⟨hp, g, d, tk, os⟩ := s; obtain ⟨hl, h⟩ := h
    have hsub := sub_enumerate
    have hL : Heap.IsTuple (Shared.heap ⟨hp, g, d, tk, os⟩) l items := ⟨_, hl, rfl, n, rfl⟩
    wp_walk using wpAny_loadPart' hl
    refine wpAny_stack_any fun st => wpAny_pure ?_
    split
    · rename_i c _ _ _ _ _
      cases (c == Value.type "enumerate")
      · wp_walk using wpAny_loadPart' hl, wpAny_pyIter_tuple hL
        exact ⟨_, rfl, h⟩
      · wp_walk using wpAny_loadPart' hl, wpAny_pyIter_tuple hL
        exact ⟨_, rfl, h⟩
    · wp_walk using wpAny_loadPart' hl, wpAny_pyIter_tuple hL
      exact ⟨_, rfl, h⟩
section
variable {prog : Program} {w : World} {A : Around} {E : Value → Shared → Prop} {s : Shared}
theorem vf_call_enumT {l : Addr} {items : Array Value} {Q : Value → Shared → Prop} (hL : s.heap.IsTuple l items)
    (h : ∀ h', IsEnum h' (s.heap.objs.size + 1) s.heap.objs.size 0 .none → h'.IsTupleIter s.heap.objs.size l 0 → h'.objs.size = s.heap.objs.size + 2 →
      (∀ b o, s.heap.get? b = some o → h'.get? b = some o) → Q (.ref (s.heap.objs.size + 1)) { s with heap := h' }) :
    wpAny (model prog w) A (call (.type "enumerate") [.ref l]) Q E s := by
  obtain ⟨⟨c, dct, dt, sl⟩, hl, hc, n, hd⟩ := hL
  replace hc : c = .type "tuple" := hc
  replace hd : dt = .seq items n := hd
  subst hc hd
  refine callType_new F.called_enumerate (by decide) (F.typeCall_enumerate_1 _) (F.newCall_enumerate_1 _) (fun obj => F.args_object_init_2 obj _) F.entry_enumerate_new
    (vf_enum_newT l items n dct sl) ⟨hl, ?_⟩
  have hz : (s.heap.push { cls := .type "tuple_iterator", data := .fields #[.ref l, .int 0 0] }).objs.size = s.heap.objs.size + 1 := Heap.size_push ..
  show _ ∧ _
  rw [hz]
  have he : IsEnum ((s.heap.push { cls := .type "tuple_iterator", data := .fields #[.ref l, .int 0 0] }).push
      { cls := .type "enumerate", data := .fields #[.none, .bool false, .ref s.heap.objs.size, rawInt 0, .none, .none] }) (s.heap.objs.size + 1) s.heap.objs.size 0 .none := by
    have := Heap.get?_push_size (s.heap.push { cls := .type "tuple_iterator", data := .fields #[.ref l, .int 0 0] })
      (o := { cls := .type "enumerate", data := .fields #[.none, .bool false, .ref s.heap.objs.size, rawInt 0, .none, .none] }) rfl
    rw [hz] at this; exact this
  refine ⟨⟨_, he, rfl⟩, h _ he ⟨_, Heap.get?_push_of_some _ (Heap.get?_push_size _ rfl), rfl, rfl⟩ (by rw [Heap.size_push, hz]) fun b o x => Heap.get?_push_of_some _ (Heap.get?_push_of_some _ x)⟩
end
end PySem
namespace Vf
open PySem PySem.Spec PyProof.Rows L2
/-- the tuple at a, each item in a new pair -/
def IteT (K : PySem.W.Frag) (a : Addr) : It :=
  ⟨fun i H => ∃ (xs : List V) (x : V), SqT K H a xs ∧ xs[i]? = some x, fun i H v H' => ∃ T x, v = .ref T ∧ H T = none ∧ H' = upd H T (.tup [.int (i : Nat), x]) ∧ ∀ xs, SqT K H a xs → xs[i]? = some x, fun i H => ∃ xs : List V, SqT K H a xs ∧ xs.length = i⟩
theorem turn_enumT {P : Program} {w : World} {K : PySem.W.Frag} {elts : List Expr} {kk : Nat} {tpos : Pos} (a e it : Addr) :
    Turn P w K (.Tuple elts kk tpos) (IteT K a) [e, it] e (fun i h => (∃ old, IsEnum h e it ((i : Nat) : Int) old) ∧ h.IsTupleIter it a i ∧ e ≠ it) where
  mem := by simp
  obj := fun i h st b hb => by
    obtain ⟨⟨old, he⟩, ⟨o, ho, hc, hd⟩, _⟩ := st
    have e' : b = e ∨ b = it := by simpa using hb
    rcases e' with z | z
    · rw [z]; exact ⟨_, he, fun v q => nomatch q⟩
    · rw [z]; exact ⟨o, ho, fun v q => by rw [hd] at q; cases q⟩
  keep := fun i h h' st k => let ⟨⟨old, he⟩, hi, hne⟩ := st; ⟨⟨old, k e (by simp) _ he⟩, hi.at fun o q => k it (by simp) o q, hne⟩
  item := by
    intro X hP hw hK hc i pins s σ H E I hf st hg
    subst hP hw hK
    obtain ⟨⟨old, he⟩, hit, hne⟩ := st
    obtain ⟨xs, x, hq, hx⟩ := hg
    obtain ⟨its, rv, p, hz⟩ := I.tuple hq
    obtain ⟨u, hu, ru⟩ := rv.get hx
    have pT : s.heap.IsTuple a its.toArray := p
    have hel : e < s.heap.objs.size := Heap.lt_size he
    have hil : it < s.heap.objs.size := by obtain ⟨_, q, _⟩ := hit; exact Heap.lt_size q
    have nai : a ≠ it := fun z => by
      subst z
      obtain ⟨o1, h1, c1, _⟩ := pT
      obtain ⟨o2, h2, c2, _⟩ := hit
      rw [h1] at h2
      cases h2
      rw [c1] at c2
      injection c2 with c2
      exact absurd c2 (by decide)
    have nae : a ≠ e := fun z => by
      subst z
      obtain ⟨o1, h1, c1, _⟩ := pT
      rw [show s.heap.get? a = _ from he] at h1
      cases h1
      injection c1 with c1
      exact absurd c1 (by decide)
    have hli : i < its.toArray.size := by
      have := (List.getElem?_eq_some_iff.mp hu).1
      simpa using this
    have hh : X.A.in1.handled = none := I.ok.hd hc
    refine wpAny_pyNext_enum_itemD (Draws.tuple hh it a nai its.toArray) he ⟨hit, pT⟩ hli hne (by simp [hne, nae.symm]) fun v h' tk hv ho hit' hT hsz hk => ?_
    have ev : v = u := by
      have h1 : its[i]? = some v := by simpa using hv
      rw [hu] at h1
      exact (Option.some.inj h1).symm
    subst ev
    refine ⟨_, rfl, wpAny_letOwnedTupleGo_enum (s := { s with heap := h', toks := tk + 1 }) ho fun h'' he' sb => ?_⟩
    have hT2 : h''.get? s.heap.objs.size = some { cls := .type "tuple", data := .seq #[.int i tk, v] } := (sb.2 _ (Nat.ne_of_gt hel)).trans hT
    have new : ObjOk X.prog X.w (upd H s.heap.objs.size (.tup [.int (i : Nat), x])) h'' s.heap.objs.size (.tup [.int (i : Nat), x]) :=
      ⟨by show 2 ≤ sizeLine; decide, [.int i tk, v], .cons ⟨_, rfl⟩ (.cons ru .nil), ⟨_, hT2, rfl, _, rfl⟩⟩
    have I1 : Inv X pins σ (upd H s.heap.objs.size (.tup [.int (i : Nat), x])) { s with heap := h'', toks := tk + 1 } :=
      I.turnedNew (ch := [e, it]) (fun b ob hb q => (sb.2 b (fun z => hb (by simp [z]))).trans (hk b ob (fun z => hb (by simp [z])) (fun z => hb (by simp [z])) q)) hf (Nat.le_refl _) new
    refine ⟨.ref s.heap.objs.size, _, I1, rfl, ⟨_, x, rfl, I.hok.fresh (Nat.le_refl _), rfl, fun ys hy => by rw [I.tuple_inj hy hq]; exact hx⟩, ⟨⟨v, ?_⟩, hit'.1.at fun o q => (sb.2 it (Ne.symm hne)).trans q, hne⟩, fun b hb => ?_⟩
    · have e1 : ((i + 1 : Nat) : Int) = (i : Int) + 1 := by omega
      rw [e1]; exact he'
    · have hb' : b < s.heap.objs.size := by
        have e' : b = e ∨ b = it := by simpa using hb
        rcases e' with z | z
        · rw [z]; exact hel
        · rw [z]; exact hil
      rw [upd_ne (Nat.ne_of_lt hb')]
      exact (hf b hb).1
  done := by
    intro X hP hw hK hc i pins s σ H E I hf st hg
    subst hP hw hK
    obtain ⟨⟨old, he⟩, hit, hne⟩ := st
    obtain ⟨xs, hq, hx⟩ := hg
    obtain ⟨its, rv, p, hz⟩ := I.tuple hq
    have pT : s.heap.IsTuple a its.toArray := p
    obtain ⟨f0, f1, f2, f3, f4, f5⟩ := hf it (by simp)
    have hl := rv.length
    have nai : a ≠ it := fun z => by
      subst z
      obtain ⟨o1, h1, c1, _⟩ := pT
      obtain ⟨o2, h2, c2, _⟩ := hit
      rw [h1] at h2
      cases h2
      rw [c1] at c2
      injection c2 with c2
      exact absurd c2 (by decide)
    have hh : X.A.in1.handled = none := I.ok.hd hc
    have hin : its.toArray.size = i := by simp; omega
    subst hin
    exact wpAny_pyNext_enum_endD (Draws.tuple hh it a nai its.toArray) he ⟨hit, pT⟩ fun h' eb => ⟨rfl, I.turned (t' := s.toks) (fun b o hb q => eb b o hb q) f0 f1 f3 f4 f5⟩
  self := fun A i s Q E st h => let ⟨⟨_, he⟩, _⟩ := st; wpAny_pyIter_enum he h
def iEnumT (K : PySem.W.Frag) (ta : TA) : TI := fun σ H R => ta σ H fun vs H1 => ∃ a xs, vs = [.ref a] ∧ SqT K H1 a xs ∧ R (IteT K a) H1
theorem pi_enumT {X : Cx} {e : Expr} {ta : TA} {p pos tpos : Pos} {elts : List Expr} {kk : Nat} (hg : Gl X "enumerate") (hm : X.mg "enumerate" = none) (ha : PA X [e] ta) (hs : starEach [e] X.env = [(false, eval e X.env)] := by rfl) :
    PI X (.Tuple elts kk tpos) (.Call (.Name "enumerate" p) [e] [] pos) (iEnumT X.K ta) := by
  refine ⟨fun pins s σ H R I h => ?_⟩
  refine Call_ (ld_blt I hg hm boot_enumerate (PyProof.Rows.callWith_type1 (thn (ha.run pos pins s σ H _ I h) fun us s1 ⟨vs, H1, I1, r1, q1⟩ => ?_) hs rfl))
  obtain ⟨a, xs, ex, hq, q⟩ := q1
  subst ex
  cases r1 with
  | cons r rr =>
    cases rr
    cases r
    obtain ⟨its, rv, p', hz⟩ := I1.tuple hq
    refine vf_call_enumT (show s1.heap.IsTuple a its.toArray from p') fun h' he hit hsz hk => wpAny_pyIter_enum he ?_
    have I2 : Inv X pins σ H1 { s1 with heap := h' } := I1.kept (t' := s1.toks) hk
    refine ⟨s1.heap.objs.size + 1, [s1.heap.objs.size + 1, s1.heap.objs.size], _, _, H1, rfl, I2, turn_enumT a (s1.heap.objs.size + 1) s1.heap.objs.size, ⟨⟨.none, he⟩, hit, Nat.succ_ne_self _⟩, fun b hb => ?_, q⟩
    have e' : b = s1.heap.objs.size + 1 ∨ b = s1.heap.objs.size := by simpa using hb
    have hle : s1.heap.objs.size ≤ b := by
      rcases e' with z | z
      · rw [z]; exact Nat.le_add_right _ _
      · rw [z]; exact Nat.le_refl _
    exact I1.fpOk hle (I1.hok.fresh hle)
theorem walk_enumT {K : PySem.W.Frag} {a : Addr} {xs : List V} : Walk (IteT K a) xs.length (fun H => SqT K H a xs) (YPair (fun i => some (.int (i : Nat))) (fun i => xs[i]?)) := by
  refine ⟨fun i _ hi q => ⟨xs, xs[i], q, by simp [hi]⟩, fun _ q => ⟨xs, q, rfl⟩, fun i H v H' _ q y => ?_⟩
  obtain ⟨T, x, h1, h2, h3, h4⟩ := y
  exact ⟨T, .int (i : Nat), x, h1, h2, h3, rfl, h4 xs q⟩
theorem ix_listK {X : Cx} {K : PySem.W.Frag} (h : X.K = K) : IxR X (rIxL K) := h ▸ ix_list
theorem ix_tupK {X : Cx} {K : PySem.W.Frag} (h : X.K = K) : IxR X (rIxT K) := h ▸ ix_tup
/-- a dict comprehension over any walk -/
theorem dc_it {J : It} {n : Nat} {G : Hp → Prop} {Y : Nat → Hp → V → Hp → Prop} (w : Walk J n G Y) {g : TG} {tt : TT} {tk tv : TE} {vs : List Nat} {σ : L2.St} {H1 : Hp} {D : Addr} {Qd : Hp → Prop} (Pv : Nat → Hp → Prop) (h0 : Pv 0 (upd H1 D (.dK []))) (hG : ∀ i H, i ≤ n → Pv i H → G H)
    (hs : ∀ i x H H', i < n → Pv i H → Y i H x H' → g x (wipe σ vs) H' fun σ2 H2 => wipe σ2 vs = wipe σ vs ∧ tt σ2 H2 fun b H3 =>
      if b = true then tk σ2 H3 fun y H4 => tv σ2 H4 fun z H5 => ∃ kvs k, y = kV k ∧ H5 D = some (.dK kvs) ∧ kvs.length < sizeLine ∧ Pv (i + 1) (upd H5 D (.dK (putK kvs k z))) else Pv (i + 1) H3) (hd : ∀ H, Pv n H → Qd H) :
    ∃ W : Nat → Nat → Hp → Prop, (∃ m, W 0 m (upd H1 D (.dK []))) ∧ ∀ i m H, W i m H →
      (J.stop i H ∧ Qd H) ∨ (J.go i H ∧ ∃ Nx : Hp → Prop, (∀ H', Nx H' → ∃ m', m' < m ∧ W (i + 1) m' H') ∧ ∀ x H', J.yld i H x H' → g x (wipe σ vs) H' fun σ2 H2 => wipe σ2 vs = wipe σ vs ∧ tt σ2 H2 fun b H3 =>
        if b = true then tk σ2 H3 fun y H4 => tv σ2 H4 fun z H5 => ∃ kvs k, y = kV k ∧ H5 D = some (.dK kvs) ∧ kvs.length < sizeLine ∧ Nx (upd H5 D (.dK (putK kvs k z))) else Nx H3) := by
  refine ⟨fun i m H => m = n - i ∧ i ≤ n ∧ Pv i H, ⟨n, by simp, Nat.zero_le _, h0⟩, ?_⟩
  rintro i m H ⟨rfl, hi, p⟩
  have q := hG i H hi p
  by_cases hlt : i < n
  · exact .inr ⟨w.goes i H hlt q, Pv (i + 1), fun H' p' => ⟨n - (i + 1), by omega, rfl, hlt, p'⟩, fun x H' y => hs i x H H' hlt p (w.yields i H x H' hlt q y)⟩
  · have e : i = n := by omega
    subst e
    exact .inl ⟨w.stops H q, hd H p⟩
end Vf

set_option Elab.async false
set_option linter.all false
set_option maxRecDepth 100000
set_option maxHeartbeats 2000000
namespace Vf
open PySem PySem.Spec PyProof.Rows L2
/-! ### x in o, o[x], len(o) of a class of the text's own -/
section
variable {X : Cx} {k j : Nat} {C : Addr} {cn : Str} {ps : List Str} {sp : Sp}
def rInO (neg : Bool) (C : Addr) (sp : Sp) : R2 := fun x y H Q => ∃ b dx fs, y = .ref b ∧ H b = some (.ins C dx fs) ∧ sp [.ref b, x] H (fun v H' => ∃ t, v = .bl t ∧ Q (.bl (if neg then !t else t)) H') fun _ _ _ => False
theorem in_run (M : Meth X.K C "__contains__" (He.fAd X.K (cn, some "__contains__"))) (O : OkD X.prog X.w X.K X.mg X.base CX0 k (cn, some "__contains__") ps [] sp) (hr : Room j X.A) (hj : k ≤ j) {pins : List (Addr × Obj)} {σ : L2.St} {H : Hp} {s : Shared} {x : V} {u : Value} {b : Addr} {Qv : VK}
    (I : L2.Inv X pins σ H s) (rx : RelV x u) (hsp : sp [.ref b, x] H (fun v H' => ∃ t, v = .bl t ∧ Qv (.bl t) H') fun _ _ _ => False) {Q : Value → Shared → Prop} (hq : ∀ t s' H', L2.Inv X pins σ H' s' → Qv (.bl t) H' → wpAny (model X.prog X.w) X.A (truthy (.bool t)) (fun b => Q (.bool b)) X.xe s') :
    wpAny (model X.prog X.w) X.A (call (.ref (He.fAd X.K (cn, some "__contains__"))) [.ref b, u]) (fun r s' => wpAny (model X.prog X.w) X.A (truthy r) (fun b => Q (.bool b)) X.xe s') X.xe s := by
  obtain ⟨fd, ds, F, bi, v⟩ := O.ex
  cases v
  have hl := F.len _ _ _ _ hsp
  have hb := bi s [.ref b, u] I.kIn (by simpa using hl)
  simp only [List.append_nil] at hb
  refine wpAny_call (codeAny_mono (F.run X.A X.stack s H ⟨[.ref b, u], []⟩ [.ref b, u] [.ref b, x] _ _ (hr.mono hj) I.env0 hb (.cons rfl (.cons rx .nil)) hsp) fun r s' hq' => ?_)
  cases r with
  | error e => exact hq'.elim
  | ok fl =>
    cases fl with
    | ret w =>
      obtain ⟨z, H', I', rz, t, ez, q⟩ := I.after hq'
      subst ez
      cases rz
      exact hq t s' H' I' q
    | next => exact False.elim hq'
    | brk => exact False.elim hq'
    | cont => exact False.elim hq'
theorem op_inO (M : Meth X.K C "__contains__" (He.fAd X.K (cn, some "__contains__"))) (O : OkD X.prog X.w X.K X.mg X.base CX0 k (cn, some "__contains__") ps [] sp) (hr : Room j X.A) (hj : k ≤ j) : OpR X (compareOp .In) (rInO false C sp) := by
  intro pins s σ H x y v u Q I rx ry h
  obtain ⟨b, dx, fs, rfl, hb, hsp⟩ := h
  cases ry
  obtain ⟨mA, J, _⟩ := ins_get I.hok hb
  obtain ⟨od, J, _⟩ := J.look
  obtain ⟨mm, hF⟩ := I.fr
  exact PySem.W.in_K hF I.ok.mod.kin J M.at_ M.fn (in_run (cn := cn) M O hr hj I rx hsp fun t s' H' I' q => wpAny_truthy_bool ⟨.bl t, H', I', rfl, q⟩)
theorem op_notInO (M : Meth X.K C "__contains__" (He.fAd X.K (cn, some "__contains__"))) (O : OkD X.prog X.w X.K X.mg X.base CX0 k (cn, some "__contains__") ps [] sp) (hr : Room j X.A) (hj : k ≤ j) : OpR X (compareOp .NotIn) (rInO true C sp) := by
  obtain ⟨fd, ds, F, bi, vd⟩ := O.ex
  cases vd
  intro pins s σ H x y v u Q I rx ry h
  obtain ⟨b, dx, fs, rfl, hb, hsp⟩ := h
  cases ry
  obtain ⟨mA, J, _⟩ := ins_get I.hok hb
  obtain ⟨od, J, _⟩ := J.look
  obtain ⟨mm, hF⟩ := I.fr
  have hl := F.len _ _ _ _ hsp
  have hb := bi s [.ref b, v] I.kIn (by simpa using hl)
  simp only [List.append_nil] at hb
  refine PySem.W.notIn_K hF I.ok.mod.kin J M.at_ M.fn (wpAny_call (codeAny_mono (F.run X.A X.stack s H ⟨[.ref b, v], []⟩ [.ref b, v] [.ref b, x] _ _ (hr.mono hj) I.env0 hb (.cons rfl (.cons rx .nil)) hsp) fun r s' hq' => ?_))
  cases r with
  | error e => exact hq'.elim
  | ok fl =>
    cases fl with
    | ret w =>
      obtain ⟨z, H', I', rz, t, ez, q⟩ := I.after hq'
      subst ez
      cases rz
      exact wpAny_truthy_bool ⟨.bl (!t), H', I', rfl, q⟩
    | next => exact False.elim hq'
    | brk => exact False.elim hq'
    | cont => exact False.elim hq'
/-- o[x] -/
def rSubO (C : Addr) (sp : Sp) (E : XK) : R2 := fun x y H Q => ∃ a dx fs, x = .ref a ∧ H a = some (.ins C dx fs) ∧ sp [.ref a, y] H Q E
theorem pe_subO {CX : CXT} {E : XK} {a b : Expr} {pos : Pos} {ta tb : TE} (ha : PE X a ta) (hb : PE X b tb) (M : Meth X.K C "__getitem__" (He.fAd X.K (cn, some "__getitem__"))) (hfn : PySem.W.fnIn X.K (He.fAd X.K (cn, some "__getitem__")) = true)
    (O : OkD X.prog X.w X.K X.mg X.base CX k (cn, some "__getitem__") ps [] sp) (hr : Room j X.A) (hj : k + 1 ≤ j) (hx : Passes CX X E)
    (hsl : ∀ x i, subscripted b true (.ref x) i = runValue (.builtin "lifetime.subscript" ⟨[.ref x, i], []⟩) := by intro _ _; rfl) : PE X (.Subscript a b pos) (tOp (rSubO C sp E) ta tb) := by
  obtain ⟨fd, ds, F, bi, v⟩ := O.ex
  cases v
  refine ⟨fun pins s σ H Q I h => ?_⟩
  refine Subscript_ (binT ha hb I h fun v u s2 x y H2 I2 rx ry q => ?_)
  obtain ⟨p, dx, fs, rfl, hp, hsp⟩ := q
  cases rx
  obtain ⟨mA, J, _⟩ := ins_get I2.hok hp
  obtain ⟨od, J, _⟩ := J.look
  obtain ⟨mm, hF⟩ := I2.fr
  have hl := F.len _ _ _ _ hsp
  have hbb := bi s2 [.ref p, u] I2.kIn (by simpa using hl)
  simp only [List.append_nil] at hbb
  refine PySem.W.sub_K hF I2.ok.mod.kin J M.at_ hfn M.fn (wpAny_call (codeAny_mono (F.run X.A.in1 X.stack s2 H2 ⟨[.ref p, u], []⟩ [.ref p, u] [.ref p, y] _ _ ((hr.mono hj).in1) I2.env0.in1 hbb (.cons rfl (.cons ry .nil)) hsp) fun r s' hq => ?_)) (hsl _ _)
  cases r with
  | error e => exact hx pins σ H2 s2 e s' I2 hq
  | ok fl =>
    cases fl with
    | ret w => exact I2.after hq
    | next => exact False.elim hq
    | brk => exact False.elim hq
    | cont => exact False.elim hq
/-- len(o) -/
def rLenO (C : Addr) (sp : Sp) : List V → Hp → VK → Prop := fun xs H Q => ∃ a dx fs, xs = [.ref a] ∧ H a = some (.ins C dx fs) ∧ sp [.ref a] H (fun v H' => ∃ n : Int, v = .int n ∧ 0 ≤ n ∧ n < 2 ^ 62 ∧ Q (.int n) H') fun _ _ _ => False
theorem call_lenO (M : Meth X.K C "__len__" (He.fAd X.K (cn, some "__len__"))) (O : OkD X.prog X.w X.K X.mg X.base CX0 k (cn, some "__len__") ps [] sp) (hr : Room j X.A) (hj : k + 1 ≤ j) : CallR X (.builtin "len") (rLenO C sp) := by
  obtain ⟨fd, ds, F, bi, v⟩ := O.ex
  cases v
  intro pins s σ H xs us Q I r h
  obtain ⟨a, dx, fs, rfl, ha, hsp⟩ := h
  obtain ⟨u, rfl, ru⟩ : ∃ u, us = [u] ∧ RelV (.ref a) u := by
    cases r with
    | cons p q => cases q; exact ⟨_, rfl, p⟩
  cases ru
  obtain ⟨mA, J, _⟩ := ins_get I.hok ha
  obtain ⟨od, J, _⟩ := J.look
  obtain ⟨mm, hF⟩ := I.fr
  have hl := F.len _ _ _ _ hsp
  have hb := bi s [.ref a] I.kIn (by simpa using hl)
  simp only [List.append_nil] at hb
  refine PySem.W.len_K hF I.ok.mod.kin J M.at_ M.fn (wpAny_call (codeAny_mono (F.run X.A.in1 X.stack s H ⟨[.ref a], []⟩ [.ref a] [.ref a] _ _ ((hr.mono hj).in1) I.env0.in1 hb (.cons rfl .nil) hsp) fun r s' hq => ?_))
  cases r with
  | error e => exact hq.elim
  | ok fl =>
    cases fl with
    | ret w =>
      obtain ⟨z, H', I', rz, n, ez, n0, n1, q⟩ := I.after hq
      subst ez
      obtain ⟨t, rfl⟩ := rz
      exact ⟨⟨n0, by omega⟩, .int n, H', I'.tok _, ⟨_, rfl⟩, q⟩
    | next => exact False.elim hq
    | brk => exact False.elim hq
    | cont => exact False.elim hq
end
end Vf
/-! ### == of dicts whose values have an == that runs -/
namespace PySem.W
open Lean Elab Tactic Meta PySem PySem.Calls PyProof.Rows PyProof.V PySem.Spec
section
variable {prog : Program} {w : World} {K : Type} [DecidableEq K] {knd : KeyKind prog w K} {A : Around} {E : Value → Shared → Prop} {s : Shared}
def VfEqJ (prog : Program) (w : World) (A : Around) (E : Value → Shared → Prop) (J : Shared → Prop) (v y : Value) (e : Bool) : Prop := ∀ (s : Shared) (Q : Bool → Shared → Prop), J s → (∀ s', J s' → Q e s') → wpAny (model prog w) A (eqBool v y) Q E s
inductive VfHits {K : Type} [DecidableEq K] (prog : Program) (w : World) (A : Around) (E : Value → Shared → Prop) (J : Shared → Prop) (kb : List (K × Value)) : List (K × Value) → Bool → Prop
  | nil : VfHits prog w A E J kb [] true
  | miss {k : K} {v : Value} {r : List (K × Value)} : valueAt kb k = none → VfHits prog w A E J kb ((k, v) :: r) false
  | hit {k : K} {v y : Value} {r : List (K × Value)} {e b : Bool} : valueAt kb k = some y → VfEqJ prog w A E J v y e → VfHits prog w A E J kb r b → VfHits prog w A E J kb ((k, v) :: r) (e && b)
theorem VfHits.inv {J : Shared → Prop} {kb : List (K × Value)} {k : K} {v : Value} {r : List (K × Value)} {b : Bool} (h : VfHits prog w A E J kb ((k, v) :: r) b) :
    (valueAt kb k = none ∧ b = false) ∨ ∃ y e b', valueAt kb k = some y ∧ VfEqJ prog w A E J v y e ∧ VfHits prog w A E J kb r b' ∧ b = (e && b') := by
  cases h with
  | miss hn => exact .inl ⟨hn, rfl⟩
  | hit hy he hr => exact .inr ⟨_, _, _, hy, he, hr, rfl⟩
theorem vf_samePairs {J : Shared → Prop} {nm : String} {a b : Addr} {ka kb : List (K × Value)} {r : Bool} {Q : Bool → Shared → Prop} (ha : (a == sysModules) = false) (hb : (b == sysModules) = false)
    (hJ : ∀ s', J s' → s'.heap.get? a = s.heap.get? a ∧ s'.heap.get? b = s.heap.get? b) (h0 : J s) (da : s.heap.DictOf knd a ka) (db : s.heap.DictOf knd b kb) (hits : ka.length = kb.length → VfHits prog w A E J kb ka r) (h : ∀ s', J s' → Q (ka.length == kb.length && r) s') :
    wpAny (model prog w) A (Builtin.Dict.samePairs nm a b) Q E s := by
  obtain ⟨oa, es, ep, hoa, _, hda, hka, hpa, _⟩ := da
  obtain ⟨ob, es', ep', hob, _, hdb, hkb, hpb, _⟩ := db
  have hla : ka.length = es.size := by rw [← hpa.length]; exact Array.length_toList
  have hlb : kb.length = es'.size := by rw [← hpb.length]; exact Array.length_toList
  have hfind : ∀ k, findBy knd.is es' k = valueAt kb k := fun k => by
    rw [← hpb.find k]
    clear hlb hpb hkb hdb hob
    obtain ⟨l⟩ := es'
    simp [findBy]
  have hA : ∀ {s'}, J s' → s'.heap.get? a = some oa := fun j => (hJ _ j).1.trans hoa
  have hB : ∀ {s'}, J s' → s'.heap.get? b = some ob := fun j => (hJ _ j).2.trans hob
  rw [hla, hlb] at h
  unfold Builtin.Dict.samePairs Builtin.Dict.showsAll
  rw [if_neg (show ¬ (a == sysModules) = true by rw [ha]; exact Bool.false_ne_true), if_neg (show ¬ (b == sysModules) = true by rw [hb]; exact Bool.false_ne_true)]
  refine wpAny_bind (wpAny_pure (wpAny_bind (wpAny_pure ?_)))
  refine wpAny_bind (wpAny_dictEntries hoa hda ?_)
  dsimp only
  refine wpAny_bind (wpAny_dictEntries hob hdb ?_)
  by_cases hsz : es.size = es'.size
  case neg =>
    rw [if_pos (by simpa using hsz)]
    have hbf : (es.size == es'.size) = false := by simpa using hsz
    rw [hbf, Bool.false_and] at h
    exact wpAny_bind (wpAny_rule (wpAny_pure (h _ h0)))
  case pos =>
    have h' : ∀ s', J s' → Q r s' := fun s' j => by simpa [hsz] using h s' j
    have hits' := hits (by rw [hla, hlb]; exact hsz)
    rw [if_neg (by rw [hsz]; simp)]
    refine wpAny_bind (wpAny_dictEpoch hoa hda ?_)
    refine wpAny_bind ?_
    rw [Std.Legacy.Range.forIn_eq_forIn_range']
    simp only [Std.Legacy.Range.size, Nat.sub_zero, Nat.add_sub_cancel, Nat.div_one]
    refine wpAny_forIn_list _
      (fun rest q s' => J s' ∧ q = (none, ()) ∧ ∃ i, rest = List.range' i (es.size - i) ∧ i ≤ es.size ∧ VfHits prog w A E J kb (ka.drop i) r)
      _ ?_ ?_ _ _ ⟨h0, rfl, 0, by simp, Nat.zero_le _, hits'⟩
    · rintro x rest q s' ⟨js, rfl, i, hr, hi, hpre⟩
      have hlt : i < es.size := by
        rcases Nat.lt_or_ge i es.size with h | h
        · exact h
        · rw [Nat.sub_eq_zero_of_le h] at hr; simp at hr
      obtain ⟨rfl, hrest⟩ : x = i ∧ rest = List.range' (i + 1) (es.size - (i + 1)) := by
        have e : es.size - i = (es.size - (i + 1)) + 1 := by omega
        rw [e, List.range'_succ] at hr
        injection hr with h1 h2
        exact ⟨h1, h2⟩
      refine wpAny_bind (wpAny_dictEntries (hA js) hda ?_)
      rw [Array.getElem?_eq_getElem hlt]
      have hlt' : x < ka.length := by rw [hla]; exact hlt
      obtain ⟨k, v, hkv⟩ : ∃ k v, ka[x] = (k, v) := ⟨_, _, rfl⟩
      have hdrop : ka.drop x = (k, v) :: ka.drop (x + 1) := by rw [← hkv]; exact List.drop_eq_getElem_cons hlt'
      obtain ⟨hkey, hval⟩ := hpa.get? (i := x) (e := es[x]) (k := k) (v := v) (by rw [Array.getElem?_toList]; exact Array.getElem?_eq_getElem hlt) (by rw [List.getElem?_eq_getElem hlt', hkv])
      obtain ⟨k', hk', hh⟩ := hka es[x] (Array.getElem_mem hlt)
      have ekk : k' = k := knd.inj _ _ _ hk' hkey
      rw [ekk] at hh
      rw [hdrop] at hpre
      show wpAny _ _ (holding [es[x].key, es[x].val] _ >>= _) _ _ _
      rw [hh]
      refine wpAny_bind (wpAny_holding (wpAny_bind (wpAny_dictFind_of hkey (hB js) hdb hkb ?_)))
      cases hj : es'.findIdx? fun e => knd.is k e.key with
      | none =>
        have hn : valueAt kb k = none := by rw [← hfind k, findBy_of_findIdx?, hj]
        rcases hpre.inv with ⟨_, er⟩ | ⟨y, _, _, hy, _⟩
        · rw [er] at h'
          refine wpAny_pure ?_
          show wpAny _ _ (if (!false) = true then _ else _) _ _ _
          rw [if_pos (by decide)]
          exact wpAny_pure (wpAny_pure (h' _ js))
        · rw [hn] at hy; exact nomatch hy
      | some j =>
        obtain ⟨hjlt, _, _⟩ := Array.findIdx?_eq_some_iff_getElem.mp hj
        have hv' : valueAt kb k = some es'[j].val := by
          rw [← hfind k, findBy_of_findIdx?, hj]
          simp [Array.getElem?_eq_getElem hjlt]
        refine wpAny_bind (wpAny_dictEntries (hB js) hdb ?_)
        rw [Array.getElem?_eq_getElem hjlt]
        rcases hpre.inv with ⟨hn, _⟩ | ⟨y, e, b', hy, he, hrr, er⟩
        · rw [hv'] at hn; exact nomatch hn
        · have ey : es'[j].val = y := Option.some.inj (hv'.symm.trans hy)
          rw [← ey, ← hval] at he
          refine wpAny_holding (he _ _ js fun s2 js2 => ?_)
          cases e with
          | false =>
            rw [er, Bool.false_and] at h'
            show wpAny _ _ (if (!false) = true then _ else _) _ _ _
            rw [if_pos (by decide)]
            exact wpAny_pure (wpAny_pure (h' _ js2))
          | true =>
            rw [Bool.true_and] at er
            rw [← er] at hrr
            show wpAny _ _ (if (!true) = true then _ else _) _ _ _
            rw [if_neg (by decide)]
            refine wpAny_bind (wpAny_dictEpoch (hA js2) hda ?_)
            rw [if_neg (by simp)]
            exact wpAny_pure ⟨js2, rfl, x + 1, hrest, hlt, hrr⟩
    · rintro q s' ⟨js, rfl, i, hr, hi, hpre⟩
      have hin : i = es.size := by
        rcases Nat.lt_or_ge i es.size with h | h
        · have e : es.size - i = (es.size - (i + 1)) + 1 := by omega
          rw [e, List.range'_succ] at hr; exact nomatch hr
        · exact Nat.le_antisymm hi h
      refine wpAny_pure ?_
      rw [hin, ← hla, List.drop_length] at hpre
      cases hpre
      exact h' _ js
theorem vf_rcDicts {J : Shared → Prop} {a b : Addr} {ka kb : List (K × Value)} {r : Bool} (ha : (a == sysModules) = false) (hb : (b == sysModules) = false)
    (hJ : ∀ s', J s' → s'.heap.get? a = s.heap.get? a ∧ s'.heap.get? b = s.heap.get? b) (h0 : J s) (da : s.heap.DictOf knd a ka) (db : s.heap.DictOf knd b kb) (hu : A.units < cLine) (hits : ka.length = kb.length → VfHits prog w A.in1 E J kb ka r) {Q : Value → Shared → Prop} (h : ∀ s', J s' → Q (.bool (ka.length == kb.length && r)) s') : wpAny (model prog w) A (compareOp .Eq (.ref a) (.ref b)) Q E s := by
  refine wpAny_richCompare_same_room (op := .Eq) da.typeIs db.typeIs PySem.F.slot_dict_eq (wpAny_call_entry PySem.F.slot_dict_eq da.typeIs PySem.F.entry_dict_eq ?_ (PySem.F.args_dict_eq_2 _ _)) hu
  show wpAny _ _ (Builtin.Dict.dictSlotArgs "__eq__" ⟨[.ref a, .ref b], []⟩ >>= _) _ _ s
  refine wpAny_bind ?_
  unfold Builtin.Dict.dictSlotArgs
  refine wpAny_bind (wpAny_notOrdered_dict da.typeIs ?_)
  show wpAny _ _ (pure (Value.ref a, Value.ref b)) _ _ s
  refine wpAny_pure ?_
  refine wpAny_bind (wpAny_isInstance (T := "dict") db.typeIs PySem.F.sub_dict_dict ?_)
  simp only [Bool.not_true, Bool.false_eq_true, if_false]
  refine wpAny_bind (wpAny_pure (wpAny_bind (wpAny_pure ?_)))
  refine wpAny_bind (vf_samePairs ha hb hJ h0 da db hits fun s' js => ?_)
  refine wpAny_pure ⟨_, rfl, ?_, ?_⟩
  · exact fun x => nomatch x
  · simpa using h s' js
end
end PySem.W
namespace Vf
open PySem PySem.Spec PyProof.Rows L2
/-- the entries of a dict against another dict; ls: the other one -/
inductive DHits (D : V → V → Bool → Prop) (ls : List (Key × V)) : List (Key × V) → Bool → Prop
  | nil : DHits D ls [] true
  | miss {k : Key} {v : V} {r : List (Key × V)} : valV ls k = none → DHits D ls ((k, v) :: r) false
  | hit {k : Key} {v y : V} {r : List (Key × V)} {e b : Bool} : valV ls k = some y → D v y e → DHits D ls r b → DHits D ls ((k, v) :: r) (e && b)
theorem DHits.vf {P : Program} {w : World} {A : Around} {E : Value → Shared → Prop} {J : Shared → Prop} {D : V → V → Bool → Prop} {ls : List (Key × V)} {vb : List (Key × Value)} (rb : KV ls vb)
    (hD : ∀ {x y u v b}, D x y b → RelV x u → RelV y v → PySem.W.VfEqJ P w A E J u v b) : ∀ {ks : List (Key × V)} {va : List (Key × Value)} {r : Bool}, KV ks va → DHits D ls ks r → PySem.W.VfHits P w A E J vb va r
  | [], _, _, ra, h => by
    cases h
    cases ra
    exact .nil
  | (k, x) :: ks, va, r, ra, h => by
    cases ra with
    | @cons _ q _ qs h1 h2 =>
      obtain ⟨e, rx⟩ := h1
      obtain ⟨k', u⟩ := q
      dsimp only at e
      subst e
      have hv := rb.val k
      cases h with
      | miss hn =>
        rw [hn] at hv
        refine .miss ?_
        cases hq : valueAt vb k with
        | none => rfl
        | some z =>
          rw [hq] at hv
          exact hv.elim
      | hit hy he hr =>
        rw [hy] at hv
        obtain ⟨z, hz, rz⟩ := hv.some_of
        exact .hit hz (hD he rx rz) (DHits.vf rb hD h2 hr)
section
variable {X : Cx}
/-- == of two dicts by the values' own == -/
def rEqDB (D : Eqb) : R2 := fun x y H Q => ∃ a b ks ls r, x = .ref a ∧ y = .ref b ∧ a ≠ b ∧ H a = some (.dK ks) ∧ H b = some (.dK ls) ∧
  (ks.length = ls.length → DHits (fun v y e => ∀ H', (∀ c o, c ≠ a → c ≠ b → H c = some o → H' c = some o) → D v y H' e) ls ks r) ∧ ∀ H', Ext H H' → Q (.bl (ks.length == ls.length && r)) H'
theorem op_eqDB {n : Nat} {D : Eqb} (h : EqB X n D) (hr : Room (n + 1) X.A) : OpR X (compareOp .Eq) (rEqDB D) := by
  intro pins s σ H x y v u Q I rx ry hq
  obtain ⟨a, b, ks, ls, r, rfl, rfl, nab, ea, eb, hits, q⟩ := hq
  cases rx
  cases ry
  obtain ⟨_, ya, va, ra, da⟩ := (show ObjOk X.prog X.w H s.heap a (.dK ks) from I.hok a _ ea)
  obtain ⟨_, yb, vb, rb, db⟩ := (show ObjOk X.prog X.w H s.heap b (.dK ls) from I.hok b _ eb)
  obtain ⟨oa, Ia⟩ := I.lock ea trivial
  have eb1 : (upd H a (.frz oa (.dK ks))) b = some (.dK ls) := by rw [upd_ne nab.symm]; exact eb
  obtain ⟨ob, Ib⟩ := Ia.lock eb1 trivial
  have fa : (upd (upd H a (.frz oa (.dK ks))) b (.frz ob (.dK ls))) a = some (.frz oa (.dK ks)) := by rw [upd_ne nab, upd_same]
  have fb : (upd (upd H a (.frz oa (.dK ks))) b (.frz ob (.dK ls))) b = some (.frz ob (.dK ls)) := upd_same
  have out : ∀ c o, c ≠ a → c ≠ b → H c = some o → (upd (upd H a (.frz oa (.dK ks))) b (.frz ob (.dK ls))) c = some o := fun c o h1 h2 e => by rw [upd_ne h2, upd_ne h1]; exact e
  have noa := I.nofrz ea trivial
  have nob := Ia.nofrz eb1 trivial
  generalize upd (upd H a (.frz oa (.dK ks))) b (.frz ob (.dK ls)) = H2 at Ib fa fb out
  refine PySem.W.vf_rcDicts (knd := mixKind X.prog X.w) (r := r) (J := fun s' => ∃ H', L2.Inv X pins σ H' s' ∧ Ext H2 H') ya yb (fun s' js => ?_) ⟨H2, Ib, Ext.rfl'⟩ da db hr.units0 (fun hl => ?_) fun s' js => ?_
  · obtain ⟨H', I', e⟩ := js
    exact ⟨(I'.frzK (e _ _ fa)).2.1.trans (Ib.frzK fa).2.1.symm, (I'.frzK (e _ _ fb)).2.1.trans (Ib.frzK fb).2.1.symm⟩
  · refine DHits.vf rb (fun {x y u v bb} hd rx ry s2 Q2 js k => ?_) ra (hits (by rw [ra.length, rb.length]; exact hl))
    obtain ⟨H', I', e⟩ := js
    refine wpAny_mono (h X.A.in1 pins s2 σ H' x y u v bb ⟨hr.in1, rfl⟩ I' rx ry (hd H' fun c o h1 h2 hc => e _ _ (out c o h1 h2 hc))) (fun r2 s3 q2 => ?_) fun _ _ z => z
    obtain ⟨h2, H3, I3, e2⟩ := q2
    subst h2
    exact k s3 ⟨H3, I3, e.trans e2⟩
  · obtain ⟨H', I', e⟩ := js
    have fa' := e _ _ fa
    have fb' := e _ _ fb
    have I2 := I'.unlock fb' nob
    have fa2 : (upd H' b (.dK ls)) a = some (.frz oa (.dK ks)) := by rw [upd_ne nab]; exact fa'
    have I3 := I2.unlock fa2 noa
    refine ⟨.bl _, _, I3, by rw [← ra.length, ← rb.length]; rfl, q _ fun c o hc => ?_⟩
    by_cases h1 : c = a
    · subst h1
      rw [ea] at hc
      cases hc
      exact upd_same
    · rw [upd_ne h1]
      by_cases h2 : c = b
      · subst h2
        rw [eb] at hc
        cases hc
        exact upd_same
      · rw [upd_ne h2]
        exact e _ _ (out c o h1 h2 hc)
/-- data beside data -/
def DDat (K : PySem.W.Frag) : Eqb := fun x y H b => ∃ d e, Dp K H x d ∧ Dp K H y e ∧ SeqAt.shaped d = true ∧ SeqAt.shaped e = true ∧ b = PyData.eqv d e ∧ (x = y → b = true)
theorem eqB_dat {n : Nat} : EqB X n (DDat X.K) := fun A pins s σ H x y u v b sb I rx ry hd => by
  obtain ⟨d, e, h1, h2, sd, se, rfl, hid⟩ := hd
  obtain ⟨as, r1⟩ := Dp.reads I d x u h1 rx
  obtain ⟨bs, r2⟩ := Dp.reads I e y v h2 ry
  have hf : ∀ i t, u ≠ .float i t := fun i t z => by
    subst z
    cases h1 <;> first | (cases rx; done) | (obtain ⟨_, z⟩ := rx; cases z; done)
  have hxy : (u == v) = true → x = y := fun z => by
    have euv := eq_of_beq z
    subst euv
    cases h1 <;> cases h2 <;> first
      | (cases rx; cases ry; rfl)
      | (cases rx; cases ry; done)
      | (obtain ⟨t, q⟩ := rx; obtain ⟨t', q'⟩ := ry; rw [q] at q'; injection q' with q1 q2; rw [q1])
      | (obtain ⟨t, q⟩ := rx; obtain ⟨t', q'⟩ := ry; rw [q] at q'; cases q'; done)
      | (cases rx; obtain ⟨t, q⟩ := ry; cases q; done)
      | (obtain ⟨t, q⟩ := rx; cases ry; cases q; done)
  exact eqB_of_rc (fun z => hid (hxy z)) hf I (SeqAt.compareEq_shaped (A := A) r1 r2 sd se sb.room.units ⟨.bl _, H, I, rfl, rfl, Ext.rfl'⟩)
end
end Vf

set_option Elab.async false
set_option linter.all false
set_option maxRecDepth 100000
set_option maxHeartbeats 2000000
namespace PySem.W
open PySem PySem.SeqAt MeetsSeq
section
variable {prog : Program} {w : World} {A : Around} {E : Value → Shared → Prop} {s : Shared} {a : Addr} {o : Obj}
theorem vf_no_dic_str {z : Str} {t : Tok} (ha : s.heap.get? a = some o) (hc : o.cls = .type "dict") {Q : Fin → Shared → Prop} (h : Q (.done (.ret .notImplemented)) s) : wpAny (model prog w) A (PySem.Builtin.«dict.__eq__» ⟨[.ref a, .str z t], []⟩) Q E s := by
  have f1 := PySem.F.sub_str_dict
  wp_walk
  exact h
theorem vf_no_str_dic {z : Str} {t : Tok} {es : Array DictEntry} {ep : Nat} (ha : s.heap.get? a = some o) (hd : o.data = .dict es ep) {Q : Fin → Shared → Prop} (h : Q (.done (.ret .notImplemented)) s) : wpAny (model prog w) A (PySem.Builtin.«str.__eq__» ⟨[.str z t, .ref a], []⟩) Q E s := by
  obtain ⟨hp, gg, d, tk, os⟩ := s
  obtain ⟨oc, odd, oda, osl⟩ := o
  dsimp only at hd
  subst hd
  wp_walk using AutoSeq1.wpAny_loadPart' ha
  exact h
theorem vf_rc_str_dict {b : Str} {u : Tok} {es : Array DictEntry} {ep : Nat} (ho : s.heap.get? a = some o) (hc : o.cls = .type "dict") (hd : o.data = .dict es ep) (hu : A.units < cLine) : RcAt A s (.str b u) (.ref a) false := fun prog w E Q h => by
  have tb : s.TypeIs (.ref a) "dict" := ⟨o, ho, hc⟩
  exact rc_eq_decline_or (k := false) (typeIs_str s b u) tb (by decide) PySem.F.sub_dict_str PySem.F.slot_str_eq PySem.F.slot_dict_eq_refl
    (fun _ hq => wpAny_call_entry PySem.F.slot_str_eq (typeIs_str s b u) PySem.F.entry_str_eq (vf_no_str_dic ho hd ⟨_, rfl, hq⟩) (PySem.F.args_str_eq_2 _ _))
    (fun _ hq => wpAny_call_entry PySem.F.slot_dict_eq_refl tb PySem.F.entry_dict_eq (vf_no_dic_str ho hc ⟨_, rfl, hq⟩) (PySem.F.args_dict_eq_2 _ _))
    (fun _ hq => wpAny_of_eq (rfl : isSame (.str b u) (.ref a) = pure false) hq) (.inr hu) h
theorem vf_str_dict {b : Str} {u : Tok} {es : Array DictEntry} {ep : Nat} (ho : s.heap.get? a = some o) (hc : o.cls = .type "dict") (hd : o.data = .dict es ep) (hu : A.units < cLine) : EqAt A s (.str b u) (.ref a) false := fun prog w E Q h => by
  unfold eqBool
  refine wpAny_holding ?_
  refine wpAny_ite_split (fun hab => absurd (eq_of_beq hab) nofun) (fun _ => ?_)
  exact wpAny_bind (vf_rc_str_dict ho hc hd hu prog w E _ (wpAny_truthy_bool h))
end
end PySem.W
namespace Vf
open PySem PySem.Spec PyProof.Rows L2
/-- == of two items, in place -/
inductive EqI (K : PySem.W.Frag) (H : Hp) : V → V → Bool → Prop
  | flat {x y : V} : flatV x = true → flatV y = true → EqI K H x y (eqV x y)
  | same (a : Addr) : EqI K H (.ref a) (.ref a) true
  | strT {z : Str} {a : Addr} {xs : List V} : SqT K H a xs → EqI K H (.str z) (.ref a) false
  | strL {z : Str} {a : Addr} {xs : List V} : SqL K H a xs → EqI K H (.str z) (.ref a) false
  | strD {z : Str} {a : Addr} {ks : List (Key × V)} : H a = some (.dK ks) → EqI K H (.str z) (.ref a) false
section
variable {X : Cx} {pins : List (Addr × Obj)} {σ : L2.St} {H : Hp} {s : Shared}
theorem EqI.at (I : L2.Inv X pins σ H s) {A : Around} {x y : V} {u v : Value} {b : Bool} (h : EqI X.K H x y b) (rx : RelV x u) (ry : RelV y v) (hu : A.units < cLine) : SeqAt.EqAt A s u v b := by
  cases h with
  | flat fx fy => exact eqAt_V rx ry fx fy
  | same a =>
    cases rx
    cases ry
    exact SeqAt.EqAt.same _
  | strT h =>
    obtain ⟨t, rfl⟩ := rx
    cases ry
    obtain ⟨its, r, p, _⟩ := I.tuple h
    exact SeqAt.EqAt.str_tuple _ _ p hu
  | strL h =>
    obtain ⟨t, rfl⟩ := rx
    cases ry
    obtain ⟨its, r, p, _⟩ := I.list h
    exact SeqAt.EqAt.str_list _ _ p.isList hu
  | strD h =>
    obtain ⟨t, rfl⟩ := rx
    cases ry
    obtain ⟨_, _, vs, _, o, es, ep, h1, h2, h3, _⟩ := (show ObjOk X.prog X.w H s.heap _ (.dK _) from I.hok _ _ h)
    exact PySem.W.vf_str_dict h1 h2.1 h3 hu
end
theorem vals_mem : ∀ {xs : List V} {us : List Value} {w : Value}, Vals xs us → w ∈ us → ∃ z ∈ xs, RelV z w
  | _, _, _, .nil, h => nomatch h
  | _, _, _, .cons r t, h => by
    rcases List.mem_cons.mp h with rfl | h
    · exact ⟨_, List.mem_cons_self, r⟩
    · obtain ⟨z, hz, rz⟩ := vals_mem t h
      exact ⟨z, List.mem_cons_of_mem _ hz, rz⟩
def answ (e : V → Bool) (w : Value) : Bool := match absV w with | some z => e z | none => false
theorem answ_of (e : V → Bool) {z : V} {w : Value} (r : RelV z w) : answ e w = e z := by
  unfold answ
  rw [r.abs]
theorem any_answ (e : V → Bool) : ∀ {xs : List V} {us : List Value}, Vals xs us → us.any (answ e) = xs.any e
  | _, _, .nil => rfl
  | _, _, .cons r t => by
    rw [List.any_cons, List.any_cons, answ_of e r, any_answ e t]
theorem items_at {A : Around} {s : Shared} {F : V → V → Prop} (ih : ∀ {x y v u}, RelV x v → RelV y u → F x y → SeqAt.EqAt A s v u true) {xs ys : List V} (hp : Paired F xs ys) :
    ∀ {us ws : List Value}, Vals xs us → Vals ys ws → ∀ j (h1 : j < us.length) (h2 : j < ws.length), SeqAt.EqAt A s us[j] ws[j] true := by
  induction hp with
  | nil =>
    intro us ws r1 r2 j h1 h2
    cases r1
    exact absurd h1 (Nat.not_lt_zero j)
  | cons h _ k =>
    intro us ws r1 r2 j h1 h2
    cases r1 with
    | cons a1 b1 =>
      cases r2 with
      | cons a2 b2 =>
        cases j with
        | zero => exact ih a1 a2 h
        | succ j => exact k b1 b2 j (Nat.lt_of_succ_lt_succ h1) (Nat.lt_of_succ_lt_succ h2)
section
variable {X : Cx}
/-- x not in l, l a list, item by item -/
def rNotInI (K : PySem.W.Frag) : R2 := fun x y H Q => ∃ (p : Addr) (xs : List V) (e : V → Bool), y = .ref p ∧ SqL K H p xs ∧ (∀ z ∈ xs, EqI K H z x (e z)) ∧ Q (.bl (!xs.any e)) H
theorem op_notInI (hu : X.A.units + 64 < cLine) : OpR X (compareOp .NotIn) (rNotInI X.K) := by
  intro pins s σ H x y v u Q I rx ry h
  obtain ⟨p, xs, e, rfl, hx, hall, q⟩ := h
  cases ry
  obtain ⟨its, r, pl, hz⟩ := I.list hx
  refine SeqAt.notIn_listAt (answ e) pl.isList (fun w hw => ?_) ⟨.bl _, H, I, rfl, ?_⟩
  · obtain ⟨z, hz, rz⟩ := vals_mem r (by simpa using hw)
    rw [answ_of e rz]
    exact (hall z hz).at I rz rx (by show X.A.units + 1 < cLine; omega)
  · rw [List.any_toArray, any_answ e r]
    exact q
/-- l != m, two lists or two tuples of equal items -/
def rNe0 (K : PySem.W.Frag) : R2 := fun x y H Q => ∃ (a b : Addr) (xs ys : List V), x = .ref a ∧ y = .ref b ∧ ((SqT K H a xs ∧ SqT K H b ys) ∨ (SqL K H a xs ∧ SqL K H b ys)) ∧ Paired (fun z z' => EqI K H z z' true) xs ys ∧ Q (.bl false) H
theorem op_ne0 (hu : X.A.units + 64 < cLine) : OpR X (compareOp .NotEq) (rNe0 X.K) := by
  intro pins s σ H x y v u Q I rx ry h
  obtain ⟨a, b, xs, ys, rfl, rfl, hq, hp, q⟩ := h
  cases rx
  cases ry
  have hu1 : X.A.in1.units < cLine := by show X.A.units + 1 < cLine; omega
  rcases hq with ⟨ha, hb⟩ | ⟨ha, hb⟩
  · obtain ⟨us, r1, p1, _⟩ := I.tuple ha
    obtain ⟨ws, r2, p2, _⟩ := I.tuple hb
    have hs : us.toArray.size = ws.toArray.size := by rw [List.size_toArray, List.size_toArray, ← r1.length, ← r2.length]; exact Paired.length hp
    refine SeqAt.RcNeAt.tuples (e := fun _ => true) p1 p2 (by omega) (fun j h1 h2 => ?_) _ _ _ _ ?_
    · have := items_at (fun r1 r2 k => EqI.at I k r1 r2 hu1) hp r1 r2 j (by simpa using h1) (by simpa using h2)
      simpa using this
    · rw [hs, show ((List.range (min ws.toArray.size ws.toArray.size)).all fun _ => true) = true from List.all_eq_true.mpr fun _ _ => rfl, beq_self_eq_true]
      exact ⟨.bl false, H, I, rfl, q⟩
  · obtain ⟨us, r1, p1, _⟩ := I.list ha
    obtain ⟨ws, r2, p2, _⟩ := I.list hb
    have hs : us.toArray.size = ws.toArray.size := by rw [List.size_toArray, List.size_toArray, ← r1.length, ← r2.length]; exact Paired.length hp
    refine SeqAt.RcNeAt.lists (e := fun _ => true) p1.isList p2.isList hs (by omega) (fun j h1 h2 => ?_) _ _ _ _ ?_
    · have := items_at (fun r1 r2 k => EqI.at I k r1 r2 hu1) hp r1 r2 j (by simpa using h1) (by simpa using h2)
      simpa using this
    · rw [show ((List.range us.toArray.size).all fun _ => true) = true from List.all_eq_true.mpr fun _ _ => rfl]
      exact ⟨.bl false, H, I, rfl, q⟩
/-- d != e, two dicts of equal items -/
def rNe0D (K : PySem.W.Frag) : R2 := fun x y H Q => ∃ (a b : Addr) (ks ls : List (Key × V)), x = .ref a ∧ y = .ref b ∧ H a = some (.dK ks) ∧ H b = some (.dK ls) ∧ ks.length = ls.length ∧ (∀ p ∈ ks, ∃ u, valV ls p.1 = some u ∧ EqI K H p.2 u true) ∧ Q (.bl false) H
theorem op_ne0D (hu : X.A.units + 64 < cLine) : OpR X (compareOp .NotEq) (rNe0D X.K) := by
  intro pins s σ H x y v u Q I rx ry h
  obtain ⟨a, b, ks, ls, rfl, rfl, ha, hb, hl, hp, q⟩ := h
  cases rx
  cases ry
  have hu1 : X.A.in1.units < cLine := by show X.A.units + 1 < cLine; omega
  obtain ⟨_, ya, va, ra, da⟩ := (show ObjOk X.prog X.w H s.heap a (.dK ks) from I.hok a _ ha)
  obtain ⟨_, yb, vb, rb, db⟩ := (show ObjOk X.prog X.w H s.heap b (.dK ls) from I.hok b _ hb)
  have e : va.length = vb.length := by rw [← ra.length, ← rb.length]; exact hl
  refine PySem.W.keq_ne (knd := mixKind X.prog X.w) (r := true) ya yb da db (by omega) (fun _ => ?_) ?_
  · have go : ∀ {ks : List (Key × V)} {va : List (Key × Value)}, KV ks va → (∀ p ∈ ks, ∃ u, valV ls p.1 = some u ∧ EqI X.K H p.2 u true) → PySem.W.KeqHits X.A.in1 s vb va true := by
      intro ks va ra
      unfold KV at ra
      induction ra with
      | nil => intro _; exact .nil
      | @cons p q ps qs h t k =>
        intro hp
        obtain ⟨h1, h2⟩ := h
        obtain ⟨u, e, f⟩ := hp p List.mem_cons_self
        have rr : RelO (some u) (valueAt vb p.1) := by rw [← e]; exact rb.val p.1
        obtain ⟨y, hy, ry⟩ := rr.some_of
        obtain ⟨key, v⟩ := q
        have h1' : p.1 = key := h1
        rw [h1'] at hy
        show PySem.W.KeqHits X.A.in1 s vb ((key, v) :: qs) (true && true)
        exact .hit hy (f.at I h2 ry hu1) (k fun p' hm => hp p' (List.mem_cons_of_mem _ hm))
    exact go ra hp
  · rw [show (!(va.length == vb.length && true)) = false from by rw [e]; simp]
    exact ⟨.bl false, H, I, rfl, q⟩
end
end Vf

set_option Elab.async false
set_option linter.all false
set_option maxRecDepth 100000
set_option maxHeartbeats 2000000
namespace Vf
open PySem PySem.Spec PyProof.Rows L2
/-! ### properties: their getters, found by the class and the name -/
def gAd (K : PySem.W.Frag) (c m : Str) : Addr := match PySem.W.recIn K (He.ma K (He.ga K c) m) "property" with
  | some (.ref f :: _) => f
  | _ => 0
structure GetD where
  cls : Str
  attr : Str
  d : He.DefD
def GetD.val (g : GetD) : He.FnW := g.d.val
def gnW (K : PySem.W.Frag) (g : GetD) : He.FnW := match K.lookup (gAd K g.cls g.attr) with
  | some ⟨_, _, .func fd, _⟩ => some (fd.name, fd.qualname, fd.params, fd.body, fd.scope, fd.globals, fd.closure, fd.builtins)
  | _ => none
def propB (K : PySem.W.Frag) (C : Addr) (m : Str) : Bool := He.eqO (PySem.W.findIn K (.ref C) m) (some (some (.ref (He.ma K C m)))) && (He.eqO (PySem.W.specialIn K (.ref (He.ma K C m)) "__get__") (some (some (.builtin "property.__get__"))) &&
  (decide (PySem.W.takesIn K (.ref (He.ma K C m)) = some true) && (match PySem.W.recIn K (He.ma K C m) "property" with
    | some (.ref _ :: _) => true
    | _ => false)))
def GetD.ok (K : PySem.W.Frag) (g : GetD) : Bool := propB K (He.ga K g.cls) g.attr && (PySem.W.keepIn K (.ref (gAd K g.cls g.attr)) && (match K.lookup (gAd K g.cls g.attr) with
  | some ⟨_, _, .func fd, _⟩ => PySem.W.codeIn K fd.code g.d.qual && (He.dflB K fd.defaults (g.d.dvs K) && He.kwdB K fd.kwdefaults (g.d.kws K))
  | _ => false))
theorem propB_ok {K : PySem.W.Frag} {c m : Str} (h : propB K (He.ga K c) m = true) : PropOf K (He.ga K c) m (He.ma K (He.ga K c) m) (gAd K c m) := by
  obtain ⟨h1, h⟩ := He.ba h
  obtain ⟨h2, h⟩ := He.ba h
  obtain ⟨h3, h4⟩ := He.ba h
  refine ⟨He.eqO_ok h1, He.eqO_ok h2, of_decide_eq_true h3, ?_⟩
  unfold gAd
  split at h4
  · rename_i f r e
    exact ⟨r, by rw [e]⟩
  · cases h4
theorem GetD.funD {K : PySem.W.Frag} {g : GetD} (e : gnW K g = g.d.val) (c : g.ok K = true) : (∃ fd, FunD K g.d.name g.d.qual g.d.params g.d.body g.d.scope (g.d.dvs K) (g.d.kws K) (gAd K g.cls g.attr) fd) ∧ PropOf K (He.ga K g.cls) g.attr (He.ma K (He.ga K g.cls) g.attr) (gAd K g.cls g.attr) := by
  obtain ⟨pr, c⟩ := He.ba c
  refine ⟨?_, propB_ok pr⟩
  obtain ⟨kp, c2⟩ := He.ba c
  unfold gnW at e
  cases q : K.lookup (gAd K g.cls g.attr) with
  | none =>
    rw [q] at c2
    cases c2
  | some o =>
    obtain ⟨oc, od, dt, osl⟩ := o
    rw [q] at c2 e
    cases dt with
    | func fd =>
      obtain ⟨n1, n2, n3, n4, n5, n6, n7, n8, n9, n10, n11, n12, n13, n14, n15⟩ := fd
      have e2 : (some (n1, n2, n3, n4, n5, n6, n7, n15) : He.FnW) = some (g.d.name, g.d.qual, g.d.params, .stmts g.d.body, g.d.scope, mainGlobals, [], builtinsNs) := e
      simp only [Option.some.injEq, Prod.mk.injEq] at e2
      obtain ⟨h1, h2, h3, h4, h5, h6, h7, h8⟩ := e2
      subst h1 h2 h3 h4 h5 h6 h7 h8
      have c3 : (PySem.W.codeIn K n13 g.d.qual && (He.dflB K n8 (g.d.dvs K) && He.kwdB K n9 (g.d.kws K))) = true := c2
      obtain ⟨k1, k2⟩ := He.ba c3
      obtain ⟨k3, k4⟩ := He.ba k2
      exact ⟨_, ⟨oc, od, n8, n9, n10, n11, n12, n13, n14, osl, rfl, q, k1, He.dflB_ok k3, He.kwdB_ok k4⟩, kp⟩
    | _ => cases c2
/-! ### the head's hook, with properties -/
abbrev AlP : Type := Bool × List He.FnW × List He.FnW
def obsP (ex : PySem.W.Frag → Bool) (fn : List He.DefD) (gs : List GetD) (K : PySem.W.Frag) : AlP := (ex K && ((fn.all fun d => d.ok K) && gs.all fun g => g.ok K), fn.map fun d => He.fnW K d.at_, gs.map (gnW K))
def SaysP (ex : PySem.W.Frag → Bool) (fn : List He.DefD) (gs : List GetD) (K : PySem.W.Frag) : Prop := obsP ex fn gs K = (true, fn.map He.DefD.val, gs.map GetD.val)
def obsPG (n : Nat) (ex : PySem.W.Frag → Bool) (fn : List He.DefD) (gs : List GetD) (g : Addr → Option Obj) : AlP := obsP ex fn gs (He.frG g (He.asD g n))
def hookP (n : Nat) (ex : PySem.W.Frag → Bool) (fn : List He.DefD) (gs : List GetD) : PySem.W.Hook where
  α := AlP
  obs := fun s => obsPG n ex fn gs s.heap.get?
  val := fun _ => (true, fn.map He.DefD.val, gs.map GetD.val)
  says := fun _ h => ∃ K : PySem.W.Frag, K.In h ∧ SaysP ex fn gs K
  of := fun _ _ e => ⟨_, He.frG_in, e⟩
  keeps := fun _ _ _ ⟨K, hK, c⟩ k => ⟨K, PySem.W.Frag.In.keeps hK k, c⟩
theorem obsPG_eq {n : Nat} {ex : PySem.W.Frag → Bool} {fn : List He.DefD} {gs : List GetD} {g : Addr → Option Obj} {s : Shared} (h : ∀ a, g a = s.heap.get? a) : obsPG n ex fn gs g = (hookP n ex fn gs).obs s := by
  have e : g = s.heap.get? := funext h
  rw [e]
  rfl
theorem SaysP.ex {ex : PySem.W.Frag → Bool} {fn : List He.DefD} {gs : List GetD} {K : PySem.W.Frag} (c : SaysP ex fn gs K) : ex K = true := (He.ba (congrArg (fun z : AlP => z.1) c)).1
theorem SaysP.fn {ex : PySem.W.Frag → Bool} {fn : List He.DefD} {gs : List GetD} {K : PySem.W.Frag} (c : SaysP ex fn gs K) (i : Nat) {d : He.DefD} (h : fn[i]? = some d := by rfl) : ∃ fd, FunD K d.name d.qual d.params d.body d.scope (d.dvs K) (d.kws K) (He.fAd K d.at_) fd := by
  have c2 := (He.ba (He.ba (congrArg (fun z : AlP => z.1) c)).2).1
  have e : fn.map (fun d => He.fnW K d.at_) = fn.map He.DefD.val := congrArg (fun z : AlP => z.2.1) c
  have e2 : He.fnW K d.at_ = d.val := by
    have e3 : (fn.map fun d => He.fnW K d.at_)[i]? = (fn.map He.DefD.val)[i]? := by rw [e]
    simp only [List.getElem?_map, h, Option.map_some] at e3
    exact Option.some.inj e3
  exact He.DefD.funD e2 (List.all_eq_true.mp c2 d (List.mem_of_getElem? h))
theorem SaysP.gt {ex : PySem.W.Frag → Bool} {fn : List He.DefD} {gs : List GetD} {K : PySem.W.Frag} (c : SaysP ex fn gs K) (i : Nat) {g : GetD} (h : gs[i]? = some g := by rfl) : (∃ fd, FunD K g.d.name g.d.qual g.d.params g.d.body g.d.scope (g.d.dvs K) (g.d.kws K) (gAd K g.cls g.attr) fd) ∧ PropOf K (He.ga K g.cls) g.attr (He.ma K (He.ga K g.cls) g.attr) (gAd K g.cls g.attr) := by
  have c2 := (He.ba (He.ba (congrArg (fun z : AlP => z.1) c)).2).2
  have e : (gs.map (gnW K)) = gs.map GetD.val := congrArg (fun z : AlP => z.2.2) c
  have e2 : gnW K g = g.val := by
    have e3 : (gs.map (gnW K))[i]? = (gs.map GetD.val)[i]? := by rw [e]
    simp only [List.getElem?_map, h, Option.map_some] at e3
    exact Option.some.inj e3
  exact GetD.funD e2 (List.all_eq_true.mp c2 g (List.mem_of_getElem? h))
/-- the getter keeps its promise -/
structure OkG (P : Program) (w : World) (K : PySem.W.Frag) (mg : Str → Option Value) (base : Heap) (CX : CXT) (k : Nat) (c m : Str) (sp : Sp) : Prop where
  ex : ∃ fd, FnOk P w K mg base CX k (gAd K c m) fd ["self"] sp ∧ Binds K fd ["self"] []
  pr : PropOf K (He.ga K c) m (He.ma K (He.ga K c) m) (gAd K c m)
theorem pe_propG {X : Cx} {k j : Nat} {c m : Str} {sp : Sp} {e : Expr} {pos : Pos} {ta : TE} (he : PE X e ta) (cl : Cls X.K (He.ga X.K c)) (O : OkG X.prog X.w X.K X.mg X.base CX0 k c m sp) (hr : Room j X.A) (hj : k + 1 ≤ j)
    (hab : attributeBase e m X.env (eval e X.env) = eval e X.env) : PE X (.Attribute e m pos) (tProp (He.ga X.K c) sp [] E0 ta) := by
  obtain ⟨fd, F, b⟩ := O.ex
  exact pe_prop he cl O.pr F (hr.mono hj) b .nil pass0 hab
end Vf

set_option Elab.async false
set_option linter.all false
set_option maxRecDepth 100000
set_option maxHeartbeats 2000000
/-! with o: suite, o of a class of the text: __exit__ tells None, so an error goes on behind it -/
namespace Vf
open PySem PySem.Spec PyProof.Rows L2
open PySem.Calls PySem.W Lean Elab Tactic Meta in
theorem with_own {P : PySem.Program} {w : World} {A : Around} {E : Value → Shared → Prop} {t : Shared} {en : Env} {K : PySem.W.Frag} {o D gn gx : Addr} {oo : Obj} {dd : Option Obj} {pp : Pos} {bd : Sem Flow} {R : Flow → Shared → Prop}
    (kin : K.In t.heap) (J : PySem.W.InstAt t.heap o oo D dd) (aN : PySem.W.findIn K (.ref D) "__enter__" = some (some (.ref gn))) (bN : PySem.W.isFn K (.ref gn) = true) (aX : PySem.W.findIn K (.ref D) "__exit__" = some (some (.ref gx))) (bX : PySem.W.isFn K (.ref gx) = true)
    (go : wpAny (model P w) A (call (.ref gn) [.ref o]) (fun _ t1 => wpAny (model P w) A bd (fun fl t2 => wpAny (model P w) A (call (.ref gx) [.ref o, .none, .none, .none]) (fun _ t3 => R fl t3) E t2)
      (fun er t2 => wpAny (model P w) A (noteFrame er en) (fun _ t3 => wpAny (model P w) A (setFlight er none) (fun _ t4 => wpAny (model P w) A (typeOf er) (fun c t5 => wpAny (model P w) A (tracebackOf er) (fun tb t6 =>
        wpAny (model P w) A (run (.call (.ref gx) ⟨[.ref o, c, er, tb], []⟩) (some er)) (fun fl t7 => fl = .ret .none ∧ wpAny (model P w) A (passOn "with" er en : Sem Flow) R E t7) E t6) E t5) E t4) E t3) E t2) t1) E t) :
    wpAny (model P w) A (withItem false pp en (pure (.ref o)) none bd) R E t := by
  obtain ⟨cN, eN, wN⟩ := kw_along aN
  obtain ⟨cX, eX, wX⟩ := kw_along aX
  cases eN.symm.trans eX
  obtain ⟨hh, gg, dr, tk, os⟩ := t
  have q1 : Looks (model P w) hh (specialOnItsLine (.ref o) "__enter__") (some (.ref gn), cN.mro) := kw_special kin J eN wN
  have q2 : Looks (model P w) hh (specialOnItsLine (.ref o) "__exit__") (some (.ref gx), cN.mro) := kw_special kin J eN wX
  have q3 : Looks (model P w) hh (bindSpecial (.ref gn) (.ref o)) (.ref gn, [.ref o]) := bind_fn kin _ (beq_iff_eq.mp bN)
  have q4 : Looks (model P w) hh (bindSpecial (.ref gx) (.ref o)) (.ref gx, [.ref o]) := bind_fn kin _ (beq_iff_eq.mp bX)
  have q5 : Looks (model P w) hh (aMethodOfAnotherBuiltinTypeStops (.ref gn) cN.mro) () := Looks.of_pure rfl
  have q6 : Looks (model P w) hh (aMethodOfAnotherBuiltinTypeStops (.ref gx) cN.mro) () := Looks.of_pure rfl
  unfold withItem
  refine wpAny_bind (wpAny_pure (wpAny_bind (wpAny_standAt ?_)))
  simp only [Bool.false_eq_true, if_false]
  kw_lk
  refine wpAny_mono go (fun _ t1 g1 => ?_) fun _ _ z => z
  kw_lk
  refine wpAny_attempt (kw_held ?_)
  show wpAny _ _ bd _ _ _
  refine wpAny_mono g1 (fun fl t2 g2 => ?_) fun er t2 g2 => ?_
  · kw_lk
    refine wpAny_mono g2 (fun _ t3 g3 => ?_) fun _ _ z => z
    kw_lk
    exact g3
  · refine wpAny_bind (wpAny_mono g2 (fun _ t3 g3 => ?_) fun _ _ z => z)
    refine wpAny_bind (wpAny_mono g3 (fun _ t4 g4 => wpAny_bind (wpAny_standAt (wpAny_holding ?_))) fun _ _ z => z)
    refine wpAny_bind (wpAny_mono g4 (fun c t5 g5 => ?_) fun _ _ z => z)
    refine wpAny_bind (wpAny_mono g5 (fun tb t6 g6 => ?_) fun _ _ z => z)
    unfold withItem.marked
    refine wpAny_bind (wpAny_bind (wpAny_mono g6 (fun fl t7 g7 => ?_) fun _ _ z => z))
    obtain ⟨rfl, g7⟩ := g7
    refine wpAny_pure ?_
    refine wpAny_bind (wpAny_pure ?_)
    exact g7
/-! ### a def that may be called while an error is handled -/
structure OkW (P : PySem.Program) (w : World) (K : PySem.W.Frag) (mg : Str → Option Value) (base : Heap) (k : Nat) (p : Pl) (sp : Sp) : Prop where
  go : ∀ (A : Around) (ol : List Env) (t : Shared) (H : Hp) (us : List Value) (vs : List V) (Q : VK) (x : Addr × Obj), L2H.RoomH k A → L2H.PinOk ol H t x → Env0 P w K mg base A ol t H → Vals vs us → sp vs H Q E0 →
    codeAny (model P w) A (.call (.ref (He.fAd K p)) ⟨us, []⟩) (CR CX0 ol P w H t Q E0) t
theorem ok_hot {P : PySem.Program} {w : World} {K : PySem.W.Frag} {mg : Str → Option Value} {base : Heap} {k : Nat} {p : Pl} {nm qual : Str} {ag : Arguments} {body : List Stmt} {scope : Scope} {fd : FuncData} {N ps : List Str} {sp : Sp}
    (F : FunD K nm qual ag body scope [] [] (He.fAd K p) fd) (S : FnScope N ps scope) (len : ∀ vs H Q E, sp vs H Q E → vs.length = ps.length) (hb : Binds K fd ps [])
    (bd : ∀ (cdv : Value) (A : Around) (ol : List Env) (t : Shared) (H : Hp) (vs : List V) (Q : VK) (x : Addr × Obj), L2H.RoomH k (A.deeper (envOfC qual scope t.heap.objs.size (He.fAd K p) cdv)) → sp vs H Q E0 →
      ∃ r, PSs (L2H.cxH CX0 P w K mg base N qual scope (He.fAd K p) cdv A ol t H E0 x) body r ∧ r { nx := fun _ G => Q .non G, rt := Q } (L2.start N vs) H) : OkW P w K mg base (k + 1) p sp := by
  refine ⟨fun A ol t H us vs Q x room pin e0 rv hsp => ?_⟩
  obtain ⟨oc, od, dV, kV, doc, pm, an, cdv, ct, osl, rfl, lk, hcd, _, _⟩ := F.ex
  have hl : vs.length = ps.length := len _ _ _ _ hsp
  have hk : ∀ b v, base.get? b = some v → t.heap.get? b = some v := fun b v e => (e0.bs b v e).1
  have kin : K.In t.heap := e0.mod.kin.keeps hk
  have lim : t.heap.NoLimit := e0.mod.nolimit.keeps hk
  have hus : us.length = ps.length := rv.length ▸ hl
  have b2 := hb t us kin (by rw [List.append_nil]; exact hus)
  rw [List.append_nil] at b2
  have kinds : ∀ y ∈ ps.zip us, scope.names.lookup y.1 = some .local ∨ (scope.names.lookup y.1 = some .cell ∧ ((cellsFrom (t.heap.objs.size + 1) scope.names []).lookup y.1).isSome = true) := by
    rintro ⟨n, v⟩ hy
    have hn := S.par n (List.of_mem_zip hy).1
    exact hn.imp id fun q => ⟨q, PySem.W.cellsFrom_some _ _ _ (.inl q)⟩
  refine codeAny_call_function room.depth (kin _ _ lk) rfl S.co S.gen rfl (PySem.W.codeRec_of kin hcd) (b2 _ _ _ _ ?_)
  refine wpAny_newFunctionEnv_cells S.kind kinds fun env he t1 z => ?_
  subst he
  refine ⟨lim.keeps z.toInCall.keep, codeAny_func ?_⟩
  obtain ⟨r, hr, hq⟩ := bd cdv A ol t H vs Q x (room.deeper _) hsp
  refine wpAny_mono (hr.run [] t1 (L2.start N vs) H _ (L2H.inv_startH S pin e0 hl rv z) hq) (fun fl t2 done => ?_) fun _ _ q => q
  cases fl with
  | ret u =>
    obtain ⟨v, τ, G, J, ru, q⟩ := done
    exact ⟨v, G, J.os, J.bare, J.base, J.hok, ru, q⟩
  | next =>
    obtain ⟨τ, G, J, q⟩ := done
    exact ⟨V.non, G, J.os, J.bare, J.base, J.hok, rfl, q⟩
  | brk => exact False.elim done.choose_spec.choose_spec.2
  | cont => exact False.elim done.choose_spec.choose_spec.2
/-- what is wished of an error within: __exit__ runs and tells None, then Wout -/
def wWith (a : Addr) (spX : Sp) (Wout : WX) : WX := fun cls d σ H => ∃ Ce, cls = Value.ref Ce ∧ ∀ e t : V, spX [.ref a, .ref Ce, e, t] H (fun v G => v = .non ∧ Wout cls d σ G) E0
def tWith (X : Cx) (C : Addr) (spN spX : Sp) (Wout : WX) (tc : TE) (tb : WX → TS) : TS := fun D σ H => tc σ H fun y H1 => ∃ a, y = V.ref a ∧ StX.InsC X H1 a C ∧
  spN [.ref a] H1 (fun _ H2 => tb (wWith a spX Wout) { nx := fun τ H3 => spX [.ref a, .non, .non, .non] H3 (fun _ H4 => D.nx τ H4) E0, rt := fun _ _ => False } σ H2) E0
section
variable {X : Cx} {cn : Str} {C : Addr} {kN kX j : Nat} {psN : List Str} {spN spX : Sp} {Wout : WX} {ce : Expr} {tc : TE} {body : List Stmt} {tb : WX → TS} {pos : Pos}
/-- an error within meets __exit__ -/
theorem with_exc {pins : List (Addr × Obj)} {D : Ends} {u : Value} {t : Shared} {o : Addr} (hs : X.stack = X.env :: X.outer) (hf : X.env.frame = some X.env.locals) (hex : X.ex = []) (ok : X.Ok) (tk : Takes X Wout)
    (OX : OkW X.prog X.w X.K X.mg X.base kX (cn, some "__exit__") spX) (hr : Room j X.A) (hj : kX ≤ j) {xe : Value → Shared → Prop} (xx : XE (X.tr (X.pn ++ pins) xe) (wWith o spX Wout) u t) :
    wpAny (model X.prog X.w) X.A (noteFrame u X.env) (fun _ t3 => wpAny (model X.prog X.w) X.A (setFlight u none) (fun _ t4 => wpAny (model X.prog X.w) X.A (typeOf u) (fun c t5 => wpAny (model X.prog X.w) X.A (tracebackOf u) (fun tb t6 =>
        wpAny (model X.prog X.w) X.A (run (.call (.ref (He.fAd X.K (cn, some "__exit__"))) ⟨[.ref o, c, u, tb], []⟩) (some u)) (fun fl t7 => fl = .ret .none ∧ wpAny (model X.prog X.w) X.A (passOn "with" u X.env : Sem Flow) (SP X pins D) X.xe t7) X.xe t6) X.xe t5) X.xe t4) X.xe t3) X.xe t := by
  have hfr : X.A.frames = some (X.env :: X.outer) := by rw [ok.frames, hs]
  obtain ⟨a, B, sI, pins', τ, G, cls, d, rfl, J', nb, up, sky, na, os, ag, Ce, rfl, hw⟩ := xx
  have J : Inv X pins τ G sI := J'.ofTry ok
  have skyB : Sky B (X.env :: X.outer) a (Zc (.ref Ce) d) X.env.locals t.heap := by rw [← hs]; exact sky
  refine Sky.land Zc.steady hfr hf skyB fun h3 fl3 up3 => ?_
  have J3 : Inv X pins τ G { t with heap := h3 } := J.landed nb fl3.1 (up.trans up3) os ag
  obtain ⟨k1, k2, k3, oe, fv, T, oT, tv, he3, hz, hd, hv1, hnT, hTe, hT, hdT, ht3⟩ := id fl3
  have nT : G T = none := (J.inGround nb).gone hnT
  have noFrame : ∀ (b : Addr) (o' : Obj) (vv : Array Value), h3.get? b = some o' → o'.data = .fields vv → b ∉ frs (X.env :: X.outer) := fun b o' vv e dd hm => by
    obtain ⟨_, o2, e2, hno⟩ := k3.mem hm
    cases e.symm.trans e2
    exact hno _ dd
  have locIn : X.env.locals ∈ frs (X.env :: X.outer) := List.mem_filterMap.mpr ⟨X.env, List.mem_cons_self, hf⟩
  have fsIn : ∀ b, b ∈ X.fs → b ∈ frs (X.env :: X.outer) := fun b hm => by
    obtain ⟨en, hen, q⟩ := List.mem_filterMap.mp hm
    exact List.mem_filterMap.mpr ⟨en, List.mem_cons_of_mem _ hen, q⟩
  have fa := noFrame a oe fv he3 hd
  have fT := noFrame T oT tv hT hdT
  have pinA : h3.get? a = some oe ∧ G a = none ∧ a ≠ X.env.locals ∧ a ∉ X.fs ∧ ∀ v, oe.data ≠ .cell v := ⟨he3, na, fun z => fa (z ▸ locIn), fun z => fa (fsIn _ z), fun v z => by rw [hd] at z; cases z⟩
  have pinT : h3.get? T = some oT ∧ G T = none ∧ T ≠ X.env.locals ∧ T ∉ X.fs ∧ ∀ v, oT.data ≠ .cell v := ⟨hT, nT, fun z => fT (z ▸ locIn), fun z => fT (fsIn _ z), fun v z => by rw [hdT] at z; cases z⟩
  have S3 : Inv (X.suite a ((a, oe) :: (T, oT) :: (X.pn ++ pins))) [] τ G { t with heap := h3 } := by
    refine ⟨J3.ok.suite _ _, J3.os, J3.bare, J3.base, J3.loc, J3.cell, J3.free, J3.freeC, fun p hp => ?_, J3.hok, J3.len⟩
    rw [List.append_nil] at hp
    rcases List.mem_cons.mp hp with rfl | hp
    · exact pinA
    · rcases List.mem_cons.mp hp with rfl | hp
      · exact pinT
      · exact J3.pin p hp
  refine wpAny_typeOf_ref he3 ?_
  rw [hz.1]
  have tbk : ∀ {Q : Value → Shared → Prop}, (∀ v : V, ∀ x : Value, RelV v x → Q x { t with heap := h3 }) → wpAny (model X.prog X.w) X.A (tracebackOf (.ref a)) Q X.xe { t with heap := h3 } := by
    intro Q q
    unfold tracebackOf
    refine wpAny_bind (wpAny_field he3 hd hv1 ?_)
    have sz : 1 < tv.size := by
      have := (Array.getElem?_eq_some_iff.mp ht3).1
      omega
    have f1 : tv[1]? = some tv[1] := Array.getElem?_eq_getElem sz
    dsimp only
    refine wpAny_bind (wpAny_field hT hdT f1 ?_)
    cases hn : (tv[1] == Value.none) with
    | true =>
      first
        | exact wpAny_pure (q .non _ rfl)
        | (rw [if_pos rfl]; exact wpAny_pure (q .non _ rfl))
    | false =>
      first
        | exact wpAny_pure (q (.ref T) _ rfl)
        | (rw [if_neg Bool.false_ne_true]; exact wpAny_pure (q (.ref T) _ rfl))
        | (rw [if_neg Bool.false_ne_true]; exact wpAny_bind (wpAny_pure (wpAny_pure (q (.ref T) _ rfl))))
  refine tbk fun tv0 tx rtx => ?_
  have P1 := S3.pin (a, oe) (List.mem_append_left _ List.mem_cons_self)
  have pok : L2H.PinOk X.stack G { t with heap := h3 } (a, oe) := ⟨P1.1, P1.2.1, by rw [hs]; exact fa, P1.2.2.2.2⟩
  have hrH : L2H.RoomH kX (X.A.mark (some (.ref a))) := ⟨(hr.mono hj).dp, (hr.mono hj).un⟩
  have vv : Vals [V.ref o, .ref Ce, .ref a, tv0] [Value.ref o, .ref Ce, .ref a, tx] := .cons rfl (.cons rfl (.cons rfl (.cons rtx .nil)))
  refine wpAny_run (codeAny_mono (OX.go (X.A.mark (some (.ref a))) X.stack { t with heap := h3 } G _ _ _ (a, oe) hrH pok S3.env0 vv (hw (.ref a) tv0)) fun r t7 hq => ?_) (by intro z; cases z)
  cases r with
  | error e => exact False.elim hq
  | ok fl =>
    cases fl with
    | next => exact False.elim hq
    | brk => exact False.elim hq
    | cont => exact False.elim hq
    | ret x =>
      obtain ⟨v6, G6, S6, rv, ev, q6⟩ := S3.after hq
      subst ev
      have rv : x = Value.none := rv
      subst rv
      refine ⟨rfl, ?_⟩
      have J6 : Inv X pins τ G6 t7 := ⟨ok, S6.os, S6.bare, S6.base, S6.loc, S6.cell, S6.free, S6.freeC, fun p hp => S6.pin p (List.mem_append_left _ (List.mem_cons_of_mem _ (List.mem_cons_of_mem _ hp))), S6.hok, S6.len⟩
      have pa := S6.pin (a, oe) (List.mem_append_left _ List.mem_cons_self)
      have pT := S6.pin (T, oT) (List.mem_append_left _ (List.mem_cons_of_mem _ List.mem_cons_self))
      have farI : ∀ b o', sI.heap.get? b = some o' → b ≠ a ∧ b ≠ T := fun b o' e => by
        by_cases hb : b ∈ frs X.stack
        · rw [hs] at hb
          exact ⟨fun z => fa (z ▸ hb), fun z => fT (z ▸ hb)⟩
        · have q := nb b o' e hb
          refine ⟨fun z => ?_, fun z => ?_⟩
          · rw [z, k2] at q
            cases q
          · rw [z, hnT] at q
            cases q
      have far0 : ∀ b o', X.s_0.heap.get? b = some o' → b ≠ a ∧ b ≠ T := fun b o' e => by
        obtain ⟨o2, q⟩ := J.base.there b o' e (by rw [hex]; simp)
        exact farI b o2 q
      have farP : ∀ p ∈ X.pn ++ pins, p.1 ≠ a ∧ p.1 ≠ T := fun p hp => farI p.1 p.2 (J.pin p hp).1
      obtain ⟨L, l1, l2⟩ := restrict t7.heap fun b => !(decide (b = a) || decide (b = T))
      have lIn : ∀ b o', L.get? b = some o' → t7.heap.get? b = some o' ∧ b ≠ a ∧ b ≠ T := fun b o' e => by
        cases q : (!(decide (b = a) || decide (b = T))) with
        | false =>
          rw [l2 b q] at e
          cases e
        | true =>
          rw [l1 b q] at e
          simp only [Bool.not_eq_true', Bool.or_eq_false_iff, decide_eq_false_iff_not] at q
          exact ⟨e, q⟩
      have lOf : ∀ b o', b ≠ a → b ≠ T → t7.heap.get? b = some o' → L.get? b = some o' := fun b o' n1 n2 e => by
        rw [l1 b (by simp [n1, n2])]
        exact e
      have I6 : Inv X pins τ G6 { t7 with heap := L } := J6.less (fun b o' e => (lIn b o' e).1) lOf ⟨oe, fv, pa.1, hd⟩ ⟨oT, tv, pT.1, hdT⟩ pa.2.1 pT.2.1 far0 farP
      have hIn : ∀ b o', (PySem.W.hideAll L (frs X.stack)).get? b = some o' → t7.heap.get? b = some o' := fun b o' e => (lIn b o' (PySem.W.of_hideAll _ e)).1
      have hNo : ∀ b, (b = a ∨ b = T) → (PySem.W.hideAll L (frs X.stack)).get? b = none := fun b hb => by
        cases q : (PySem.W.hideAll L (frs X.stack)).get? b with
        | none => rfl
        | some o' =>
          have n := (lIn b o' (PySem.W.of_hideAll _ q)).2
          exact False.elim (hb.elim n.1 n.2)
      have fl6 : HandSPX.FlyingZ (PySem.W.hideAll L (frs X.stack)) (X.env :: X.outer) a (Zc (.ref Ce) d) t7.heap := by
        have ff := funFrames_none (B := PySem.W.hideAll L (frs X.stack)) J6.stack fun b hb => PySem.W.hideAll_none _ hb
        have ff2 : t7.heap.FunFrames (PySem.W.hideAll L (frs X.stack)) (X.env :: X.outer) := by
          rw [← hs]
          exact ff
        exact ⟨hIn, hNo a (.inl rfl), ff2, oe, fv, T, oT, tv, pa.1, hz, hd, hv1, hNo T (.inr rfl), hTe, pT.1, hdT, ht3⟩
      unfold PySem.passOn
      refine wpAny_bind (wpAny_field pa.1 hd hv1 ?_)
      rw [if_neg (by simp : ¬ ((Value.ref T == Value.none) = true))]
      have last : wpAny (model X.prog X.w) X.A (setFlight (.ref a) X.env.frame) (fun _ t8 => wpAny (model X.prog X.w) X.A (throw (.ref a) : Sem Flow) (SP X pins D) X.xe t8) X.xe t7 := by
        rw [hf]
        refine HandSPX.setFlight_upZ fl6 fun h8 fl8 up8 => wpAny_throw (tk _ _ ?_)
        rw [← hs] at fl8
        refine ⟨a, PySem.W.hideAll L (frs X.stack), { t7 with heap := L }, pins, τ, G6, .ref Ce, d, rfl, I6, fun b o' e hb => PySem.W.hideAll_get _ e hb, ?_, .inr (.inr fl8), pa.2.1, rfl, J6.bare, q6⟩
        exact Heap.UpToSlots.trans (Heap.UpToSlots.of_keeps fun b o' e => (lIn b o' e).1) up8
      first
        | exact wpAny_bind (wpAny_pure (wpAny_bind last))
        | exact wpAny_bind last
theorem ps_with (hC : C = He.ga X.K cn) (hs : X.stack = X.env :: X.outer) (hf : X.env.frame = some X.env.locals) (hex : X.ex = []) (tk : Takes X Wout) (hc : PE X ce tc) (mN : Meth X.K C "__enter__" (He.fAd X.K (cn, some "__enter__"))) (mX : Meth X.K C "__exit__" (He.fAd X.K (cn, some "__exit__")))
    (ON : OkD X.prog X.w X.K X.mg X.base CX0 kN (cn, some "__enter__") psN [] spN) (OX : OkW X.prog X.w X.K X.mg X.base kX (cn, some "__exit__") spX) (OY : FnR X.prog X.w X.K X.mg X.base CX0 kX (He.fAd X.K (cn, some "__exit__")) spX) (hr : Room j X.A) (hj : kN ≤ j) (hk : kX ≤ j)
    (hb : ∀ (W : WX) (pn : List (Addr × Obj)) (xe : Value → Shared → Prop), Takes (X.tr pn xe) W → PassesOwn (model X.prog X.w) X.A X.env xe → PSs (X.tr pn xe) body (tb W)) :
    PS X (.With [⟨ce, none⟩] body pos) (tWith X C spN spX Wout tc tb) := by
  refine ⟨fun pins s σ H D I h => ?_⟩
  have ok := I.ok
  rw [arm_exec_With]
  refine wpAny_bind (wpAny_standAt ?_)
  rw [arm_withItems_cons, arm_withItems_nil]
  obtain ⟨fd, ds, F, b, v⟩ := ON.ex
  cases v
  have key : ∀ {a : Addr} {H1 : Hp} {s1 : Shared}, Inv X pins σ H1 s1 → StX.InsC X H1 a C → spN [.ref a] H1 (fun _ H2 => tb (wWith a spX Wout) { nx := fun τ H3 => spX [.ref a, .non, .non, .non] H3 (fun _ H4 => D.nx τ H4) E0, rt := fun _ _ => False } σ H2) E0 →
      wpAny (model X.prog X.w) X.A (withItem false ce.pos X.env (pure (.ref a)) none (execs body X.env)) (SP X pins D) X.xe s1 := by
    intro a H1 s1 I1 hi q
    obtain ⟨ox, od, J, _⟩ := StX.insC_at I1 hi
    refine with_own I1.kIn J mN.1 mN.2 mX.1 mX.2 ?_
    refine wpAny_call (codeAny_mono (run_fnR (us := [.ref a]) (vs := [.ref a]) (E := E0) (F.raw b .nil) (hr.mono hj) pass0 I1 (.cons rfl .nil) q) fun r s2 hq => ?_)
    cases r with
    | error e => exact hq
    | ok fl =>
      cases fl with
      | next => exact hq
      | brk => exact hq
      | cont => exact hq
      | ret x =>
        obtain ⟨v2, H2, I2, _, q2⟩ := hq
        refine wpAny_mono ((hb (wWith a spX Wout) (X.pn ++ pins) (fun er t2 => wpAny (model X.prog X.w) X.A (noteFrame er X.env) (fun _ t3 => wpAny (model X.prog X.w) X.A (setFlight er none) (fun _ t4 => wpAny (model X.prog X.w) X.A (typeOf er) (fun c t5 => wpAny (model X.prog X.w) X.A (tracebackOf er) (fun tb t6 =>
          wpAny (model X.prog X.w) X.A (run (.call (.ref (He.fAd X.K (cn, some "__exit__"))) ⟨[.ref a, c, er, tb], []⟩) (some er)) (fun fl t7 => fl = .ret .none ∧ wpAny (model X.prog X.w) X.A (passOn "with" er X.env : Sem Flow) (SP X pins D) X.xe t7) X.xe t6) X.xe t5) X.xe t4) X.xe t3) X.xe t2)
          (fun u s' xx => ?_) PassesOwn.looking).run [] s2 σ H2 _ (I2.toTry _) q2) (fun fl s3 done => ?_) (fun _ _ z => z)
        · exact with_exc hs hf hex ok tk OX hr hk xx
        · cases fl with
          | next =>
            obtain ⟨τ, H3, I3, q3⟩ := done
            refine wpAny_call (codeAny_mono (run_fnR (us := [.ref a, .none, .none, .none]) (vs := [.ref a, .non, .non, .non]) (E := E0) OY (hr.mono hk) pass0 (I3.ofTry ok) (.cons rfl (.cons rfl (.cons rfl (.cons rfl .nil)))) q3) fun r s4 hq4 => ?_)
            cases r with
            | error e => exact hq4
            | ok f4 =>
              cases f4 with
              | next => exact hq4
              | brk => exact hq4
              | cont => exact hq4
              | ret x4 =>
                obtain ⟨v4, H4, I4, _, q4⟩ := hq4
                exact ⟨τ, H4, I4, q4⟩
          | ret u => exact False.elim done.choose_spec.choose_spec.choose_spec.2.2
          | brk => exact False.elim done.choose_spec.choose_spec.2
          | cont => exact False.elim done.choose_spec.choose_spec.2
  unfold withItem
  refine wpAny_bind (wpAny_mono (hc.run pins s σ H _ I h) (fun u s1 q => ?_) fun _ _ z => z)
  obtain ⟨y, H1, I1, ry, a, rfl, hi, q1⟩ := q
  obtain rfl : u = Value.ref a := ry
  have k1 := key I1 hi q1
  unfold withItem at k1
  exact k1
/-- a loop within: what its errors do is known -/
theorem ps_forT {pn : List (Addr × Obj)} {xe : Value → Shared → Prop} {tg iter : Expr} {wi : TI} {g : TG} {tf : TS} (hp : PassesOwn (model X.prog X.w) X.A X.env xe) (hc : X.calm = true) (hi : PI (X.tr pn xe) tg iter wi) (hg : PG (X.tr pn xe) tg g) (hb : PSs (X.tr pn xe) body tf)
    (hs : ∀ x, foldedSetIterable iter X.env x = pure x := by intro _; rfl) : PS (X.tr pn xe) (.For tg iter body [] pos) (tFor wi g tf) := ps_for (X := X.tr pn xe) hp hc hi hg hb hs
end
end Vf

set_option Elab.async false
set_option linter.all false
set_option maxRecDepth 100000
set_option maxHeartbeats 2000000
namespace PySem.W
open PySem PySem.SeqAt MeetsSeq
section
variable {prog : Program} {w : World} {A : Around} {E : Value → Shared → Prop} {s : Shared} {a b : Addr} {o : Obj}
/-- a dict's slot declines what is no dict -/
theorem vf_dic_no {v : Value} {T : String} (ha : s.TypeIs (.ref a) "dict") (hT : s.TypeIs v T) (hs : isSubtype (.type T) (.type "dict") = pure false) {Q : Fin → Shared → Prop} (h : Q (.done (.ret .notImplemented)) s) : wpAny (model prog w) A (PySem.Builtin.«dict.__eq__» ⟨[.ref a, v], []⟩) Q E s := by
  wp_walk using wpAny_isInstance hT hs
  exact h
theorem vf_none_no {Q : Fin → Shared → Prop} (h : Q (.done (.ret .notImplemented)) s) : wpAny (model prog w) A (PySem.Builtin.«NoneType.__eq__» ⟨[.none, .ref a], []⟩) Q E s := by
  wp_walk
  exact h
theorem vf_int_no {v : Value} {es : Array DictEntry} {ep : Nat} (hv : (∃ c, v = .bool c) ∨ ∃ i t, v = .int i t) (ha : s.heap.get? a = some o) (hd : o.data = .dict es ep) {Q : Fin → Shared → Prop} (h : Q (.done (.ret .notImplemented)) s) : wpAny (model prog w) A (PySem.Builtin.«int.__eq__» ⟨[v, .ref a], []⟩) Q E s := by
  obtain ⟨hp, gg, d, tk, os⟩ := s
  obtain ⟨oc, odd, oda, osl⟩ := o
  dsimp only at hd
  subst hd
  rcases hv with ⟨c, rfl⟩ | ⟨i, t, rfl⟩
  · wp_walk using AutoSeq1.wpAny_loadPart' ha
    exact h
  · wp_walk using AutoSeq1.wpAny_loadPart' ha
    exact h
theorem vf_tup_no {T : String} (hT : s.TypeIs (.ref a) T) (hs : isSubtype (.type T) (.type "tuple") = pure false) {Q : Fin → Shared → Prop} (h : Q (.done (.ret .notImplemented)) s) : wpAny (model prog w) A (PySem.Builtin.«tuple.__eq__» ⟨[.ref b, .ref a], []⟩) Q E s := by
  wp_walk using wpAny_isInstance hT hs
  exact h
theorem vf_lst_no {T : String} (hT : s.TypeIs (.ref a) T) (hs : isSubtype (.type T) (.type "list") = pure false) {Q : Fin → Shared → Prop} (h : Q (.done (.ret .notImplemented)) s) : wpAny (model prog w) A (PySem.Builtin.«list.__eq__» ⟨[.ref b, .ref a], []⟩) Q E s := by
  wp_walk using wpAny_isInstance hT hs
  exact h
end
end PySem.W
namespace PySem.W
open PySem PySem.SeqAt MeetsSeq
/-- == answers no, asked either way -/
structure NoAt (A : Around) (s : Shared) (x y : Value) : Prop where
  rc : RcAt A s x y false
  eq : EqAt A s x y false
theorem eq_of_rc {A : Around} {s : Shared} {x y : Value} {b : Bool} (hxy : (x == y) = true → b = true) (hf : ∀ i t, x ≠ .float i t) (rc : RcAt A s x y b) : EqAt A s x y b := fun prog w E Q h => by
  unfold eqBool
  refine wpAny_holding ?_
  refine wpAny_ite_split (fun hab => ?_) (fun _ => ?_)
  · rw [hxy hab] at h
    first
      | exact wpAny_pure h
      | exact wpAny_bind (wpAny_rule (wpAny_pure h))
  · cases x with
    | float i t => exact absurd rfl (hf i t)
    | _ => exact wpAny_bind (rc prog w E _ (wpAny_truthy_bool h))
/-- both slots decline: not equal -/
theorem vf_no {A : Around} {s : Shared} {x y : Value} {Tx Ty idx idy : String} {Bx By : Builtin} (hx : s.TypeIs x Tx) (hy : s.TypeIs y Ty) (hne : (Value.type Tx != Value.type Ty) = true) (hxy : (x == y) = false) (hsub : isSubtype (.type Ty) (.type Tx) = pure false)
    (sx : Slot Tx (cmpInfo .Eq).2.1 idx) (sy : Slot Ty (cmpInfo .Eq).2.2 idy) (sy1 : Slot Ty (cmpInfo .Eq).2.1 idy) (ex : entryFor table idx = some Bx) (ey : entryFor table idy = some By) (ax : argsOk idx ⟨[x, y], []⟩) (ay : argsOk idy ⟨[y, x], []⟩)
    (bx : ∀ (prog : Program) (w : World) (A : Around) (E : Value → Shared → Prop) (Q : Fin → Shared → Prop), Q (.done (.ret .notImplemented)) s → wpAny (model prog w) A (Bx ⟨[x, y], []⟩) Q E s)
    (by_ : ∀ (prog : Program) (w : World) (A : Around) (E : Value → Shared → Prop) (Q : Fin → Shared → Prop), Q (.done (.ret .notImplemented)) s → wpAny (model prog w) A (By ⟨[y, x], []⟩) Q E s)
    (hs : ∀ (prog : Program) (w : World) (A : Around) (E : Value → Shared → Prop) (Q : Bool → Shared → Prop), Q false s → wpAny (model prog w) A (isSame x y) Q E s) (hf : ∀ i t, x ≠ .float i t) (hu : A.units < cLine) : NoAt A s x y := by
  have rc : RcAt A s x y false := fun prog w E Q h =>
    rc_eq_decline_or (k := false) hx hy hne hsub sx sy
      (fun _ hq => wpAny_call_entry sx hx ex (bx _ _ _ _ _ ⟨_, rfl, hq⟩) ax)
      (fun _ hq => wpAny_call_entry sy1 hy ey (by_ _ _ _ _ _ ⟨_, rfl, hq⟩) ay)
      (fun _ hq => hs _ _ _ _ _ hq) (.inr hu) h
  exact ⟨rc, eq_of_rc (fun z => absurd (z.symm.trans hxy) (by decide)) hf rc⟩
end PySem.W
namespace Vf
open PySem PySem.Spec PyProof.Rows L2 PySem.W
/-- == of two values: data, or a dict beside what is none, or two empty dicts -/
inductive EqW (K : PySem.W.Frag) (H : Hp) : V → V → Bool → Prop
  | dat {x y : V} {d e : PyData} : Dp K H x d → Dp K H y e → SeqAt.shaped d = true → SeqAt.shaped e = true → EqW K H x y (PyData.eqv d e)
  | dicL {y : V} {e : PyData} {a : Addr} {ks : List (Key × V)} : H a = some (.dK ks) → Dp K H y e → EqW K H (.ref a) y false
  | dicR {x : V} {d : PyData} {a : Addr} {ks : List (Key × V)} : Dp K H x d → H a = some (.dK ks) → EqW K H x (.ref a) false
  | dd {a b : Addr} : H a = some (.dK []) → H b = some (.dK []) → EqW K H (.ref a) (.ref b) true
section
variable {X : Cx} {pins : List (Addr × Obj)} {σ : L2.St} {H : Hp} {s : Shared}
theorem dic_obj (I : L2.Inv X pins σ H s) {a : Addr} {ks : List (Key × V)} (h : H a = some (.dK ks)) : ∃ o es ep, s.heap.get? a = some o ∧ o.cls = .type "dict" ∧ o.data = .dict es ep := by
  obtain ⟨_, _, vs, _, o, es, ep, h1, h2, h3, _⟩ := (show ObjOk X.prog X.w H s.heap _ (.dK _) from I.hok _ _ h)
  exact ⟨o, es, ep, h1, h2.1, h3⟩
theorem eqW_dicR (I : L2.Inv X pins σ H s) {A : Around} {x : V} {u : Value} {d : PyData} {a : Addr} {ks : List (Key × V)} (h : Dp X.K H x d) (ha : H a = some (.dK ks)) (rx : RelV x u) (hu : A.units < cLine) : NoAt A s u (.ref a) := by
  obtain ⟨o, es, ep, ho, hc, hd⟩ := dic_obj I ha
  have ta : s.TypeIs (.ref a) "dict" := ⟨o, ho, hc⟩
  cases h with
  | non =>
    cases rx
    exact vf_no (rfl : s.TypeIs .none "NoneType") ta (by decide) rfl PySem.F.sub_dict_NoneType PySem.F.slot_NoneType_eq PySem.F.slot_dict_eq_refl PySem.F.slot_dict_eq PySem.F.entry_NoneType_eq PySem.F.entry_dict_eq (PySem.F.args_NoneType_eq_2 _ _) (PySem.F.args_dict_eq_2 _ _)
      (fun _ _ _ _ _ q => vf_none_no q) (fun _ _ _ _ _ q => vf_dic_no (v := .none) (T := "NoneType") ta rfl PySem.F.sub_NoneType_dict q) (fun _ _ _ _ _ q => wpAny_of_eq (rfl : isSame .none (.ref a) = pure false) q) (fun _ _ z => nomatch z) hu
  | bl b =>
    cases rx
    exact vf_no (rfl : s.TypeIs (.bool b) "bool") ta (by decide) rfl PySem.F.sub_dict_bool PySem.F.slot_bool_eq PySem.F.slot_dict_eq_refl PySem.F.slot_dict_eq PySem.F.entry_int_eq PySem.F.entry_dict_eq (PySem.F.args_int_eq_2 _ _) (PySem.F.args_dict_eq_2 _ _)
      (fun _ _ _ _ _ q => vf_int_no (.inl ⟨_, rfl⟩) ho hd q) (fun _ _ _ _ _ q => vf_dic_no (v := .bool b) (T := "bool") ta rfl PySem.F.sub_bool_dict q) (fun _ _ _ _ _ q => wpAny_of_eq (rfl : isSame (.bool b) (.ref a) = pure false) q) (fun _ _ z => nomatch z) hu
  | int i =>
    obtain ⟨t, rfl⟩ := rx
    exact vf_no (rfl : s.TypeIs (.int i t) "int") ta (by decide) rfl PySem.F.sub_dict_int PySem.F.slot_int_eq PySem.F.slot_dict_eq_refl PySem.F.slot_dict_eq PySem.F.entry_int_eq PySem.F.entry_dict_eq (PySem.F.args_int_eq_2 _ _) (PySem.F.args_dict_eq_2 _ _)
      (fun _ _ _ _ _ q => vf_int_no (.inr ⟨_, _, rfl⟩) ho hd q) (fun _ _ _ _ _ q => vf_dic_no (v := .int i t) (T := "int") ta rfl PySem.F.sub_int_dict q) (fun _ _ _ _ _ q => wpAny_of_eq (rfl : isSame (.int i t) (.ref a) = pure false) q) (fun _ _ z => nomatch z) hu
  | str z =>
    obtain ⟨t, rfl⟩ := rx
    exact ⟨vf_rc_str_dict ho hc hd hu, vf_str_dict ho hc hd hu⟩
  | @lst l _ _ hs _ =>
    cases rx
    obtain ⟨its, r, p, _⟩ := I.list hs
    obtain ⟨ol, n, hl, hlc, hld, hlx⟩ := p
    have tl : s.TypeIs (.ref l) "list" := ⟨_, hl, hlc⟩
    have hne : l ≠ a := fun e => by
      rw [e, ho] at hl
      cases hl
      rw [hc] at hlc
      exact absurd hlc (by simp)
    exact vf_no tl ta (by decide) (by simpa using hne) PySem.F.sub_dict_list PySem.F.slot_list_eq PySem.F.slot_dict_eq_refl PySem.F.slot_dict_eq PySem.F.entry_list_eq PySem.F.entry_dict_eq (PySem.F.args_list_eq_2 _ _) (PySem.F.args_dict_eq_2 _ _)
      (fun _ _ _ _ _ q => vf_lst_no ta PySem.F.sub_dict_list q) (fun _ _ _ _ _ q => vf_dic_no ta tl PySem.F.sub_list_dict q) (fun _ _ _ _ _ q => SeqAt.wpAny_isSame_ref_other' hne hl ho (by rw [hc]; simp) q) (fun _ _ z => nomatch z) hu
  | @tup l _ _ hs _ =>
    cases rx
    obtain ⟨its, r, p, _⟩ := I.tuple hs
    obtain ⟨ol, hl, hlc, hld⟩ := p
    have tl : s.TypeIs (.ref l) "tuple" := ⟨_, hl, hlc⟩
    have hne : l ≠ a := fun e => by
      rw [e, ho] at hl
      cases hl
      rw [hc] at hlc
      exact absurd hlc (by simp)
    exact vf_no tl ta (by decide) (by simpa using hne) PySem.F.sub_dict_tuple PySem.F.slot_tuple_eq PySem.F.slot_dict_eq_refl PySem.F.slot_dict_eq PySem.F.entry_tuple_eq PySem.F.entry_dict_eq (PySem.F.args_tuple_eq_2 _ _) (PySem.F.args_dict_eq_2 _ _)
      (fun _ _ _ _ _ q => vf_tup_no ta PySem.F.sub_dict_tuple q) (fun _ _ _ _ _ q => vf_dic_no ta tl PySem.F.sub_tuple_dict q) (fun _ _ _ _ _ q => SeqAt.wpAny_isSame_ref_other' hne hl ho (by rw [hc]; simp) q) (fun _ _ z => nomatch z) hu
theorem eqW_dicL (I : L2.Inv X pins σ H s) {A : Around} {x : V} {u : Value} {d : PyData} {a : Addr} {ks : List (Key × V)} (h : Dp X.K H x d) (ha : H a = some (.dK ks)) (rx : RelV x u) (hu : A.units < cLine) : NoAt A s (.ref a) u := by
  obtain ⟨o, es, ep, ho, hc, hd⟩ := dic_obj I ha
  have ta : s.TypeIs (.ref a) "dict" := ⟨o, ho, hc⟩
  cases h with
  | non =>
    cases rx
    exact vf_no ta (show s.TypeIs .none "NoneType" from rfl) (by decide) rfl PySem.F.sub_NoneType_dict PySem.F.slot_dict_eq PySem.F.slot_NoneType_eq_refl PySem.F.slot_NoneType_eq PySem.F.entry_dict_eq PySem.F.entry_NoneType_eq (PySem.F.args_dict_eq_2 _ _) (PySem.F.args_NoneType_eq_2 _ _)
      (fun _ _ _ _ _ q => vf_dic_no (v := .none) (T := "NoneType") ta rfl PySem.F.sub_NoneType_dict q) (fun _ _ _ _ _ q => vf_none_no q) (fun _ _ _ _ _ q => wpAny_of_eq (rfl : isSame (.ref a) .none = pure false) q) (fun _ _ z => nomatch z) hu
  | bl b =>
    cases rx
    exact vf_no ta (show s.TypeIs (.bool b) "bool" from rfl) (by decide) rfl PySem.F.sub_bool_dict PySem.F.slot_dict_eq PySem.F.slot_bool_eq_refl PySem.F.slot_bool_eq PySem.F.entry_dict_eq PySem.F.entry_int_eq (PySem.F.args_dict_eq_2 _ _) (PySem.F.args_int_eq_2 _ _)
      (fun _ _ _ _ _ q => vf_dic_no (v := .bool b) (T := "bool") ta rfl PySem.F.sub_bool_dict q) (fun _ _ _ _ _ q => vf_int_no (.inl ⟨_, rfl⟩) ho hd q) (fun _ _ _ _ _ q => wpAny_of_eq (rfl : isSame (.ref a) (.bool b) = pure false) q) (fun _ _ z => nomatch z) hu
  | int i =>
    obtain ⟨t, rfl⟩ := rx
    exact vf_no ta (show s.TypeIs (.int i t) "int" from rfl) (by decide) rfl PySem.F.sub_int_dict PySem.F.slot_dict_eq PySem.F.slot_int_eq_refl PySem.F.slot_int_eq PySem.F.entry_dict_eq PySem.F.entry_int_eq (PySem.F.args_dict_eq_2 _ _) (PySem.F.args_int_eq_2 _ _)
      (fun _ _ _ _ _ q => vf_dic_no (v := .int i t) (T := "int") ta rfl PySem.F.sub_int_dict q) (fun _ _ _ _ _ q => vf_int_no (.inr ⟨_, _, rfl⟩) ho hd q) (fun _ _ _ _ _ q => wpAny_of_eq (rfl : isSame (.ref a) (.int i t) = pure false) q) (fun _ _ z => nomatch z) hu
  | str z =>
    obtain ⟨t, rfl⟩ := rx
    exact vf_no ta (show s.TypeIs (.str z t) "str" from rfl) (by decide) rfl PySem.F.sub_str_dict PySem.F.slot_dict_eq PySem.F.slot_str_eq_refl PySem.F.slot_str_eq PySem.F.entry_dict_eq PySem.F.entry_str_eq (PySem.F.args_dict_eq_2 _ _) (PySem.F.args_str_eq_2 _ _)
      (fun _ _ _ _ _ q => vf_dic_no (v := .str z t) (T := "str") ta rfl PySem.F.sub_str_dict q) (fun _ _ _ _ _ q => vf_no_str_dic ho hd q) (fun _ _ _ _ _ q => wpAny_of_eq (rfl : isSame (.ref a) (.str z t) = pure false) q) (fun _ _ z => nomatch z) hu
  | @lst l _ _ hs _ =>
    cases rx
    obtain ⟨its, r, p, _⟩ := I.list hs
    obtain ⟨ol, n, hl, hlc, hld, hlx⟩ := p
    have tl : s.TypeIs (.ref l) "list" := ⟨_, hl, hlc⟩
    have hne : a ≠ l := fun e => by
      rw [← e, ho] at hl
      cases hl
      rw [hc] at hlc
      exact absurd hlc (by simp)
    exact vf_no ta tl (by decide) (by simpa using hne) PySem.F.sub_list_dict PySem.F.slot_dict_eq PySem.F.slot_list_eq_refl PySem.F.slot_list_eq PySem.F.entry_dict_eq PySem.F.entry_list_eq (PySem.F.args_dict_eq_2 _ _) (PySem.F.args_list_eq_2 _ _)
      (fun _ _ _ _ _ q => vf_dic_no ta tl PySem.F.sub_list_dict q) (fun _ _ _ _ _ q => vf_lst_no ta PySem.F.sub_dict_list q) (fun _ _ _ _ _ q => wpAny_isSame_ref_other hne ho hl (by rw [hc]; simp) q) (fun _ _ z => nomatch z) hu
  | @tup l _ _ hs _ =>
    cases rx
    obtain ⟨its, r, p, _⟩ := I.tuple hs
    obtain ⟨ol, hl, hlc, hld⟩ := p
    have tl : s.TypeIs (.ref l) "tuple" := ⟨_, hl, hlc⟩
    have hne : a ≠ l := fun e => by
      rw [← e, ho] at hl
      cases hl
      rw [hc] at hlc
      exact absurd hlc (by simp)
    exact vf_no ta tl (by decide) (by simpa using hne) PySem.F.sub_tuple_dict PySem.F.slot_dict_eq PySem.F.slot_tuple_eq_refl PySem.F.slot_tuple_eq PySem.F.entry_dict_eq PySem.F.entry_tuple_eq (PySem.F.args_dict_eq_2 _ _) (PySem.F.args_tuple_eq_2 _ _)
      (fun _ _ _ _ _ q => vf_dic_no ta tl PySem.F.sub_tuple_dict q) (fun _ _ _ _ _ q => vf_tup_no ta PySem.F.sub_dict_tuple q) (fun _ _ _ _ _ q => wpAny_isSame_ref_other hne ho hl (by rw [hc]; simp) q) (fun _ _ z => nomatch z) hu
theorem EqW.run (I : L2.Inv X pins σ H s) {A : Around} {x y : V} {u v : Value} {b : Bool} (h : EqW X.K H x y b) (rx : RelV x u) (ry : RelV y v) (hu : A.units + 64 < cLine) :
    (∀ E Q : Value → Shared → Prop, Q (.bool b) s → wpAny (model X.prog X.w) A (richCompare .Eq u v) Q E s) ∧ SeqAt.EqP X.prog X.w A s u v b := by
  cases h with
  | dat h1 h2 sd se =>
    obtain ⟨as, r1⟩ := Dp.reads I _ x u h1 rx
    obtain ⟨bs, r2⟩ := Dp.reads I _ y v h2 ry
    exact ⟨fun E Q q => SeqAt.compareEq_shaped r1 r2 sd se hu q, (SeqAt.eqAt_reads _ _ A s u v as bs r1 r2 (SeqAt.canLay_of_shaped sd) (SeqAt.canLay_of_shaped se) (SeqAt.room_of_shaped sd hu)).eqP⟩
  | dicL h1 h2 =>
    cases rx
    have := eqW_dicL I (A := A) h2 h1 ry (by omega)
    exact ⟨this.rc X.prog X.w, this.eq.eqP⟩
  | dicR h1 h2 =>
    cases ry
    have := eqW_dicR I (A := A) h1 h2 rx (by omega)
    exact ⟨this.rc X.prog X.w, this.eq.eqP⟩
  | @dd a b h1 h2 =>
    cases rx
    cases ry
    obtain ⟨_, ya, va, ra, da⟩ := (show ObjOk X.prog X.w H s.heap a (.dK []) from I.hok a _ h1)
    obtain ⟨_, yb, vb, rb, db⟩ := (show ObjOk X.prog X.w H s.heap b (.dK []) from I.hok b _ h2)
    cases ra
    cases rb
    have rc : ∀ E Q : Value → Shared → Prop, Q (.bool true) s → wpAny (model X.prog X.w) A (richCompare .Eq (.ref a) (.ref b)) Q E s := fun E Q q =>
      PySem.W.rcP_dicts (knd := mixKind X.prog X.w) (r := true) ya yb da db (by omega) (fun _ => .nil) E Q q
    refine ⟨rc, ?_⟩
    by_cases e : a = b
    · subst e
      exact (SeqAt.EqAt.same _).eqP
    · exact SeqAt.eqP_refs e rc
/-- x == y of such values -/
def rEqW (K : PySem.W.Frag) : R2 := fun x y H Q => ∃ b, EqW K H x y b ∧ Q (.bl b) H
theorem op_eqW (hu : X.A.units + 64 < cLine) : OpR X (compareOp .Eq) (rEqW X.K) := by
  intro pins s σ H x y v u Q I rx ry h
  obtain ⟨b, h, q⟩ := h
  exact (h.run I rx ry hu).1 _ _ ⟨.bl b, H, I, rfl, q⟩
/-- in, not in: such values -/
def DW (K : PySem.W.Frag) : Eqb := fun x y H b => EqW K H x y b
theorem eqB_w {n : Nat} : EqB X n (DW X.K) := fun A pins s σ H x y u v b sb I rx ry hd => (hd.run I rx ry sb.room.units).2 _ _ ⟨rfl, H, I, Ext.rfl'⟩
mutual
theorem Dp_ext {K : PySem.W.Frag} {H H' : Hp} (sm : Same H H') : ∀ (d : PyData) (x : V), Dp K H x d → Dp K H' x d
  | _, _, .non => .non
  | _, _, .bl b => .bl b
  | _, _, .int i => .int i
  | _, _, .str z => .str z
  | .list ds, _, .lst h hs => .lst (sm.seq h) (DpAll_ext sm ds _ hs)
  | .tuple ds, _, .tup h hs => .tup (SqT.ext h sm) (DpAll_ext sm ds _ hs)
theorem DpAll_ext {K : PySem.W.Frag} {H H' : Hp} (sm : Same H H') : ∀ (ds : List PyData) (xs : List V), DpAll K H xs ds → DpAll K H' xs ds
  | _, _, .nil => .nil
  | d :: ds, _, .cons h hs => .cons (Dp_ext sm d _ h) (DpAll_ext sm ds _ hs)
end
theorem EqW.ext {K : PySem.W.Frag} {H H' : Hp} (sm : Same H H') {x y : V} {b : Bool} (h : EqW K H x y b) : EqW K H' x y b := by
  cases h with
  | dat h1 h2 sd se => exact .dat (Dp_ext sm _ _ h1) (Dp_ext sm _ _ h2) sd se
  | dicL h1 h2 => exact .dicL (sm _ _ h1) (Dp_ext sm _ _ h2)
  | dicR h1 h2 => exact .dicR (Dp_ext sm _ _ h1) (sm _ _ h2)
  | dd h1 h2 => exact .dd (sm _ _ h1) (sm _ _ h2)
end
end Vf

set_option Elab.async false
set_option linter.all false
set_option maxRecDepth 100000
set_option maxHeartbeats 2000000
/-! try with several clauses that bind their error; over the library's readings of one clause and of clauses without names. -/
namespace Vf
open PySem PySem.Spec PyProof.Rows L2
abbrev Clause : Type := Value × Nat × (Addr → Value → Option Addr → TS)
/-- the ends of a clause: its name goes -/
def goneE (i : Nat) (D : Ends) : Ends := { nx := fun τ G => D.nx (τ.set i none) G, rt := D.rt, bk := fun τ G => D.bk (τ.set i none) G, ct := fun τ G => D.ct (τ.set i none) G }
def wClauses (K : PySem.W.Frag) (Wout : WX) (D : Ends) : List Clause → WX
  | [] => Wout
  | (c, i, ts) :: r => fun cls d τ G => ∃ t, PySem.W.exmOne K cls c = some t ∧ (t = true → ∀ a, G a = none → ts a cls d (goneE i D) (τ.set i (some (.ref a))) G) ∧ (t = false → wClauses K Wout D r cls d τ G)
inductive Clauses (X : Cx) : List ExceptHandler → List Clause → Prop
  | nil : Clauses X [] []
  | cons {x n : Str} {c : Value} {i : Nat} {ts : Addr → Value → Option Addr → TS} {b₀ : Stmt} {suite : List Stmt} {np np' : Pos} {hds : List ExceptHandler} {l : List Clause} (hi : X.N[i]? = some n) (hl : X.env.kindOf n = some .local) (hc : Names X x c)
      (hsu : ∀ (a : Addr) (oe : Obj) (cls : Value) (d : Option Addr) (pn : List (Addr × Obj)), Zc cls d oe → (∃ vs, oe.data = .fields vs) → PSs (X.suite a ((a, oe) :: pn)) (b₀ :: suite) (ts a cls d)) (r : Clauses X hds l) :
      Clauses X (.ExceptHandler (some (.Name x np)) (some n) (b₀ :: suite) np' :: hds) ((c, i, ts) :: l)
section
variable {X : Cx} {body : List Stmt} {h₀ : ExceptHandler} {hds : List ExceptHandler} {l : List Clause} {pos : Pos} {tb : WX → TS} {Wout : WX}
theorem ps_try_clauses (hst : X.stack = X.env :: X.outer) (hfr0 : X.env.frame = some X.env.locals) (hN : X.N.Nodup) (tk : Takes X Wout)
    (hb : ∀ (W : WX) (pn : List (Addr × Obj)) (xe : Value → Shared → Prop), Takes (X.tr pn xe) W → PassesOwn (model X.prog X.w) X.A X.env xe → PSs (X.tr pn xe) body (tb W))
    (hh : Clauses X (h₀ :: hds) l) : PS X (.Try body (h₀ :: hds) [] [] pos) (fun D σ H => tb (wClauses X.K Wout D l) D σ H) := by
  refine ⟨fun pins s σ H D I hyp => ?_⟩
  have iok := I.ok
  have hframes : X.A.frames = some (X.env :: X.outer) := by rw [iok.frames, hst]
  refine wpAny_Try_except (wpAny_mono ((hb (wClauses X.K Wout D l) (X.pn ++ pins) (fun er t1 => wpAny (model X.prog X.w) X.A (noteFrame er X.env) (fun _ t2 => wpAny (model X.prog X.w) X.A (setFlight er none) (fun _ t3 =>
    wpAny (model X.prog X.w) X.A (handleBy er X.env (h₀ :: hds)) (SP X pins D) X.xe t3) X.xe t2) X.xe t1) (fun u s' air => ?_) PassesOwn.looking).run [] s σ H D (I.toTry _) hyp) (fun fl t1 done => ?_) (fun er t1 q => q))
  · obtain ⟨a, B, sI, pins', τ, G, cls, d, rfl, Ja, newB, upA, sky, gNone, osEq, bare, wish⟩ := air
    have Jb : Inv X pins τ G sI := Ja.ofTry iok
    have skyB : Sky B (X.env :: X.outer) a (Zc cls d) X.env.locals s'.heap := by rw [← hst]; exact sky
    show wpAny (model X.prog X.w) X.A (noteFrame (.ref a) X.env) _ _ _
    refine Sky.land Zc.steady hframes hfr0 skyB fun hp3 fly3 up3 => ?_
    have J3 : Inv X pins τ G { s' with heap := hp3 } := Jb.landed newB fly3.1 (upA.trans up3) osEq bare
    obtain ⟨o3, w3, there3, zc3, dat3⟩ := fly3.there
    have off : a ∉ frs (X.env :: X.outer) := fun hm => by
      obtain ⟨_, o', e', hno⟩ := fly3.2.2.1.mem hm
      rw [there3] at e'
      cases e'
      exact hno _ dat3
    have offL : a ≠ X.env.locals := fun z => off (List.mem_filterMap.mpr ⟨X.env, List.mem_cons_self, by rw [hfr0, z]⟩)
    have offF : a ∉ X.fs := fun hm => by
      obtain ⟨en, hen, q⟩ := List.mem_filterMap.mp hm
      exact off (List.mem_filterMap.mpr ⟨en, List.mem_cons_of_mem _ hen, q⟩)
    have S3 := J3.suite there3 dat3 gNone offL offF
    have walk : ∀ {hs2 : List ExceptHandler} {l2 : List Clause}, Clauses X hs2 l2 → wClauses X.K Wout D l2 cls d τ G → wpAny (model X.prog X.w) X.A (handleBy (.ref a) X.env hs2) (SP X pins D) X.xe { s' with heap := hp3 } := by
      intro hs2 l2 hk
      induction hk with
      | nil =>
        intro out
        refine wpAny_handleBy_nil ?_
        obtain ⟨_, _, _, oe, vs, T, oT, _, there, zc, dat, v1, _⟩ := id fly3
        unfold PySem.passOn
        refine wpAny_bind (wpAny_field there dat v1 ?_)
        rw [if_neg (by simp : ¬ ((Value.ref T == Value.none) = true))]
        have last : wpAny (model X.prog X.w) X.A (setFlight (.ref a) X.env.frame) (fun _ t4 => wpAny (model X.prog X.w) X.A (throw (.ref a) : Sem Flow) (SP X pins D) X.xe t4) X.xe { s' with heap := hp3 } := by
          rw [hfr0]
          refine HandSPX.setFlight_upZ fly3 fun hp4 fly4 up4 => wpAny_throw (tk _ _ ⟨a, B, sI, pins, τ, G, cls, d, rfl, Jb, newB, (upA.trans up3).trans up4, .inr (.inr (by rw [hst]; exact fly4)), gNone, osEq, bare, out⟩)
        first
          | exact wpAny_bind (wpAny_pure (wpAny_bind last))
          | exact wpAny_bind last
      | @cons x n c i ts b₀ suite np np' hds2 l2 hi hl hc hsu r ih =>
        rintro ⟨t, et, yes, no⟩
        refine wpAny_handleBy_cons (codeAny_handlers_test ?_) (by intro q; cases q)
        have look : PySem.W.Looks (model X.prog X.w) hp3 (typeOf (.ref a)) cls := fun A Q E t keep q => wpAny_typeOf_ref (keep _ _ there3) (by rw [zc3.1]; exact q)
        have match_ := PySem.W.exm_one (M := model X.prog X.w) (J3.kIn) look et
        have name : ∀ {Q E : Value → Shared → Prop}, Q c { s' with heap := hp3 } → wpAny (model X.prog X.w) (X.A.mark (some (.ref a))) (eval (.Name x np) X.env) Q E { s' with heap := hp3 } := fun {Q E} q => by
          obtain ⟨g1, g2, g3 | ⟨g3, g4, g5⟩⟩ := hc
          · exact ld_glob (X := X.suite a ((a, o3) :: (X.pn ++ pins))) S3 g1 g3 q g2
          · exact ld_blt (X := X.suite a ((a, o3) :: (X.pn ++ pins))) S3 g1 g3 g4 q g5 g2
        refine name (match_.here ?_)
        cases t with
        | false =>
          show wpAny _ X.A (handleBy (.ref a) X.env hds2) _ _ _
          exact ih (no rfl)
        | true =>
          refine codeAny_handlers_suite_as (HandSPX.lands_againZ fly3 fun hp4 fly4 up4 => ?_)
          have J4 : Inv X pins τ G { s' with heap := hp4 } := Jb.landed newB fly4.1 ((upA.trans up3).trans up4) osEq bare
          obtain ⟨o4, w4, there4, zc4, dat4⟩ := fly4.there
          refine store_ok (X := X.suite a ((a, o4) :: (X.pn ++ pins))) (v := .ref a) (J4.suite there4 dat4 gNone offL offF) hN hi (.inl hl) rfl (fun t5 S5 => ?_) (.inr hl)
          refine wpAny_mono ((hsu a o4 cls d (X.pn ++ pins) zc4 ⟨_, dat4⟩).run [] t5 _ G _ S5 (yes rfl a gNone)) (fun fl t6 done => ?_) (fun _ _ z => False.elim z)
          have bye : ∀ {τ6 : L2.St} {G6 : Hp} {Q : Shared → Prop}, Inv (X.suite a ((a, o4) :: (X.pn ++ pins))) [] τ6 G6 t6 → (∀ t7, Inv X pins (τ6.set i none) G6 t7 → Q t7) →
              wpAny (model X.prog X.w) X.A (do bindName X.env n .none; unbindBehindTheSuite X.env n np') (fun _ t7 => Q t7) X.xe t6 := fun {τ6 G6 Q} S6 q => gone_ok (S6.unsuite iok) hN hi hl q
          cases fl with
          | ret u =>
            obtain ⟨v6, τ6, G6, S6, r6, q6⟩ := done
            exact bye S6 fun t7 J7 => ⟨_, _, _, J7, r6, q6⟩
          | _ =>
            obtain ⟨τ6, G6, S6, q6⟩ := done
            exact bye S6 fun t7 J7 => ⟨_, _, J7, q6⟩
    exact walk hh wish
  · cases fl with
    | ret u =>
      obtain ⟨v, τ, G, Ja, rv, q⟩ := done
      exact ⟨v, τ, G, Ja.ofTry iok, rv, q⟩
    | next =>
      obtain ⟨τ, G, Ja, q⟩ := done
      exact wpAny_execs_nil ⟨τ, G, Ja.ofTry iok, q⟩
    | _ =>
      obtain ⟨τ, G, Ja, q⟩ := done
      exact ⟨τ, G, Ja.ofTry iok, q⟩
end
end Vf

set_option Elab.async false
set_option linter.all false
set_option maxRecDepth 100000
set_option maxHeartbeats 2000000
namespace Vf
open PySem PySem.Spec PyProof.Rows L2
section
variable {X : Cx}
/-- xs.count(y), flat items -/
def rCntV (K : PySem.W.Frag) : V → List V → Hp → VK → Prop := fun x xs H Q => ∃ (p : Addr) (ys : List V) (y : V), x = .ref p ∧ xs = [y] ∧ SqL K H p ys ∧ flatV y = true ∧ ys.all flatV = true ∧ Q (.int ((ys.countP fun z => eqV z y : Nat) : Int)) H
theorem count_answ (e : V → Bool) : ∀ {xs : List V} {us : List Value}, Vals xs us → us.countP (answ e) = xs.countP e
  | _, _, .nil => rfl
  | _, _, .cons r t => by
    rw [List.countP_cons, List.countP_cons, answ_of e r, count_answ e t]
theorem mt_lcountV : MtR X "list.count" (rCntV X.K) := by
  intro pins s σ H x xs v us Q I rx rxs h
  obtain ⟨p, ys, y, rfl, rfl, hs, fy, fs, q⟩ := h
  cases rx
  obtain ⟨u, rfl, ru⟩ := rxs.one
  obtain ⟨its, rv, ⟨⟨cls, dd, data, sl⟩, n, ho, hc, hdn, hd⟩, hlen⟩ := I.list hs
  simp only at hc hd
  subst hc hd
  refine call_meets PySem.F.slot_list_count ⟨_, ho, rfl⟩ PySem.F.entry_list_count (PySem.F.args_list_count_2 _ _)
    (SeqAt.list_countAt p its.toArray n dd sl u (answ fun z => eqV z y)) ⟨ho, fun w hw => ?_, ?_⟩
  · obtain ⟨z, hz, rz⟩ := vals_mem rv (by simpa using hw)
    rw [answ_of _ rz]
    exact eqAt_V rz ru (List.all_eq_true.mp fs z hz) fy
  · have ec : its.toArray.toList.countP (answ fun z => eqV z y) = ys.countP fun z => eqV z y := count_answ _ rv
    refine ⟨.int ((ys.countP fun z => eqV z y : Nat) : Int), H, I.tok _, ⟨s.toks, ?_⟩, q⟩
    show Value.int ((its.toArray.toList.countP (answ fun z => eqV z y) : Nat) : Int) s.toks = Value.int ((ys.countP fun z => eqV z y : Nat) : Int) s.toks
    rw [ec]
/-! ### readings over a given K -/
theorem mt_lcountVK {K : PySem.W.Frag} (h : X.K = K) : MtR X "list.count" (rCntV K) := h ▸ mt_lcountV
theorem sl_listK {K : PySem.W.Frag} (h : X.K = K) : SlR X (rSlL K) := h ▸ sl_list
theorem sl_tupK {K : PySem.W.Frag} (h : X.K = K) : SlR X (rSlT K) := h ▸ sl_tup
theorem op_in_seqK {K : PySem.W.Frag} (hK : X.K = K) : OpR X (compareOp .In) (rIn K false) := hK ▸ op_in_seq
theorem op_notIn_seqK {K : PySem.W.Frag} (hK : X.K = K) : OpR X (compareOp .NotIn) (rIn K true) := hK ▸ op_notIn_seq
theorem op_notInIK {K : PySem.W.Frag} (hK : X.K = K) (hu : X.A.units + 64 < cLine) : OpR X (compareOp .NotIn) (rNotInI K) := hK ▸ op_notInI hu
theorem op_inBK {K : PySem.W.Frag} {n : Nat} (hK : X.K = K) (hr : Room (n + 1) X.A) : OpR X (compareOp .In) (rInB K false (DW K)) := hK ▸ op_inB (n := n) eqB_w hr
end
section
variable {X : Cx} {o e : Expr} {es : List Expr} {to : TE} {t : TA} {name : Str} {apos cpos : Pos} {T id : String} {r : V → List V → Hp → VK → Prop}
theorem pe_bmK {K : PySem.W.Frag} (hK : X.K = K) (pa : PlainAttrs T) (slot : Slot T name id) (hty : typeOf (.builtin id) = pure (.type "method_descriptor")) (hm : MtR X id r) (ho : PE X o to) (ha : PA X (e :: es) t)
    (hbase : attributeBase o name X.env (eval o X.env) = eval o X.env := by rfl)
    (hfew : ((backTo cpos (starEach (e :: es) X.env)).all (fun x => !x.1) && (backToKw cpos (keywordEach [] X.env)).all (fun x => x.1.isSome)
      && decide ((e :: es).length + ([] : List Keyword).length + (if ([] : List Keyword).isEmpty then 0 else 1) < 30)) = true := by rfl)
    (hline : (apos.endLine == cpos.line) = true := by rfl) (hs : starEach (e :: es) X.env = (false, eval e X.env) :: starEach es X.env := by rfl) (hplain : (backTo cpos (starEach es X.env)).any (·.1) = false := by rfl) :
    PE X (.Call (.Attribute o name apos) (e :: es) [] cpos) (tBM K T r to t) := hK ▸ pe_bm pa slot hty hm ho ha hbase hfew hline hs hplain
end
/-! ### a comprehension of two walks -/
theorem lc2_it {J : It} {n : Nat} {G : Hp → Prop} {Y : Nat → Hp → V → Hp → Prop} (w : Walk J n G Y) {g g1 : TG} {tt tt1 : TT} {wi1 : TI} {te : TE} {vs vs1 : List Nat} {σ : L2.St} {H1 : Hp} {D : Addr} {Qd : Hp → Prop} (Pv : Nat → Hp → Prop) (h0 : Pv 0 (upd H1 D (.lst []))) (hG : ∀ i H, i ≤ n → Pv i H → G H)
    (hs : ∀ i x H H', i < n → Pv i H → Y i H x H' → g x (wipe σ vs) H' fun σ2 H2 => wipe σ2 vs = wipe σ vs ∧ tt σ2 H2 fun b H3 =>
      if b = true then wi1 σ2 H3 fun J1 H4 => ∃ W1 : Nat → Nat → Hp → Prop, (∃ m, W1 0 m H4) ∧ ∀ j k H, W1 j k H →
        (J1.stop j H ∧ Pv (i + 1) H) ∨ (J1.go j H ∧ ∃ Nx1 : Hp → Prop, (∀ H', Nx1 H' → ∃ k', k' < k ∧ W1 (j + 1) k' H') ∧ ∀ x H', J1.yld j H x H' → g1 x (wipe σ2 vs1) H' fun σ3 H5 => wipe σ3 vs1 = wipe σ2 vs1 ∧ tt1 σ3 H5 fun b H6 =>
          if b = true then te σ3 H6 fun y H7 => ∃ acc, H7 D = some (.lst acc) ∧ acc.length < sizeLine ∧ Nx1 (upd H7 D (.lst (acc ++ [y]))) else Nx1 H6)
      else Pv (i + 1) H3) (hd : ∀ H, Pv n H → Qd H) :
    ∃ W : Nat → Nat → Hp → Prop, (∃ m, W 0 m (upd H1 D (.lst []))) ∧ ∀ i m H, W i m H →
      (J.stop i H ∧ Qd H) ∨ (J.go i H ∧ ∃ Nx : Hp → Prop, (∀ H', Nx H' → ∃ m', m' < m ∧ W (i + 1) m' H') ∧ ∀ x H', J.yld i H x H' → g x (wipe σ vs) H' fun σ2 H2 => wipe σ2 vs = wipe σ vs ∧ tt σ2 H2 fun b H3 =>
        if b = true then wi1 σ2 H3 fun J1 H4 => ∃ W1 : Nat → Nat → Hp → Prop, (∃ m, W1 0 m H4) ∧ ∀ j k H, W1 j k H →
          (J1.stop j H ∧ Nx H) ∨ (J1.go j H ∧ ∃ Nx1 : Hp → Prop, (∀ H', Nx1 H' → ∃ k', k' < k ∧ W1 (j + 1) k' H') ∧ ∀ x H', J1.yld j H x H' → g1 x (wipe σ2 vs1) H' fun σ3 H5 => wipe σ3 vs1 = wipe σ2 vs1 ∧ tt1 σ3 H5 fun b H6 =>
            if b = true then te σ3 H6 fun y H7 => ∃ acc, H7 D = some (.lst acc) ∧ acc.length < sizeLine ∧ Nx1 (upd H7 D (.lst (acc ++ [y]))) else Nx1 H6)
        else Nx H3) := by
  refine ⟨fun i m H => m = n - i ∧ i ≤ n ∧ Pv i H, ⟨n, by simp, Nat.zero_le _, h0⟩, ?_⟩
  rintro i m H ⟨rfl, hi, p⟩
  have q := hG i H hi p
  by_cases hlt : i < n
  · exact .inr ⟨w.goes i H hlt q, Pv (i + 1), fun H' p' => ⟨n - (i + 1), by omega, rfl, hlt, p'⟩, fun x H' y => hs i x H H' hlt p (w.yields i H x H' hlt q y)⟩
  · have e : i = n := by omega
    subst e
    exact .inl ⟨w.stops H q, hd H p⟩
/-- its inner walk -/
theorem lc2_in {J1 : It} {n : Nat} {G : Hp → Prop} {Y : Nat → Hp → V → Hp → Prop} (w : Walk J1 n G Y) {g1 : TG} {tt1 : TT} {te : TE} {vs1 : List Nat} {σ2 : L2.St} {H4 : Hp} {D : Addr} {Qd : Hp → Prop} (Pv : Nat → Hp → Prop) (h0 : Pv 0 H4) (hG : ∀ i H, i ≤ n → Pv i H → G H)
    (hs : ∀ i x H H', i < n → Pv i H → Y i H x H' → g1 x (wipe σ2 vs1) H' fun σ3 H5 => wipe σ3 vs1 = wipe σ2 vs1 ∧ tt1 σ3 H5 fun b H6 =>
      if b = true then te σ3 H6 fun y H7 => ∃ acc, H7 D = some (.lst acc) ∧ acc.length < sizeLine ∧ Pv (i + 1) (upd H7 D (.lst (acc ++ [y]))) else Pv (i + 1) H6) (hd : ∀ H, Pv n H → Qd H) :
    ∃ W1 : Nat → Nat → Hp → Prop, (∃ m, W1 0 m H4) ∧ ∀ j k H, W1 j k H →
      (J1.stop j H ∧ Qd H) ∨ (J1.go j H ∧ ∃ Nx1 : Hp → Prop, (∀ H', Nx1 H' → ∃ k', k' < k ∧ W1 (j + 1) k' H') ∧ ∀ x H', J1.yld j H x H' → g1 x (wipe σ2 vs1) H' fun σ3 H5 => wipe σ3 vs1 = wipe σ2 vs1 ∧ tt1 σ3 H5 fun b H6 =>
        if b = true then te σ3 H6 fun y H7 => ∃ acc, H7 D = some (.lst acc) ∧ acc.length < sizeLine ∧ Nx1 (upd H7 D (.lst (acc ++ [y]))) else Nx1 H6) := by
  refine ⟨fun i m H => m = n - i ∧ i ≤ n ∧ Pv i H, ⟨n, by simp, Nat.zero_le _, h0⟩, ?_⟩
  rintro i m H ⟨rfl, hi, p⟩
  have q := hG i H hi p
  by_cases hlt : i < n
  · exact .inr ⟨w.goes i H hlt q, Pv (i + 1), fun H' p' => ⟨n - (i + 1), by omega, rfl, hlt, p'⟩, fun x H' y => hs i x H H' hlt p (w.yields i H x H' hlt q y)⟩
  · have e : i = n := by omega
    subst e
    exact .inl ⟨w.stops H q, hd H p⟩
/-! ### name = {..: .. for ..} on one line -/
section
variable {X : Cx}
theorem sw_trueD {kx vx : Expr} {gs : List Comprehension} {scope : Scope} {pos py : Pos} {y : Str} {l : Nat} {env : Env} (hk : env.scope.kind = .function) (hy : env.scope.names.lookup y = some .local) (hl : (py.line == pos.line) = true)
    (ha : (scope.names.any fun (n, k) => n == y && (k == .local || k == .cell)) = false) : swapsWith (.DictComp kx vx gs scope pos) (some (.Name y py)) l env = pure true := by
  have ky : env.kindOf y = some .local := hy
  have hb : env.blockKind = .function := by unfold Env.blockKind; rw [hk]; rfl
  unfold swapsWith
  simp only [hb, ky, ha, Expr.pos, hl]
  rfl
theorem ps_setDc {i : Nat} {y : Str} {py : Pos} {kx vx tg iter : Expr} {ifs : List Expr} {scope : Scope} {own : List (Str × Nat)} {pos spos : Pos} {wi : TI} {g : TG} {tt : TT} {tk tv : TE} (hc : X.calm = true) (hN : X.N.Nodup) (hy : X.N[i]? = some y) (hyl : X.env.scope.names.lookup y = some .local)
    (hsw : swapsWith (.DictComp kx vx [⟨tg, iter, ifs, 0⟩] scope pos) (some (.Name y py)) spos.line X.env = pure true) (hi : PI X tg iter wi) (ok : BlkOk X.N X.env.scope scope own)
    (hg : ∀ (s : Shared) (H : Hp) (C : Addr) (cl : List (Str × Addr)) (fp : List Addr), PG (X.blk s H scope (compEnvC scope cl C X.env) fp) tg g) (ht : ∀ (s : Shared) (H : Hp) (C : Addr) (cl : List (Str × Addr)) (fp : List Addr), PTs (X.blk s H scope (compEnvC scope cl C X.env) fp) ifs tt)
    (hk : ∀ (s : Shared) (H : Hp) (C : Addr) (cl : List (Str × Addr)) (fp : List Addr), PE (X.blk s H scope (compEnvC scope cl C X.env) fp) kx tk)
    (he : ∀ (s : Shared) (H : Hp) (C : Addr) (cl : List (Str × Addr)) (fp : List Addr), PE (X.blk s H scope (compEnvC scope cl C X.env) fp) vx tv) (hs : ∀ x, foldedSetIterable iter X.env x = pure x := by intro _; rfl) :
    PS X (.Assign [.Name y py] (.DictComp kx vx [⟨tg, iter, ifs, 0⟩] scope pos) spos) (tAsg (tDc wi g tt tk tv (own.map (·.2))) (gName i)) := by
  refine ⟨fun pins s σ H D I h => ?_⟩
  rw [PySem.exec_Assign_Name_used _ _ _ _ hsw]
  refine wpAny_bind (wpAny_standAt (wpAny_bind ?_))
  show wpAny _ X.A (do let _ ← comprehension (.DictComp kx vx [⟨tg, iter, ifs, 0⟩] scope pos) scope X.env (firstIterPos [⟨tg, iter, ifs, 0⟩] pos) newDict false (eval iter X.env) (some (assign (.Name y py) X.env))) _ _ s
  have h : tDc wi g tt tk tv (own.map (·.2)) σ H (fun x H1 => gName i x σ H1 D.nx) := h
  refine wpAny_bind (thn (dc_core (Qf := fun _ s' => SP X pins D .next s') hc hN I hi ok hg ht hk he hs h fun L C s' m H' I' q hn f => ?_) fun _ s' hq => wpAny_pure (wpAny_pure hq))
  show wpAny _ _ (assign (.Name y py) X.env (.ref L)) _ _ _
  refine wpAny_assign_Name (store_ok2 (v := V.ref L) I' hN hy (.inl hyl) rfl (fun s2 I2 ⟨a, sb, ha⟩ => ?_) (.inr hyl))
  obtain ⟨f0, f1, f2, f3, f4, f5⟩ := f
  have haC : C ≠ a := by
    rcases ha with z | z
    · rw [z]; exact f1
    · exact fun e => f4 y a z e.symm
  refine ⟨m, hn.sameBut sb haC, fun h3 sb3 => ?_⟩
  exact ⟨_, H', I2.turned (t' := s2.toks) (fun b o hb e => (sb3.2 b hb).trans e) f0 f1 f3 f4 f5, q⟩
end
end Vf

set_option Elab.async false
set_option linter.all false
set_option maxRecDepth 100000
set_option maxHeartbeats 2000000
namespace Vf
open PySem PySem.Spec PyProof.Rows L2
/-! ### and, or: one way on, whatever the parts answer -/
section
variable {X : Cx} {e a b : Expr} {rest : List Expr} {pos : Pos}
def tWk (t : TE) : TE := fun σ H Q => ∃ R : VK, t σ H R ∧ ∀ v H', R v H' → Q v H'
def tTWk (t : TT) : TT := fun σ H Q => ∃ R : Bool → Hp → Prop, t σ H R ∧ ∀ c H', R c H' → Q c H'
theorem pe_weak {t : TE} (h : PE X e t) : PE X e (tWk t) := ⟨fun pins s σ H Q I ⟨R, h1, k⟩ =>
  PySem.wpAny_mono (h.run pins s σ H R I h1) (fun v s' ⟨x, H', I', r, q⟩ => ⟨x, H', I', r, k _ _ q⟩) fun _ _ z => z⟩
theorem pt_weak {t : TT} (h : PT X e t) : PT X e (tTWk t) := ⟨fun pins s σ H Q I ⟨R, h1, k⟩ =>
  PySem.wpAny_mono (h.run pins s σ H R I h1) (fun v s' ⟨H', I', q⟩ => ⟨H', I', k _ _ q⟩) fun _ _ z => z⟩
theorem pw_weak {t : TT} (h : PW X e t) : PW X e (tTWk t) := ⟨fun wh pins s σ H Q I ⟨R, h1, k⟩ =>
  PySem.wpAny_mono (h.run wh pins s σ H R I h1) (fun v s' ⟨H', I', q⟩ => ⟨H', I', k _ _ q⟩) fun _ _ z => z⟩
def tAndB (t u : TT) : TT := fun σ H Q => t σ H fun c H1 => ∃ (d : Bool) (R : Hp → Prop), (c = true → u σ H1 fun b H2 => b = d ∧ R H2) ∧ (c = false → R H1) ∧ ∀ H2, R H2 → Q (c && d) H2
def tOrB (t u : TT) : TT := fun σ H Q => t σ H fun c H1 => ∃ (d : Bool) (R : Hp → Prop), (c = false → u σ H1 fun b H2 => b = d ∧ R H2) ∧ (c = true → R H1) ∧ ∀ H2, R H2 → Q (c || d) H2
def tAndVB (t u : TE) : TE := fun σ H Q => t σ H fun x H1 => ∃ (c d : Bool) (R : Hp → Prop), x = .bl c ∧ (c = true → u σ H1 fun b H2 => b = .bl d ∧ R H2) ∧ (c = false → R H1) ∧ ∀ H2, R H2 → Q (.bl (c && d)) H2
def tOrVB (t u : TE) : TE := fun σ H Q => t σ H fun x H1 => ∃ (c d : Bool) (R : Hp → Prop), x = .bl c ∧ (c = false → u σ H1 fun b H2 => b = .bl d ∧ R H2) ∧ (c = true → R H1) ∧ ∀ H2, R H2 → Q (.bl (c || d)) H2
theorem pw_andB {t u : TT} (ha : PT X a t) (hb : PW X (.BoolOp .And (b :: rest) pos) u) : PW X (.BoolOp .And (a :: b :: rest) pos) (tAndB t u) :=
  ⟨fun wh pins s σ H Q I h => (pw_and (pt_weak ha) (pw_weak hb)).run wh pins s σ H Q I ⟨_, h, fun c H1 ⟨d, R, h1, h2, k⟩ => by
    cases c with
    | true => exact iteT ⟨_, h1 rfl, fun b H2 ⟨e, r⟩ => e ▸ k H2 r⟩
    | false => exact iteF (k H1 (h2 rfl))⟩⟩
theorem pw_orB {t u : TT} (ha : PT X a t) (hb : PW X (.BoolOp .Or (b :: rest) pos) u) : PW X (.BoolOp .Or (a :: b :: rest) pos) (tOrB t u) :=
  ⟨fun wh pins s σ H Q I h => (pw_or (pt_weak ha) (pw_weak hb)).run wh pins s σ H Q I ⟨_, h, fun c H1 ⟨d, R, h1, h2, k⟩ => by
    cases c with
    | true => exact iteT (k H1 (h2 rfl))
    | false => exact iteF ⟨_, h1 rfl, fun b H2 ⟨e, r⟩ => e ▸ k H2 r⟩⟩⟩
theorem pe_andB {t u : TE} (ha : PE X a t) (hb : PE X (.BoolOp .And (b :: rest) pos) u) : PE X (.BoolOp .And (a :: b :: rest) pos) (tAndVB t u) :=
  ⟨fun pins s σ H Q I h => (pe_and (pe_weak ha) (pe_weak hb)).run pins s σ H Q I ⟨_, h, fun x H1 ⟨c, d, R, e, h1, h2, k⟩ => ⟨c, e, by
    cases c with
    | true => exact iteT ⟨_, h1 rfl, fun b H2 ⟨e, r⟩ => e ▸ k H2 r⟩
    | false => exact iteF (k H1 (h2 rfl))⟩⟩⟩
theorem pe_orB {t u : TE} (ha : PE X a t) (hb : PE X (.BoolOp .Or (b :: rest) pos) u) : PE X (.BoolOp .Or (a :: b :: rest) pos) (tOrVB t u) :=
  ⟨fun pins s σ H Q I h => (pe_or (pe_weak ha) (pe_weak hb)).run pins s σ H Q I ⟨_, h, fun x H1 ⟨c, d, R, e, h1, h2, k⟩ => ⟨c, e, by
    cases c with
    | true => exact iteT (k H1 (h2 rfl))
    | false => exact iteF ⟨_, h1 rfl, fun b H2 ⟨e, r⟩ => e ▸ k H2 r⟩⟩⟩⟩
/-- a if t else b: one value -/
def tIfB (t : TT) (u v : TE) : TE := fun σ H Q => t σ H fun c H1 => ∃ (x : V) (R : Hp → Prop), (c = true → u σ H1 fun y H2 => y = x ∧ R H2) ∧ (c = false → v σ H1 fun y H2 => y = x ∧ R H2) ∧ ∀ H2, R H2 → Q x H2
theorem pe_ifExpB {c : Expr} {t : TT} {u v : TE} (hc : PT X c t) (ha : PE X a u) (hb : PE X b v) : PE X (.IfExp c a b pos) (tIfB t u v) :=
  ⟨fun pins s σ H Q I h => (pe_ifExp (pt_weak hc) (pe_weak ha) (pe_weak hb)).run pins s σ H Q I ⟨_, h, fun c H1 ⟨x, R, h1, h2, k⟩ => by
    cases c with
    | true => exact iteT ⟨_, h1 rfl, fun y H2 ⟨e, r⟩ => e ▸ k H2 r⟩
    | false => exact iteF ⟨_, h2 rfl, fun y H2 ⟨e, r⟩ => e ▸ k H2 r⟩⟩⟩
/-- a tuple as target, within a comprehension -/
theorem pg_tupK {K : PySem.W.Frag} {es : List Expr} {k : Nat} {t : TGs} (hK : X.K = K) (n : Nat) (hc : X.calm = true) (h : PGs X es t)
    (hn : (assignEach es X.env).length = n := by rfl) (hst : (assignEach es X.env).findIdx? (·.1) = none := by rfl) : PG X (.Tuple es k pos) (gTup K n t) := hK ▸ pg_tup hc h hn hst
/-- a test whose two ways are told by one -/
theorem ite_one {c : Bool} {A B : Prop} (h1 : c = true → A) (h2 : c = false → B) : if c = true then A else B := by
  cases c with
  | true => exact iteT (h1 rfl)
  | false => exact iteF (h2 rfl)
end
/-! ### f(e, .., k = v, ..) of a def with defaults -/
def tFnK (n m : Nat) (sp : Sp) (gV : List V → List V → List V) (E : XK) (t tk : TA) : TE := fun σ H Q => t σ H fun vs H1 => tk σ H1 fun zs H2 => vs.length = n ∧ zs.length = m ∧ sp (gV vs zs) H2 Q E
theorem c_fnK {X : Cx} {CX : CXT} {k j n : Nat} {ps ks : List Str} {sp : Sp} {x : Str} {p pos : Pos} {e : Expr} {es : List Expr} {kws : List Keyword} {t tk : TA} {gV : List V → List V → List V} {E : XK} (O : OkK X.prog X.w X.K X.mg X.base CX k (x, none) ps n ks gV sp) (hr : Room j X.A) (hj : k ≤ j) (kp : PySem.W.keepIn X.K (.ref (He.fAd X.K (x, none))) = true)
    (hm : X.mg x = some (.ref (He.ga X.K x))) (hx : Passes CX X E) (ha : PA X (e :: es) t) (hkw : PK X kws tk) (hg : Gl X x := by rfl) (hall : (backToKw pos (keywordEach kws X.env)).all (·.1.isSome) = true := by rfl) (hks : (backToKw pos (keywordEach kws X.env)).filterMap (·.1) = ks := by rfl)
    (hdb : (x == ("__debug__" : Str)) = false := by decide) (he : starEach (e :: es) X.env = (false, eval e X.env) :: starEach es X.env := by rfl) (hpl : ((backTo pos (starEach (e :: es) X.env)).any (·.1) || (backToKw pos (keywordEach kws X.env)).any (·.1.isNone)) = false := by rfl) :
    PE X (.Call (.Name x p) (e :: es) kws pos) (tFnK n ks.length sp gV E t tk) := by
  obtain ⟨fd, g, F, b⟩ := O.ex
  refine ⟨fun pins s σ H Q I h => wpAny_Call_Name_kw (ld_glob I hg hm ?_ hdb)⟩
  refine PySem.W.callWith_KW (h₀ := X.base) I.ok.mod.kin kp hall (thn (ha.run pos pins s σ H _ I h) fun us s1 ⟨vs, H1, I1, r, q⟩ => thn (hkw.run pos pins s1 σ H1 _ I1 q) fun ws s2 ⟨zs, H2, I2, rz, l1, l2, q2⟩ => ⟨I2.kIn, ?_⟩) hpl he
  rw [hks]
  refine wpAny_call (codeAny_mono (F.run X.A X.stack s2 H2 ⟨us, ks.zip ws⟩ (g us ws) (gV vs zs) Q E (hr.mono hj) I2.env0 (b.to s2 us ws I2.kIn (r.length.symm.trans l1) (rz.length.symm.trans l2)) (b.rel r rz) q2) fun r s' hq => ?_)
  match r, hq with
  | .error e, hq => exact hx pins σ H2 s2 e s' I2 hq
  | .ok (.ret u), hq => exact I2.after hq
end Vf

set_option Elab.async false
set_option linter.all false
set_option maxRecDepth 100000
set_option maxHeartbeats 1000000
namespace Vf
open PySem PySem.Spec PyProof.Rows L2
section
variable {X : Cx}
/-- t == u, two tuples of equal items -/
def rEq0 (K : PySem.W.Frag) : R2 := fun x y H Q => ∃ (a b : Addr) (xs ys : List V), x = .ref a ∧ y = .ref b ∧ SqT K H a xs ∧ SqT K H b ys ∧ Paired (fun z z' => EqI K H z z' true) xs ys ∧ Q (.bl true) H
theorem op_eq0 (hu : X.A.units + 64 < cLine) : OpR X (compareOp .Eq) (rEq0 X.K) := by
  intro pins s σ H x y v u Q I rx ry h
  obtain ⟨a, b, xs, ys, rfl, rfl, ha, hb, hp, q⟩ := h
  cases rx
  cases ry
  have hu1 : X.A.in1.units < cLine := by show X.A.units + 1 < cLine; omega
  obtain ⟨us, r1, p1, _⟩ := I.tuple ha
  obtain ⟨ws, r2, p2, _⟩ := I.tuple hb
  have hs : us.toArray.size = ws.toArray.size := by rw [List.size_toArray, List.size_toArray, ← r1.length, ← r2.length]; exact Paired.length hp
  refine SeqAt.RcAt.tuples (e := fun _ => true) p1 p2 (by omega) (fun j h1 h2 => ?_) _ _ _ _ ?_
  · have := items_at (fun r1 r2 k => EqI.at I k r1 r2 hu1) hp r1 r2 j (by simpa using h1) (by simpa using h2)
    simpa using this
  · rw [hs, show ((List.range (min ws.toArray.size ws.toArray.size)).all fun _ => true) = true from List.all_eq_true.mpr fun _ _ => rfl, beq_self_eq_true]
    exact ⟨.bl true, H, I, rfl, q⟩
end
end Vf

set_option Elab.async false
set_option linter.all false
set_option maxRecDepth 100000
set_option maxHeartbeats 1000000
namespace Vf
open PySem PySem.Spec PyProof.Rows L2
section
variable {X : Cx}
/-- l == m, two lists: of unlike lengths, or of equal items -/
def rEqL0 (K : PySem.W.Frag) : R2 := fun x y H Q => ∃ (a b : Addr) (xs ys : List V), x = .ref a ∧ y = .ref b ∧ SqL K H a xs ∧ SqL K H b ys ∧ ((xs.length ≠ ys.length ∧ Q (.bl false) H) ∨ (Paired (fun z z' => EqI K H z z' true) xs ys ∧ Q (.bl true) H))
theorem op_eqL0 (hu : X.A.units + 64 < cLine) : OpR X (compareOp .Eq) (rEqL0 X.K) := by
  intro pins s σ H x y v u Q I rx ry h
  obtain ⟨a, b, xs, ys, rfl, rfl, ha, hb, h⟩ := h
  cases rx
  cases ry
  have hu1 : X.A.in1.units < cLine := by show X.A.units + 1 < cLine; omega
  obtain ⟨us, r1, p1, _⟩ := I.list ha
  obtain ⟨ws, r2, p2, _⟩ := I.list hb
  rcases h with ⟨hn, q⟩ | ⟨hp, q⟩
  · have hs : (us.toArray.size != ws.toArray.size) = true := by
      rw [List.size_toArray, List.size_toArray, ← r1.length, ← r2.length]
      simpa using hn
    exact SeqAt.RcAt.lists_lengths p1.isList p2.isList hs (by omega) _ _ _ _ ⟨.bl false, H, I, rfl, q⟩
  · have hs : us.toArray.size = ws.toArray.size := by rw [List.size_toArray, List.size_toArray, ← r1.length, ← r2.length]; exact Paired.length hp
    refine SeqAt.RcAt.lists (e := fun _ => true) p1.isList p2.isList hs (by omega) (fun j h1 h2 => ?_) _ _ _ _ ?_
    · have := items_at (fun r1 r2 k => EqI.at I k r1 r2 hu1) hp r1 r2 j (by simpa using h1) (by simpa using h2)
      simpa using this
    · rw [show ((List.range us.toArray.size).all fun _ => true) = true from List.all_eq_true.mpr fun _ _ => rfl]
      exact ⟨.bl true, H, I, rfl, q⟩
/-- l == [] -/
def rEqNil (K : PySem.W.Frag) : R2 := fun x y H Q => ∃ (a b : Addr) (xs : List V), x = .ref a ∧ y = .ref b ∧ SqL K H a xs ∧ SqL K H b [] ∧ Q (.bl xs.isEmpty) H
theorem op_eqNil (hu : X.A.units + 64 < cLine) : OpR X (compareOp .Eq) (rEqNil X.K) := by
  intro pins s σ H x y v u Q I rx ry h
  obtain ⟨a, b, xs, rfl, rfl, ha, hb, q⟩ := h
  refine op_eqL0 hu _ _ _ _ _ _ _ _ _ I rx ry ⟨a, b, xs, [], rfl, rfl, ha, hb, ?_⟩
  cases xs with
  | nil => exact .inr ⟨.nil, q⟩
  | cons x xs => exact .inl ⟨(by simp), q⟩
end
end Vf

set_option Elab.async false
set_option linter.all false
set_option maxRecDepth 100000
set_option maxHeartbeats 1000000
namespace Vf
open PySem PySem.Spec PyProof.Rows L2
/-- the objects that the facts want: those near the module's names, and what the properties' getters are made of -/
def asX (g : Addr → Option Obj) (gs : List GetD) : List Addr := He.asD g 4 ++ He.growD g (He.growD g (gs.map fun x => gAd (He.frG g (He.asD g 4)) x.cls x.attr))
def obsXG (ex : PySem.W.Frag → Bool) (fn : List He.DefD) (gs : List GetD) (g : Addr → Option Obj) : AlP := obsP ex fn gs (He.frG g (asX g gs))
def hookX (ex : PySem.W.Frag → Bool) (fn : List He.DefD) (gs : List GetD) : PySem.W.Hook where
  α := AlP
  obs := fun s => obsXG ex fn gs s.heap.get?
  val := fun _ => (true, fn.map He.DefD.val, gs.map GetD.val)
  says := fun _ h => ∃ K : PySem.W.Frag, K.In h ∧ SaysP ex fn gs K
  of := fun _ _ e => ⟨_, He.frG_in, e⟩
  keeps := fun _ _ _ ⟨K, hK, c⟩ k => ⟨K, PySem.W.Frag.In.keeps hK k, c⟩
theorem obsXG_eq {ex : PySem.W.Frag → Bool} {fn : List He.DefD} {gs : List GetD} {g : Addr → Option Obj} {s : Shared} (h : ∀ a, g a = s.heap.get? a) : obsXG ex fn gs g = (hookX ex fn gs).obs s := by
  have e : g = s.heap.get? := funext h
  rw [e]
  rfl
end Vf

set_option Elab.async false
set_option linter.all false
set_option maxRecDepth 100000
namespace K32
open PySem PySem.Spec PyProof.Rows L2 Vf
def top (i : Nat) : Stmt := PySem.Challenge.pw_seenshares_k32_profile_trial.main.body.getD i (.Pass ⟨0, 0, 0, 0⟩)
def KEPT : List Str := ["any", "closed", "end", "open", "to"]
def LET : Str := "abcdefghijklmnopqrstuvwxyz"
abbrev s_is_integer : Stmt := top 14
abbrev s_is_integer_from : Stmt := top 15
abbrev s_is_flag : Stmt := top 16
abbrev s_is_name : Stmt := top 17
abbrev s_BadPlace_init : Stmt := inClass (top 3) 0
abbrev s_Place_init : Stmt := inClass (top 22) 0
abbrev s_Place_eq : Stmt := inClass (top 22) 1
abbrev s_has_twins : Stmt := top 18
abbrev s_is_one_of : Stmt := top 24
abbrev s_is_choice : Stmt := top 27
abbrev s_are_places : Stmt := top 25
abbrev s_are_nexts : Stmt := top 26
abbrev s_BadProgram_init : Stmt := inClass (top 4) 0
abbrev s_Program_init : Stmt := inClass (top 23) 0
abbrev s_NoPlace_init : Stmt := inClass (top 5) 0
abbrev s_Program_contains : Stmt := inClass (top 23) 4
abbrev s_Program_getitem : Stmt := inClass (top 23) 2
abbrev s_BadSampler_init : Stmt := inClass (top 6) 0
abbrev s_Sampler_init : Stmt := inClass (top 44) 0
abbrev s_Record_init : Stmt := inClass (top 30) 0
abbrev s_record_of : Stmt := top 32
abbrev s_Program_nexts : Stmt := inClass (top 23) 1
abbrev s_check_phase : Stmt := top 31
abbrev s_law_take : Stmt := top 47
abbrev s_law_cell : Stmt := top 46
abbrev s_law_name : Stmt := top 49
abbrev s_law_rows : Stmt := top 50
abbrev s_law_nexts : Stmt := top 52
abbrev s_law_program : Stmt := top 53
abbrev s_law_is_integer : Stmt := top 48
abbrev s_law_spec : Stmt := top 54
abbrev s_law_sampler : Stmt := top 55
abbrev s_law_row : Stmt := top 51
abbrev s_law_ticks : Stmt := top 56
abbrev s_law_first : Stmt := top 57
abbrev s_law_after : Stmt := top 58
abbrev s_law_walk : Stmt := top 59
abbrev s_law_stays : Stmt := top 60
abbrev s_law_looks : Stmt := top 61
abbrev s_law_seen : Stmt := top 62
abbrev s_law_notes_fit : Stmt := top 63
abbrev s_law_record_fits : Stmt := top 64
abbrev s_look_flags : Stmt := top 34
abbrev s_pair_at : Stmt := top 35
abbrev s_BadChoice_init : Stmt := inClass (top 9) 0
abbrev s_Profile_init : Stmt := inClass (top 38) 0
abbrev s_Profilespot : Stmt := inClass (top 38) 12
abbrev s_Profilehas_come : Stmt := inClass (top 38) 13
abbrev s_Profilemoves : Stmt := inClass (top 38) 11
abbrev s_Profile_choices : Stmt := inClass (top 38) 4
abbrev s_is_one_of_choices : Stmt := top 39
abbrev s_Profilego_on : Stmt := inClass (top 38) 10
abbrev s_Profile_call : Stmt := inClass (top 38) 1
abbrev s_stays_made : Stmt := top 40
abbrev s_looks_made : Stmt := top 41
abbrev s_Profile_record : Stmt := inClass (top 38) 6
abbrev s_law_options : Stmt := top 65
abbrev s_law_next : Stmt := top 66
abbrev s_law_empty : Stmt := top 67
abbrev s_law_due : Stmt := top 68
abbrev s_Mark_init : Stmt := inClass (top 37) 0
abbrev s_Profile_enter : Stmt := inClass (top 38) 2
abbrev s_Profile_exit : Stmt := inClass (top 38) 3
abbrev s_Profile_trial : Stmt := inClass (top 38) 9
abbrev s_Profile_path : Stmt := inClass (top 38) 5
abbrev s_law_tried : Stmt := top 70
abbrev s_law_grown : Stmt := top 69
abbrev s_law_odd : Stmt := top 72
abbrev s_law_stands : Stmt := top 71
abbrev s_law : Stmt := top 73
abbrev s_Program_eq : Stmt := inClass (top 23) 6
abbrev s_BadPhase_init : Stmt := inClass (top 7) 0
end K32
set_option Elab.async false
set_option linter.all false
set_option maxRecDepth 100000
set_option maxHeartbeats 0
namespace K32
open PySem PySem.Spec PyProof.Rows L2 Vf
def fn : List He.DefD := [
  ⟨("is_integer", none), "is_integer", "is_integer", defArgs s_is_integer, defBody s_is_integer, defScope s_is_integer, [], []⟩,
  ⟨("is_integer_from", none), "is_integer_from", "is_integer_from", defArgs s_is_integer_from, defBody s_is_integer_from, defScope s_is_integer_from, [], []⟩,
  ⟨("is_flag", none), "is_flag", "is_flag", defArgs s_is_flag, defBody s_is_flag, defScope s_is_flag, [], []⟩,
  ⟨("is_name", none), "is_name", "is_name", defArgs s_is_name, defBody s_is_name, defScope s_is_name, [], []⟩,
  ⟨("has_twins", none), "has_twins", "has_twins", defArgs s_has_twins, defBody s_has_twins, defScope s_has_twins, [], []⟩,
  ⟨("BadPlace", some "__init__"), "__init__", "BadPlace.__init__", defArgs s_BadPlace_init, defBody s_BadPlace_init, defScope s_BadPlace_init, [], []⟩,
  ⟨("Place", some "__init__"), "__init__", "Place.__init__", defArgs s_Place_init, defBody s_Place_init, defScope s_Place_init, [.int 1, .non], [("let", .bl true)]⟩,
  ⟨("Place", some "__eq__"), "__eq__", "Place.__eq__", defArgs s_Place_eq, defBody s_Place_eq, defScope s_Place_eq, [], []⟩,
  ⟨("BadProgram", some "__init__"), "__init__", "BadProgram.__init__", defArgs s_BadProgram_init, defBody s_BadProgram_init, defScope s_BadProgram_init, [], []⟩,
  ⟨("NoPlace", some "__init__"), "__init__", "NoPlace.__init__", defArgs s_NoPlace_init, defBody s_NoPlace_init, defScope s_NoPlace_init, [], []⟩,
  ⟨("Program", some "__init__"), "__init__", "Program.__init__", defArgs s_Program_init, defBody s_Program_init, defScope s_Program_init, [], [("start", .non)]⟩,
  ⟨("Program", some "__contains__"), "__contains__", "Program.__contains__", defArgs s_Program_contains, defBody s_Program_contains, defScope s_Program_contains, [], []⟩,
  ⟨("Program", some "__getitem__"), "__getitem__", "Program.__getitem__", defArgs s_Program_getitem, defBody s_Program_getitem, defScope s_Program_getitem, [], []⟩,
  ⟨("is_one_of", none), "is_one_of", "is_one_of", defArgs s_is_one_of, defBody s_is_one_of, defScope s_is_one_of, [], []⟩,
  ⟨("are_places", none), "are_places", "are_places", defArgs s_are_places, defBody s_are_places, defScope s_are_places, [], []⟩,
  ⟨("are_nexts", none), "are_nexts", "are_nexts", defArgs s_are_nexts, defBody s_are_nexts, defScope s_are_nexts, [], []⟩,
  ⟨("is_choice", none), "is_choice", "is_choice", defArgs s_is_choice, defBody s_is_choice, defScope s_is_choice, [], []⟩,
  ⟨("BadSampler", some "__init__"), "__init__", "BadSampler.__init__", defArgs s_BadSampler_init, defBody s_BadSampler_init, defScope s_BadSampler_init, [], []⟩,
  ⟨("Sampler", some "__init__"), "__init__", "Sampler.__init__", defArgs s_Sampler_init, defBody s_Sampler_init, defScope s_Sampler_init, [.int 0], [("phase", .int 0)]⟩,
  ⟨("BadPhase", some "__init__"), "__init__", "BadPhase.__init__", defArgs s_BadPhase_init, defBody s_BadPhase_init, defScope s_BadPhase_init, [], []⟩,
  ⟨("check_phase", none), "check_phase", "check_phase", defArgs s_check_phase, defBody s_check_phase, defScope s_check_phase, [], []⟩,
  ⟨("_law_take", none), "_law_take", "_law_take", defArgs s_law_take, defBody s_law_take, defScope s_law_take, [], []⟩,
  ⟨("_law_cell", none), "_law_cell", "_law_cell", defArgs s_law_cell, defBody s_law_cell, defScope s_law_cell, [], []⟩,
  ⟨("_law_is_integer", none), "_law_is_integer", "_law_is_integer", defArgs s_law_is_integer, defBody s_law_is_integer, defScope s_law_is_integer, [], []⟩,
  ⟨("_law_name", none), "_law_name", "_law_name", defArgs s_law_name, defBody s_law_name, defScope s_law_name, [], []⟩,
  ⟨("_law_rows", none), "_law_rows", "_law_rows", defArgs s_law_rows, defBody s_law_rows, defScope s_law_rows, [], []⟩,
  ⟨("_law_nexts", none), "_law_nexts", "_law_nexts", defArgs s_law_nexts, defBody s_law_nexts, defScope s_law_nexts, [], []⟩,
  ⟨("_law_program", none), "_law_program", "_law_program", defArgs s_law_program, defBody s_law_program, defScope s_law_program, [], []⟩,
  ⟨("_law_spec", none), "_law_spec", "_law_spec", defArgs s_law_spec, defBody s_law_spec, defScope s_law_spec, [], []⟩,
  ⟨("_law_sampler", none), "_law_sampler", "_law_sampler", defArgs s_law_sampler, defBody s_law_sampler, defScope s_law_sampler, [], []⟩,
  ⟨("_law_row", none), "_law_row", "_law_row", defArgs s_law_row, defBody s_law_row, defScope s_law_row, [], []⟩,
  ⟨("_law_ticks", none), "_law_ticks", "_law_ticks", defArgs s_law_ticks, defBody s_law_ticks, defScope s_law_ticks, [], []⟩,
  ⟨("_law_options", none), "_law_options", "_law_options", defArgs s_law_options, defBody s_law_options, defScope s_law_options, [], []⟩,
  ⟨("look_flags", none), "look_flags", "look_flags", defArgs s_look_flags, defBody s_look_flags, defScope s_look_flags, [], []⟩,
  ⟨("pair_at", none), "pair_at", "pair_at", defArgs s_pair_at, defBody s_pair_at, defScope s_pair_at, [], []⟩,
  ⟨("BadChoice", some "__init__"), "__init__", "BadChoice.__init__", defArgs s_BadChoice_init, defBody s_BadChoice_init, defScope s_BadChoice_init, [], []⟩,
  ⟨("Profile", some "__init__"), "__init__", "Profile.__init__", defArgs s_Profile_init, defBody s_Profile_init, defScope s_Profile_init, [], [("phase", .non)]⟩,
  ⟨("Profile", some "_spot"), "_spot", "Profile._spot", defArgs s_Profilespot, defBody s_Profilespot, defScope s_Profilespot, [], []⟩,
  ⟨("Profile", some "_has_come"), "_has_come", "Profile._has_come", defArgs s_Profilehas_come, defBody s_Profilehas_come, defScope s_Profilehas_come, [], []⟩,
  ⟨("Profile", some "_moves"), "_moves", "Profile._moves", defArgs s_Profilemoves, defBody s_Profilemoves, defScope s_Profilemoves, [], []⟩,
  ⟨("Profile", some "choices"), "choices", "Profile.choices", defArgs s_Profile_choices, defBody s_Profile_choices, defScope s_Profile_choices, [], []⟩,
  ⟨("is_one_of_choices", none), "is_one_of_choices", "is_one_of_choices", defArgs s_is_one_of_choices, defBody s_is_one_of_choices, defScope s_is_one_of_choices, [], []⟩,
  ⟨("Profile", some "_go_on"), "_go_on", "Profile._go_on", defArgs s_Profilego_on, defBody s_Profilego_on, defScope s_Profilego_on, [], []⟩,
  ⟨("Profile", some "__call__"), "__call__", "Profile.__call__", defArgs s_Profile_call, defBody s_Profile_call, defScope s_Profile_call, [], []⟩,
  ⟨("Profile", some "path"), "path", "Profile.path", defArgs s_Profile_path, defBody s_Profile_path, defScope s_Profile_path, [], []⟩,
  ⟨("stays_made", none), "stays_made", "stays_made", defArgs s_stays_made, defBody s_stays_made, defScope s_stays_made, [], []⟩,
  ⟨("looks_made", none), "looks_made", "looks_made", defArgs s_looks_made, defBody s_looks_made, defScope s_looks_made, [], []⟩,
  ⟨("Profile", some "record"), "record", "Profile.record", defArgs s_Profile_record, defBody s_Profile_record, defScope s_Profile_record, [], []⟩,
  ⟨("Record", some "__init__"), "__init__", "Record.__init__", defArgs s_Record_init, defBody s_Record_init, defScope s_Record_init, [], []⟩,
  ⟨("record_of", none), "record_of", "record_of", defArgs s_record_of, defBody s_record_of, defScope s_record_of, [], []⟩,
  ⟨("Mark", some "__init__"), "__init__", "Mark.__init__", defArgs s_Mark_init, defBody s_Mark_init, defScope s_Mark_init, [], []⟩,
  ⟨("Profile", some "__enter__"), "__enter__", "Profile.__enter__", defArgs s_Profile_enter, defBody s_Profile_enter, defScope s_Profile_enter, [], []⟩,
  ⟨("Profile", some "__exit__"), "__exit__", "Profile.__exit__", defArgs s_Profile_exit, defBody s_Profile_exit, defScope s_Profile_exit, [], []⟩,
  ⟨("Profile", some "trial"), "trial", "Profile.trial", defArgs s_Profile_trial, defBody s_Profile_trial, defScope s_Profile_trial, [], []⟩,
  ⟨("_law_stays", none), "_law_stays", "_law_stays", defArgs s_law_stays, defBody s_law_stays, defScope s_law_stays, [], []⟩,
  ⟨("_law_looks", none), "_law_looks", "_law_looks", defArgs s_law_looks, defBody s_law_looks, defScope s_law_looks, [], []⟩,
  ⟨("_law_seen", none), "_law_seen", "_law_seen", defArgs s_law_seen, defBody s_law_seen, defScope s_law_seen, [], []⟩,
  ⟨("_law_notes_fit", none), "_law_notes_fit", "_law_notes_fit", defArgs s_law_notes_fit, defBody s_law_notes_fit, defScope s_law_notes_fit, [], []⟩,
  ⟨("_law_record_fits", none), "_law_record_fits", "_law_record_fits", defArgs s_law_record_fits, defBody s_law_record_fits, defScope s_law_record_fits, [], []⟩,
  ⟨("_law_next", none), "_law_next", "_law_next", defArgs s_law_next, defBody s_law_next, defScope s_law_next, [], []⟩,
  ⟨("_law_empty", none), "_law_empty", "_law_empty", defArgs s_law_empty, defBody s_law_empty, defScope s_law_empty, [], []⟩,
  ⟨("_law_due", none), "_law_due", "_law_due", defArgs s_law_due, defBody s_law_due, defScope s_law_due, [], []⟩,
  ⟨("_law_grown", none), "_law_grown", "_law_grown", defArgs s_law_grown, defBody s_law_grown, defScope s_law_grown, [], []⟩,
  ⟨("_law_odd", none), "_law_odd", "_law_odd", defArgs s_law_odd, defBody s_law_odd, defScope s_law_odd, [], []⟩,
  ⟨("_law_tried", none), "_law_tried", "_law_tried", defArgs s_law_tried, defBody s_law_tried, defScope s_law_tried, [], []⟩,
  ⟨("_law_stands", none), "_law_stands", "_law_stands", defArgs s_law_stands, defBody s_law_stands, defScope s_law_stands, [], []⟩,
  ⟨("law", none), "law", "law", defArgs s_law, defBody s_law, defScope s_law, [], []⟩]
def fa : List He.Fa := [.meth "Place" "__eq__", .meth "Program" "__eq__", .meth "Program" "__contains__", .meth "Program" "__getitem__", .free "int", .free "bool", .free "str", .free "len", .free "all", .free "isinstance", .int "LONGEST_NAME" 8, .int "MOST_TICKS" 6, .str "LETTERS" "abcdefghijklmnopqrstuvwxyz", .glo "KEPT_WORDS", .glo "is_integer", .glo "is_integer_from", .glo "is_flag", .glo "is_name", .glo "Place", .glo "BadPlace", .cls "Place", .mkr "Place", .noat "Place" "name", .noat "Place" "least", .noat "Place" "most", .noat "Place" "let", .free "enumerate", .free "list", .free "tuple", .free "dict", .int "MOST_PLACES" 6, .glo "has_twins", .glo "is_one_of", .glo "are_places", .glo "are_nexts", .glo "is_choice", .glo "Program", .glo "BadProgram", .glo "NoPlace", .cls "Program", .mkr "Program", .noat "Program" "names", .noat "Program" "start", .noat "Program" "_places", .noat "Program" "_nexts", .free "range", .free "sum", .int "MOST_PERIOD" 8, .int "MOST_RUN_TICKS" 2000, .glo "Sampler", .glo "BadSampler", .cls "Sampler", .mkr "Sampler", .noat "Sampler" "period", .noat "Sampler" "jitter", .noat "Sampler" "phase", .glo "check_phase", .glo "BadPhase", .glo "NoTicks", .glo "Record", .glo "record_of", .cls "Record", .mkr "Record", .noat "Record" "ticks", .noat "Record" "times", .noat "Record" "notes", .noat "Record" "waiting", .noat "Record" "lost", .exc "NoTicks", .glo "_law_cell", .glo "_law_take", .glo "_law_name", .glo "_law_rows", .glo "_law_nexts", .glo "_law_program", .glo "_law_is_integer", .glo "_law_row", .glo "_law_spec", .glo "_law_sampler", .glo "_law_ticks", .glo "_law_first", .glo "_law_after", .glo "_law_walk", .glo "_law_stays", .glo "_law_looks", .glo "_law_seen", .glo "_law_notes_fit", .glo "_law_record_fits", .glo "_law_options", .glo "_law_next", .glo "_law_empty", .glo "_law_due", .glo "_law_grown", .glo "_law_tried", .glo "_law_stands", .glo "_law_odd", .glo "look_flags", .glo "pair_at", .glo "is_one_of_choices", .glo "stays_made", .glo "looks_made", .glo "Profile", .glo "BadChoice", .cls "Profile", .mkr "Profile", .noat "Profile" "ticks", .noat "Profile" "_program", .noat "Profile" "_sampler", .noat "Profile" "_phase", .noat "Profile" "_made", .noat "Profile" "_state", .noat "Profile" "_mark", .glo "Mark", .cls "Mark", .mkr "Mark", .noat "Mark" "ticks", .noat "Mark" "made", .noat "Mark" "state", .noat "Mark" "outer", .glo "SeenError", .meth "Profile" "choices", .meth "Profile" "record", .meth "Profile" "run", .meth "Profile" "_go_on", .meth "Profile" "_moves", .meth "Profile" "_spot", .meth "Profile" "_has_come", .meth "Profile" "__call__", .meth "Profile" "path", .meth "Profile" "trial", .meth "Profile" "__enter__", .meth "Profile" "__exit__", .glo "law"]
def gt : List GetD := [⟨"Program", "nexts", ⟨("Program", some "nexts"), "nexts", "Program.nexts", defArgs s_Program_nexts, defBody s_Program_nexts, defScope s_Program_nexts, [], []⟩⟩]
def ex2 (K : PySem.W.Frag) : Bool := ((He.eqO (PySem.W.findIn K (.ref (He.ga K "Place")) "__ne__") (some (some (.builtin "object.__ne__")))) && ((He.eqO (PySem.W.findIn K (.ref (He.ga K "Program")) "__ne__") (some (some (.builtin "object.__ne__")))) && ((PySem.W.fnIn K (He.fAd K ("Program", some "__getitem__"))) && ((kTup K (He.ga K "KEPT_WORDS") KEPT) && ((exI K "BadPlace" "why") && ((He.eqO (PySem.W.specialIn K (.builtin "object.__class__") "__get__") (some (some (.builtin "getset_descriptor.__get__")))) && ((decide (PySem.W.takesIn K (.builtin "object.__class__") = some true)) && ((He.eqO (PySem.W.findIn K (.ref (He.ga K "Place")) "__class__") (some (some (.builtin "object.__class__")))) && ((decide (PySem.W.mroIn K (He.ga K "Place") (.type "object") = some true)) && ((decide (PySem.W.kitOne K (.ref (He.ga K "Place")) (.ref (He.ga K "Place")) = some true)) && ((exI K "BadProgram" "why") && ((exI K "NoPlace" "name") && ((He.eqO (PySem.W.findIn K (.ref (He.ga K "Program")) "__class__") (some (some (.builtin "object.__class__")))) && ((decide (PySem.W.mroIn K (He.ga K "Program") (.type "object") = some true)) && ((decide (PySem.W.kitOne K (.ref (He.ga K "Program")) (.ref (He.ga K "Program")) = some true)) && ((exI K "BadSampler" "why") && ((exI K "BadPhase" "phase") && ((exI K "BadChoice" "index") && ((decide (PySem.W.exmOne K (.ref (He.ga K "BadChoice")) (.ref (He.ga K "BadChoice")) = some true)) && ((decide (PySem.W.kitOne K (.ref (He.ga K "BadChoice")) (.ref (He.ga K "SeenError")) = some true)) && ((decide (PySem.W.kitOne K (.ref (He.ga K "BadChoice")) (.ref (He.ga K "NoTicks")) = some false)) && ((PySem.W.fnIn K (He.fAd K ("Profile", some "__call__"))) && true))))))))))))))))))))))
def ex (K : PySem.W.Frag) : Bool := (fa.all fun f => f.ok K) && ex2 K
abbrev R : PySem.W.OpenRow := PySem.W.OpenLaw.row PySem.Challenge.rw_seenshares_k32_profile_trial
abbrev hk : PySem.W.Hook := hookX ex fn gt
def ob (s : PySem.W.SharedT) : AlP := obsXG ex fn gt (HandSHeadRun.getT s)
theorem ob_eq (s : PySem.W.SharedT) : ob s = hk.obs s.abs := obsXG_eq (HandSHeadRun.getT_eq s)
def names : List Str := ("_wall" : Str) :: ("SeenError" : Str) :: ("BadPlace" : Str) :: ("BadProgram" : Str) :: ("NoPlace" : Str) :: ("BadSampler" : Str) :: ("BadPhase" : Str) :: ("NoTicks" : Str) :: ("BadChoice" : Str) :: ("KEPT_WORDS" : Str) :: ("LETTERS" : Str) :: ("LONGEST_NAME" : Str) :: ("is_integer" : Str) :: ("is_integer_from" : Str) :: ("is_flag" : Str) :: ("is_name" : Str) :: ("has_twins" : Str) :: ("MOST_TICKS" : Str) :: ("MOST_PLACES" : Str) :: ("Place" : Str) :: ("Program" : Str) :: ("is_one_of" : Str) :: ("are_places" : Str) :: ("are_nexts" : Str) :: ("is_choice" : Str) :: ("MOST_RUN_TICKS" : Str) :: ("Record" : Str) :: ("check_phase" : Str) :: ("record_of" : Str) :: ("look_flags" : Str) :: ("pair_at" : Str) :: ("Mark" : Str) :: ("Profile" : Str) :: ("is_one_of_choices" : Str) :: ("stays_made" : Str) :: ("looks_made" : Str) :: ("MOST_PERIOD" : Str) :: ("Sampler" : Str) :: ("_law_cell" : Str) :: ("_law_take" : Str) :: ("_law_is_integer" : Str) :: ("_law_name" : Str) :: ("_law_rows" : Str) :: ("_law_row" : Str) :: ("_law_nexts" : Str) :: ("_law_program" : Str) :: ("_law_spec" : Str) :: ("_law_sampler" : Str) :: ("_law_ticks" : Str) :: ("_law_first" : Str) :: ("_law_after" : Str) :: ("_law_walk" : Str) :: ("_law_stays" : Str) :: ("_law_looks" : Str) :: ("_law_seen" : Str) :: ("_law_notes_fit" : Str) :: ("_law_record_fits" : Str) :: ("_law_options" : Str) :: ("_law_next" : Str) :: ("_law_empty" : Str) :: ("_law_due" : Str) :: ("_law_grown" : Str) :: ("_law_tried" : Str) :: ("_law_stands" : Str) :: ("_law_odd" : Str) :: []
noncomputable def E0 (w : World) (os : OsState) : Option PySem.W.SharedT := HandSHeadRun.endF (HandSHeadRun.stepQ (HandSHeadRun.denQ HandSHeadRun.tabQ) R.prog w) 100000 R.prog w os
noncomputable def KK (s : PySem.W.SharedT) : PySem.W.Frag := He.frG (HandSHeadRun.getT s) (asX (HandSHeadRun.getT s) gt)
theorem run_of {w : World} {os : OsState} (a : (E0 w os).map (fun s => HandSHeadRun.looksF R.prog (PySem.W.boot_heap w.params) s.abs) = some true)
    (b : (E0 w os).map (fun s => HandSHeadRun.seenQ (PySem.W.view R.prog [73]) names (importedModules R.prog.main.body) (fun s => PySem.W.xlAt (PySem.W.view R.prog [73]) [] s && PySem.W.recOk R.toRowW.records s) s.abs) = some (PySem.W.openGood (PySem.W.view R.prog [73]) names))
    (c : (E0 w os).map (fun s => ex (KK s)) = some true) (d : (E0 w os).map (fun s => ((fn.all fun d => d.ok (KK s)) && gt.all fun g => g.ok (KK s))) = some true)
    (e : (E0 w os).map (fun s => (fn.map fun d => He.fnW (KK s) d.at_, gt.map (gnW (KK s)))) = some (fn.map He.DefD.val, gt.map GetD.val)) :
    (E0 w os).map (fun s => (HandSHeadRun.looksF R.prog (PySem.W.boot_heap w.params) s.abs, HandSHeadRun.seenQ (PySem.W.view R.prog [73]) names (importedModules R.prog.main.body) (fun s => PySem.W.xlAt (PySem.W.view R.prog [73]) [] s && PySem.W.recOk R.toRowW.records s) s.abs, ob s)) = some (true, PySem.W.openGood (PySem.W.view R.prog [73]) names, PySem.W.Hook.val hk w) := by
  generalize E0 w os = r at a b c d e ⊢
  cases r with
  | none => cases a
  | some s =>
    have a : HandSHeadRun.looksF R.prog (PySem.W.boot_heap w.params) s.abs = true := Option.some.inj a
    have b : HandSHeadRun.seenQ (PySem.W.view R.prog [73]) names (importedModules R.prog.main.body) (fun s => PySem.W.xlAt (PySem.W.view R.prog [73]) [] s && PySem.W.recOk R.toRowW.records s) s.abs = PySem.W.openGood (PySem.W.view R.prog [73]) names := Option.some.inj b
    have c : ex (KK s) = true := Option.some.inj c
    have d : ((fn.all fun d => d.ok (KK s)) && gt.all fun g => g.ok (KK s)) = true := Option.some.inj d
    have e : (fn.map (fun d => He.fnW (KK s) d.at_), gt.map (gnW (KK s))) = (fn.map He.DefD.val, gt.map GetD.val) := Option.some.inj e
    obtain ⟨e1, e2⟩ := Prod.mk.inj e
    have o : ob s = PySem.W.Hook.val hk w := by
      show ((ex (KK s) && ((fn.all fun d => d.ok (KK s)) && gt.all fun g => g.ok (KK s))), fn.map (fun d => He.fnW (KK s) d.at_), gt.map (gnW (KK s))) = (true, fn.map He.DefD.val, gt.map GetD.val)
      rw [c, d, e1, e2]
      rfl
    show some (_, _, _) = some (_, _, _)
    rw [a, b, o]
theorem runLk (w : World) (os : OsState) : (E0 w os).map (fun s => HandSHeadRun.looksF R.prog (PySem.W.boot_heap w.params) s.abs) = some true := by kernel_rfl
theorem runSn (w : World) (os : OsState) : (E0 w os).map (fun s => HandSHeadRun.seenQ (PySem.W.view R.prog [73]) names (importedModules R.prog.main.body) (fun s => PySem.W.xlAt (PySem.W.view R.prog [73]) [] s && PySem.W.recOk R.toRowW.records s) s.abs) = some (PySem.W.openGood (PySem.W.view R.prog [73]) names) := by kernel_rfl
theorem runA (w : World) (os : OsState) : (E0 w os).map (fun s => ex (KK s)) = some true := by kernel_rfl
theorem runB (w : World) (os : OsState) : (E0 w os).map (fun s => ((fn.all fun d => d.ok (KK s)) && gt.all fun g => g.ok (KK s))) = some true := by kernel_rfl
theorem runC (w : World) (os : OsState) : (E0 w os).map (fun s => (fn.map fun d => He.fnW (KK s) d.at_, gt.map (gnW (KK s)))) = some (fn.map He.DefD.val, gt.map GetD.val) := by kernel_rfl
theorem run (w : World) : HandSHeadRun.RunEq R (PySem.W.view R.prog [73]) hk ob 100000 names w := fun os => run_of (runLk w os) (runSn w os) (runA w os) (runB w os) (runC w os)
end K32

set_option Elab.async false
set_option linter.all false
set_option maxRecDepth 100000
set_option maxHeartbeats 2000000
namespace K32
open PySem PySem.Spec PyProof.Rows L2 Vf
abbrev OkF (P : Program) (w : World) (K : PySem.W.Frag) (mg : Str → Option Value) (base : Heap) (CX : CXT) (k : Nat) (x : Str) (ps : List Str) (sp : Sp) : Prop := OkD P w K mg base CX k (x, none) ps [] sp
abbrev OkM (P : Program) (w : World) (K : PySem.W.Frag) (mg : Str → Option Value) (base : Heap) (CX : CXT) (k : Nat) (c m : Str) (ps : List Str) (sp : Sp) : Prop := OkD P w K mg base CX k (c, some m) ps [] sp
abbrev FnD (K : PySem.W.Frag) (p : Pl) (x q : Str) (st : Stmt) (fd : FuncData) : Prop := FunD K x q (defArgs st) (defBody st) (defScope st) [] [] (He.fAd K p) fd
abbrev CP (K : PySem.W.Frag) : Addr := He.ga K "Place"
abbrev CBP (K : PySem.W.Frag) : Addr := He.ga K "BadPlace"
structure PTxt (K : PySem.W.Frag) (mg : Str → Option Value) : Prop where
  z_int : mg "int" = none
  z_bool : mg "bool" = none
  z_str : mg "str" = none
  z_len : mg "len" = none
  z_all : mg "all" = none
  z_isinstance : mg "isinstance" = none
  i_LONGEST_NAME : ∃ t, mg "LONGEST_NAME" = some (.int 8 t)
  i_MOST_TICKS : ∃ t, mg "MOST_TICKS" = some (.int 6 t)
  i_LETTERS : ∃ t, mg "LETTERS" = some (.str LET t)
  g_KEPT_WORDS : mg "KEPT_WORDS" = some (.ref (He.ga K "KEPT_WORDS"))
  t_KEPT : kTup K (He.ga K "KEPT_WORDS") KEPT = true
  g_is_integer : mg "is_integer" = some (.ref (He.ga K "is_integer"))
  g_is_integer_from : mg "is_integer_from" = some (.ref (He.ga K "is_integer_from"))
  g_is_flag : mg "is_flag" = some (.ref (He.ga K "is_flag"))
  g_is_name : mg "is_name" = some (.ref (He.ga K "is_name"))
  g_Place : mg "Place" = some (.ref (He.ga K "Place"))
  g_BadPlace : mg "BadPlace" = some (.ref (He.ga K "BadPlace"))
  c_Place : Cls K (He.ga K "Place")
  m_Place : Mk K (He.ga K "Place") (He.fAd K ("Place", some "__init__"))
  nN : NoAttr K (He.ga K "Place") "name"
  nL : NoAttr K (He.ga K "Place") "least"
  nM : NoAttr K (He.ga K "Place") "most"
  nT : NoAttr K (He.ga K "Place") "let"
  x_BadPlace : ExI K "BadPlace" "why"
  hn : PySem.W.specialIn K (.builtin "object.__class__") "__get__" = some (some (.builtin "getset_descriptor.__get__"))
  ht : PySem.W.takesIn K (.builtin "object.__class__") = some true
  ha : PySem.W.findIn K (.ref (He.ga K "Place")) "__class__" = some (some (.builtin "object.__class__"))
  hm : PySem.W.mroIn K (He.ga K "Place") (.type "object") = some true
  k1 : PySem.W.kitOne K (.ref (He.ga K "Place")) (.ref (He.ga K "Place")) = some true
/-! ### a place's fields -/
def plf (z : Str) (l m : Int) (b : Bool) : List (Str × V) := putF "let" (.bl b) (putF "most" (.int m) (putF "least" (.int l) (putF "name" (.str z) [])))
theorem plf_name (z : Str) (l m : Int) (b : Bool) : (plf z l m b).lookup ("name" : Str) = some (.str z) := by
  unfold plf
  rw [lookup_putF, if_neg (by decide +kernel), lookup_putF, if_neg (by decide +kernel), lookup_putF, if_neg (by decide +kernel), lookup_putF, if_pos rfl]
theorem plf_least (z : Str) (l m : Int) (b : Bool) : (plf z l m b).lookup ("least" : Str) = some (.int l) := by
  unfold plf
  rw [lookup_putF, if_neg (by decide +kernel), lookup_putF, if_neg (by decide +kernel), lookup_putF, if_pos rfl]
theorem plf_most (z : Str) (l m : Int) (b : Bool) : (plf z l m b).lookup ("most" : Str) = some (.int m) := by
  unfold plf
  rw [lookup_putF, if_neg (by decide +kernel), lookup_putF, if_pos rfl]
theorem plf_let (z : Str) (l m : Int) (b : Bool) : (plf z l m b).lookup ("let" : Str) = some (.bl b) := by
  unfold plf
  rw [lookup_putF, if_pos rfl]
/-- at p a place -/
def PlA (C : Addr) (H : Hp) (p : Addr) (z : Str) (l m : Int) (b : Bool) : Prop := ∃ dx, H p = some (.ins C dx (plf z l m b))
theorem PlA.ext {C : Addr} {H H' : Hp} {p : Addr} {z : Str} {l m : Int} {b : Bool} (h : PlA C H p z l m b) (s : Same H H') : PlA C H' p z l m b := by
  obtain ⟨dx, e⟩ := h
  exact ⟨dx, s _ _ e⟩
theorem same_new {H : Hp} {p : Addr} {o : HO} (h : H p = none) : Same H (upd H p o) := fun b u e => by
  rw [upd_ne (ne_of_none e h)]
  exact e
theorem same_make {H : Hp} {x dx : Addr} {o1 o2 : HO} (nx : H x = none) (ndx : H dx = none) : Same H (upd (upd H dx o1) x o2) := fun b o e => by
  rw [upd_ne (ne_of_none e nx), upd_ne (ne_of_none e ndx)]
  exact e
theorem same_make2 {H : Hp} {x dx : Addr} {o1 o2 o3 : HO} (nx : H x = none) (ndx : H dx = none) : Same H (upd (upd (upd H dx o1) x o2) x o3) := by
  rw [upd_upd]
  exact same_make nx ndx
theorem same_app {H H1 H2 : Hp} {D : Addr} {o : HO} (s : Same H H1) (s2 : Same H1 H2) (nD : H D = none) : Same H (upd H2 D o) := fun b u e => by
  rw [upd_ne (ne_of_none e nD)]
  exact s2 _ _ (s _ _ e)
section
variable {P : Program} {w : World} {K : PySem.W.Frag} {mg : Str → Option Value} {base : Heap}
theorem okd {CX : CXT} {k : Nat} {p : Pl} {x q : Str} {st : Stmt} {fd : FuncData} {ps : List Str} {sp : Sp} (F : FnD K p x q st fd) (ok : FnOk P w K mg base CX k (He.fAd K p) fd ps sp)
    (h : ∀ (kV doc pm : Value) (an : Option Addr) (cdv ct : Value) (us : List Value), us.length = ps.length → bindArgs (PySem.W.fnOf x q (defArgs st) (defBody st) (defScope st) .none kV doc pm an cdv ct) ⟨us, []⟩ = pure (ps.zip us)) : OkD P w K mg base CX k p ps [] sp :=
  ⟨⟨fd, [], ok, FunD.bindsN F h, .nil⟩, F.kp⟩
theorem sc_is_integer : FnScope ["x"] ["x"] (defScope s_is_integer) := ⟨rfl, rfl, rfl, by decide +kernel, rfl, by decide +kernel, by decide +kernel⟩
-- slots: 0 x
theorem ok_is_integer {fd : FuncData} (F : FnD K ("is_integer", none) "is_integer" "is_integer" s_is_integer fd) (T : PTxt K mg) : OkF P w K mg base CX0 1 "is_integer" ["x"] spIsInt := by
  refine okd F (F.ok sc_is_integer (fun vs H Q E h => ?_) fun cdv A outer s H vs Q E hr h => ⟨t_isint K, PSs.nox ?_, run_isint h⟩) fun _ _ _ _ _ _ us hl => match us, hl with | [_], _ => rfl
  · obtain ⟨x, rfl, _⟩ := h
    rfl
  · exact (pss_one (ps_ret (pe_and (pe_callB (id := "isinstance") call_isi (by rfl) T.z_isinstance (by decide +kernel) (pa_cons (pv 0) (pa_cons (pe_ty (n := "int") T.z_int (by decide +kernel)) pa_nil))) (pe_one (pe_not (pe_callB (id := "isinstance") call_isi (by rfl) T.z_isinstance (by decide +kernel) (pa_cons (pv 0) (pa_cons (pe_ty (n := "bool") T.z_bool (by decide +kernel)) pa_nil))))))))
theorem sc_is_integer_from : FnScope ["x", "low", "high"] ["x", "low", "high"] (defScope s_is_integer_from) := ⟨rfl, rfl, rfl, by decide +kernel, rfl, by decide +kernel, by decide +kernel⟩
-- slots: 0 x, 1 low, 2 high
/-- l is no integer from lo to hi -/
def NotFr (H : Hp) (l : V) (lo hi : Int) : Prop := (∃ n, l = .int n ∧ ¬ (lo ≤ n ∧ n ≤ hi)) ∨ Odd H l
def spFr : Sp := fun vs H Q _ => ∃ (x : V) (lo hi : Int), vs = [x, .int lo, .int hi] ∧ ((∃ n, x = .int n ∧ lo ≤ n ∧ n ≤ hi ∧ Q (.bl true) H) ∨ (NotFr H x lo hi ∧ Q (.bl false) H))
theorem ok_is_integer_from {fd : FuncData} (F : FnD K ("is_integer_from", none) "is_integer_from" "is_integer_from" s_is_integer_from fd) (T : PTxt K mg) (O_is_integer : OkF P w K mg base CX0 1 "is_integer" ["x"] spIsInt) : OkF P w K mg base CX0 2 "is_integer_from" ["x", "low", "high"] spFr := by
  refine okd F (F.ok sc_is_integer_from (fun vs H Q E h => ?_) fun cdv A outer s H vs Q E hr h => ?_) fun _ _ _ _ _ _ us hl => match us, hl with | [_, _, _], _ => rfl
  · obtain ⟨x, lo, hi, rfl, _⟩ := h
    rfl
  · obtain ⟨x, lo, hi, rfl, h⟩ := h
    refine ⟨_, PSs.nox (pss_one (ps_ret (pe_and (c_fn O_is_integer hr (by decide) T.g_is_integer pass0 (pa_cons (pv 0) pa_nil)) (pe_one (pe_chain op_le op_le (pv 1) (pv 0) (pv 2)))))), ?_⟩
    rcases h with ⟨n, rfl, l1, l2, q⟩ | ⟨⟨n, rfl, hn⟩ | o, q⟩
    · refine ⟨_, rfl, _, rfl, .inl ⟨⟨n, rfl⟩, true, rfl, iteT ?_⟩⟩
      refine ⟨_, rfl, _, rfl, lo, n, rfl, rfl, true, congrArg V.bl (decide_eq_true l1), iteT ⟨_, rfl, n, hi, rfl, rfl, ?_⟩⟩
      show Q (.bl (decide (n ≤ hi))) H
      rw [decide_eq_true l2]
      exact q
    · refine ⟨_, rfl, _, rfl, .inl ⟨⟨n, rfl⟩, true, rfl, iteT ?_⟩⟩
      by_cases l1 : lo ≤ n
      · have l2 : ¬ n ≤ hi := fun z => hn ⟨l1, z⟩
        refine ⟨_, rfl, _, rfl, lo, n, rfl, rfl, true, congrArg V.bl (decide_eq_true l1), iteT ⟨_, rfl, n, hi, rfl, rfl, ?_⟩⟩
        show Q (.bl (decide (n ≤ hi))) H
        rw [decide_eq_false l2]
        exact q
      · exact ⟨_, rfl, _, rfl, lo, n, rfl, rfl, false, congrArg V.bl (decide_eq_false l1), iteF q⟩
    · exact ⟨_, rfl, _, rfl, .inr ⟨o, false, rfl, iteF q⟩⟩
theorem sc_is_flag : FnScope ["x"] ["x"] (defScope s_is_flag) := ⟨rfl, rfl, rfl, by decide +kernel, rfl, by decide +kernel, by decide +kernel⟩
-- slots: 0 x
def spFlag : Sp := fun vs H Q _ => ∃ x, vs = [x] ∧ ((∃ b, x = .bl b ∧ Q (.bl true) H) ∨ (OddB H x ∧ Q (.bl false) H))
theorem ok_is_flag {fd : FuncData} (F : FnD K ("is_flag", none) "is_flag" "is_flag" s_is_flag fd) (T : PTxt K mg) : OkF P w K mg base CX0 1 "is_flag" ["x"] spFlag := by
  refine okd F (F.ok sc_is_flag (fun vs H Q E h => ?_) fun cdv A outer s H vs Q E hr h => ?_) fun _ _ _ _ _ _ us hl => match us, hl with | [_], _ => rfl
  · obtain ⟨x, rfl, _⟩ := h
    rfl
  · obtain ⟨x, rfl, h⟩ := h
    refine ⟨_, PSs.nox (pss_one (ps_ret (pe_callB (id := "isinstance") call_isi (by rfl) T.z_isinstance (by decide +kernel) (pa_cons (pv 0) (pa_cons (pe_ty (n := "bool") T.z_bool (by decide +kernel)) pa_nil))))), ?_⟩
    rcases h with ⟨b, rfl, q⟩ | ⟨o, q⟩
    · exact ⟨_, rfl, .bl b, .ty "bool", .type "bool", .type "bool", true, rfl, .ty _, .base (.bl _), kit_ty (by decide +kernel), q⟩
    · obtain ⟨n, t1, k1⟩ := oddB_ty K o
      exact ⟨_, rfl, x, .ty "bool", .type n, .type "bool", false, rfl, .ty _, t1, kit_ty k1, q⟩
theorem sc_is_name : FnScope ["x", "letter"] ["x"] (defScope s_is_name) := ⟨rfl, rfl, rfl, by decide +kernel, rfl, by decide +kernel, by decide +kernel⟩
-- slots: 0 x, 1 letter
/-- a text that is a name -/
def nmB (z : Str) : Bool := decide (1 ≤ z.length) && (decide (z.length ≤ 8) && (!inV (.str z) (KEPT.map V.str) && z.cps.toList.all fun c => decide (c ∈ LET.cps.toList)))
def spName : Sp := fun vs H Q _ => ∃ x, vs = [x] ∧ ((∃ z, x = .str z ∧ z.length ≤ sizeLine ∧ ∀ H', Same H H' → Q (.bl (nmB z)) H') ∨ (OddS H x ∧ Q (.bl false) H))
theorem ok_is_name {fd : FuncData} (F : FnD K ("is_name", none) "is_name" "is_name" s_is_name fd) (T : PTxt K mg) : OkF P w K mg base CX0 1 "is_name" ["x"] spName := by
  refine okd F (F.ok sc_is_name (fun vs H Q E h => ?_) fun cdv A outer s H vs Q E hr h => ?_) fun _ _ _ _ _ _ us hl => match us, hl with | [_], _ => rfl
  · obtain ⟨x, rfl, _⟩ := h
    rfl
  · obtain ⟨x, rfl, h⟩ := h
    refine ⟨_, PSs.nox (pss_cons (ps_if (PW.pt (pw_or (pt_not (pt_val (pe_callB (id := "isinstance") call_isi (by rfl) T.z_isinstance (by decide +kernel) (pa_cons (pv 0) (pa_cons (pe_ty (n := "str") T.z_str (by decide +kernel)) pa_nil))))) (pw_or1 (pt_not (pt_chain op_le op_le pe_int (pe_callB call_len_str (by rfl) T.z_len (by decide +kernel) (pa_cons (pv 0) pa_nil)) (c_gint T.i_LONGEST_NAME)))))) (pss_one (ps_ret pe_bl))
  pss_nil)
  (pss_one (ps_ret (pe_and (pe_cmpR op_notIn_seq (pv 0) (pe_cl T.g_KEPT_WORDS) rfl) (pe_one (pe_callB (id := "all") (cr_all rfl) (by rfl) T.z_all (by decide +kernel) (pa_cons (pe_lc (own := [("letter", 1)]) (g := gName 1) (tt := tYes) (by rfl) sc_is_name.nd (pi_str (pv 0)) (blkOk_by (N := ["x", "letter"]) (sc := defScope s_is_name) (by decide +kernel)) (fun _ _ _ _ _ => (pg_name (i := 1) sc_is_name.nd rfl (Or.inl rfl))) (fun _ _ _ _ _ => pts_nil) (fun _ _ _ _ _ => (pe_cmpR op_in_str (pv 1) (c_gstr T.i_LETTERS) rfl))) pa_nil))))))), ?_⟩
    rcases h with ⟨z, rfl, hz, k⟩ | ⟨o, q⟩
    · refine ⟨_, rfl, .str z, .ty "str", .type "str", .type "str", true, rfl, .ty _, .base (.str _), kit_ty (by decide +kernel), true, rfl, iteF ?_⟩
      have go : ∀ b : Bool, nmB z = b → ∀ H', Same H H' → Q (.bl b) H' := fun b e H' s => e ▸ k H' s
      by_cases l1 : (1 : Int) ≤ z.length
      · by_cases l2 : (z.length : Int) ≤ 8
        · refine ⟨_, rfl, z, rfl, hz, 1, z.length, rfl, rfl, true, congrArg V.bl (decide_eq_true l1), iteT ⟨z.length, 8, rfl, rfl, true, congrArg V.bl (decide_eq_true l2), iteF ?_⟩⟩
          refine ⟨_, rfl, _, _, rfl, .inr (kTup_ok T.t_KEPT _), rfl, by decide +kernel, _, rfl, ?_⟩
          have e1 : decide (1 ≤ z.length) = true := decide_eq_true (by omega)
          have e2 : decide (z.length ≤ 8) = true := decide_eq_true (by omega)
          unfold nmB at go
          rw [e1, e2, Bool.true_and, Bool.true_and] at go
          show if (!inV (.str z) (KEPT.map V.str)) = true then _ else _
          cases hv : inV (.str z) (KEPT.map V.str) with
          | true =>
            rw [hv] at go
            exact iteF (go false rfl _ fun _ _ h => h)
          | false =>
            rw [hv] at go
            refine iteT ?_
            refine ⟨_, rfl, z, rfl, fun D nD => lc_it walk_str (fun i H' => Same H H' ∧ H' D = some (.lst ((z.cps.toList.take i).map fun c => V.bl (decide (c ∈ LET.cps.toList))))) ⟨same_new nD, upd_same⟩ (fun _ _ _ _ => trivial) ?_ ?_⟩
            · rintro i x H1 H' hi ⟨sg, hD⟩ ⟨rfl, c, hc, rfl⟩
              have hc2 : z.cps.toList[i]? = some c := by simpa using hc
              refine ⟨rfl, _, rfl, _, _, rfl, rfl, ?_⟩
              refine ⟨_, hD, ?_, same_app sg (Same.refl _) nD, ?_⟩
              · rw [List.length_map, List.length_take]
                have hl : z.cps.toList.length = z.length := by simp [Str.length]
                have : min i z.cps.toList.length < 9 := by omega
                exact Nat.lt_of_lt_of_le this (by decide)
              · rw [upd_same, sign_in, List.take_add_one, List.map_append, hc2]
                rfl
            · rintro H' ⟨sg, hD⟩
              have hD2 : H' D = some (.lst ((z.cps.toList.map fun c => decide (c ∈ LET.cps.toList)).map V.bl)) := by
                rw [hD, List.map_map, List.take_of_length_le (by simp)]
                rfl
              refine ⟨D, _, rfl, SqL.of hD2, go _ ?_ _ sg⟩
              rw [List.all_map]
              rfl
        · refine ⟨_, rfl, z, rfl, hz, 1, z.length, rfl, rfl, true, congrArg V.bl (decide_eq_true l1), iteT ⟨z.length, 8, rfl, rfl, false, congrArg V.bl (decide_eq_false l2), iteT ?_⟩⟩
          refine go false ?_ _ fun _ _ h => h
          unfold nmB
          rw [show decide (z.length ≤ 8) = false from decide_eq_false (by omega)]
          simp
      · refine ⟨_, rfl, z, rfl, hz, 1, z.length, rfl, rfl, false, congrArg V.bl (decide_eq_false l1), iteF ⟨false, rfl, iteT ?_⟩⟩
        refine go false ?_ _ fun _ _ h => h
        unfold nmB
        rw [show decide (1 ≤ z.length) = false from decide_eq_false (by omega)]
        simp
    · obtain ⟨n, t1, k1⟩ := oddS_ty K o
      exact ⟨_, rfl, x, .ty "str", .type n, .type "str", false, rfl, .ty _, t1, kit_ty k1, false, rfl, iteT q⟩
end
end K32

set_option Elab.async false
set_option linter.all false
set_option pp.deepTerms.threshold 14
set_option pp.maxSteps 2500
set_option maxRecDepth 100000
set_option maxHeartbeats 2000000
namespace K32
open PySem PySem.Spec PyProof.Rows L2 Vf
section
variable {P : Program} {w : World} {K : PySem.W.Frag} {mg : Str → Option Value} {base : Heap}
theorem sc_BadPlace_init : FnScope ["self", "why"] ["self", "why"] (defScope s_BadPlace_init) := ⟨rfl, rfl, rfl, by decide +kernel, rfl, by decide +kernel, by decide +kernel⟩
-- slots: 0 self, 1 why
theorem ok_BadPlace_init {fd : FuncData} (F : FnD K ("BadPlace", some "__init__") "__init__" "BadPlace.__init__" s_BadPlace_init fd) : OkD P w K mg base CX0 1 ("BadPlace", some "__init__") ["self", "why"] [] (spExI K (CBP K) "why") := by
  refine okd F (F.ok sc_BadPlace_init (fun vs H Q E h => ?_) fun cdv A outer s H vs Q E hr h => ⟨tOst K "why" (tVar 0) (tVar 1), PSs.nox ?_, run_exI h⟩) fun _ _ _ _ _ _ us hl => match us, hl with | [_, _], _ => rfl
  · obtain ⟨a, v, rfl, _⟩ := h
    rfl
  · exact pss_one (ps_ost (pv 0) (pv 1))
/-- what a place is made of -/
inductive PlIn (H : Hp) (x l m t : V) : Str → Prop where
  | name (h : (∃ z, x = .str z ∧ z.length ≤ sizeLine ∧ nmB z = false) ∨ OddS H x) : PlIn H x l m t "name"
  | least (z : Str) (hx : x = .str z) (hz : z.length ≤ sizeLine) (hn : nmB z = true) (h : NotFr H l 1 6) : PlIn H x l m t "least"
  | most (z : Str) (hx : x = .str z) (hz : z.length ≤ sizeLine) (hn : nmB z = true) (n : Int) (hl : l = .int n) (n1 : 1 ≤ n) (n2 : n ≤ 6) (hm : m ≠ .non) (h : NotFr H m n 6) : PlIn H x l m t "most"
  | let_ (z : Str) (hx : x = .str z) (hz : z.length ≤ sizeLine) (hn : nmB z = true) (n : Int) (hl : l = .int n) (n1 : 1 ≤ n) (n2 : n ≤ 6) (hm : m = .non ∨ ∃ k : Int, m = .int k ∧ n ≤ k ∧ k ≤ 6) (h : OddB H t) : PlIn H x l m t "let"
/-- the parts of a place that is made -/
def PlOk (x l m t : V) (z : Str) (n k : Int) (b : Bool) : Prop := x = .str z ∧ z.length ≤ sizeLine ∧ nmB z = true ∧ l = .int n ∧ 1 ≤ n ∧ n ≤ k ∧ k ≤ 6 ∧ (m = .int k ∨ (m = .non ∧ k = n)) ∧ t = .bl b
theorem Odd.same {H H' : Hp} {x : V} (o : Odd H x) (s : Same H H') : Odd H' x := o.ext s
theorem oddB_ext {H H' : Hp} {x : V} (o : OddB H x) (s : Same H H') : OddB H' x := by
  cases o with
  | str z => exact .str z
  | non => exact .non
  | int i => exact .int i
  | tup h => exact .tup (s _ _ h)
  | lst h => exact .lst (s _ _ h)
  | dic h => exact .dic (s _ _ h)
theorem NotFr.ext {H H' : Hp} {x : V} {lo hi : Int} (o : NotFr H x lo hi) (s : Same H H') : NotFr H' x lo hi := o.elim .inl fun o => .inr (o.ext s)
def spPlI (K : PySem.W.Frag) : Sp := fun vs H Q E => ∃ (p dx : Addr) (x l m t : V), vs = [.ref p, x, l, m, t] ∧ H p = some (.ins (CP K) dx []) ∧
  ((∃ w, PlIn H x l m t w ∧ ∀ H' d, Same H H' → H' d = none → E (.ref (CBP K)) (some d) (upd H' d (.xd [("why", .str w)]))) ∨
   (∃ z n k b, PlOk x l m t z n k b ∧ ∀ H', Same H H' → Q .non (upd H' p (.ins (CP K) dx (plf z n k b)))))
theorem sc_Place_init : FnScope ["self", "name", "least", "most", "let"] ["self", "name", "least", "most", "let"] (defScope s_Place_init) := ⟨rfl, rfl, rfl, by decide +kernel, rfl, by decide +kernel, by decide +kernel⟩
-- slots: 0 self, 1 name, 2 least, 3 most, 4 let
theorem ok_Place_init {fd : FuncData} (F : FunD K "__init__" "Place.__init__" (defArgs s_Place_init) (defBody s_Place_init) (defScope s_Place_init) [.int 1, .non] [("let", .bl true)] (He.fAd K ("Place", some "__init__")) fd) (T : PTxt K mg)
    (O_is_name : OkF P w K mg base CX0 1 "is_name" ["x"] spName) (O_is_integer_from : OkF P w K mg base CX0 2 "is_integer_from" ["x", "low", "high"] spFr) (O_is_flag : OkF P w K mg base CX0 1 "is_flag" ["x"] spFlag)
    (O_BadPlace_init : OkD P w K mg base CX0 1 ("BadPlace", some "__init__") ["self", "why"] [] (spExI K (CBP K) "why")) :
    FnOk P w K mg base (L2.CX P w) 4 (He.fAd K ("Place", some "__init__")) fd ["self", "name", "least", "most", "let"] (spPlI K) := by
  refine F.ok sc_Place_init (fun vs H Q E h => ?_) fun cdv A outer s H vs Q E hr h => ?_
  · obtain ⟨p, dx, x, l, m, t, rfl, _⟩ := h
    rfl
  · obtain ⟨p, dx, x, l, m, t, rfl, hp, h⟩ := h
    refine ⟨_, (pss_cons (ps_if (pt_not (pt_val (c_fn O_is_name hr (by decide) T.g_is_name pass0 (pa_cons (pv 1) pa_nil)))) (pss_one (c_raise T.x_BadPlace O_BadPlace_init hr (by decide) T.g_BadPlace (takes_of rfl rfl rfl rfl) (pa_cons pe_str pa_nil)))
  pss_nil)
  (pss_cons (ps_if (pt_not (pt_val (c_fn O_is_integer_from hr (by decide) T.g_is_integer_from pass0 (pa_cons (pv 2) (pa_cons pe_int (pa_cons (c_gint T.i_MOST_TICKS) pa_nil)))))) (pss_one (c_raise T.x_BadPlace O_BadPlace_init hr (by decide) T.g_BadPlace (takes_of rfl rfl rfl rfl) (pa_cons pe_str pa_nil)))
  pss_nil)
  (pss_cons (ps_if (PW.pt (pw_and (pt_cmpR op_notN (pv 3) pe_non (nomark _)) (pw_and1 (pt_not (pt_val (c_fn O_is_integer_from hr (by decide) T.g_is_integer_from pass0 (pa_cons (pv 3) (pa_cons (pv 2) (pa_cons (c_gint T.i_MOST_TICKS) pa_nil))))))))) (pss_one (c_raise T.x_BadPlace O_BadPlace_init hr (by decide) T.g_BadPlace (takes_of rfl rfl rfl rfl) (pa_cons pe_str pa_nil)))
  pss_nil)
  (pss_cons (ps_if (pt_not (pt_val (c_fn O_is_flag hr (by decide) T.g_is_flag pass0 (pa_cons (pv 4) pa_nil)))) (pss_one (c_raise T.x_BadPlace O_BadPlace_init hr (by decide) T.g_BadPlace (takes_of rfl rfl rfl rfl) (pa_cons pe_str pa_nil)))
  pss_nil)
  (pss_cons (ps_fld (pv 0) (pv 1) rfl)
  (pss_cons (ps_fld (pv 0) (pv 2) rfl)
  (pss_cons (ps_fld (pv 0) (pe_ifExp (pt_cmpR op_isN (pv 3) pe_non (nomark _)) (pv 2) (pv 3)) rfl)
  (pss_one (ps_fld (pv 0) (pv 4) rfl))))))))), ?_⟩
    rcases h with ⟨w, hi, k⟩ | ⟨z, n, kk, b, ⟨rfl, hz, hn, rfl, n1, n2, n3, hm, rfl⟩, k⟩
    · cases hi with
      | name h =>
        rcases h with ⟨z, rfl, hz, hn⟩ | o
        · refine ⟨_, rfl, _, rfl, .inl ⟨z, rfl, hz, fun H1 s1 => ⟨false, by rw [hn], iteT ⟨_, rfl, fun d hd => k H1 d s1 hd⟩⟩⟩⟩
        · exact ⟨_, rfl, _, rfl, .inr ⟨o, false, rfl, iteT ⟨_, rfl, fun d hd => k H d (Same.refl _) hd⟩⟩⟩
      | least z hx hz hn h =>
        subst hx
        refine ⟨_, rfl, _, rfl, .inl ⟨z, rfl, hz, fun H1 s1 => ⟨true, by rw [hn], iteF ?_⟩⟩⟩
        exact ⟨_, rfl, _, _, _, rfl, .inr ⟨h.ext s1, false, rfl, iteT ⟨_, rfl, fun d hd => k H1 d s1 hd⟩⟩⟩
      | most z hx hz hn n hl n1 n2 hm h =>
        subst hx hl
        refine ⟨_, rfl, _, rfl, .inl ⟨z, rfl, hz, fun H1 s1 => ⟨true, by rw [hn], iteF ?_⟩⟩⟩
        refine ⟨_, rfl, _, _, _, rfl, .inl ⟨n, rfl, n1, n2, true, rfl, iteF ?_⟩⟩
        exact ⟨_, rfl, rfl, true, by rw [decide_eq_false hm]; rfl, iteT ⟨_, rfl, _, rfl, _, _, _, rfl, .inr ⟨h.ext s1, false, rfl, iteT ⟨_, rfl, fun d hd => k H1 d s1 hd⟩⟩⟩⟩
      | let_ z hx hz hn n hl n1 n2 hm h =>
        subst hx hl
        refine ⟨_, rfl, _, rfl, .inl ⟨z, rfl, hz, fun H1 s1 => ⟨true, by rw [hn], iteF ?_⟩⟩⟩
        refine ⟨_, rfl, _, _, _, rfl, .inl ⟨n, rfl, n1, n2, true, rfl, iteF ?_⟩⟩
        have fin := fun d hd => k H1 d s1 hd
        rcases hm with rfl | ⟨kk, rfl, k1, k2⟩
        · exact ⟨_, rfl, rfl, false, rfl, iteF ⟨_, rfl, _, rfl, .inr ⟨oddB_ext h s1, false, rfl, iteT ⟨_, rfl, fin⟩⟩⟩⟩
        · exact ⟨_, rfl, rfl, true, rfl, iteT ⟨_, rfl, _, rfl, _, _, _, rfl, .inl ⟨kk, rfl, k1, k2, true, rfl, iteF ⟨_, rfl, _, rfl, .inr ⟨oddB_ext h s1, false, rfl, iteT ⟨_, rfl, fin⟩⟩⟩⟩⟩⟩
    · refine ⟨_, rfl, _, rfl, .inl ⟨z, rfl, hz, fun H1 s1 => ⟨true, by rw [hn], iteF ?_⟩⟩⟩
      refine ⟨_, rfl, _, _, _, rfl, .inl ⟨n, rfl, n1, by omega, true, rfl, iteF ?_⟩⟩
      have hp1 := s1 _ _ hp
      have z0 : (0 : Nat) < 1000 := by decide
      have fin := k H1 s1
      rcases hm with rfl | ⟨rfl, rfl⟩
      · refine ⟨_, rfl, rfl, true, rfl, iteT ⟨_, rfl, _, rfl, _, _, _, rfl, .inl ⟨kk, rfl, n2, n3, true, rfl, iteF ⟨_, rfl, _, rfl, .inl ⟨b, rfl, true, rfl, iteF ?_⟩⟩⟩⟩⟩
        refine ⟨_, rfl, _, rfl, p, _, dx, [], rfl, hp1, T.c_Place, T.nN, (by show 0 < 1000; decide), ?_⟩
        refine ⟨_, rfl, _, rfl, p, _, dx, _, rfl, upd_same, T.c_Place, T.nL, (by show 1 < 1000; decide), ?_⟩
        rw [upd_upd]
        refine ⟨_, rfl, rfl, false, rfl, iteF ⟨_, rfl, _, rfl, p, _, dx, _, rfl, upd_same, T.c_Place, T.nM, (by show 2 < 1000; decide), ?_⟩⟩
        rw [upd_upd]
        refine ⟨_, rfl, _, rfl, p, _, dx, _, rfl, upd_same, T.c_Place, T.nT, (by show 3 < 1000; decide), ?_⟩
        rw [upd_upd]
        exact fin
      · refine ⟨_, rfl, rfl, false, rfl, iteF ⟨_, rfl, _, rfl, .inl ⟨b, rfl, true, rfl, iteF ?_⟩⟩⟩
        refine ⟨_, rfl, _, rfl, p, _, dx, [], rfl, hp1, T.c_Place, T.nN, (by show 0 < 1000; decide), ?_⟩
        refine ⟨_, rfl, _, rfl, p, _, dx, _, rfl, upd_same, T.c_Place, T.nL, (by show 1 < 1000; decide), ?_⟩
        rw [upd_upd]
        refine ⟨_, rfl, rfl, true, rfl, iteT ⟨_, rfl, _, rfl, p, _, dx, _, rfl, upd_same, T.c_Place, T.nM, (by show 2 < 1000; decide), ?_⟩⟩
        rw [upd_upd]
        refine ⟨_, rfl, _, rfl, p, _, dx, _, rfl, upd_same, T.c_Place, T.nT, (by show 3 < 1000; decide), ?_⟩
        rw [upd_upd]
        exact fin
/-- Place(name, least, most, let=t); the shorter ones -/
theorem O_Place3k {fd : FuncData} (F : FunD K "__init__" "Place.__init__" (defArgs s_Place_init) (defBody s_Place_init) (defScope s_Place_init) [.int 1, .non] [("let", .bl true)] (He.fAd K ("Place", some "__init__")) fd) (G : FnOk P w K mg base (L2.CX P w) 4 (He.fAd K ("Place", some "__init__")) fd ["self", "name", "least", "most", "let"] (spPlI K)) :
    OkK P w K mg base (L2.CX P w) 4 ("Place", some "__init__") ["self", "name", "least", "most", "let"] 4 ["let"] (fun vs zs => vs ++ zs) (spPlI K) := by
  obtain ⟨its, mv, b⟩ := F.kbinds (ps := ["self", "name", "least", "most", "let"]) 4 ["let"] [] (fun us _ _ ws => us ++ ws) (by decide) (by decide) (fun _ h => nomatch h) (fun r1 _ _ r4 => r1.append r4)
    fun T D doc pm an cdv ct us its mv ws h1 h2 h3 h4 => match us, its, mv, ws, h1, h2, h3, h4 with | [_, _, _, _], [_, _], [], [_], _, _, _, _ => ⟨_, rfl, rfl⟩
  exact ⟨fd, _, G, b⟩
theorem O_Place2 {fd : FuncData} (F : FunD K "__init__" "Place.__init__" (defArgs s_Place_init) (defBody s_Place_init) (defScope s_Place_init) [.int 1, .non] [("let", .bl true)] (He.fAd K ("Place", some "__init__")) fd) (G : FnOk P w K mg base (L2.CX P w) 4 (He.fAd K ("Place", some "__init__")) fd ["self", "name", "least", "most", "let"] (spPlI K)) :
    OkK P w K mg base (L2.CX P w) 4 ("Place", some "__init__") ["self", "name", "least", "most", "let"] 3 [] (fun vs _ => vs ++ [.non, .bl true]) (spPlI K) := by
  obtain ⟨its, mv, b⟩ := F.kbinds (ps := ["self", "name", "least", "most", "let"]) 3 [] [("let", .bl true)] (fun us its mv _ => us ++ (its.drop 1 ++ mv)) (by decide) (by decide) (fun _ h => h) (fun r1 r2 r3 _ => r1.append ((r2.drop 1).append r3))
    fun T D doc pm an cdv ct us its mv ws h1 h2 h3 h4 => match us, its, mv, ws, h1, h2, h3, h4 with | [_, _, _], [_, _], [_], [], _, _, _, _ => ⟨_, rfl, _, _, _, _, _, _, rfl, rfl, rfl⟩
  exact ⟨fd, _, G, b⟩
theorem O_Place1 {fd : FuncData} (F : FunD K "__init__" "Place.__init__" (defArgs s_Place_init) (defBody s_Place_init) (defScope s_Place_init) [.int 1, .non] [("let", .bl true)] (He.fAd K ("Place", some "__init__")) fd) (G : FnOk P w K mg base (L2.CX P w) 4 (He.fAd K ("Place", some "__init__")) fd ["self", "name", "least", "most", "let"] (spPlI K)) :
    OkK P w K mg base (L2.CX P w) 4 ("Place", some "__init__") ["self", "name", "least", "most", "let"] 2 [] (fun vs _ => vs ++ [.int 1, .non, .bl true]) (spPlI K) := by
  obtain ⟨its, mv, b⟩ := F.kbinds (ps := ["self", "name", "least", "most", "let"]) 2 [] [("let", .bl true)] (fun us its mv _ => us ++ (its ++ mv)) (by decide) (by decide) (fun _ h => h) (fun r1 r2 r3 _ => r1.append (r2.append r3))
    fun T D doc pm an cdv ct us its mv ws h1 h2 h3 h4 => match us, its, mv, ws, h1, h2, h3, h4 with | [_, _], [_, _], [_], [], _, _, _, _ => ⟨_, rfl, _, _, _, _, _, _, rfl, rfl, rfl⟩
  exact ⟨fd, _, G, b⟩
theorem sc_Place_eq : FnScope ["self", "other"] ["self", "other"] (defScope s_Place_eq) := ⟨rfl, rfl, rfl, by decide +kernel, rfl, by decide +kernel, by decide +kernel⟩
-- slots: 0 self, 1 other
def plB (z z' : Str) (l l' m m' : Int) (b b' : Bool) : Bool := decide (z = z') && (decide (l = l') && (decide (m = m') && decide (b = b')))
def spPlE (C : Addr) : Sp := fun vs H Q _ => ∃ (p q : Addr) (z z' : Str) (l l' m m' : Int) (b b' : Bool), vs = [.ref p, .ref q] ∧ PlA C H p z l m b ∧ PlA C H q z' l' m' b' ∧ Q (.bl (plB z z' l l' m m' b b')) H
theorem str_dec (a c : Str) : decide (V.str a = V.str c) = decide (a = c) := decide_eq_decide.mpr ⟨fun h => V.str.inj h, fun h => by rw [h]⟩
theorem int_dec (a c : Int) : decide (V.int a = V.int c) = decide (a = c) := decide_eq_decide.mpr ⟨fun h => V.int.inj h, fun h => by rw [h]⟩
theorem bl_dec (a c : Bool) : decide (V.bl a = V.bl c) = decide (a = c) := decide_eq_decide.mpr ⟨fun h => V.bl.inj h, fun h => by rw [h]⟩
theorem ok_Place_eq {fd : FuncData} (F : FnD K ("Place", some "__eq__") "__eq__" "Place.__eq__" s_Place_eq fd) (T : PTxt K mg) : OkM P w K mg base CX0 1 "Place" "__eq__" ["self", "other"] (spPlE (CP K)) := by
  refine okd F (F.ok sc_Place_eq (fun vs H Q E h => ?_) fun cdv A outer s H vs Q E hr h => ?_) fun _ _ _ _ _ _ us hl => match us, hl with | [_, _], _ => rfl
  · obtain ⟨p, q, z, z', l, l', m, m', b, b', rfl, _⟩ := h
    rfl
  · obtain ⟨p, q, z, z', l, l', m, m', b, b', rfl, ⟨dx, hp⟩, ⟨dy, hq⟩, k⟩ := h
    refine ⟨_, PSs.nox (pss_one (ps_ret (pe_and (pe_callB (id := "isinstance") call_isi (by rfl) T.z_isinstance (by decide +kernel) (pa_cons (pv 1) (pa_cons (pe_cl T.g_Place) pa_nil))) (pe_and (pe_cmpR op_eq (pe_fld (pv 0) rfl) (pe_fld (pv 1) rfl) (nomark _)) (pe_and (pe_cmpR op_eq (pe_fld (pv 0) rfl) (pe_fld (pv 1) rfl) (nomark _)) (pe_and (pe_cmpR op_eq (pe_fld (pv 0) rfl) (pe_fld (pv 1) rfl) (nomark _)) (pe_one (pe_cmpR op_eq (pe_fld (pv 0) rfl) (pe_fld (pv 1) rfl) (nomark _))))))))), ?_⟩
    refine ⟨_, rfl, .ref q, .ref (CP K), .ref (CP K), .ref (CP K), true, rfl, .own _, .base (.ins hq T.c_Place T.ha T.hn T.ht T.hm), T.k1, true, rfl, iteT ?_⟩
    unfold plB at k
    rw [← str_dec, ← int_dec, ← int_dec, ← bl_dec] at k
    refine ⟨_, rfl, p, _, dx, _, _, rfl, hp, T.c_Place, T.nN, plf_name .., _, rfl, q, _, dy, _, _, rfl, hq, T.c_Place, T.nN, plf_name .., rfl, _, rfl, ?_⟩
    cases e1 : decide (V.str z = V.str z') with
    | false =>
      rw [e1] at k
      exact iteF k
    | true =>
      rw [e1] at k
      refine iteT ⟨_, rfl, p, _, dx, _, _, rfl, hp, T.c_Place, T.nL, plf_least .., _, rfl, q, _, dy, _, _, rfl, hq, T.c_Place, T.nL, plf_least .., rfl, _, rfl, ?_⟩
      cases e2 : decide (V.int l = V.int l') with
      | false =>
        rw [e2] at k
        exact iteF k
      | true =>
        rw [e2] at k
        refine iteT ⟨_, rfl, p, _, dx, _, _, rfl, hp, T.c_Place, T.nM, plf_most .., _, rfl, q, _, dy, _, _, rfl, hq, T.c_Place, T.nM, plf_most .., rfl, _, rfl, ?_⟩
        cases e3 : decide (V.int m = V.int m') with
        | false =>
          rw [e3] at k
          exact iteF k
        | true =>
          rw [e3] at k
          exact iteT ⟨_, rfl, p, _, dx, _, _, rfl, hp, T.c_Place, T.nT, plf_let .., _, rfl, q, _, dy, _, _, rfl, hq, T.c_Place, T.nT, plf_let .., rfl, k⟩
end
end K32

set_option Elab.async false
set_option linter.all false
set_option pp.deepTerms.threshold 14
set_option pp.maxSteps 2500
set_option maxRecDepth 100000
set_option maxHeartbeats 2000000
namespace K32
open PySem PySem.Spec PyProof.Rows L2 Vf
section
variable {P : Program} {w : World} {K : PySem.W.Frag} {mg : Str → Option Value} {base : Heap}
structure GTxt (K : PySem.W.Frag) (mg : Str → Option Value) : Prop extends PTxt K mg where
  z_enumerate : mg "enumerate" = none
  z_list : mg "list" = none
  z_tuple : mg "tuple" = none
  z_dict : mg "dict" = none
  i_MOST_PLACES : ∃ t, mg "MOST_PLACES" = some (.int 6 t)
  g_has_twins : mg "has_twins" = some (.ref (He.ga K "has_twins"))
  g_is_one_of : mg "is_one_of" = some (.ref (He.ga K "is_one_of"))
  g_are_places : mg "are_places" = some (.ref (He.ga K "are_places"))
  g_are_nexts : mg "are_nexts" = some (.ref (He.ga K "are_nexts"))
  g_is_choice : mg "is_choice" = some (.ref (He.ga K "is_choice"))
  g_Program : mg "Program" = some (.ref (He.ga K "Program"))
  g_BadProgram : mg "BadProgram" = some (.ref (He.ga K "BadProgram"))
  g_NoPlace : mg "NoPlace" = some (.ref (He.ga K "NoPlace"))
  c_Program : Cls K (He.ga K "Program")
  m_Program : Mk K (He.ga K "Program") (He.fAd K ("Program", some "__init__"))
  nA : NoAttr K (He.ga K "Program") "names"
  nB : NoAttr K (He.ga K "Program") "start"
  nC : NoAttr K (He.ga K "Program") "_places"
  nD : NoAttr K (He.ga K "Program") "_nexts"
  x_BadProgram : ExI K "BadProgram" "why"
  x_NoPlace : ExI K "NoPlace" "name"
  pa : PySem.W.findIn K (.ref (He.ga K "Program")) "__class__" = some (some (.builtin "object.__class__"))
  pm : PySem.W.mroIn K (He.ga K "Program") (.type "object") = some true
  pk : PySem.W.kitOne K (.ref (He.ga K "Program")) (.ref (He.ga K "Program")) = some true
abbrev CG (K : PySem.W.Frag) : Addr := He.ga K "Program"
abbrev CBG (K : PySem.W.Frag) : Addr := He.ga K "BadProgram"
theorem pe_fldK {X : Cx} {K : PySem.W.Frag} {e : Expr} {f : Str} {pos : Pos} {ta : TE} (hK : X.K = K) (he : PE X e ta) (hb : attributeBase e f X.env (eval e X.env) = eval e X.env) : PE X (.Attribute e f pos) (tFld K ta f) := hK ▸ pe_fld he hb
theorem call_isiB {X : Cx} {K : PySem.W.Frag} (hK : X.K = K) : CallR X (.builtin "isinstance") (rIsi K) := hK ▸ call_isi
theorem cutV_upto {xs : List V} {i : Nat} (h : i ≤ xs.length) : cutV xs none (some (i : Int)) = xs.take i := by
  unfold cutV
  have e1 : HT.sIx xs.length 0 none = 0 := rfl
  have e2 : HT.sIx xs.length xs.length (some (i : Int)) = i := by
    rw [HT.sIx_nat]
    omega
  rw [e1, e2]
  simp
theorem nodup_snoc (zs : List Str) (z : Str) : (!decide (zs ++ [z]).Nodup) = (!decide zs.Nodup || decide (z ∈ zs)) := by
  rw [Bool.eq_iff_iff]
  simp only [Bool.not_eq_true', decide_eq_false_iff_not, Bool.or_eq_true, decide_eq_true_eq, List.nodup_append, List.mem_singleton]
  constructor
  · intro h
    by_cases hn : zs.Nodup
    · right
      exact Classical.byContradiction fun hz => h ⟨hn, by simp, fun a ha b hb => by rw [hb]; exact fun e => hz (e ▸ ha)⟩
    · exact .inl hn
  · rintro (h | h) ⟨h1, _, h3⟩
    · exact h h1
    · exact h3 z h z rfl rfl
theorem sc_has_twins : FnScope ["items", "at", "item", "earlier"] ["items"] (defScope s_has_twins) := ⟨rfl, rfl, rfl, by decide +kernel, rfl, by decide +kernel, by decide +kernel⟩
-- slots: 0 items, 1 at, 2 item, 3 earlier
/-- texts at a: are two of them equal -/
def spTw (K : PySem.W.Frag) : Sp := fun vs H Q _ => ∃ (a : Addr) (zs : List Str), vs = [.ref a] ∧ zs.length ≤ 1000 ∧ (SqL K H a (zs.map V.str) ∨ SqT K H a (zs.map V.str)) ∧ ∀ H', Same H H' → Q (.bl (!decide zs.Nodup)) H'
theorem ok_has_twins {fd : FuncData} (F : FnD K ("has_twins", none) "has_twins" "has_twins" s_has_twins fd) (T : GTxt K mg) : OkF P w K mg base CX0 1 "has_twins" ["items"] (spTw K) := by
  refine okd F (F.ok sc_has_twins (fun vs H Q E h => ?_) fun cdv A outer s H vs Q E hr h => ?_) fun _ _ _ _ _ _ us hl => match us, hl with | [_], _ => rfl
  · obtain ⟨a, zs, rfl, _⟩ := h
    rfl
  · obtain ⟨a, zs, rfl, hlen, hS | hS, k⟩ := h
    · refine ⟨_, PSs.nox (pss_cons (ps_for PassesOwn.never rfl (pi_enum (by rfl) T.z_enumerate (pa_cons (pv 0) pa_nil)) (pg_tup rfl (pgs_cons (pg_name (i := 1) sc_has_twins.nd rfl (Or.inl rfl)) (pgs_cons (pg_name (i := 2) sc_has_twins.nd rfl (Or.inl rfl)) pgs_nil)))
  (pss_one (ps_for PassesOwn.never rfl (pi_list (pe_slice sl_list (pv 0) po_none (po_some (pv 1)))) (pg_name (i := 3) sc_has_twins.nd rfl (Or.inl rfl))
  (pss_one (ps_if (pt_cmpR op_eq (pv 2) (pv 3) (nomark _)) (pss_one (ps_ret pe_bl))
  pss_nil)))))
  (pss_one (ps_ret pe_bl))), ?_⟩
      refine ⟨_, rfl, a, _, rfl, hS, for_it walk_enum (fun i σ H' => Same H H' ∧ (zs.take i).Nodup ∧ ∃ v1 v2 v3 : Option V, σ = [some (.ref a), v1, v2, v3]) ⟨Same.refl _, List.nodup_nil, none, none, none, rfl⟩ (fun i σ H' _ h => h.1.seq hS) ?_ ?_⟩
      · rintro i x σ H1 H2 hi ⟨sg, hn, v1, v2, v3, rfl⟩ hy
        obtain ⟨T', x', y', rfl, nT', rfl, hx', hy'⟩ := hy
        cases (Option.some.inj hx')
        replace hy' : (zs.map V.str)[i]? = some y' := hy'
        rw [List.getElem?_map] at hy'
        obtain ⟨z, hz, rfl⟩ : ∃ z, zs[i]? = some z ∧ y' = .str z := by
          cases hq : zs[i]? with
          | none => rw [hq] at hy'; cases hy'
          | some z =>
            rw [hq] at hy'
            exact ⟨z, rfl, (Option.some.inj hy').symm⟩
        have hi' : i < zs.length := (List.getElem?_eq_some_iff.mp hz).1
        have sT := sg.trans (same_new (o := .tup [.int (i : Nat), .str z]) nT')
        refine ⟨T', _, rfl, SqT.of upd_same, rfl, _, _, rfl, _, _, rfl, rfl, ?_⟩
        have ecut : cutV (zs.map V.str) none (some ((i : Nat) : Int)) = (zs.take i).map V.str := by
          rw [cutV_upto (xs := zs.map V.str) (i := i) (by rw [List.length_map]; omega), List.map_take]
        refine ⟨_, rfl, _, rfl, (i : Int), rfl, a, _, rfl, sT.seq hS, fun p np => ?_⟩
        rw [ecut]
        have sp := sT.trans (same_new (o := .lst ((zs.take i).map V.str)) np)
        have hp := upd_same (H := upd H1 T' (.tup [.int (i : Nat), .str z])) (a := p) (o := .lst ((zs.take i).map V.str))
        generalize upd (upd H1 T' (.tup [.int (i : Nat), .str z])) p (.lst ((zs.take i).map V.str)) = H3 at sp hp ⊢
        refine ⟨p, rfl, ⟨_, SqL.of hp⟩, for_list (K := K) (a := p) (xs := (zs.take i).map V.str) (fun j σ H' => H' = H3 ∧ (∀ w ∈ (zs.take i).take j, w ≠ z) ∧ ∃ v3 : Option V, σ = [some (.ref a), some (.int (i : Int)), some (.str z), v3]) ⟨rfl, (fun _ h => by cases h), v3, rfl⟩ (fun j σ H' _ h => h.1 ▸ SqL.of hp) ?_ ?_⟩
        · rintro j w σ H' hj ⟨rfl, hne, v, rfl⟩
          rw [List.getElem?_map] at hj
          obtain ⟨u, hu, rfl⟩ : ∃ u, (zs.take i)[j]? = some u ∧ w = .str u := by
            cases hq : (zs.take i)[j]? with
            | none => rw [hq] at hj; cases hj
            | some u =>
              rw [hq] at hj
              exact ⟨u, rfl, (Option.some.inj hj).symm⟩
          refine ⟨_, rfl, _, rfl, rfl, _, rfl, ite2 (fun e => ?_) fun e => ?_⟩
          · have ez : z = u := V.str.inj (of_decide_eq_true e)
            have hd : ¬ zs.Nodup := fun hn2 => by
              have h1 : (zs.take (i + 1)).Nodup := hn2.sublist (List.take_sublist _ _)
              rw [List.take_add_one, hz] at h1
              exact (List.nodup_append.mp h1).2.2 u (List.mem_of_getElem? hu) z (by simp) ez.symm
            have := k _ sp
            rw [decide_eq_false hd] at this
            exact this
          · refine ⟨rfl, fun v hv => ?_, _, rfl⟩
            rw [List.take_add_one, hu] at hv
            rcases List.mem_append.mp hv with hv | hv
            · exact hne v hv
            · have : v = u := by simpa using hv
              rw [this]
              exact fun ez => e (decide_eq_true (by rw [ez]))
        · rintro σ H' ⟨rfl, hne, v, rfl⟩
          refine ⟨sp, ?_, _, _, _, rfl⟩
          rw [List.length_map, List.take_length] at hne
          rw [List.take_add_one, hz]
          exact List.nodup_append.mpr ⟨hn, by simp, fun w hw w' hw' => by
            have : w' = z := by simpa using hw'
            rw [this]
            exact hne w hw⟩
      · rintro σ H1 ⟨sg, hn, v1, v2, v3, rfl⟩
        rw [List.length_map, List.take_length] at hn
        have := k H1 sg
        rw [decide_eq_true hn] at this
        exact this
    · refine ⟨_, PSs.nox (pss_cons (ps_for PassesOwn.never rfl (pi_enumT (by rfl) T.z_enumerate (pa_cons (pv 0) pa_nil)) (pg_tup rfl (pgs_cons (pg_name (i := 1) sc_has_twins.nd rfl (Or.inl rfl)) (pgs_cons (pg_name (i := 2) sc_has_twins.nd rfl (Or.inl rfl)) pgs_nil)))
  (pss_one (ps_for PassesOwn.never rfl (pi_tup (pe_slice sl_tup (pv 0) po_none (po_some (pv 1)))) (pg_name (i := 3) sc_has_twins.nd rfl (Or.inl rfl))
  (pss_one (ps_if (pt_cmpR op_eq (pv 2) (pv 3) (nomark _)) (pss_one (ps_ret pe_bl))
  pss_nil)))))
  (pss_one (ps_ret pe_bl))), ?_⟩
      refine ⟨_, rfl, a, _, rfl, hS, for_it walk_enumT (fun i σ H' => Same H H' ∧ (zs.take i).Nodup ∧ ∃ v1 v2 v3 : Option V, σ = [some (.ref a), v1, v2, v3]) ⟨Same.refl _, List.nodup_nil, none, none, none, rfl⟩ (fun i σ H' _ h => SqT.ext hS h.1) ?_ ?_⟩
      · rintro i x σ H1 H2 hi ⟨sg, hn, v1, v2, v3, rfl⟩ hy
        obtain ⟨T', x', y', rfl, nT', rfl, hx', hy'⟩ := hy
        cases (Option.some.inj hx')
        replace hy' : (zs.map V.str)[i]? = some y' := hy'
        rw [List.getElem?_map] at hy'
        obtain ⟨z, hz, rfl⟩ : ∃ z, zs[i]? = some z ∧ y' = .str z := by
          cases hq : zs[i]? with
          | none => rw [hq] at hy'; cases hy'
          | some z =>
            rw [hq] at hy'
            exact ⟨z, rfl, (Option.some.inj hy').symm⟩
        have hi' : i < zs.length := (List.getElem?_eq_some_iff.mp hz).1
        have sT := sg.trans (same_new (o := .tup [.int (i : Nat), .str z]) nT')
        refine ⟨T', _, rfl, SqT.of upd_same, rfl, _, _, rfl, _, _, rfl, rfl, ?_⟩
        have ecut : cutV (zs.map V.str) none (some ((i : Nat) : Int)) = (zs.take i).map V.str := by
          rw [cutV_upto (xs := zs.map V.str) (i := i) (by rw [List.length_map]; omega), List.map_take]
        have nw : ¬ (HT.sIx (zs.map V.str).length 0 none = 0 ∧ HT.sIx (zs.map V.str).length (zs.map V.str).length (some (i : Int)) = (zs.map V.str).length) := fun z => by
          have e1 : HT.sIx (zs.map V.str).length (zs.map V.str).length (some (i : Int)) = min i (zs.map V.str).length := HT.sIx_nat ..
          rw [e1, List.length_map] at z
          omega
        refine ⟨_, rfl, _, rfl, (i : Int), rfl, a, _, rfl, SqT.ext hS sT, nw, fun p np => ?_⟩
        rw [ecut]
        have sp := sT.trans (same_new (o := .tup ((zs.take i).map V.str)) np)
        have hp := upd_same (H := upd H1 T' (.tup [.int (i : Nat), .str z])) (a := p) (o := .tup ((zs.take i).map V.str))
        generalize upd (upd H1 T' (.tup [.int (i : Nat), .str z])) p (.tup ((zs.take i).map V.str)) = H3 at sp hp ⊢
        refine ⟨p, rfl, ⟨_, SqT.of hp⟩, for_tup (K := K) (a := p) (xs := (zs.take i).map V.str) (fun j σ H' => H' = H3 ∧ (∀ w ∈ (zs.take i).take j, w ≠ z) ∧ ∃ v3 : Option V, σ = [some (.ref a), some (.int (i : Int)), some (.str z), v3]) ⟨rfl, (fun _ h => by cases h), v3, rfl⟩ (fun j σ H' _ h => h.1 ▸ SqT.of hp) ?_ ?_⟩
        · rintro j w σ H' hj ⟨rfl, hne, v, rfl⟩
          rw [List.getElem?_map] at hj
          obtain ⟨u, hu, rfl⟩ : ∃ u, (zs.take i)[j]? = some u ∧ w = .str u := by
            cases hq : (zs.take i)[j]? with
            | none => rw [hq] at hj; cases hj
            | some u =>
              rw [hq] at hj
              exact ⟨u, rfl, (Option.some.inj hj).symm⟩
          refine ⟨_, rfl, _, rfl, rfl, _, rfl, ite2 (fun e => ?_) fun e => ?_⟩
          · have ez : z = u := V.str.inj (of_decide_eq_true e)
            have hd : ¬ zs.Nodup := fun hn2 => by
              have h1 : (zs.take (i + 1)).Nodup := hn2.sublist (List.take_sublist _ _)
              rw [List.take_add_one, hz] at h1
              exact (List.nodup_append.mp h1).2.2 u (List.mem_of_getElem? hu) z (by simp) ez.symm
            have := k _ sp
            rw [decide_eq_false hd] at this
            exact this
          · refine ⟨rfl, fun v hv => ?_, _, rfl⟩
            rw [List.take_add_one, hu] at hv
            rcases List.mem_append.mp hv with hv | hv
            · exact hne v hv
            · have : v = u := by simpa using hv
              rw [this]
              exact fun ez => e (decide_eq_true (by rw [ez]))
        · rintro σ H' ⟨rfl, hne, v, rfl⟩
          refine ⟨sp, ?_, _, _, _, rfl⟩
          rw [List.length_map, List.take_length] at hne
          rw [List.take_add_one, hz]
          exact List.nodup_append.mpr ⟨hn, by simp, fun w hw w' hw' => by
            have : w' = z := by simpa using hw'
            rw [this]
            exact hne w hw⟩
      · rintro σ H1 ⟨sg, hn, v1, v2, v3, rfl⟩
        rw [List.length_map, List.take_length] at hn
        have := k H1 sg
        rw [decide_eq_true hn] at this
        exact this
theorem inV_str (z : Str) (zs : List Str) : inV (.str z) (zs.map V.str) = decide (z ∈ zs) := by
  rw [Bool.eq_iff_iff, decide_eq_true_eq]
  unfold inV
  rw [List.any_eq_true]
  constructor
  · rintro ⟨y, hy, he⟩
    obtain ⟨w, hw, rfl⟩ := List.mem_map.mp hy
    have : (w == z) = true := he
    rw [← eq_of_beq this]
    exact hw
  · intro h
    exact ⟨.str z, List.mem_map_of_mem h, by show (z == z) = true; simp⟩
theorem flat_str (zs : List Str) : (zs.map V.str).all flatV = true := by
  rw [List.all_map, List.all_eq_true]
  exact fun _ _ => rfl
theorem sc_is_one_of : FnScope ["x", "names"] ["x", "names"] (defScope s_is_one_of) := ⟨rfl, rfl, rfl, by decide +kernel, rfl, by decide +kernel, by decide +kernel⟩
-- slots: 0 x, 1 names
/-- is x one of the texts at t -/
def spOne (K : PySem.W.Frag) : Sp := fun vs H Q _ => ∃ (x : V) (t : Addr) (zs : List Str), vs = [x, .ref t] ∧ SqT K H t (zs.map V.str) ∧ ((∃ z, x = .str z ∧ Q (.bl (decide (z ∈ zs))) H) ∨ (OddS H x ∧ Q (.bl false) H))
theorem ok_is_one_of {fd : FuncData} (F : FnD K ("is_one_of", none) "is_one_of" "is_one_of" s_is_one_of fd) (T : GTxt K mg) : OkF P w K mg base CX0 1 "is_one_of" ["x", "names"] (spOne K) := by
  refine okd F (F.ok sc_is_one_of (fun vs H Q E h => ?_) fun cdv A outer s H vs Q E hr h => ?_) fun _ _ _ _ _ _ us hl => match us, hl with | [_, _], _ => rfl
  · obtain ⟨x, t, zs, rfl, _⟩ := h
    rfl
  · obtain ⟨x, t, zs, rfl, hS, h⟩ := h
    refine ⟨_, PSs.nox (pss_one (ps_ret (pe_and (pe_callB (id := "isinstance") call_isi (by rfl) T.z_isinstance (by decide +kernel) (pa_cons (pv 0) (pa_cons (pe_ty (n := "str") T.z_str (by decide +kernel)) pa_nil))) (pe_one (pe_cmpR op_in_seq (pv 0) (pv 1) rfl))))), ?_⟩
    rcases h with ⟨z, rfl, q⟩ | ⟨o, q⟩
    · refine ⟨_, rfl, .str z, .ty "str", .type "str", .type "str", true, rfl, .ty _, .base (.str _), kit_ty (by decide +kernel), true, rfl, iteT ?_⟩
      refine ⟨_, rfl, _, rfl, t, _, rfl, .inr hS, rfl, flat_str zs, ?_⟩
      show Q (.bl (inV (.str z) (zs.map V.str))) H
      rw [inV_str]
      exact q
    · obtain ⟨n, t1, k1⟩ := oddS_ty K o
      exact ⟨_, rfl, x, .ty "str", .type n, .type "str", false, rfl, .ty _, t1, kit_ty k1, false, rfl, iteF q⟩
end
end K32

set_option Elab.async false
set_option linter.all false
set_option pp.deepTerms.threshold 14
set_option pp.maxSteps 2500
set_option maxRecDepth 100000
set_option maxHeartbeats 2000000
namespace K32
open PySem PySem.Spec PyProof.Rows L2 Vf
section
variable {P : Program} {w : World} {K : PySem.W.Frag} {mg : Str → Option Value} {base : Heap}
theorem sc_is_choice : FnScope ["ways", "names", "way"] ["ways", "names"] (defScope s_is_choice) := ⟨rfl, rfl, rfl, by decide +kernel, rfl, by decide +kernel, by decide +kernel⟩
-- slots: 0 ways, 1 names, 2 way
def spChoice (K : PySem.W.Frag) : Sp := fun vs H Q _ => ∃ (t n : Addr) (ws zs : List Str), vs = [.ref t, .ref n] ∧ H t = some (.tup (ws.map V.str)) ∧ H n = some (.tup (zs.map V.str)) ∧ (∀ y ∈ ws, y ∈ zs) ∧ ws.Nodup ∧ ws.length ≤ 1000 ∧ ∀ H', Same H H' → Q (.bl true) H'
theorem take_rep (i : Nat) : (List.replicate i true).map V.bl ++ [V.bl true] = (List.replicate (i + 1) true).map V.bl := by
  rw [List.replicate_succ', List.map_append]
  rfl
theorem all_rep (i : Nat) : (List.replicate i true).all id = true := by
  rw [List.all_eq_true]
  intro x hx
  rw [List.mem_replicate] at hx
  rw [hx.2]
  rfl
theorem ok_is_choice {fd : FuncData} (F : FnD K ("is_choice", none) "is_choice" "is_choice" s_is_choice fd) (T : GTxt K mg) (O_is_one_of : OkF P w K mg base CX0 1 "is_one_of" ["x", "names"] (spOne K)) (O_has_twins : OkF P w K mg base CX0 1 "has_twins" ["items"] (spTw K)) : OkF P w K mg base CX0 2 "is_choice" ["ways", "names"] (spChoice K) := by
  refine okd F (F.ok sc_is_choice (fun vs H Q E h => ?_) fun cdv A outer s H vs Q E hr h => ?_) fun _ _ _ _ _ _ us hl => match us, hl with | [_, _], _ => rfl
  · obtain ⟨t, n, ws, zs, rfl, _⟩ := h
    rfl
  · obtain ⟨t, n, ws, zs, rfl, ht, hn, hsub, hnd, hlen, k⟩ := h
    refine ⟨_, PSs.nox (pss_cons (ps_if (PW.pt (pw_or (pt_not (pt_val (pe_callB (id := "isinstance") call_isi (by rfl) T.z_isinstance (by decide +kernel) (pa_cons (pv 0) (pa_cons (pe_ty (n := "tuple") T.z_tuple (by decide +kernel)) pa_nil))))) (pw_or1 (pt_not (pt_val (pe_callB (id := "all") (cr_all rfl) (by rfl) T.z_all (by decide +kernel) (pa_cons (pe_lc (own := [("way", 2)]) (g := gName 2) (tt := tYes) (by rfl) sc_is_choice.nd (pi_tup (pv 0)) (blkOk_by (N := ["ways", "names", "way"]) (sc := defScope s_is_choice) (by decide +kernel)) (fun _ _ _ _ _ => (pg_name (i := 2) sc_is_choice.nd rfl (Or.inl rfl))) (fun _ _ _ _ _ => pts_nil) (fun _ _ _ _ _ => (c_fn O_is_one_of hr (by decide) T.g_is_one_of pass0 (pa_cons (pv 2) (pa_cons (pv 1) pa_nil))))) pa_nil))))))) (pss_one (ps_ret pe_bl))
  pss_nil)
  (pss_one (ps_ret (pe_not (c_fn O_has_twins hr (by decide) T.g_has_twins pass0 (pa_cons (pv 0) pa_nil)))))), ?_⟩
    refine ⟨_, rfl, .ref t, .ty "tuple", .type "tuple", .type "tuple", true, rfl, .ty _, .base (.tup ht), kit_ty (by decide +kernel), true, rfl, iteF ?_⟩
    refine ⟨_, rfl, t, rfl, ⟨_, SqT.of ht⟩, fun D nD => lc_it walk_tup (fun i H' => Same H H' ∧ H' D = some (.lst ((List.replicate i true).map V.bl))) ⟨same_new nD, upd_same⟩ (fun i H' _ h => SqT.ext (SqT.of ht) h.1) ?_ ?_⟩
    · rintro i x H1 H' hi ⟨sg, hD⟩ ⟨rfl, hx⟩
      rw [List.getElem?_map] at hx
      obtain ⟨y, hy, rfl⟩ : ∃ y, ws[i]? = some y ∧ x = .str y := by
        cases hq : ws[i]? with
        | none => rw [hq] at hx; cases hx
        | some y =>
          rw [hq] at hx
          exact ⟨y, rfl, (Option.some.inj hx).symm⟩
      have hin := hsub y (List.mem_of_getElem? hy)
      refine ⟨rfl, _, rfl, _, rfl, .str y, n, zs, rfl, SqT.ext (SqT.of hn) sg, .inl ⟨y, rfl, ?_⟩⟩
      rw [decide_eq_true hin]
      refine ⟨_, hD, ?_, same_app sg (Same.refl _) nD, by rw [upd_same, take_rep]⟩
      rw [List.length_map, List.length_replicate]
      rw [List.length_map] at hi
      exact Nat.lt_of_lt_of_le hi (Nat.le_trans hlen (by decide))
    · rintro H' ⟨sg, hD⟩
      refine ⟨D, _, rfl, SqL.of hD, ?_⟩
      rw [all_rep]
      refine ⟨true, rfl, iteF ⟨_, rfl, t, ws, rfl, hlen, .inr (SqT.ext (SqT.of ht) sg), fun H2 s2 => ?_⟩⟩
      rw [decide_eq_true hnd]
      exact ⟨_, rfl, k H2 (sg.trans s2)⟩
structure Rw where
  z : Str
  l : Int
  m : Int
  b : Bool
  ns : List Str
deriving DecidableEq
/-- a place, the tuple of its nexts, its row -/
abbrev PgE : Type := Addr × Addr × Rw
def zsOf (xs : List PgE) : List Str := xs.map fun x => x.2.2.z
def PlE (K : PySem.W.Frag) (H : Hp) (x : PgE) : Prop := PlA (CP K) H x.1 x.2.2.z x.2.2.l x.2.2.m x.2.2.b
theorem PlE.ext {K : PySem.W.Frag} {H H' : Hp} {x : PgE} (h : PlE K H x) (s : Same H H') : PlE K H' x := PlA.ext h s
theorem getE {xs : List PgE} {f : PgE → V} {i : Nat} {x : V} (h : (xs.map f)[i]? = some x) : ∃ y, xs[i]? = some y ∧ x = f y := by
  rw [List.getElem?_map] at h
  cases hq : xs[i]? with
  | none => rw [hq] at h; cases h
  | some y =>
    rw [hq] at h
    exact ⟨y, rfl, (Option.some.inj h).symm⟩
theorem sc_are_places : FnScope ["places", "place"] ["places"] (defScope s_are_places) := ⟨rfl, rfl, rfl, by decide +kernel, rfl, by decide +kernel, by decide +kernel⟩
-- slots: 0 places, 1 place
def spArePl (K : PySem.W.Frag) : Sp := fun vs H Q _ => ∃ (L : Addr) (xs : List PgE), vs = [.ref L] ∧ (H L = some (.lst (xs.map fun x => V.ref x.1)) ∨ H L = some (.tup (xs.map fun x => V.ref x.1))) ∧ (∀ x ∈ xs, PlE K H x) ∧ 1 ≤ xs.length ∧ xs.length ≤ 6 ∧ (zsOf xs).Nodup ∧ ∀ H', Same H H' → Q (.bl true) H'
theorem ok_are_places {fd : FuncData} (F : FnD K ("are_places", none) "are_places" "are_places" s_are_places fd) (T : GTxt K mg) (O_has_twins : OkF P w K mg base CX0 1 "has_twins" ["items"] (spTw K)) : OkF P w K mg base CX0 2 "are_places" ["places"] (spArePl K) := by
  refine okd F (F.ok sc_are_places (fun vs H Q E h => ?_) fun cdv A outer s H vs Q E hr h => ?_) fun _ _ _ _ _ _ us hl => match us, hl with | [_], _ => rfl
  · obtain ⟨L, xs, rfl, _⟩ := h
    rfl
  · obtain ⟨L, xs, rfl, hL | hL, hp, l1, l6, hnd, k⟩ := h
    · refine ⟨_, PSs.nox (pss_cons (ps_if (PW.pt (pw_or (pt_not (pt_val (pe_callB (id := "isinstance") call_isiT (by rfl) T.z_isinstance (by decide +kernel) (pa_cons (pv 0) (pa_cons (pe_tup (pa_cons (pe_ty (n := "list") T.z_list (by decide +kernel)) (pa_cons (pe_ty (n := "tuple") T.z_tuple (by decide +kernel)) pa_nil))) pa_nil))))) (pw_or1 (pt_not (pt_chain op_le op_le pe_int (pe_callB (id := "len") call_len_seq (by rfl) T.z_len (by decide +kernel) (pa_cons (pv 0) pa_nil)) (c_gint T.i_MOST_PLACES)))))) (pss_one (ps_ret pe_bl))
  pss_nil)
  (pss_cons (ps_if (pt_not (pt_val (pe_callB (id := "all") (cr_all rfl) (by rfl) T.z_all (by decide +kernel) (pa_cons (pe_lc (own := [("place", 1)]) (g := gName 1) (tt := tYes) (by rfl) sc_are_places.nd (pi_list (pv 0)) (blkOk_by (N := ["places", "place"]) (sc := defScope s_are_places) (by decide +kernel)) (fun _ _ _ _ _ => (pg_name (i := 1) sc_are_places.nd rfl (Or.inl rfl))) (fun _ _ _ _ _ => pts_nil) (fun _ _ _ _ _ => (pe_callB (id := "isinstance") (call_isiB (K := K) rfl) (by rfl) T.z_isinstance (by decide +kernel) (pa_cons (pv 1) (pa_cons (pe_cl T.g_Place) pa_nil))))) pa_nil)))) (pss_one (ps_ret pe_bl))
  pss_nil)
  (pss_one (ps_ret (pe_not (c_fn O_has_twins hr (by decide) T.g_has_twins pass0 (pa_cons (pe_lc (own := [("place", 1)]) (g := gName 1) (tt := tYes) (by rfl) sc_are_places.nd (pi_list (pv 0)) (blkOk_by (N := ["places", "place"]) (sc := defScope s_are_places) (by decide +kernel)) (fun _ _ _ _ _ => (pg_name (i := 1) sc_are_places.nd rfl (Or.inl rfl))) (fun _ _ _ _ _ => pts_nil) (fun _ _ _ _ _ => (pe_fldK (K := K) rfl (pv 1) rfl))) pa_nil))))))), ?_⟩
      refine ⟨_, rfl, (by show 2 ≤ sizeLine; decide), fun tp ntp => ⟨.ref L, tp, [.ty "list", .ty "tuple"], .type "list", [.type "list", .type "tuple"], true, rfl, upd_same, .cons (.ty _) (.cons (.ty _) .nil), .base (.lst (same_new ntp _ _ hL)), kitAny_cons (b := true) (kit_ty (by decide +kernel)) (fun z => nomatch z) (fun _ => rfl), true, rfl, iteF ?_⟩⟩
      have s1 := same_new (o := .tup [.ty "list", .ty "tuple"]) ntp
      have hL1 := s1 _ _ hL
      generalize upd H tp (.tup [.ty "list", .ty "tuple"]) = H1 at s1 hL1 ⊢
      clear ntp
      refine ⟨_, rfl, L, _, rfl, .inl (SqL.of hL1), 1, _, rfl, rfl, true, congrArg V.bl (decide_eq_true (by rw [List.length_map]; omega)), iteT ⟨_, 6, rfl, rfl, true, congrArg V.bl (decide_eq_true (by rw [List.length_map]; omega)), iteF ?_⟩⟩
      refine ⟨_, rfl, L, rfl, ⟨_, SqL.of hL1⟩, fun D nD => lc_it walk_list (fun i H' => Same H1 H' ∧ H' D = some (.lst ((List.replicate i true).map V.bl))) ⟨same_new nD, upd_same⟩ (fun i H' _ h => h.1.seq (SqL.of hL1)) ?_ ?_⟩
      · rintro i x H2 H' hi ⟨sg, hD⟩ ⟨rfl, hx⟩
        obtain ⟨y, hy, rfl⟩ := getE hx
        obtain ⟨dy, ey⟩ := (hp y (List.mem_of_getElem? hy)).ext (s1.trans sg)
        refine ⟨rfl, _, rfl, .ref y.1, .ref (CP K), .ref (CP K), .ref (CP K), true, rfl, .own _, .base (.ins ey T.c_Place T.ha T.hn T.ht T.hm), T.k1, ?_⟩
        refine ⟨_, hD, ?_, same_app sg (Same.refl _) nD, by rw [upd_same, take_rep]⟩
        rw [List.length_map, List.length_replicate]
        rw [List.length_map] at hi
        exact Nat.lt_of_lt_of_le hi (Nat.le_trans l6 (by decide))
      · rintro H2 ⟨sg, hD⟩
        refine ⟨D, _, rfl, SqL.of hD, ?_⟩
        rw [all_rep]
        refine ⟨true, rfl, iteF ?_⟩
        have hL2 := sg _ _ hL1
        refine ⟨_, rfl, L, rfl, ⟨_, SqL.of hL2⟩, fun D2 nD2 => lc_it walk_list (fun i H' => Same H2 H' ∧ H' D2 = some (.lst (((zsOf xs).take i).map V.str))) ⟨same_new nD2, upd_same⟩ (fun i H' _ h => h.1.seq (SqL.of hL2)) ?_ ?_⟩
        · rintro i x H3 H' hi ⟨sg3, hD3⟩ ⟨rfl, hx⟩
          obtain ⟨y, hy, rfl⟩ := getE hx
          obtain ⟨dy, ey⟩ := (hp y (List.mem_of_getElem? hy)).ext (s1.trans (sg.trans sg3))
          refine ⟨rfl, _, rfl, y.1, _, dy, _, _, rfl, ey, T.c_Place, T.nN, plf_name .., ?_⟩
          refine ⟨_, hD3, ?_, same_app sg3 (Same.refl _) nD2, ?_⟩
          · rw [List.length_map, List.length_take]
            rw [List.length_map] at hi
            exact Nat.lt_of_le_of_lt (Nat.min_le_left _ _) (Nat.lt_of_lt_of_le hi (Nat.le_trans l6 (by decide)))
          · rw [upd_same, List.take_add_one, List.map_append]
            have : (zsOf xs)[i]? = some y.2.2.z := by
              unfold zsOf
              rw [List.getElem?_map, hy]
              rfl
            rw [this]
            rfl
        · rintro H3 ⟨sg3, hD3⟩
          have hlz : (zsOf xs).length = xs.length := List.length_map ..
          rw [List.length_map, ← hlz, List.take_length] at hD3
          refine ⟨D2, zsOf xs, rfl, by omega, .inl (SqL.of hD3), fun H4 s4 => ?_⟩
          rw [decide_eq_true hnd]
          exact ⟨_, rfl, k H4 (s1.trans (sg.trans (sg3.trans s4)))⟩
    · refine ⟨_, PSs.nox (pss_cons (ps_if (PW.pt (pw_or (pt_not (pt_val (pe_callB (id := "isinstance") call_isiT (by rfl) T.z_isinstance (by decide +kernel) (pa_cons (pv 0) (pa_cons (pe_tup (pa_cons (pe_ty (n := "list") T.z_list (by decide +kernel)) (pa_cons (pe_ty (n := "tuple") T.z_tuple (by decide +kernel)) pa_nil))) pa_nil))))) (pw_or1 (pt_not (pt_chain op_le op_le pe_int (pe_callB (id := "len") call_len_seq (by rfl) T.z_len (by decide +kernel) (pa_cons (pv 0) pa_nil)) (c_gint T.i_MOST_PLACES)))))) (pss_one (ps_ret pe_bl))
  pss_nil)
  (pss_cons (ps_if (pt_not (pt_val (pe_callB (id := "all") (cr_all rfl) (by rfl) T.z_all (by decide +kernel) (pa_cons (pe_lc (own := [("place", 1)]) (g := gName 1) (tt := tYes) (by rfl) sc_are_places.nd (pi_tup (pv 0)) (blkOk_by (N := ["places", "place"]) (sc := defScope s_are_places) (by decide +kernel)) (fun _ _ _ _ _ => (pg_name (i := 1) sc_are_places.nd rfl (Or.inl rfl))) (fun _ _ _ _ _ => pts_nil) (fun _ _ _ _ _ => (pe_callB (id := "isinstance") (call_isiB (K := K) rfl) (by rfl) T.z_isinstance (by decide +kernel) (pa_cons (pv 1) (pa_cons (pe_cl T.g_Place) pa_nil))))) pa_nil)))) (pss_one (ps_ret pe_bl))
  pss_nil)
  (pss_one (ps_ret (pe_not (c_fn O_has_twins hr (by decide) T.g_has_twins pass0 (pa_cons (pe_lc (own := [("place", 1)]) (g := gName 1) (tt := tYes) (by rfl) sc_are_places.nd (pi_tup (pv 0)) (blkOk_by (N := ["places", "place"]) (sc := defScope s_are_places) (by decide +kernel)) (fun _ _ _ _ _ => (pg_name (i := 1) sc_are_places.nd rfl (Or.inl rfl))) (fun _ _ _ _ _ => pts_nil) (fun _ _ _ _ _ => (pe_fldK (K := K) rfl (pv 1) rfl))) pa_nil))))))), ?_⟩
      refine ⟨_, rfl, (by show 2 ≤ sizeLine; decide), fun tp ntp => ⟨.ref L, tp, [.ty "list", .ty "tuple"], .type "tuple", [.type "list", .type "tuple"], true, rfl, upd_same, .cons (.ty _) (.cons (.ty _) .nil), .base (.tup (same_new ntp _ _ hL)), kitAny_cons (b := false) (kit_ty (by decide +kernel)) (fun _ => kitAny_cons (b := true) (kit_ty (by decide +kernel)) (fun z => nomatch z) (fun _ => rfl)) (fun z => nomatch z), true, rfl, iteF ?_⟩⟩
      have s1 := same_new (o := .tup [.ty "list", .ty "tuple"]) ntp
      have hL1 := s1 _ _ hL
      generalize upd H tp (.tup [.ty "list", .ty "tuple"]) = H1 at s1 hL1 ⊢
      clear ntp
      refine ⟨_, rfl, L, _, rfl, .inr (SqT.of hL1), 1, _, rfl, rfl, true, congrArg V.bl (decide_eq_true (by rw [List.length_map]; omega)), iteT ⟨_, 6, rfl, rfl, true, congrArg V.bl (decide_eq_true (by rw [List.length_map]; omega)), iteF ?_⟩⟩
      refine ⟨_, rfl, L, rfl, ⟨_, SqT.of hL1⟩, fun D nD => lc_it walk_tup (fun i H' => Same H1 H' ∧ H' D = some (.lst ((List.replicate i true).map V.bl))) ⟨same_new nD, upd_same⟩ (fun i H' _ h => SqT.ext (SqT.of hL1) h.1) ?_ ?_⟩
      · rintro i x H2 H' hi ⟨sg, hD⟩ ⟨rfl, hx⟩
        obtain ⟨y, hy, rfl⟩ := getE hx
        obtain ⟨dy, ey⟩ := (hp y (List.mem_of_getElem? hy)).ext (s1.trans sg)
        refine ⟨rfl, _, rfl, .ref y.1, .ref (CP K), .ref (CP K), .ref (CP K), true, rfl, .own _, .base (.ins ey T.c_Place T.ha T.hn T.ht T.hm), T.k1, ?_⟩
        refine ⟨_, hD, ?_, same_app sg (Same.refl _) nD, by rw [upd_same, take_rep]⟩
        rw [List.length_map, List.length_replicate]
        rw [List.length_map] at hi
        exact Nat.lt_of_lt_of_le hi (Nat.le_trans l6 (by decide))
      · rintro H2 ⟨sg, hD⟩
        refine ⟨D, _, rfl, SqL.of hD, ?_⟩
        rw [all_rep]
        refine ⟨true, rfl, iteF ?_⟩
        have hL2 := sg _ _ hL1
        refine ⟨_, rfl, L, rfl, ⟨_, SqT.of hL2⟩, fun D2 nD2 => lc_it walk_tup (fun i H' => Same H2 H' ∧ H' D2 = some (.lst (((zsOf xs).take i).map V.str))) ⟨same_new nD2, upd_same⟩ (fun i H' _ h => SqT.ext (SqT.of hL2) h.1) ?_ ?_⟩
        · rintro i x H3 H' hi ⟨sg3, hD3⟩ ⟨rfl, hx⟩
          obtain ⟨y, hy, rfl⟩ := getE hx
          obtain ⟨dy, ey⟩ := (hp y (List.mem_of_getElem? hy)).ext (s1.trans (sg.trans sg3))
          refine ⟨rfl, _, rfl, y.1, _, dy, _, _, rfl, ey, T.c_Place, T.nN, plf_name .., ?_⟩
          refine ⟨_, hD3, ?_, same_app sg3 (Same.refl _) nD2, ?_⟩
          · rw [List.length_map, List.length_take]
            rw [List.length_map] at hi
            exact Nat.lt_of_le_of_lt (Nat.min_le_left _ _) (Nat.lt_of_lt_of_le hi (Nat.le_trans l6 (by decide)))
          · rw [upd_same, List.take_add_one, List.map_append]
            have : (zsOf xs)[i]? = some y.2.2.z := by
              unfold zsOf
              rw [List.getElem?_map, hy]
              rfl
            rw [this]
            rfl
        · rintro H3 ⟨sg3, hD3⟩
          have hlz : (zsOf xs).length = xs.length := List.length_map ..
          rw [List.length_map, ← hlz, List.take_length] at hD3
          refine ⟨D2, zsOf xs, rfl, by omega, .inl (SqL.of hD3), fun H4 s4 => ?_⟩
          rw [decide_eq_true hnd]
          exact ⟨_, rfl, k H4 (s1.trans (sg.trans (sg3.trans s4)))⟩
end
end K32

set_option Elab.async false
set_option linter.all false
set_option pp.deepTerms.threshold 14
set_option pp.maxSteps 2500
set_option maxRecDepth 100000
set_option maxHeartbeats 2000000
namespace K32
open PySem PySem.Spec PyProof.Rows L2 Vf
section
variable {P : Program} {w : World} {K : PySem.W.Frag} {mg : Str → Option Value} {base : Heap}
theorem dget_of {H : Hp} {N : Addr} {kvs : List (Key × V)} {z : Str} {o : Option V} (hN : H N = some (.dK kvs)) (hv : valV kvs (Sum.inr z) = o) : DGet H N (.str z) o := hv ▸ DGet.k (k := Sum.inr z) hN
/-- the dict at N: for each row the tuple of its nexts -/
def NxA (H : Hp) (N : Addr) (xs : List PgE) : Prop := ∃ kvs, H N = some (.dK kvs) ∧ kvs.length = xs.length ∧ ∀ x ∈ xs, valV kvs (Sum.inr x.2.2.z) = some (.ref x.2.1)
theorem NxA.ext {H H' : Hp} {N : Addr} {xs : List PgE} (h : NxA H N xs) (s : Same H H') : NxA H' N xs := by
  obtain ⟨kvs, h1, h2, h3⟩ := h
  exact ⟨kvs, s _ _ h1, h2, h3⟩
/-- the tuple of a row's nexts -/
def NsE (H : Hp) (zs : List Str) (x : PgE) : Prop := H x.2.1 = some (.tup (x.2.2.ns.map V.str)) ∧ (∀ y ∈ x.2.2.ns, y ∈ zs) ∧ x.2.2.ns.Nodup ∧ x.2.2.ns.length ≤ 1000
theorem NsE.ext {H H' : Hp} {zs : List Str} {x : PgE} (h : NsE H zs x) (s : Same H H') : NsE H' zs x := ⟨s _ _ h.1, h.2⟩
theorem zsAt {xs : List PgE} {i : Nat} {v : V} (h : ((zsOf xs).map V.str)[i]? = some v) : ∃ x, xs[i]? = some x ∧ v = .str x.2.2.z := by
  rw [zsOf, List.map_map] at h
  exact getE h
theorem sc_are_nexts : FnScope ["nexts", "names", "name"] ["nexts", "names"] (defScope s_are_nexts) := ⟨rfl, rfl, rfl, by decide +kernel, rfl, by decide +kernel, by decide +kernel⟩
-- slots: 0 nexts, 1 names, 2 name
def spAreNx (K : PySem.W.Frag) : Sp := fun vs H Q _ => ∃ (N n : Addr) (xs : List PgE), vs = [.ref N, .ref n] ∧ NxA H N xs ∧ H n = some (.tup ((zsOf xs).map V.str)) ∧ (∀ x ∈ xs, NsE H (zsOf xs) x) ∧ xs.length ≤ 6 ∧ ∀ H', Same H H' → Q (.bl true) H'
theorem ok_are_nexts {fd : FuncData} (F : FnD K ("are_nexts", none) "are_nexts" "are_nexts" s_are_nexts fd) (T : GTxt K mg) (O_is_choice : OkF P w K mg base CX0 2 "is_choice" ["ways", "names"] (spChoice K)) : OkF P w K mg base CX0 3 "are_nexts" ["nexts", "names"] (spAreNx K) := by
  refine okd F (F.ok sc_are_nexts (fun vs H Q E h => ?_) fun cdv A outer s H vs Q E hr h => ?_) fun _ _ _ _ _ _ us hl => match us, hl with | [_, _], _ => rfl
  · obtain ⟨N, n, xs, rfl, _⟩ := h
    rfl
  · obtain ⟨N, n, xs, rfl, ⟨kvs, hN, hlen, hv⟩, hn, hns, l6, k⟩ := h
    refine ⟨_, PSs.nox (pss_cons (ps_if (PW.pt (pw_or (pt_not (pt_val (pe_callB (id := "isinstance") call_isi (by rfl) T.z_isinstance (by decide +kernel) (pa_cons (pv 0) (pa_cons (pe_ty (n := "dict") T.z_dict (by decide +kernel)) pa_nil))))) (pw_or1 (pt_cmpR op_ne (pe_callB call_lenD (by rfl) T.z_len (by decide +kernel) (pa_cons (pv 0) pa_nil)) (pe_callB (id := "len") call_len_seq (by rfl) T.z_len (by decide +kernel) (pa_cons (pv 1) pa_nil)) (nomark _))))) (pss_one (ps_ret pe_bl))
  pss_nil)
  (pss_one (ps_ret (pe_callB (id := "all") (cr_all rfl) (by rfl) T.z_all (by decide +kernel) (pa_cons (pe_lc (own := [("name", 2)]) (g := gName 2) (tt := tYes) (by rfl) sc_are_nexts.nd (pi_tup (pv 1)) (blkOk_by (N := ["nexts", "names", "name"]) (sc := defScope s_are_nexts) (by decide +kernel)) (fun _ _ _ _ _ => (pg_name (i := 2) sc_are_nexts.nd rfl (Or.inl rfl))) (fun _ _ _ _ _ => pts_nil) (fun _ _ _ _ _ => (pe_and (pe_cmp (pc_din (hu_of hr) (pv 2) (pv 0)) rfl) (pe_one (c_fn O_is_choice hr (by decide) T.g_is_choice pass0 (pa_cons (pe_dget (hu_of hr) (pv 0) (pv 2) (fun _ _ => rfl)) (pa_cons (pv 1) pa_nil))))))) pa_nil))))), ?_⟩
    have hlz : (zsOf xs).length = xs.length := List.length_map ..
    refine ⟨_, rfl, .ref N, .ty "dict", .type "dict", .type "dict", true, rfl, .ty _, .base (.dK hN), kit_ty (by decide +kernel), true, rfl, iteF ?_⟩
    refine ⟨_, rfl, N, kvs, rfl, hN, _, rfl, n, _, rfl, .inr (SqT.of hn), rfl, false, ?_, iteF ?_⟩
    · rw [List.length_map, hlz, hlen, decide_eq_true rfl]
      rfl
    refine ⟨_, rfl, n, rfl, ⟨_, SqT.of hn⟩, fun D nD => lc_it walk_tup (fun i H' => Same H H' ∧ H' D = some (.lst ((List.replicate i true).map V.bl))) ⟨same_new nD, upd_same⟩ (fun i H' _ h => SqT.ext (SqT.of hn) h.1) ?_ ?_⟩
    · rintro i x H1 H' hi ⟨sg, hD⟩ ⟨rfl, hx⟩
      obtain ⟨y, hy, rfl⟩ := zsAt hx
      have hm := List.mem_of_getElem? hy
      obtain ⟨e1, e2, e3, e4⟩ := (hns y hm).ext sg
      refine ⟨rfl, _, rfl, _, rfl, N, _, rfl, dget_of (sg _ _ hN) (hv y hm), true, rfl, iteT ?_⟩
      refine ⟨_, rfl, _, rfl, N, _, rfl, dget_of (sg _ _ hN) (hv y hm), _, rfl, y.2.1, n, y.2.2.ns, zsOf xs, rfl, e1, sg _ _ hn, e2, e3, e4, fun H2 s2 => ?_⟩
      refine ⟨_, s2 _ _ hD, ?_, same_app sg s2 nD, by rw [upd_same, take_rep]⟩
      rw [List.length_map, List.length_replicate]
      rw [List.length_map, hlz] at hi
      exact Nat.lt_of_lt_of_le hi (Nat.le_trans l6 (by decide))
    · rintro H2 ⟨sg, hD⟩
      refine ⟨D, _, rfl, SqL.of hD, ?_⟩
      rw [all_rep]
      exact k H2 sg
/-! ### a program's fields -/
def pgf (tn : Addr) (st : Str) (dP dN : Addr) : List (Str × V) := putF "_nexts" (.ref dN) (putF "_places" (.ref dP) (putF "start" (.str st) (putF "names" (.ref tn) [])))
section
variable (tn : Addr) (st : Str) (dP dN : Addr)
theorem pgf_names : (pgf tn st dP dN).lookup ("names" : Str) = some (.ref tn) := by
  unfold pgf
  rw [lookup_putF, if_neg (by decide +kernel), lookup_putF, if_neg (by decide +kernel), lookup_putF, if_neg (by decide +kernel), lookup_putF, if_pos rfl]
theorem pgf_start : (pgf tn st dP dN).lookup ("start" : Str) = some (.str st) := by
  unfold pgf
  rw [lookup_putF, if_neg (by decide +kernel), lookup_putF, if_neg (by decide +kernel), lookup_putF, if_pos rfl]
theorem pgf_places : (pgf tn st dP dN).lookup ("_places" : Str) = some (.ref dP) := by
  unfold pgf
  rw [lookup_putF, if_neg (by decide +kernel), lookup_putF, if_pos rfl]
theorem pgf_nexts : (pgf tn st dP dN).lookup ("_nexts" : Str) = some (.ref dN) := by
  unfold pgf
  rw [lookup_putF, if_pos rfl]
end
def kvP (xs : List PgE) : List (Key × V) := xs.map fun x => (Sum.inr x.2.2.z, V.ref x.1)
def kvN (xs : List PgE) : List (Key × V) := xs.map fun x => (Sum.inr x.2.2.z, V.ref x.2.1)
/-- at g a program of the rows xs with the start st -/
structure PgA (K : PySem.W.Frag) (H : Hp) (g : Addr) (xs : List PgE) (st : Str) (dx tn dP dN : Addr) : Prop where
  hg : H g = some (.ins (CG K) dx (pgf tn st dP dN))
  hn : H tn = some (.tup ((zsOf xs).map V.str))
  hP : H dP = some (.dK (kvP xs))
  hN : H dN = some (.dK (kvN xs))
  pl : ∀ x ∈ xs, PlE K H x
  ns : ∀ x ∈ xs, NsE H (zsOf xs) x
  nd : (zsOf xs).Nodup
  l1 : 1 ≤ xs.length
  l6 : xs.length ≤ 6
  nm : ∀ z ∈ zsOf xs, nmB z = true
theorem PgA.ext {K : PySem.W.Frag} {H H' : Hp} {g : Addr} {xs : List PgE} {st : Str} {dx tn dP dN : Addr} (h : PgA K H g xs st dx tn dP dN) (s : Same H H') : PgA K H' g xs st dx tn dP dN :=
  ⟨s _ _ h.hg, s _ _ h.hn, s _ _ h.hP, s _ _ h.hN, fun x hx => (h.pl x hx).ext s, fun x hx => (h.ns x hx).ext s, h.nd, h.l1, h.l6, h.nm⟩
/-- all but what stands at d is as it was -/
def SameX (d : Addr) (H H' : Hp) : Prop := ∀ b o, b ≠ d → H b = some o → H' b = some o
theorem SameX.trans {d : Addr} {H H1 H2 : Hp} (a : SameX d H H1) (b : SameX d H1 H2) : SameX d H H2 := fun c o n h => b c o n (a c o n h)
theorem same_x {d : Addr} {H H' : Hp} (s : Same H H') : SameX d H H' := fun b o _ h => s b o h
theorem SameX.upd {d : Addr} {H : Hp} {o : HO} : SameX d H (upd H d o) := fun b u n h => by rw [upd_ne n]; exact h
/-- keys apart: what a row's name finds -/
theorem val_row {f : PgE → V} : ∀ {xs : List PgE} {i : Nat} {x : PgE}, (zsOf xs).Nodup → xs[i]? = some x → valV (xs.map fun y => ((Sum.inr y.2.2.z : Key), f y)) (Sum.inr x.2.2.z) = some (f x)
  | y :: ys, 0, x, nd, h => by
    cases h
    exact valV_pos rfl
  | y :: ys, i + 1, x, nd, h => by
    have h' : ys[i]? = some x := h
    have nd' : (y.2.2.z :: zsOf ys).Nodup := nd
    rw [List.nodup_cons] at nd'
    rw [List.map_cons, valV_neg fun z => nd'.1 ?_]
    · exact val_row nd'.2 h'
    · have : y.2.2.z = x.2.2.z := Sum.inr.inj z
      rw [this]
      exact List.mem_map_of_mem (List.mem_of_getElem? h')
theorem val_miss {f : PgE → V} {z : Str} : ∀ {xs : List PgE}, z ∉ zsOf xs → valV (xs.map fun y => ((Sum.inr y.2.2.z : Key), f y)) (Sum.inr z) = none
  | [], _ => rfl
  | y :: ys, h => by
    have h1 : ¬ y.2.2.z = z := fun e => h (e ▸ List.mem_cons_self ..)
    rw [List.map_cons, valV_neg (fun e => h1 (Sum.inr.inj e))]
    exact val_miss fun hm => h (List.mem_cons_of_mem _ hm)
theorem put_row {f : PgE → V} {xs : List PgE} {i : Nat} {x : PgE} (nd : (zsOf xs).Nodup) (h : xs[i]? = some x) : putK ((xs.take i).map fun y => ((Sum.inr y.2.2.z : Key), f y)) (Sum.inr x.2.2.z) (f x) = (xs.take (i + 1)).map fun y => ((Sum.inr y.2.2.z : Key), f y) := by
  have hn : x.2.2.z ∉ zsOf (xs.take i) := fun hm => by
    have h1 : (zsOf (xs.take (i + 1))).Nodup := by
      have : zsOf (xs.take (i + 1)) = (zsOf xs).take (i + 1) := List.map_take ..
      rw [this]
      exact nd.sublist (List.take_sublist _ _)
    rw [List.take_add_one, h] at h1
    have h2 : (zsOf (xs.take i) ++ [x.2.2.z]).Nodup := by simpa [zsOf] using h1
    exact (List.nodup_append.mp h2).2.2 _ hm _ (by simp) rfl
  rw [putK_new _ (val_miss hn), List.take_add_one, h, List.map_append]
  rfl
end
end K32

set_option Elab.async false
set_option linter.all false
set_option pp.deepTerms.threshold 14
set_option pp.maxSteps 2500
set_option maxRecDepth 100000
set_option maxHeartbeats 2000000
namespace K32
open PySem PySem.Spec PyProof.Rows L2 Vf
section
variable {P : Program} {w : World} {K : PySem.W.Frag} {mg : Str → Option Value} {base : Heap}
theorem sc_BadProgram_init : FnScope ["self", "why"] ["self", "why"] (defScope s_BadProgram_init) := ⟨rfl, rfl, rfl, by decide +kernel, rfl, by decide +kernel, by decide +kernel⟩
-- slots: 0 self, 1 why
theorem ok_BadProgram_init {fd : FuncData} (F : FnD K ("BadProgram", some "__init__") "__init__" "BadProgram.__init__" s_BadProgram_init fd) : OkD P w K mg base CX0 1 ("BadProgram", some "__init__") ["self", "why"] [] (spExI K (CBG K) "why") := by
  refine okd F (F.ok sc_BadProgram_init (fun vs H Q E h => ?_) fun cdv A outer s H vs Q E hr h => ⟨tOst K "why" (tVar 0) (tVar 1), PSs.nox ?_, run_exI h⟩) fun _ _ _ _ _ _ us hl => match us, hl with | [_, _], _ => rfl
  · obtain ⟨a, v, rfl, _⟩ := h
    rfl
  · exact pss_one (ps_ost (pv 0) (pv 1))
theorem pl_ne {K : PySem.W.Frag} {H : Hp} {x : PgE} {g dx : Addr} (h : PlE K H x) (hg : H g = some (.ins (CG K) dx [])) : x.1 ≠ g := by
  obtain ⟨dy, e⟩ := h
  refine ne_of e hg fun z => ?_
  injection z with _ _ z
  have := plf_name x.2.2.z x.2.2.l x.2.2.m x.2.2.b
  rw [z] at this
  cases this
/-- the parts of a right program -/
structure PartsOk (K : PySem.W.Frag) (H : Hp) (o : List V → HO) (L N : Addr) (xs : List PgE) : Prop where
  hL : H L = some (o (xs.map fun x => V.ref x.1))
  pl : ∀ x ∈ xs, PlE K H x
  nx : NxA H N xs
  ns : ∀ x ∈ xs, NsE H (zsOf xs) x
  nd : (zsOf xs).Nodup
  l1 : 1 ≤ xs.length
  l6 : xs.length ≤ 6
  nm : ∀ z ∈ zsOf xs, nmB z = true
  ho : o = HO.lst ∨ o = HO.tup
theorem PartsOk.ext {K : PySem.W.Frag} {H H' : Hp} {o : List V → HO} {L N : Addr} {xs : List PgE} (h : PartsOk K H o L N xs) (s : Same H H') : PartsOk K H' o L N xs := ⟨s _ _ h.hL, fun x hx => (h.pl x hx).ext s, h.nx.ext s, fun x hx => (h.ns x hx).ext s, h.nd, h.l1, h.l6, h.nm, h.ho⟩
theorem PartsOk.extX {K : PySem.W.Frag} {H H' : Hp} {o : List V → HO} {L N g dx : Addr} {xs : List PgE} (h : PartsOk K H o L N xs) (hg : H g = some (.ins (CG K) dx [])) (s : SameX g H H') : PartsOk K H' o L N xs := by
  refine ⟨s _ _ (ne_of h.hL hg (by intro z; rcases h.ho with e | e <;> (rw [e] at z; cases z))) h.hL, fun x hx => ?_, ?_, fun x hx => ?_, h.nd, h.l1, h.l6, h.nm, h.ho⟩
  · have n := pl_ne (h.pl x hx) hg
    obtain ⟨dy, e⟩ := h.pl x hx
    exact ⟨dy, s _ _ n e⟩
  · obtain ⟨kvs, h1, h2, h3⟩ := h.nx
    exact ⟨kvs, s _ _ (ne_of h1 hg (by intro z; cases z)) h1, h2, h3⟩
  · obtain ⟨h1, h2⟩ := h.ns x hx
    exact ⟨s _ _ (ne_of h1 hg (by intro z; cases z)) h1, h2⟩
def spPgI (K : PySem.W.Frag) : Sp := fun vs H Q _ => ∃ (g dx L N : Addr) (o : List V → HO) (xs : List PgE) (st : V) (s : Str), vs = [.ref g, .ref L, .ref N, st] ∧ H g = some (.ins (CG K) dx []) ∧ PartsOk K H o L N xs ∧ s ∈ zsOf xs ∧ (st = .str s ∨ (st = .non ∧ (zsOf xs)[0]? = some s)) ∧
  ∀ H' dx tn dP dN, SameX g H H' → PgA K H' g xs s dx tn dP dN → H dP = none → H dN = none → Q .non H'
theorem same_xg {d : Addr} {H H1 H2 : Hp} (a : SameX d H H1) (b : Same H1 H2) : SameX d H H2 := a.trans (same_x b)
theorem sc_Program_init : FnScope ["self", "places", "nexts", "start", "names", "place", "name"] ["self", "places", "nexts", "start"] (defScope s_Program_init) := ⟨rfl, rfl, rfl, by decide +kernel, rfl, by decide +kernel, by decide +kernel⟩
-- slots: 0 self, 1 places, 2 nexts, 3 start, 4 names, 5 place, 6 name
theorem ok_Program_init {fd : FuncData} (F : FunD K "__init__" "Program.__init__" (defArgs s_Program_init) (defBody s_Program_init) (defScope s_Program_init) [] [("start", .non)] (He.fAd K ("Program", some "__init__")) fd) (T : GTxt K mg)
    (O_are_places : OkF P w K mg base CX0 2 "are_places" ["places"] (spArePl K)) (O_are_nexts : OkF P w K mg base CX0 3 "are_nexts" ["nexts", "names"] (spAreNx K)) (O_is_one_of : OkF P w K mg base CX0 1 "is_one_of" ["x", "names"] (spOne K))
    (O_BadProgram_init : OkD P w K mg base CX0 1 ("BadProgram", some "__init__") ["self", "why"] [] (spExI K (CBG K) "why")) :
    FnOk P w K mg base (L2.CX P w) 5 (He.fAd K ("Program", some "__init__")) fd ["self", "places", "nexts", "start"] (spPgI K) := by
  refine F.ok sc_Program_init (fun vs H Q E h => ?_) fun cdv A outer s H vs Q E hr h => ?_
  · obtain ⟨g, dx, L, N, o, xs, st, s, rfl, _⟩ := h
    rfl
  · obtain ⟨g, dx, L, N, o, xs, st, z, rfl, hg, hp, hz, hst, k⟩ := h
    have hpo := hp.ho
    rcases hpo with rfl | rfl
    · refine ⟨_, (pss_cons (ps_if (pt_not (pt_val (c_fn O_are_places hr (by decide) T.g_are_places pass0 (pa_cons (pv 1) pa_nil)))) (pss_one (c_raise T.x_BadProgram O_BadProgram_init hr (by decide) T.g_BadProgram (takes_of rfl rfl rfl rfl) (pa_cons pe_str pa_nil)))
  pss_nil)
  (pss_cons (ps_set (i := 4) sc_Program_init.nd rfl (Or.inl rfl) (pe_callTy call_tuple_of (by rfl) T.z_tuple (by decide +kernel) (pa_cons (pe_lc (own := [("place", 5)]) (g := gName 5) (tt := tYes) (by rfl) sc_Program_init.nd (pi_list (pv 1)) (blkOk_by (N := ["self", "places", "nexts", "start", "names", "place", "name"]) (sc := defScope s_Program_init) (by decide +kernel)) (fun _ _ _ _ _ => (pg_name (i := 5) sc_Program_init.nd rfl (Or.inl rfl))) (fun _ _ _ _ _ => pts_nil) (fun _ _ _ _ _ => (pe_fldK (K := K) rfl (pv 5) rfl))) pa_nil)))
  (pss_cons (ps_if (pt_not (pt_val (c_fn O_are_nexts hr (by decide) T.g_are_nexts pass0 (pa_cons (pv 2) (pa_cons (pv 4) pa_nil))))) (pss_one (c_raise T.x_BadProgram O_BadProgram_init hr (by decide) T.g_BadProgram (takes_of rfl rfl rfl rfl) (pa_cons pe_str pa_nil)))
  pss_nil)
  (pss_cons (ps_if (PW.pt (pw_and (pt_cmpR op_notN (pv 3) pe_non (nomark _)) (pw_and1 (pt_not (pt_val (c_fn O_is_one_of hr (by decide) T.g_is_one_of pass0 (pa_cons (pv 3) (pa_cons (pv 4) pa_nil)))))))) (pss_one (c_raise T.x_BadProgram O_BadProgram_init hr (by decide) T.g_BadProgram (takes_of rfl rfl rfl rfl) (pa_cons pe_str pa_nil)))
  pss_nil)
  (pss_cons (ps_fld (pv 0) (pv 4) rfl)
  (pss_cons (ps_fld (pv 0) (pe_ifExp (pt_cmpR op_isN (pv 3) pe_non (nomark _)) (pe_ix ix_tup (pv 4) pe_int (fun _ _ => rfl)) (pv 3)) rfl)
  (pss_cons (ps_fld (pv 0) (pe_dc (own := [("place", 5)]) (g := gName 5) (tt := tYes) (by rfl) sc_Program_init.nd (pi_list (pv 1)) (blkOk_by (N := ["self", "places", "nexts", "start", "names", "place", "name"]) (sc := defScope s_Program_init) (by decide +kernel)) (fun _ _ _ _ _ => (pg_name (i := 5) sc_Program_init.nd rfl (Or.inl rfl))) (fun _ _ _ _ _ => pts_nil) (fun _ _ _ _ _ => (pe_fldK (K := K) rfl (pv 5) rfl)) (fun _ _ _ _ _ => (pv 5))) rfl)
  (pss_one (ps_fld (pv 0) (pe_dc (own := [("name", 6)]) (g := gName 6) (tt := tYes) (by rfl) sc_Program_init.nd (pi_tup (pv 4)) (blkOk_by (N := ["self", "places", "nexts", "start", "names", "place", "name"]) (sc := defScope s_Program_init) (by decide +kernel)) (fun _ _ _ _ _ => (pg_name (i := 6) sc_Program_init.nd rfl (Or.inl rfl))) (fun _ _ _ _ _ => pts_nil) (fun _ _ _ _ _ => (pv 6)) (fun _ _ _ _ _ => (pe_dget (hu_of hr) (pv 2) (pv 6) (fun _ _ => rfl)))) rfl))))))))), ?_⟩
      have hlz : (zsOf xs).length = xs.length := List.length_map ..
      refine ⟨_, rfl, L, xs, rfl, .inl hp.hL, hp.pl, hp.l1, hp.l6, hp.nd, fun H1 s1 => ⟨true, rfl, iteF ?_⟩⟩
      have hp1 := hp.ext s1
      -- the names
      refine ⟨_, rfl, L, rfl, ⟨_, SqL.of hp1.hL⟩, fun D nD => lc_it walk_list (fun i H' => Same H1 H' ∧ H' D = some (.lst (((zsOf xs).take i).map V.str))) ⟨same_new nD, upd_same⟩ (fun i H' _ h => h.1.seq (SqL.of hp1.hL)) ?_ ?_⟩
      · rintro i x H3 H' hi ⟨sg3, hD3⟩ ⟨rfl, hx⟩
        obtain ⟨y, hy, rfl⟩ := getE hx
        obtain ⟨dy, ey⟩ := (hp1.pl y (List.mem_of_getElem? hy)).ext sg3
        refine ⟨rfl, _, rfl, y.1, _, dy, _, _, rfl, ey, T.c_Place, T.nN, plf_name .., ?_⟩
        refine ⟨_, hD3, ?_, same_app sg3 (Same.refl _) nD, ?_⟩
        · rw [List.length_map, List.length_take]
          rw [List.length_map] at hi
          exact Nat.lt_of_le_of_lt (Nat.min_le_left _ _) (Nat.lt_of_lt_of_le hi (Nat.le_trans hp.l6 (by decide)))
        · rw [upd_same, List.take_add_one, List.map_append]
          have : (zsOf xs)[i]? = some y.2.2.z := by
            unfold zsOf
            rw [List.getElem?_map, hy]
            rfl
          rw [this]
          rfl
      rintro H2 ⟨s12, hD⟩
      rw [List.length_map, ← hlz, List.take_length] at hD
      refine ⟨D, _, rfl, .inl ⟨SqL.of hD, fun tn ntn => ?_⟩⟩
      have s2t := same_new (o := .tup ((zsOf xs).map V.str)) ntn
      have hn : (upd H2 tn (.tup ((zsOf xs).map V.str))) tn = some (.tup ((zsOf xs).map V.str)) := upd_same
      have s3 := s1.trans (s12.trans s2t)
      generalize upd H2 tn (.tup ((zsOf xs).map V.str)) = H3 at hn s3 ⊢
      clear s2t ntn hD nD s12 hp1 s1
      have hp3 := hp.ext s3
      refine ⟨_, rfl, _, rfl, N, tn, xs, rfl, hp3.nx, hn, hp3.ns, hp.l6, fun H4 s34 => ⟨true, rfl, iteF ?_⟩⟩
      have s4 := s3.trans s34
      have hn4 := s34 _ _ hn
      have hg4 := s4 _ _ hg
      have ngt : tn ≠ g := ne_of hn4 hg4 (by intro z; cases z)
      clear hp3 hn s34 s3 H1 H2 H3
      have none_x : ∀ {H5 : Hp} {D : Addr}, SameX g H H5 → D ≠ g → H5 D = none → H D = none := fun {H5 D} x n e => by
        cases q : H D with
        | none => rfl
        | some o =>
          have := x D o n q
          rw [e] at this
          cases this
      have fin : ∀ H5 : Hp, SameX g H H5 → H5 tn = some (.tup ((zsOf xs).map V.str)) → ∀ dP : Addr, H5 dP = some (.dK (kvP xs)) → ∀ dN : Addr, H5 dN = some (.dK (kvN xs)) → H5 g = some (.ins (CG K) dx (pgf tn z dP dN)) → H dP = none → H dN = none → Q .non H5 := fun H5 x5 h1 dP h2 dN h3 h4 h5 h6 => by
        have hq := hp.extX hg x5
        exact k H5 dx tn dP dN x5 ⟨h4, h1, h2, h3, hq.pl, hq.ns, hq.nd, hq.l1, hq.l6, hq.nm⟩ h5 h6
      rcases hst with rfl | ⟨rfl, h0⟩
      · refine ⟨_, rfl, rfl, true, rfl, iteT ⟨_, rfl, _, rfl, .str z, tn, zsOf xs, rfl, SqT.of hn4, .inl ⟨z, rfl, true, by rw [decide_eq_true hz], iteF ?_⟩⟩⟩
        refine ⟨_, rfl, _, rfl, g, _, dx, [], rfl, hg4, T.c_Program, T.nA, (by show 0 < 1000; decide), ?_⟩
        refine ⟨_, rfl, rfl, false, rfl, iteF ⟨_, rfl, _, rfl, g, _, dx, _, rfl, upd_same, T.c_Program, T.nB, (by show 1 < 1000; decide), ?_⟩⟩
        have x5 : SameX g H (upd (upd H4 g (.ins (CG K) dx (putF "names" (.ref tn) []))) g (.ins (CG K) dx (putF "start" (.str z) (putF "names" (.ref tn) [])))) := (same_x s4).trans (SameX.upd.trans SameX.upd)
        have hg5 : (upd (upd H4 g (.ins (CG K) dx (putF "names" (.ref tn) []))) g (.ins (CG K) dx (putF "start" (.str z) (putF "names" (.ref tn) [])))) g = some (.ins (CG K) dx (putF "start" (.str z) (putF "names" (.ref tn) []))) := upd_same
        have hn5 : (upd (upd H4 g (.ins (CG K) dx (putF "names" (.ref tn) []))) g (.ins (CG K) dx (putF "start" (.str z) (putF "names" (.ref tn) [])))) tn = some (.tup ((zsOf xs).map V.str)) := by rw [upd_ne ngt, upd_ne ngt]; exact hn4
        generalize upd (upd H4 g (.ins (CG K) dx (putF "names" (.ref tn) []))) g (.ins (CG K) dx (putF "start" (.str z) (putF "names" (.ref tn) []))) = H5 at x5 hg5 hn5 ⊢
        clear hn4 hg4 s4 H4
        have hp5 := hp.extX hg x5
        refine ⟨_, rfl, L, rfl, ⟨_, SqL.of hp5.hL⟩, fun D nD => dc_it walk_list (fun i H' => Same H5 H' ∧ H' D = some (.dK ((xs.take i).map fun y => ((Sum.inr y.2.2.z : Key), V.ref y.1)))) ⟨same_new nD, by rw [upd_same]; rfl⟩ (fun i H' _ h => h.1.seq (SqL.of hp5.hL)) ?_ ?_⟩
        · rintro i x H6 H' hi ⟨sg, hD⟩ ⟨rfl, hx⟩
          obtain ⟨y, hy, rfl⟩ := getE hx
          obtain ⟨dy, ey⟩ := (hp5.pl y (List.mem_of_getElem? hy)).ext sg
          refine ⟨rfl, _, rfl, y.1, _, dy, _, _, rfl, ey, T.c_Place, T.nN, plf_name .., _, rfl, _, Sum.inr y.2.2.z, rfl, hD, ?_, same_app sg (Same.refl _) nD, ?_⟩
          · rw [List.length_map, List.length_take]
            rw [List.length_map] at hi
            exact Nat.lt_of_le_of_lt (Nat.min_le_left _ _) (Nat.lt_of_lt_of_le hi (Nat.le_trans hp.l6 (by decide)))
          · rw [upd_same, put_row (f := fun y => V.ref y.1) hp.nd hy]
        rintro H6 ⟨s56, hD⟩
        rw [List.length_map, List.take_length] at hD
        have hg6 := s56 _ _ hg5
        have nDg : D ≠ g := ne_of hD hg6 (by intro z; cases z)
        refine ⟨_, rfl, g, _, dx, _, rfl, hg6, T.c_Program, T.nC, (by show 2 < 1000; decide), ?_⟩
        have x7 : SameX g H (upd H6 g (.ins (CG K) dx (putF "_places" (.ref D) (putF "start" (.str z) (putF "names" (.ref tn) []))))) := (x5.trans (same_x s56)).trans SameX.upd
        have hg7 : (upd H6 g (.ins (CG K) dx (putF "_places" (.ref D) (putF "start" (.str z) (putF "names" (.ref tn) []))))) g = some (.ins (CG K) dx (putF "_places" (.ref D) (putF "start" (.str z) (putF "names" (.ref tn) [])))) := upd_same
        have hn7 : (upd H6 g (.ins (CG K) dx (putF "_places" (.ref D) (putF "start" (.str z) (putF "names" (.ref tn) []))))) tn = some (.tup ((zsOf xs).map V.str)) := by rw [upd_ne ngt]; exact s56 _ _ hn5
        have hD7 : (upd H6 g (.ins (CG K) dx (putF "_places" (.ref D) (putF "start" (.str z) (putF "names" (.ref tn) []))))) D = some (.dK (kvP xs)) := by rw [upd_ne nDg]; exact hD
        generalize upd H6 g (.ins (CG K) dx (putF "_places" (.ref D) (putF "start" (.str z) (putF "names" (.ref tn) [])))) = H7 at x7 hg7 hn7 hD7 ⊢
        have nD0 := none_x x5 nDg nD
        clear hg6 hD s56 nD hp5 hn5 hg5 x5 H6 H5
        have hp7 := hp.extX hg x7
        obtain ⟨kvs, hN, hl, hv⟩ := hp7.nx
        refine ⟨_, rfl, tn, rfl, ⟨_, SqT.of hn7⟩, fun D2 nD2 => dc_it walk_tup (fun i H' => Same H7 H' ∧ H' D2 = some (.dK ((xs.take i).map fun y => ((Sum.inr y.2.2.z : Key), V.ref y.2.1)))) ⟨same_new nD2, by rw [upd_same]; rfl⟩ (fun i H' _ h => SqT.ext (SqT.of hn7) h.1) ?_ ?_⟩
        · rintro i x H8 H' hi ⟨sg, hD2⟩ ⟨rfl, hx⟩
          obtain ⟨y, hy, rfl⟩ := zsAt hx
          refine ⟨rfl, _, rfl, _, rfl, _, rfl, N, _, rfl, dget_of (sg _ _ hN) (hv y (List.mem_of_getElem? hy)), _, Sum.inr y.2.2.z, rfl, hD2, ?_, same_app sg (Same.refl _) nD2, ?_⟩
          · rw [List.length_map, List.length_take]
            rw [List.length_map, hlz] at hi
            exact Nat.lt_of_le_of_lt (Nat.min_le_left _ _) (Nat.lt_of_lt_of_le hi (Nat.le_trans hp.l6 (by decide)))
          · rw [upd_same, put_row (f := fun y => V.ref y.2.1) hp.nd hy]
        rintro H8 ⟨s78, hD2⟩
        rw [List.length_map, hlz, List.take_length] at hD2
        have hg8 := s78 _ _ hg7
        have nDg2 : D2 ≠ g := ne_of hD2 hg8 (by intro z; cases z)
        refine ⟨_, rfl, g, _, dx, _, rfl, hg8, T.c_Program, T.nD, (by show 3 < 1000; decide), ?_⟩
        exact fin _ ((x7.trans (same_x s78)).trans SameX.upd) (by rw [upd_ne ngt]; exact s78 _ _ hn7) D (by rw [upd_ne nDg]; exact s78 _ _ hD7) D2 (by rw [upd_ne nDg2]; exact hD2) upd_same nD0 (none_x x7 nDg2 nD2)
      · refine ⟨_, rfl, rfl, false, rfl, iteF ?_⟩
        refine ⟨_, rfl, _, rfl, g, _, dx, [], rfl, hg4, T.c_Program, T.nA, (by show 0 < 1000; decide), ?_⟩
        have a0 : atI ((zsOf xs).map V.str) 0 = some (.str z) := atI_nat (j := 0) (by rw [List.getElem?_map, h0]; rfl)
        have hn4' : (upd H4 g (.ins (CG K) dx (putF "names" (.ref tn) []))) tn = some (.tup ((zsOf xs).map V.str)) := by rw [upd_ne ngt]; exact hn4
        refine ⟨_, rfl, rfl, true, rfl, iteT ⟨_, rfl, tn, _, 0, .str z, rfl, rfl, SqT.of hn4', a0, _, rfl, g, _, dx, _, rfl, upd_same, T.c_Program, T.nB, (by show 1 < 1000; decide), ?_⟩⟩
        clear hn4' a0
        have x5 : SameX g H (upd (upd H4 g (.ins (CG K) dx (putF "names" (.ref tn) []))) g (.ins (CG K) dx (putF "start" (.str z) (putF "names" (.ref tn) [])))) := (same_x s4).trans (SameX.upd.trans SameX.upd)
        have hg5 : (upd (upd H4 g (.ins (CG K) dx (putF "names" (.ref tn) []))) g (.ins (CG K) dx (putF "start" (.str z) (putF "names" (.ref tn) [])))) g = some (.ins (CG K) dx (putF "start" (.str z) (putF "names" (.ref tn) []))) := upd_same
        have hn5 : (upd (upd H4 g (.ins (CG K) dx (putF "names" (.ref tn) []))) g (.ins (CG K) dx (putF "start" (.str z) (putF "names" (.ref tn) [])))) tn = some (.tup ((zsOf xs).map V.str)) := by rw [upd_ne ngt, upd_ne ngt]; exact hn4
        generalize upd (upd H4 g (.ins (CG K) dx (putF "names" (.ref tn) []))) g (.ins (CG K) dx (putF "start" (.str z) (putF "names" (.ref tn) []))) = H5 at x5 hg5 hn5 ⊢
        clear hn4 hg4 s4 H4
        have hp5 := hp.extX hg x5
        refine ⟨_, rfl, L, rfl, ⟨_, SqL.of hp5.hL⟩, fun D nD => dc_it walk_list (fun i H' => Same H5 H' ∧ H' D = some (.dK ((xs.take i).map fun y => ((Sum.inr y.2.2.z : Key), V.ref y.1)))) ⟨same_new nD, by rw [upd_same]; rfl⟩ (fun i H' _ h => h.1.seq (SqL.of hp5.hL)) ?_ ?_⟩
        · rintro i x H6 H' hi ⟨sg, hD⟩ ⟨rfl, hx⟩
          obtain ⟨y, hy, rfl⟩ := getE hx
          obtain ⟨dy, ey⟩ := (hp5.pl y (List.mem_of_getElem? hy)).ext sg
          refine ⟨rfl, _, rfl, y.1, _, dy, _, _, rfl, ey, T.c_Place, T.nN, plf_name .., _, rfl, _, Sum.inr y.2.2.z, rfl, hD, ?_, same_app sg (Same.refl _) nD, ?_⟩
          · rw [List.length_map, List.length_take]
            rw [List.length_map] at hi
            exact Nat.lt_of_le_of_lt (Nat.min_le_left _ _) (Nat.lt_of_lt_of_le hi (Nat.le_trans hp.l6 (by decide)))
          · rw [upd_same, put_row (f := fun y => V.ref y.1) hp.nd hy]
        rintro H6 ⟨s56, hD⟩
        rw [List.length_map, List.take_length] at hD
        have hg6 := s56 _ _ hg5
        have nDg : D ≠ g := ne_of hD hg6 (by intro z; cases z)
        refine ⟨_, rfl, g, _, dx, _, rfl, hg6, T.c_Program, T.nC, (by show 2 < 1000; decide), ?_⟩
        have x7 : SameX g H (upd H6 g (.ins (CG K) dx (putF "_places" (.ref D) (putF "start" (.str z) (putF "names" (.ref tn) []))))) := (x5.trans (same_x s56)).trans SameX.upd
        have hg7 : (upd H6 g (.ins (CG K) dx (putF "_places" (.ref D) (putF "start" (.str z) (putF "names" (.ref tn) []))))) g = some (.ins (CG K) dx (putF "_places" (.ref D) (putF "start" (.str z) (putF "names" (.ref tn) [])))) := upd_same
        have hn7 : (upd H6 g (.ins (CG K) dx (putF "_places" (.ref D) (putF "start" (.str z) (putF "names" (.ref tn) []))))) tn = some (.tup ((zsOf xs).map V.str)) := by rw [upd_ne ngt]; exact s56 _ _ hn5
        have hD7 : (upd H6 g (.ins (CG K) dx (putF "_places" (.ref D) (putF "start" (.str z) (putF "names" (.ref tn) []))))) D = some (.dK (kvP xs)) := by rw [upd_ne nDg]; exact hD
        generalize upd H6 g (.ins (CG K) dx (putF "_places" (.ref D) (putF "start" (.str z) (putF "names" (.ref tn) [])))) = H7 at x7 hg7 hn7 hD7 ⊢
        have nD0 := none_x x5 nDg nD
        clear hg6 hD s56 nD hp5 hn5 hg5 x5 H6 H5
        have hp7 := hp.extX hg x7
        obtain ⟨kvs, hN, hl, hv⟩ := hp7.nx
        refine ⟨_, rfl, tn, rfl, ⟨_, SqT.of hn7⟩, fun D2 nD2 => dc_it walk_tup (fun i H' => Same H7 H' ∧ H' D2 = some (.dK ((xs.take i).map fun y => ((Sum.inr y.2.2.z : Key), V.ref y.2.1)))) ⟨same_new nD2, by rw [upd_same]; rfl⟩ (fun i H' _ h => SqT.ext (SqT.of hn7) h.1) ?_ ?_⟩
        · rintro i x H8 H' hi ⟨sg, hD2⟩ ⟨rfl, hx⟩
          obtain ⟨y, hy, rfl⟩ := zsAt hx
          refine ⟨rfl, _, rfl, _, rfl, _, rfl, N, _, rfl, dget_of (sg _ _ hN) (hv y (List.mem_of_getElem? hy)), _, Sum.inr y.2.2.z, rfl, hD2, ?_, same_app sg (Same.refl _) nD2, ?_⟩
          · rw [List.length_map, List.length_take]
            rw [List.length_map, hlz] at hi
            exact Nat.lt_of_le_of_lt (Nat.min_le_left _ _) (Nat.lt_of_lt_of_le hi (Nat.le_trans hp.l6 (by decide)))
          · rw [upd_same, put_row (f := fun y => V.ref y.2.1) hp.nd hy]
        rintro H8 ⟨s78, hD2⟩
        rw [List.length_map, hlz, List.take_length] at hD2
        have hg8 := s78 _ _ hg7
        have nDg2 : D2 ≠ g := ne_of hD2 hg8 (by intro z; cases z)
        refine ⟨_, rfl, g, _, dx, _, rfl, hg8, T.c_Program, T.nD, (by show 3 < 1000; decide), ?_⟩
        exact fin _ ((x7.trans (same_x s78)).trans SameX.upd) (by rw [upd_ne ngt]; exact s78 _ _ hn7) D (by rw [upd_ne nDg]; exact s78 _ _ hD7) D2 (by rw [upd_ne nDg2]; exact hD2) upd_same nD0 (none_x x7 nDg2 nD2)
    · refine ⟨_, (pss_cons (ps_if (pt_not (pt_val (c_fn O_are_places hr (by decide) T.g_are_places pass0 (pa_cons (pv 1) pa_nil)))) (pss_one (c_raise T.x_BadProgram O_BadProgram_init hr (by decide) T.g_BadProgram (takes_of rfl rfl rfl rfl) (pa_cons pe_str pa_nil)))
  pss_nil)
  (pss_cons (ps_set (i := 4) sc_Program_init.nd rfl (Or.inl rfl) (pe_callTy call_tuple_of (by rfl) T.z_tuple (by decide +kernel) (pa_cons (pe_lc (own := [("place", 5)]) (g := gName 5) (tt := tYes) (by rfl) sc_Program_init.nd (pi_tup (pv 1)) (blkOk_by (N := ["self", "places", "nexts", "start", "names", "place", "name"]) (sc := defScope s_Program_init) (by decide +kernel)) (fun _ _ _ _ _ => (pg_name (i := 5) sc_Program_init.nd rfl (Or.inl rfl))) (fun _ _ _ _ _ => pts_nil) (fun _ _ _ _ _ => (pe_fldK (K := K) rfl (pv 5) rfl))) pa_nil)))
  (pss_cons (ps_if (pt_not (pt_val (c_fn O_are_nexts hr (by decide) T.g_are_nexts pass0 (pa_cons (pv 2) (pa_cons (pv 4) pa_nil))))) (pss_one (c_raise T.x_BadProgram O_BadProgram_init hr (by decide) T.g_BadProgram (takes_of rfl rfl rfl rfl) (pa_cons pe_str pa_nil)))
  pss_nil)
  (pss_cons (ps_if (PW.pt (pw_and (pt_cmpR op_notN (pv 3) pe_non (nomark _)) (pw_and1 (pt_not (pt_val (c_fn O_is_one_of hr (by decide) T.g_is_one_of pass0 (pa_cons (pv 3) (pa_cons (pv 4) pa_nil)))))))) (pss_one (c_raise T.x_BadProgram O_BadProgram_init hr (by decide) T.g_BadProgram (takes_of rfl rfl rfl rfl) (pa_cons pe_str pa_nil)))
  pss_nil)
  (pss_cons (ps_fld (pv 0) (pv 4) rfl)
  (pss_cons (ps_fld (pv 0) (pe_ifExp (pt_cmpR op_isN (pv 3) pe_non (nomark _)) (pe_ix ix_tup (pv 4) pe_int (fun _ _ => rfl)) (pv 3)) rfl)
  (pss_cons (ps_fld (pv 0) (pe_dc (own := [("place", 5)]) (g := gName 5) (tt := tYes) (by rfl) sc_Program_init.nd (pi_tup (pv 1)) (blkOk_by (N := ["self", "places", "nexts", "start", "names", "place", "name"]) (sc := defScope s_Program_init) (by decide +kernel)) (fun _ _ _ _ _ => (pg_name (i := 5) sc_Program_init.nd rfl (Or.inl rfl))) (fun _ _ _ _ _ => pts_nil) (fun _ _ _ _ _ => (pe_fldK (K := K) rfl (pv 5) rfl)) (fun _ _ _ _ _ => (pv 5))) rfl)
  (pss_one (ps_fld (pv 0) (pe_dc (own := [("name", 6)]) (g := gName 6) (tt := tYes) (by rfl) sc_Program_init.nd (pi_tup (pv 4)) (blkOk_by (N := ["self", "places", "nexts", "start", "names", "place", "name"]) (sc := defScope s_Program_init) (by decide +kernel)) (fun _ _ _ _ _ => (pg_name (i := 6) sc_Program_init.nd rfl (Or.inl rfl))) (fun _ _ _ _ _ => pts_nil) (fun _ _ _ _ _ => (pv 6)) (fun _ _ _ _ _ => (pe_dget (hu_of hr) (pv 2) (pv 6) (fun _ _ => rfl)))) rfl))))))))), ?_⟩
      have hlz : (zsOf xs).length = xs.length := List.length_map ..
      refine ⟨_, rfl, L, xs, rfl, .inr hp.hL, hp.pl, hp.l1, hp.l6, hp.nd, fun H1 s1 => ⟨true, rfl, iteF ?_⟩⟩
      have hp1 := hp.ext s1
      -- the names
      refine ⟨_, rfl, L, rfl, ⟨_, SqT.of hp1.hL⟩, fun D nD => lc_it walk_tup (fun i H' => Same H1 H' ∧ H' D = some (.lst (((zsOf xs).take i).map V.str))) ⟨same_new nD, upd_same⟩ (fun i H' _ h => SqT.ext (SqT.of hp1.hL) h.1) ?_ ?_⟩
      · rintro i x H3 H' hi ⟨sg3, hD3⟩ ⟨rfl, hx⟩
        obtain ⟨y, hy, rfl⟩ := getE hx
        obtain ⟨dy, ey⟩ := (hp1.pl y (List.mem_of_getElem? hy)).ext sg3
        refine ⟨rfl, _, rfl, y.1, _, dy, _, _, rfl, ey, T.c_Place, T.nN, plf_name .., ?_⟩
        refine ⟨_, hD3, ?_, same_app sg3 (Same.refl _) nD, ?_⟩
        · rw [List.length_map, List.length_take]
          rw [List.length_map] at hi
          exact Nat.lt_of_le_of_lt (Nat.min_le_left _ _) (Nat.lt_of_lt_of_le hi (Nat.le_trans hp.l6 (by decide)))
        · rw [upd_same, List.take_add_one, List.map_append]
          have : (zsOf xs)[i]? = some y.2.2.z := by
            unfold zsOf
            rw [List.getElem?_map, hy]
            rfl
          rw [this]
          rfl
      rintro H2 ⟨s12, hD⟩
      rw [List.length_map, ← hlz, List.take_length] at hD
      refine ⟨D, _, rfl, .inl ⟨SqL.of hD, fun tn ntn => ?_⟩⟩
      have s2t := same_new (o := .tup ((zsOf xs).map V.str)) ntn
      have hn : (upd H2 tn (.tup ((zsOf xs).map V.str))) tn = some (.tup ((zsOf xs).map V.str)) := upd_same
      have s3 := s1.trans (s12.trans s2t)
      generalize upd H2 tn (.tup ((zsOf xs).map V.str)) = H3 at hn s3 ⊢
      clear s2t ntn hD nD s12 hp1 s1
      have hp3 := hp.ext s3
      refine ⟨_, rfl, _, rfl, N, tn, xs, rfl, hp3.nx, hn, hp3.ns, hp.l6, fun H4 s34 => ⟨true, rfl, iteF ?_⟩⟩
      have s4 := s3.trans s34
      have hn4 := s34 _ _ hn
      have hg4 := s4 _ _ hg
      have ngt : tn ≠ g := ne_of hn4 hg4 (by intro z; cases z)
      clear hp3 hn s34 s3 H1 H2 H3
      have none_x : ∀ {H5 : Hp} {D : Addr}, SameX g H H5 → D ≠ g → H5 D = none → H D = none := fun {H5 D} x n e => by
        cases q : H D with
        | none => rfl
        | some o =>
          have := x D o n q
          rw [e] at this
          cases this
      have fin : ∀ H5 : Hp, SameX g H H5 → H5 tn = some (.tup ((zsOf xs).map V.str)) → ∀ dP : Addr, H5 dP = some (.dK (kvP xs)) → ∀ dN : Addr, H5 dN = some (.dK (kvN xs)) → H5 g = some (.ins (CG K) dx (pgf tn z dP dN)) → H dP = none → H dN = none → Q .non H5 := fun H5 x5 h1 dP h2 dN h3 h4 h5 h6 => by
        have hq := hp.extX hg x5
        exact k H5 dx tn dP dN x5 ⟨h4, h1, h2, h3, hq.pl, hq.ns, hq.nd, hq.l1, hq.l6, hq.nm⟩ h5 h6
      rcases hst with rfl | ⟨rfl, h0⟩
      · refine ⟨_, rfl, rfl, true, rfl, iteT ⟨_, rfl, _, rfl, .str z, tn, zsOf xs, rfl, SqT.of hn4, .inl ⟨z, rfl, true, by rw [decide_eq_true hz], iteF ?_⟩⟩⟩
        refine ⟨_, rfl, _, rfl, g, _, dx, [], rfl, hg4, T.c_Program, T.nA, (by show 0 < 1000; decide), ?_⟩
        refine ⟨_, rfl, rfl, false, rfl, iteF ⟨_, rfl, _, rfl, g, _, dx, _, rfl, upd_same, T.c_Program, T.nB, (by show 1 < 1000; decide), ?_⟩⟩
        have x5 : SameX g H (upd (upd H4 g (.ins (CG K) dx (putF "names" (.ref tn) []))) g (.ins (CG K) dx (putF "start" (.str z) (putF "names" (.ref tn) [])))) := (same_x s4).trans (SameX.upd.trans SameX.upd)
        have hg5 : (upd (upd H4 g (.ins (CG K) dx (putF "names" (.ref tn) []))) g (.ins (CG K) dx (putF "start" (.str z) (putF "names" (.ref tn) [])))) g = some (.ins (CG K) dx (putF "start" (.str z) (putF "names" (.ref tn) []))) := upd_same
        have hn5 : (upd (upd H4 g (.ins (CG K) dx (putF "names" (.ref tn) []))) g (.ins (CG K) dx (putF "start" (.str z) (putF "names" (.ref tn) [])))) tn = some (.tup ((zsOf xs).map V.str)) := by rw [upd_ne ngt, upd_ne ngt]; exact hn4
        generalize upd (upd H4 g (.ins (CG K) dx (putF "names" (.ref tn) []))) g (.ins (CG K) dx (putF "start" (.str z) (putF "names" (.ref tn) []))) = H5 at x5 hg5 hn5 ⊢
        clear hn4 hg4 s4 H4
        have hp5 := hp.extX hg x5
        refine ⟨_, rfl, L, rfl, ⟨_, SqT.of hp5.hL⟩, fun D nD => dc_it walk_tup (fun i H' => Same H5 H' ∧ H' D = some (.dK ((xs.take i).map fun y => ((Sum.inr y.2.2.z : Key), V.ref y.1)))) ⟨same_new nD, by rw [upd_same]; rfl⟩ (fun i H' _ h => SqT.ext (SqT.of hp5.hL) h.1) ?_ ?_⟩
        · rintro i x H6 H' hi ⟨sg, hD⟩ ⟨rfl, hx⟩
          obtain ⟨y, hy, rfl⟩ := getE hx
          obtain ⟨dy, ey⟩ := (hp5.pl y (List.mem_of_getElem? hy)).ext sg
          refine ⟨rfl, _, rfl, y.1, _, dy, _, _, rfl, ey, T.c_Place, T.nN, plf_name .., _, rfl, _, Sum.inr y.2.2.z, rfl, hD, ?_, same_app sg (Same.refl _) nD, ?_⟩
          · rw [List.length_map, List.length_take]
            rw [List.length_map] at hi
            exact Nat.lt_of_le_of_lt (Nat.min_le_left _ _) (Nat.lt_of_lt_of_le hi (Nat.le_trans hp.l6 (by decide)))
          · rw [upd_same, put_row (f := fun y => V.ref y.1) hp.nd hy]
        rintro H6 ⟨s56, hD⟩
        rw [List.length_map, List.take_length] at hD
        have hg6 := s56 _ _ hg5
        have nDg : D ≠ g := ne_of hD hg6 (by intro z; cases z)
        refine ⟨_, rfl, g, _, dx, _, rfl, hg6, T.c_Program, T.nC, (by show 2 < 1000; decide), ?_⟩
        have x7 : SameX g H (upd H6 g (.ins (CG K) dx (putF "_places" (.ref D) (putF "start" (.str z) (putF "names" (.ref tn) []))))) := (x5.trans (same_x s56)).trans SameX.upd
        have hg7 : (upd H6 g (.ins (CG K) dx (putF "_places" (.ref D) (putF "start" (.str z) (putF "names" (.ref tn) []))))) g = some (.ins (CG K) dx (putF "_places" (.ref D) (putF "start" (.str z) (putF "names" (.ref tn) [])))) := upd_same
        have hn7 : (upd H6 g (.ins (CG K) dx (putF "_places" (.ref D) (putF "start" (.str z) (putF "names" (.ref tn) []))))) tn = some (.tup ((zsOf xs).map V.str)) := by rw [upd_ne ngt]; exact s56 _ _ hn5
        have hD7 : (upd H6 g (.ins (CG K) dx (putF "_places" (.ref D) (putF "start" (.str z) (putF "names" (.ref tn) []))))) D = some (.dK (kvP xs)) := by rw [upd_ne nDg]; exact hD
        generalize upd H6 g (.ins (CG K) dx (putF "_places" (.ref D) (putF "start" (.str z) (putF "names" (.ref tn) [])))) = H7 at x7 hg7 hn7 hD7 ⊢
        have nD0 := none_x x5 nDg nD
        clear hg6 hD s56 nD hp5 hn5 hg5 x5 H6 H5
        have hp7 := hp.extX hg x7
        obtain ⟨kvs, hN, hl, hv⟩ := hp7.nx
        refine ⟨_, rfl, tn, rfl, ⟨_, SqT.of hn7⟩, fun D2 nD2 => dc_it walk_tup (fun i H' => Same H7 H' ∧ H' D2 = some (.dK ((xs.take i).map fun y => ((Sum.inr y.2.2.z : Key), V.ref y.2.1)))) ⟨same_new nD2, by rw [upd_same]; rfl⟩ (fun i H' _ h => SqT.ext (SqT.of hn7) h.1) ?_ ?_⟩
        · rintro i x H8 H' hi ⟨sg, hD2⟩ ⟨rfl, hx⟩
          obtain ⟨y, hy, rfl⟩ := zsAt hx
          refine ⟨rfl, _, rfl, _, rfl, _, rfl, N, _, rfl, dget_of (sg _ _ hN) (hv y (List.mem_of_getElem? hy)), _, Sum.inr y.2.2.z, rfl, hD2, ?_, same_app sg (Same.refl _) nD2, ?_⟩
          · rw [List.length_map, List.length_take]
            rw [List.length_map, hlz] at hi
            exact Nat.lt_of_le_of_lt (Nat.min_le_left _ _) (Nat.lt_of_lt_of_le hi (Nat.le_trans hp.l6 (by decide)))
          · rw [upd_same, put_row (f := fun y => V.ref y.2.1) hp.nd hy]
        rintro H8 ⟨s78, hD2⟩
        rw [List.length_map, hlz, List.take_length] at hD2
        have hg8 := s78 _ _ hg7
        have nDg2 : D2 ≠ g := ne_of hD2 hg8 (by intro z; cases z)
        refine ⟨_, rfl, g, _, dx, _, rfl, hg8, T.c_Program, T.nD, (by show 3 < 1000; decide), ?_⟩
        exact fin _ ((x7.trans (same_x s78)).trans SameX.upd) (by rw [upd_ne ngt]; exact s78 _ _ hn7) D (by rw [upd_ne nDg]; exact s78 _ _ hD7) D2 (by rw [upd_ne nDg2]; exact hD2) upd_same nD0 (none_x x7 nDg2 nD2)
      · refine ⟨_, rfl, rfl, false, rfl, iteF ?_⟩
        refine ⟨_, rfl, _, rfl, g, _, dx, [], rfl, hg4, T.c_Program, T.nA, (by show 0 < 1000; decide), ?_⟩
        have a0 : atI ((zsOf xs).map V.str) 0 = some (.str z) := atI_nat (j := 0) (by rw [List.getElem?_map, h0]; rfl)
        have hn4' : (upd H4 g (.ins (CG K) dx (putF "names" (.ref tn) []))) tn = some (.tup ((zsOf xs).map V.str)) := by rw [upd_ne ngt]; exact hn4
        refine ⟨_, rfl, rfl, true, rfl, iteT ⟨_, rfl, tn, _, 0, .str z, rfl, rfl, SqT.of hn4', a0, _, rfl, g, _, dx, _, rfl, upd_same, T.c_Program, T.nB, (by show 1 < 1000; decide), ?_⟩⟩
        clear hn4' a0
        have x5 : SameX g H (upd (upd H4 g (.ins (CG K) dx (putF "names" (.ref tn) []))) g (.ins (CG K) dx (putF "start" (.str z) (putF "names" (.ref tn) [])))) := (same_x s4).trans (SameX.upd.trans SameX.upd)
        have hg5 : (upd (upd H4 g (.ins (CG K) dx (putF "names" (.ref tn) []))) g (.ins (CG K) dx (putF "start" (.str z) (putF "names" (.ref tn) [])))) g = some (.ins (CG K) dx (putF "start" (.str z) (putF "names" (.ref tn) []))) := upd_same
        have hn5 : (upd (upd H4 g (.ins (CG K) dx (putF "names" (.ref tn) []))) g (.ins (CG K) dx (putF "start" (.str z) (putF "names" (.ref tn) [])))) tn = some (.tup ((zsOf xs).map V.str)) := by rw [upd_ne ngt, upd_ne ngt]; exact hn4
        generalize upd (upd H4 g (.ins (CG K) dx (putF "names" (.ref tn) []))) g (.ins (CG K) dx (putF "start" (.str z) (putF "names" (.ref tn) []))) = H5 at x5 hg5 hn5 ⊢
        clear hn4 hg4 s4 H4
        have hp5 := hp.extX hg x5
        refine ⟨_, rfl, L, rfl, ⟨_, SqT.of hp5.hL⟩, fun D nD => dc_it walk_tup (fun i H' => Same H5 H' ∧ H' D = some (.dK ((xs.take i).map fun y => ((Sum.inr y.2.2.z : Key), V.ref y.1)))) ⟨same_new nD, by rw [upd_same]; rfl⟩ (fun i H' _ h => SqT.ext (SqT.of hp5.hL) h.1) ?_ ?_⟩
        · rintro i x H6 H' hi ⟨sg, hD⟩ ⟨rfl, hx⟩
          obtain ⟨y, hy, rfl⟩ := getE hx
          obtain ⟨dy, ey⟩ := (hp5.pl y (List.mem_of_getElem? hy)).ext sg
          refine ⟨rfl, _, rfl, y.1, _, dy, _, _, rfl, ey, T.c_Place, T.nN, plf_name .., _, rfl, _, Sum.inr y.2.2.z, rfl, hD, ?_, same_app sg (Same.refl _) nD, ?_⟩
          · rw [List.length_map, List.length_take]
            rw [List.length_map] at hi
            exact Nat.lt_of_le_of_lt (Nat.min_le_left _ _) (Nat.lt_of_lt_of_le hi (Nat.le_trans hp.l6 (by decide)))
          · rw [upd_same, put_row (f := fun y => V.ref y.1) hp.nd hy]
        rintro H6 ⟨s56, hD⟩
        rw [List.length_map, List.take_length] at hD
        have hg6 := s56 _ _ hg5
        have nDg : D ≠ g := ne_of hD hg6 (by intro z; cases z)
        refine ⟨_, rfl, g, _, dx, _, rfl, hg6, T.c_Program, T.nC, (by show 2 < 1000; decide), ?_⟩
        have x7 : SameX g H (upd H6 g (.ins (CG K) dx (putF "_places" (.ref D) (putF "start" (.str z) (putF "names" (.ref tn) []))))) := (x5.trans (same_x s56)).trans SameX.upd
        have hg7 : (upd H6 g (.ins (CG K) dx (putF "_places" (.ref D) (putF "start" (.str z) (putF "names" (.ref tn) []))))) g = some (.ins (CG K) dx (putF "_places" (.ref D) (putF "start" (.str z) (putF "names" (.ref tn) [])))) := upd_same
        have hn7 : (upd H6 g (.ins (CG K) dx (putF "_places" (.ref D) (putF "start" (.str z) (putF "names" (.ref tn) []))))) tn = some (.tup ((zsOf xs).map V.str)) := by rw [upd_ne ngt]; exact s56 _ _ hn5
        have hD7 : (upd H6 g (.ins (CG K) dx (putF "_places" (.ref D) (putF "start" (.str z) (putF "names" (.ref tn) []))))) D = some (.dK (kvP xs)) := by rw [upd_ne nDg]; exact hD
        generalize upd H6 g (.ins (CG K) dx (putF "_places" (.ref D) (putF "start" (.str z) (putF "names" (.ref tn) [])))) = H7 at x7 hg7 hn7 hD7 ⊢
        have nD0 := none_x x5 nDg nD
        clear hg6 hD s56 nD hp5 hn5 hg5 x5 H6 H5
        have hp7 := hp.extX hg x7
        obtain ⟨kvs, hN, hl, hv⟩ := hp7.nx
        refine ⟨_, rfl, tn, rfl, ⟨_, SqT.of hn7⟩, fun D2 nD2 => dc_it walk_tup (fun i H' => Same H7 H' ∧ H' D2 = some (.dK ((xs.take i).map fun y => ((Sum.inr y.2.2.z : Key), V.ref y.2.1)))) ⟨same_new nD2, by rw [upd_same]; rfl⟩ (fun i H' _ h => SqT.ext (SqT.of hn7) h.1) ?_ ?_⟩
        · rintro i x H8 H' hi ⟨sg, hD2⟩ ⟨rfl, hx⟩
          obtain ⟨y, hy, rfl⟩ := zsAt hx
          refine ⟨rfl, _, rfl, _, rfl, _, rfl, N, _, rfl, dget_of (sg _ _ hN) (hv y (List.mem_of_getElem? hy)), _, Sum.inr y.2.2.z, rfl, hD2, ?_, same_app sg (Same.refl _) nD2, ?_⟩
          · rw [List.length_map, List.length_take]
            rw [List.length_map, hlz] at hi
            exact Nat.lt_of_le_of_lt (Nat.min_le_left _ _) (Nat.lt_of_lt_of_le hi (Nat.le_trans hp.l6 (by decide)))
          · rw [upd_same, put_row (f := fun y => V.ref y.2.1) hp.nd hy]
        rintro H8 ⟨s78, hD2⟩
        rw [List.length_map, hlz, List.take_length] at hD2
        have hg8 := s78 _ _ hg7
        have nDg2 : D2 ≠ g := ne_of hD2 hg8 (by intro z; cases z)
        refine ⟨_, rfl, g, _, dx, _, rfl, hg8, T.c_Program, T.nD, (by show 3 < 1000; decide), ?_⟩
        exact fin _ ((x7.trans (same_x s78)).trans SameX.upd) (by rw [upd_ne ngt]; exact s78 _ _ hn7) D (by rw [upd_ne nDg]; exact s78 _ _ hD7) D2 (by rw [upd_ne nDg2]; exact hD2) upd_same nD0 (none_x x7 nDg2 nD2)
theorem O_Program2k {fd : FuncData} (F : FunD K "__init__" "Program.__init__" (defArgs s_Program_init) (defBody s_Program_init) (defScope s_Program_init) [] [("start", .non)] (He.fAd K ("Program", some "__init__")) fd) (G : FnOk P w K mg base (L2.CX P w) 5 (He.fAd K ("Program", some "__init__")) fd ["self", "places", "nexts", "start"] (spPgI K)) :
    OkK P w K mg base (L2.CX P w) 5 ("Program", some "__init__") ["self", "places", "nexts", "start"] 3 ["start"] (fun vs zs => vs ++ zs) (spPgI K) := by
  obtain ⟨mv, b⟩ := F.kbinds0 (ps := ["self", "places", "nexts", "start"]) 3 ["start"] [] (fun us _ ws => us ++ ws) (by decide) (fun _ h => nomatch h) (fun r1 _ r4 => r1.append r4)
    fun D doc pm an cdv ct us mv ws h1 h3 h4 => match us, mv, ws, h1, h3, h4 with | [_, _, _], [], [_], _, _, _ => rfl
  exact ⟨fd, _, G, b⟩
theorem O_Program2 {fd : FuncData} (F : FunD K "__init__" "Program.__init__" (defArgs s_Program_init) (defBody s_Program_init) (defScope s_Program_init) [] [("start", .non)] (He.fAd K ("Program", some "__init__")) fd) (G : FnOk P w K mg base (L2.CX P w) 5 (He.fAd K ("Program", some "__init__")) fd ["self", "places", "nexts", "start"] (spPgI K)) :
    OkK P w K mg base (L2.CX P w) 5 ("Program", some "__init__") ["self", "places", "nexts", "start"] 3 [] (fun vs _ => vs ++ [.non]) (spPgI K) := by
  obtain ⟨mv, b⟩ := F.kbinds0 (ps := ["self", "places", "nexts", "start"]) 3 [] [("start", .non)] (fun us mv _ => us ++ mv) (by decide) (fun _ h => h) (fun r1 r2 _ => r1.append r2)
    fun D doc pm an cdv ct us mv ws h1 h3 h4 => match us, mv, ws, h1, h3, h4 with | [_, _, _], [_], [], _, _, _ => ⟨_, _, _, _, _, _, rfl, rfl, rfl⟩
  exact ⟨fd, _, G, b⟩
end
end K32

set_option Elab.async false
set_option linter.all false
set_option pp.deepTerms.threshold 14
set_option pp.maxSteps 2500
set_option maxRecDepth 100000
set_option maxHeartbeats 2000000
namespace K32
open PySem PySem.Spec PyProof.Rows L2 Vf
section
variable {P : Program} {w : World} {K : PySem.W.Frag} {mg : Str → Option Value} {base : Heap}
structure GMeth (K : PySem.W.Frag) : Prop where
  p_eq : Meth K (He.ga K "Place") "__eq__" (He.fAd K ("Place", some "__eq__"))
  p_ne : PySem.W.findIn K (.ref (He.ga K "Place")) "__ne__" = some (some (.builtin "object.__ne__"))
  m_eq : Meth K (He.ga K "Program") "__eq__" (He.fAd K ("Program", some "__eq__"))
  m_ne : PySem.W.findIn K (.ref (He.ga K "Program")) "__ne__" = some (some (.builtin "object.__ne__"))
  m_contains : Meth K (He.ga K "Program") "__contains__" (He.fAd K ("Program", some "__contains__"))
  m_getitem : Meth K (He.ga K "Program") "__getitem__" (He.fAd K ("Program", some "__getitem__"))
  f_getitem : PySem.W.fnIn K (He.fAd K ("Program", some "__getitem__")) = true
theorem sc_NoPlace_init : FnScope ["self", "name"] ["self", "name"] (defScope s_NoPlace_init) := ⟨rfl, rfl, rfl, by decide +kernel, rfl, by decide +kernel, by decide +kernel⟩
-- slots: 0 self, 1 name
abbrev CNP (K : PySem.W.Frag) : Addr := He.ga K "NoPlace"
theorem ok_NoPlace_init {fd : FuncData} (F : FnD K ("NoPlace", some "__init__") "__init__" "NoPlace.__init__" s_NoPlace_init fd) : OkD P w K mg base CX0 1 ("NoPlace", some "__init__") ["self", "name"] [] (spExI K (CNP K) "name") := by
  refine okd F (F.ok sc_NoPlace_init (fun vs H Q E h => ?_) fun cdv A outer s H vs Q E hr h => ⟨tOst K "name" (tVar 0) (tVar 1), PSs.nox ?_, run_exI h⟩) fun _ _ _ _ _ _ us hl => match us, hl with | [_, _], _ => rfl
  · obtain ⟨a, v, rfl, _⟩ := h
    rfl
  · exact pss_one (ps_ost (pv 0) (pv 1))
theorem sc_Program_contains : FnScope ["self", "x"] ["self", "x"] (defScope s_Program_contains) := ⟨rfl, rfl, rfl, by decide +kernel, rfl, by decide +kernel, by decide +kernel⟩
-- slots: 0 self, 1 x
def spCon (K : PySem.W.Frag) : Sp := fun vs H Q _ => ∃ (g : Addr) (x : V) (xs : List PgE) (st : Str) (dx tn dP dN : Addr), vs = [.ref g, x] ∧ PgA K H g xs st dx tn dP dN ∧ ((∃ z, x = .str z ∧ Q (.bl (decide (z ∈ zsOf xs))) H) ∨ (OddS H x ∧ Q (.bl false) H))
theorem ok_Program_contains {fd : FuncData} (F : FnD K ("Program", some "__contains__") "__contains__" "Program.__contains__" s_Program_contains fd) (T : GTxt K mg) (O_is_one_of : OkF P w K mg base CX0 1 "is_one_of" ["x", "names"] (spOne K)) : OkM P w K mg base CX0 2 "Program" "__contains__" ["self", "x"] (spCon K) := by
  refine okd F (F.ok sc_Program_contains (fun vs H Q E h => ?_) fun cdv A outer s H vs Q E hr h => ?_) fun _ _ _ _ _ _ us hl => match us, hl with | [_, _], _ => rfl
  · obtain ⟨g, x, xs, st, dx, tn, dP, dN, rfl, _⟩ := h
    rfl
  · obtain ⟨g, x, xs, st, dx, tn, dP, dN, rfl, hp, h⟩ := h
    refine ⟨_, PSs.nox (pss_one (ps_ret (c_fn O_is_one_of hr (by decide) T.g_is_one_of pass0 (pa_cons (pv 1) (pa_cons (pe_fld (pv 0) rfl) pa_nil))))), ?_⟩
    exact ⟨_, rfl, _, rfl, g, _, dx, _, _, rfl, hp.hg, T.c_Program, T.nA, pgf_names .., x, tn, zsOf xs, rfl, SqT.of hp.hn, h⟩
theorem sc_Program_getitem : FnScope ["self", "at"] ["self", "at"] (defScope s_Program_getitem) := ⟨rfl, rfl, rfl, by decide +kernel, rfl, by decide +kernel, by decide +kernel⟩
-- slots: 0 self, 1 at
def spGet (K : PySem.W.Frag) : Sp := fun vs H Q E => ∃ (g : Addr) (x : V) (xs : List PgE) (st : Str) (dx tn dP dN : Addr), vs = [.ref g, x] ∧ PgA K H g xs st dx tn dP dN ∧
  ((∃ (i : Nat) (y : PgE), xs[i]? = some y ∧ x = .str y.2.2.z ∧ Q (.ref y.1) H) ∨ (((∃ z, x = .str z ∧ z ∉ zsOf xs) ∨ OddS H x) ∧ ∀ d, H d = none → E (.ref (CNP K)) (some d) (upd H d (.xd [("name", x)]))))
theorem ok_Program_getitem {fd : FuncData} (F : FnD K ("Program", some "__getitem__") "__getitem__" "Program.__getitem__" s_Program_getitem fd) (T : GTxt K mg) (M : GMeth K) (O_contains : OkM P w K mg base CX0 2 "Program" "__contains__" ["self", "x"] (spCon K))
    (O_NoPlace_init : OkD P w K mg base CX0 1 ("NoPlace", some "__init__") ["self", "name"] [] (spExI K (CNP K) "name")) : OkM P w K mg base (L2.CX P w) 4 "Program" "__getitem__" ["self", "at"] (spGet K) := by
  refine okd F (F.ok sc_Program_getitem (fun vs H Q E h => ?_) fun cdv A outer s H vs Q E hr h => ?_) fun _ _ _ _ _ _ us hl => match us, hl with | [_, _], _ => rfl
  · obtain ⟨g, x, xs, st, dx, tn, dP, dN, rfl, _⟩ := h
    rfl
  · obtain ⟨g, x, xs, st, dx, tn, dP, dN, rfl, hp, h⟩ := h
    refine ⟨_, (pss_cons (ps_if (pt_cmpR (op_notInO M.m_contains O_contains hr (by decide)) (pv 1) (pv 0) rfl) (pss_one (c_raise T.x_NoPlace O_NoPlace_init hr (by decide) T.g_NoPlace (takes_of rfl rfl rfl rfl) (pa_cons (pv 1) pa_nil)))
  pss_nil)
  (pss_one (ps_ret (pe_dget (hu_of hr) (pe_fld (pv 0) rfl) (pv 1) (fun _ _ => rfl))))), ?_⟩
    rcases h with ⟨i, y, hy, rfl, q⟩ | ⟨hx, q⟩
    · have hm : y.2.2.z ∈ zsOf xs := List.mem_map_of_mem (List.mem_of_getElem? hy)
      refine ⟨_, rfl, _, rfl, g, dx, _, rfl, hp.hg, g, _, xs, st, dx, tn, dP, dN, rfl, hp, .inl ⟨_, rfl, _, rfl, false, by rw [decide_eq_true hm]; rfl, iteF ?_⟩⟩
      exact ⟨_, rfl, g, _, dx, _, _, rfl, hp.hg, T.c_Program, T.nC, pgf_places .., _, rfl, dP, _, rfl, dget_of hp.hP (val_row (f := fun y => V.ref y.1) hp.nd hy), q⟩
    · rcases hx with ⟨z, rfl, hz⟩ | o
      · exact ⟨_, rfl, _, rfl, g, dx, _, rfl, hp.hg, g, _, xs, st, dx, tn, dP, dN, rfl, hp, .inl ⟨_, rfl, _, rfl, true, by rw [decide_eq_false hz]; rfl, iteT ⟨_, rfl, _, rfl, fun d hd => q d hd⟩⟩⟩
      · exact ⟨_, rfl, _, rfl, g, dx, _, rfl, hp.hg, g, _, xs, st, dx, tn, dP, dN, rfl, hp, .inr ⟨o, _, rfl, true, rfl, iteT ⟨_, rfl, _, rfl, fun d hd => q d hd⟩⟩⟩
/-! ### two programs -/
def plOf (xs : List PgE) : List (Str × Int × Int × Bool) := xs.map fun x => (x.2.2.z, x.2.2.l, x.2.2.m, x.2.2.b)
def nsOf (xs : List PgE) : List (List Str) := xs.map fun x => x.2.2.ns
def pgB (xs xs' : List PgE) (st st' : Str) : Bool := decide (zsOf xs = zsOf xs') && (decide (plOf xs = plOf xs') && (decide (nsOf xs = nsOf xs') && decide (st = st')))
def zipAll (f : PgE → PgE → Bool) : List PgE → List PgE → Bool
  | y :: ys, y' :: ys' => f y y' && zipAll f ys ys'
  | _, _ => true
def plE (y y' : PgE) : Bool := plB y.2.2.z y'.2.2.z y.2.2.l y'.2.2.l y.2.2.m y'.2.2.m y.2.2.b y'.2.2.b
def nsE (y y' : PgE) : Bool := decide (y.2.2.ns = y'.2.2.ns)
theorem cons_dec {α : Type} [DecidableEq α] (a a' : α) (l l' : List α) : decide (a :: l = a' :: l') = (decide (a = a') && decide (l = l')) := by
  rw [Bool.eq_iff_iff]
  simp
theorem zip_pl : ∀ {ys ys' : List PgE}, ys.length = ys'.length → zipAll plE ys ys' = decide (plOf ys = plOf ys')
  | [], [], _ => rfl
  | y :: ys, y' :: ys', h => by
    have e : plE y y' = decide ((y.2.2.z, y.2.2.l, y.2.2.m, y.2.2.b) = (y'.2.2.z, y'.2.2.l, y'.2.2.m, y'.2.2.b)) := by
      unfold plE plB
      rw [Bool.eq_iff_iff]
      simp [Prod.ext_iff]
    show (plE y y' && zipAll plE ys ys') = decide ((y.2.2.z, y.2.2.l, y.2.2.m, y.2.2.b) :: plOf ys = (y'.2.2.z, y'.2.2.l, y'.2.2.m, y'.2.2.b) :: plOf ys')
    rw [cons_dec, zip_pl (Nat.succ.inj h), e]
theorem zip_ns : ∀ {ys ys' : List PgE}, ys.length = ys'.length → zipAll nsE ys ys' = decide (nsOf ys = nsOf ys')
  | [], [], _ => rfl
  | y :: ys, y' :: ys', h => by
    show (nsE y y' && zipAll nsE ys ys') = decide (y.2.2.ns :: nsOf ys = y'.2.2.ns :: nsOf ys')
    rw [cons_dec, zip_ns (Nat.succ.inj h)]
    rfl
theorem hits_rows {D : V → V → Bool → Prop} {f : PgE → V} {r : PgE → PgE → Bool} {xs' : List PgE} (nd : (zsOf xs').Nodup) : ∀ {ys ys' : List PgE}, (∀ y ∈ ys', ∃ i : Nat, xs'[i]? = some y) → zsOf ys = zsOf ys' → (∀ y ∈ ys, ∀ y' ∈ ys', D (f y) (f y') (r y y')) →
    DHits D (xs'.map fun y => ((Sum.inr y.2.2.z : Key), f y)) (ys.map fun y => ((Sum.inr y.2.2.z : Key), f y)) (zipAll r ys ys')
  | [], [], _, _, _ => .nil
  | [], _ :: _, _, h, _ => nomatch h
  | _ :: _, [], _, h, _ => nomatch h
  | y :: ys, y' :: ys', hi, hz, hd => by
    have h1 : y.2.2.z = y'.2.2.z := (List.cons.inj hz).1
    have h2 : zsOf ys = zsOf ys' := (List.cons.inj hz).2
    obtain ⟨i, e⟩ := hi y' (List.mem_cons_self ..)
    refine .hit (y := f y') ?_ (hd y (List.mem_cons_self ..) y' (List.mem_cons_self ..)) (hits_rows nd (fun v hv => hi v (List.mem_cons_of_mem _ hv)) h2 fun v hv v' hv' => hd v (List.mem_cons_of_mem _ hv) v' (List.mem_cons_of_mem _ hv'))
    rw [h1]
    exact val_row nd e
def strD (zs : List Str) : PyData := .tuple (zs.map PyData.str)
theorem strs_dp {H : Hp} : ∀ {zs : List Str}, DpAll K H (zs.map V.str) (zs.map PyData.str)
  | [] => .nil
  | _ :: _ => .cons (.str _) strs_dp
theorem strs_eq : ∀ {zs zs' : List Str}, PyData.eqvAll (zs.map PyData.str) (zs'.map PyData.str) = decide (zs = zs')
  | [], [] => rfl
  | [], _ :: _ => rfl
  | _ :: _, [] => rfl
  | z :: zs, z' :: zs' => by
    rw [cons_dec]
    show ((z == z') && PyData.eqvAll (zs.map PyData.str) (zs'.map PyData.str)) = _
    rw [strs_eq]
    rfl
end
end K32

set_option Elab.async false
set_option linter.all false
set_option pp.deepTerms.threshold 14
set_option pp.maxSteps 2500
set_option maxRecDepth 100000
set_option maxHeartbeats 2000000
namespace K32
open PySem PySem.Spec PyProof.Rows L2 Vf
section
variable {P : Program} {w : World} {K : PySem.W.Frag} {mg : Str → Option Value} {base : Heap}
structure RTxt (K : PySem.W.Frag) (mg : Str → Option Value) : Prop extends GTxt K mg where
  z_range : mg "range" = none
  z_sum : mg "sum" = none
  i_MOST_PERIOD : ∃ t, mg "MOST_PERIOD" = some (.int 8 t)
  i_MOST_RUN_TICKS : ∃ t, mg "MOST_RUN_TICKS" = some (.int 2000 t)
  g_Sampler : mg "Sampler" = some (.ref (He.ga K "Sampler"))
  g_BadSampler : mg "BadSampler" = some (.ref (He.ga K "BadSampler"))
  c_Sampler : Cls K (He.ga K "Sampler")
  m_Sampler : Mk K (He.ga K "Sampler") (He.fAd K ("Sampler", some "__init__"))
  sP : NoAttr K (He.ga K "Sampler") "period"
  sJ : NoAttr K (He.ga K "Sampler") "jitter"
  sF : NoAttr K (He.ga K "Sampler") "phase"
  x_BadSampler : ExI K "BadSampler" "why"
  g_Record : mg "Record" = some (.ref (He.ga K "Record"))
  c_Record : Cls K (He.ga K "Record")
  m_Record : Mk K (He.ga K "Record") (He.fAd K ("Record", some "__init__"))
  rA : NoAttr K (He.ga K "Record") "ticks"
  rB : NoAttr K (He.ga K "Record") "times"
  rC : NoAttr K (He.ga K "Record") "notes"
  rD : NoAttr K (He.ga K "Record") "waiting"
  rE : NoAttr K (He.ga K "Record") "lost"
  g_check_phase : mg "check_phase" = some (.ref (He.ga K "check_phase"))
  g_record_of : mg "record_of" = some (.ref (He.ga K "record_of"))
  g_BadPhase : mg "BadPhase" = some (.ref (He.ga K "BadPhase"))
  g_NoTicks : mg "NoTicks" = some (.ref (He.ga K "NoTicks"))
  x_BadPhase : ExI K "BadPhase" "phase"
  e_NoTicks : (He.Fa.exc "NoTicks").ok K = true
/-! ### a sampler's fields -/
def saf (n i : Int) (f : V) : List (Str × V) := putF "phase" f (putF "jitter" (.int i) (putF "period" (.int n) []))
theorem saf_period (n i : Int) (f : V) : (saf n i f).lookup ("period" : Str) = some (.int n) := by
  unfold saf
  rw [lookup_putF, if_neg (by decide +kernel), lookup_putF, if_neg (by decide +kernel), lookup_putF, if_pos rfl]
theorem saf_jitter (n i : Int) (f : V) : (saf n i f).lookup ("jitter" : Str) = some (.int i) := by
  unfold saf
  rw [lookup_putF, if_neg (by decide +kernel), lookup_putF, if_pos rfl]
theorem saf_phase (n i : Int) (f : V) : (saf n i f).lookup ("phase" : Str) = some f := by
  unfold saf
  rw [lookup_putF, if_pos rfl]
theorem saf_with (n i : Int) (f : V) : (saf n i f).lookup ("with_values" : Str) = none := by
  unfold saf
  rw [lookup_putF, if_neg (by decide +kernel), lookup_putF, if_neg (by decide +kernel), lookup_putF, if_neg (by decide +kernel)]
  rfl
/-- at p a sampler -/
def SaA (C : Addr) (H : Hp) (p : Addr) (n i : Int) (f : V) : Prop := ∃ dx, H p = some (.ins C dx (saf n i f))
theorem SaA.ext {C : Addr} {H H' : Hp} {p : Addr} {n i : Int} {f : V} (h : SaA C H p n i f) (s : Same H H') : SaA C H' p n i f := by
  obtain ⟨dx, e⟩ := h
  exact ⟨dx, s _ _ e⟩
abbrev CS (K : PySem.W.Frag) : Addr := He.ga K "Sampler"
abbrev CBS (K : PySem.W.Frag) : Addr := He.ga K "BadSampler"
theorem sc_BadSampler_init : FnScope ["self", "why"] ["self", "why"] (defScope s_BadSampler_init) := ⟨rfl, rfl, rfl, by decide +kernel, rfl, by decide +kernel, by decide +kernel⟩
-- slots: 0 self, 1 why
theorem ok_BadSampler_init {fd : FuncData} (F : FnD K ("BadSampler", some "__init__") "__init__" "BadSampler.__init__" s_BadSampler_init fd) : OkD P w K mg base CX0 1 ("BadSampler", some "__init__") ["self", "why"] [] (spExI K (CBS K) "why") := by
  refine okd F (F.ok sc_BadSampler_init (fun vs H Q E h => ?_) fun cdv A outer s H vs Q E hr h => ⟨tOst K "why" (tVar 0) (tVar 1), PSs.nox ?_, run_exI h⟩) fun _ _ _ _ _ _ us hl => match us, hl with | [_, _], _ => rfl
  · obtain ⟨a, v, rfl, _⟩ := h
    rfl
  · exact pss_one (ps_ost (pv 0) (pv 1))
/-- an int or another value -/
def Any (H : Hp) (x : V) : Prop := (∃ q : Int, x = .int q) ∨ Odd H x
theorem Any.ext {H H' : Hp} {x : V} (o : Any H x) (s : Same H H') : Any H' x := o.imp id fun o => o.ext s
/-- what a sampler is refused for -/
inductive SaIn (H : Hp) (x j f : V) : Str → Prop where
  | period (h : NotFr H x 1 8) : SaIn H x j f "period"
  | jitter (n : Int) (hx : x = .int n) (n1 : 1 ≤ n) (n2 : n ≤ 8) (h : NotFr H j 0 (n - 1)) : SaIn H x j f "jitter"
  | phase (n i : Int) (hx : x = .int n) (n1 : 1 ≤ n) (n2 : n ≤ 8) (hj : j = .int i) (i0 : 0 ≤ i) (i1 : i ≤ n - 1) (hf : f ≠ .non) (h : NotFr H f 0 (n - 1)) : SaIn H x j f "phase"
def PhOk (f : V) (n : Int) : Prop := f = .non ∨ ∃ q : Int, f = .int q ∧ 0 ≤ q ∧ q ≤ n - 1
/-- the parts of a sampler that is made -/
def SaOk (x j f : V) (n i : Int) : Prop := x = .int n ∧ 1 ≤ n ∧ n ≤ 8 ∧ j = .int i ∧ 0 ≤ i ∧ i ≤ n - 1 ∧ PhOk f n
theorem SaIn.ext {H H' : Hp} {x j f : V} {w : Str} (h : SaIn H x j f w) (s : Same H H') : SaIn H' x j f w := by
  cases h with
  | period h => exact .period (h.ext s)
  | jitter n hx n1 n2 h => exact .jitter n hx n1 n2 (h.ext s)
  | phase n i hx n1 n2 hj i0 i1 hf h => exact .phase n i hx n1 n2 hj i0 i1 hf (h.ext s)
def spSaI (K : PySem.W.Frag) : Sp := fun vs H Q E => ∃ (p dx : Addr) (x j f : V), vs = [.ref p, x, j, f] ∧ H p = some (.ins (CS K) dx []) ∧
  ((∃ w, SaIn H x j f w ∧ ∀ d, H d = none → E (.ref (CBS K)) (some d) (upd H d (.xd [("why", .str w)]))) ∨
   (∃ n i, SaOk x j f n i ∧ Q .non (upd H p (.ins (CS K) dx (saf n i f)))))
theorem sc_Sampler_init : FnScope ["self", "period", "jitter", "phase"] ["self", "period", "jitter", "phase"] (defScope s_Sampler_init) := ⟨rfl, rfl, rfl, by decide +kernel, rfl, by decide +kernel, by decide +kernel⟩
-- slots: 0 self, 1 period, 2 jitter, 3 phase
theorem ok_Sampler_init {fd : FuncData} (F : FunD K "__init__" "Sampler.__init__" (defArgs s_Sampler_init) (defBody s_Sampler_init) (defScope s_Sampler_init) [.int 0] [("phase", .int 0)] (He.fAd K ("Sampler", some "__init__")) fd) (T : RTxt K mg)
    (O_is_integer_from : OkF P w K mg base CX0 2 "is_integer_from" ["x", "low", "high"] spFr)
    (O_BadSampler_init : OkD P w K mg base CX0 1 ("BadSampler", some "__init__") ["self", "why"] [] (spExI K (CBS K) "why")) :
    FnOk P w K mg base (L2.CX P w) 4 (He.fAd K ("Sampler", some "__init__")) fd ["self", "period", "jitter", "phase"] (spSaI K) := by
  refine F.ok sc_Sampler_init (fun vs H Q E h => ?_) fun cdv A outer s H vs Q E hr h => ?_
  · obtain ⟨p, dx, x, j, f, rfl, _⟩ := h
    rfl
  · obtain ⟨p, dx, x, j, f, rfl, hp, h⟩ := h
    refine ⟨_, (pss_cons (ps_if (pt_not (pt_val (c_fn O_is_integer_from hr (by decide) T.g_is_integer_from pass0 (pa_cons (pv 1) (pa_cons pe_int (pa_cons (c_gint T.i_MOST_PERIOD) pa_nil)))))) (pss_one (c_raise T.x_BadSampler O_BadSampler_init hr (by decide) T.g_BadSampler (takes_of rfl rfl rfl rfl) (pa_cons pe_str pa_nil)))
  pss_nil)
  (pss_cons (ps_if (pt_not (pt_val (c_fn O_is_integer_from hr (by decide) T.g_is_integer_from pass0 (pa_cons (pv 2) (pa_cons pe_int (pa_cons (pe_op op_sub (pv 1) pe_int) pa_nil)))))) (pss_one (c_raise T.x_BadSampler O_BadSampler_init hr (by decide) T.g_BadSampler (takes_of rfl rfl rfl rfl) (pa_cons pe_str pa_nil)))
  pss_nil)
  (pss_cons (ps_if (PW.pt (pw_and (pt_cmpR op_notN (pv 3) pe_non (nomark _)) (pw_and1 (pt_not (pt_val (c_fn O_is_integer_from hr (by decide) T.g_is_integer_from pass0 (pa_cons (pv 3) (pa_cons pe_int (pa_cons (pe_op op_sub (pv 1) pe_int) pa_nil))))))))) (pss_one (c_raise T.x_BadSampler O_BadSampler_init hr (by decide) T.g_BadSampler (takes_of rfl rfl rfl rfl) (pa_cons pe_str pa_nil)))
  pss_nil)
  (pss_cons (ps_fld (pv 0) (pv 1) rfl)
  (pss_cons (ps_fld (pv 0) (pv 2) rfl)
  (pss_one (ps_fld (pv 0) (pv 3) rfl))))))), ?_⟩
    rcases h with ⟨w, hi, k⟩ | ⟨n, i, ⟨rfl, n1, n2, rfl, i0, i1, hf⟩, k⟩
    · cases hi with
      | period h => exact ⟨_, rfl, _, _, _, rfl, .inr ⟨h, false, rfl, iteT ⟨_, rfl, fun d hd => k d hd⟩⟩⟩
      | jitter n hx n1 n2 h =>
        subst hx
        refine ⟨_, rfl, _, _, _, rfl, .inl ⟨n, rfl, n1, n2, true, rfl, iteF ?_⟩⟩
        exact ⟨_, rfl, _, rfl, n, 1, rfl, rfl, _, _, _, rfl, .inr ⟨h, false, rfl, iteT ⟨_, rfl, fun d hd => k d hd⟩⟩⟩
      | phase n i hx n1 n2 hj i0 i1 hf h =>
        subst hx hj
        refine ⟨_, rfl, _, _, _, rfl, .inl ⟨n, rfl, n1, n2, true, rfl, iteF ?_⟩⟩
        refine ⟨_, rfl, _, rfl, n, 1, rfl, rfl, _, _, _, rfl, .inl ⟨i, rfl, i0, i1, true, rfl, iteF ?_⟩⟩
        exact ⟨_, rfl, rfl, true, by rw [decide_eq_false hf]; rfl, iteT ⟨_, rfl, _, rfl, n, 1, rfl, rfl, _, _, _, rfl, .inr ⟨h, false, rfl, iteT ⟨_, rfl, fun d hd => k d hd⟩⟩⟩⟩
    · refine ⟨_, rfl, _, _, _, rfl, .inl ⟨n, rfl, n1, n2, true, rfl, iteF ?_⟩⟩
      refine ⟨_, rfl, _, rfl, n, 1, rfl, rfl, _, _, _, rfl, .inl ⟨i, rfl, i0, i1, true, rfl, iteF ?_⟩⟩
      rcases hf with rfl | ⟨q, rfl, q0, q1⟩
      · refine ⟨_, rfl, rfl, false, rfl, iteF ?_⟩
        refine ⟨_, rfl, _, rfl, p, _, dx, [], rfl, hp, T.c_Sampler, T.sP, (by show 0 < 1000; decide), ?_⟩
        refine ⟨_, rfl, _, rfl, p, _, dx, _, rfl, upd_same, T.c_Sampler, T.sJ, (by show 1 < 1000; decide), ?_⟩
        rw [upd_upd]
        refine ⟨_, rfl, _, rfl, p, _, dx, _, rfl, upd_same, T.c_Sampler, T.sF, (by show 2 < 1000; decide), ?_⟩
        rw [upd_upd]
        exact k
      · refine ⟨_, rfl, rfl, true, rfl, iteT ⟨_, rfl, _, rfl, n, 1, rfl, rfl, _, _, _, rfl, .inl ⟨q, rfl, q0, q1, true, rfl, iteF ?_⟩⟩⟩
        refine ⟨_, rfl, _, rfl, p, _, dx, [], rfl, hp, T.c_Sampler, T.sP, (by show 0 < 1000; decide), ?_⟩
        refine ⟨_, rfl, _, rfl, p, _, dx, _, rfl, upd_same, T.c_Sampler, T.sJ, (by show 1 < 1000; decide), ?_⟩
        rw [upd_upd]
        refine ⟨_, rfl, _, rfl, p, _, dx, _, rfl, upd_same, T.c_Sampler, T.sF, (by show 2 < 1000; decide), ?_⟩
        rw [upd_upd]
        exact k
/-- Sampler(period, jitter, phase=f), Sampler(period) -/
theorem O_Sampler2k {fd : FuncData} (F : FunD K "__init__" "Sampler.__init__" (defArgs s_Sampler_init) (defBody s_Sampler_init) (defScope s_Sampler_init) [.int 0] [("phase", .int 0)] (He.fAd K ("Sampler", some "__init__")) fd) (G : FnOk P w K mg base (L2.CX P w) 4 (He.fAd K ("Sampler", some "__init__")) fd ["self", "period", "jitter", "phase"] (spSaI K)) :
    OkK P w K mg base (L2.CX P w) 4 ("Sampler", some "__init__") ["self", "period", "jitter", "phase"] 3 ["phase"] (fun vs zs => vs ++ zs) (spSaI K) := by
  obtain ⟨its, mv, b⟩ := F.kbinds (ps := ["self", "period", "jitter", "phase"]) 3 ["phase"] [] (fun us _ _ ws => us ++ ws) (by decide) (by decide) (fun _ h => nomatch h) (fun r1 _ _ r4 => r1.append r4)
    fun T D doc pm an cdv ct us its mv ws h1 h2 h3 h4 => match us, its, mv, ws, h1, h2, h3, h4 with | [_, _, _], [_], [], [_], _, _, _, _ => ⟨_, rfl, rfl⟩
  exact ⟨fd, _, G, b⟩
theorem O_Sampler1 {fd : FuncData} (F : FunD K "__init__" "Sampler.__init__" (defArgs s_Sampler_init) (defBody s_Sampler_init) (defScope s_Sampler_init) [.int 0] [("phase", .int 0)] (He.fAd K ("Sampler", some "__init__")) fd) (G : FnOk P w K mg base (L2.CX P w) 4 (He.fAd K ("Sampler", some "__init__")) fd ["self", "period", "jitter", "phase"] (spSaI K)) :
    OkK P w K mg base (L2.CX P w) 4 ("Sampler", some "__init__") ["self", "period", "jitter", "phase"] 2 [] (fun vs _ => vs ++ [.int 0, .int 0]) (spSaI K) := by
  obtain ⟨its, mv, b⟩ := F.kbinds (ps := ["self", "period", "jitter", "phase"]) 2 [] [("phase", .int 0)] (fun us its mv _ => us ++ (its ++ mv)) (by decide) (by decide) (fun _ h => h) (fun r1 r2 r3 _ => r1.append (r2.append r3))
    fun T D doc pm an cdv ct us its mv ws h1 h2 h3 h4 => match us, its, mv, ws, h1, h2, h3, h4 with | [_, _], [_], [_], [], _, _, _, _ => ⟨_, rfl, _, _, _, _, _, _, rfl, rfl, rfl⟩
  exact ⟨fd, _, G, b⟩
end
end K32

set_option Elab.async false
set_option linter.all false
set_option pp.deepTerms.threshold 14
set_option pp.maxSteps 2500
set_option maxRecDepth 100000
set_option maxHeartbeats 2000000
namespace K32
open PySem PySem.Spec PyProof.Rows L2 Vf
section
variable {P : Program} {w : World} {K : PySem.W.Frag} {mg : Str → Option Value} {base : Heap}
abbrev CR (K : PySem.W.Frag) : Addr := He.ga K "Record"
def rcf (t : Int) (ti no : Addr) (w : Bool) (lo : Int) : List (Str × V) := putF "lost" (.int lo) (putF "waiting" (.bl w) (putF "notes" (.ref no) (putF "times" (.ref ti) (putF "ticks" (.int t) []))))
theorem rcf_ticks (t : Int) (ti no : Addr) (w : Bool) (lo : Int) : (rcf t ti no w lo).lookup ("ticks" : Str) = some (.int t) := by
  unfold rcf
  rw [lookup_putF, if_neg (by decide +kernel), lookup_putF, if_neg (by decide +kernel), lookup_putF, if_neg (by decide +kernel), lookup_putF, if_neg (by decide +kernel), lookup_putF, if_pos rfl]
theorem rcf_times (t : Int) (ti no : Addr) (w : Bool) (lo : Int) : (rcf t ti no w lo).lookup ("times" : Str) = some (.ref ti) := by
  unfold rcf
  rw [lookup_putF, if_neg (by decide +kernel), lookup_putF, if_neg (by decide +kernel), lookup_putF, if_neg (by decide +kernel), lookup_putF, if_pos rfl]
theorem rcf_notes (t : Int) (ti no : Addr) (w : Bool) (lo : Int) : (rcf t ti no w lo).lookup ("notes" : Str) = some (.ref no) := by
  unfold rcf
  rw [lookup_putF, if_neg (by decide +kernel), lookup_putF, if_neg (by decide +kernel), lookup_putF, if_pos rfl]
theorem rcf_waiting (t : Int) (ti no : Addr) (w : Bool) (lo : Int) : (rcf t ti no w lo).lookup ("waiting" : Str) = some (.bl w) := by
  unfold rcf
  rw [lookup_putF, if_neg (by decide +kernel), lookup_putF, if_pos rfl]
theorem rcf_lost (t : Int) (ti no : Addr) (w : Bool) (lo : Int) : (rcf t ti no w lo).lookup ("lost" : Str) = some (.int lo) := by
  unfold rcf
  rw [lookup_putF, if_pos rfl]
theorem sc_Record_init : FnScope ["self", "ticks", "times", "notes", "waiting", "lost"] ["self", "ticks", "times", "notes", "waiting", "lost"] (defScope s_Record_init) := ⟨rfl, rfl, rfl, by decide +kernel, rfl, by decide +kernel, by decide +kernel⟩
-- slots: 0 self, 1 ticks, 2 times, 3 notes, 4 waiting, 5 lost
def spRecI (K : PySem.W.Frag) : Sp := fun vs H Q _ => ∃ (r dx ti no : Addr) (t lo : Int) (w : Bool), vs = [.ref r, .int t, .ref ti, .ref no, .bl w, .int lo] ∧ H r = some (.ins (CR K) dx []) ∧ Q .non (upd H r (.ins (CR K) dx (rcf t ti no w lo)))
theorem ok_Record_init {fd : FuncData} (F : FnD K ("Record", some "__init__") "__init__" "Record.__init__" s_Record_init fd) (T : RTxt K mg) : OkD P w K mg base CX0 1 ("Record", some "__init__") ["self", "ticks", "times", "notes", "waiting", "lost"] [] (spRecI K) := by
  refine okd F (F.ok sc_Record_init (fun vs H Q E h => ?_) fun cdv A outer s H vs Q E hr h => ?_) fun _ _ _ _ _ _ us hl => match us, hl with | [_, _, _, _, _, _], _ => rfl
  · obtain ⟨r, dx, ti, no, t, lo, w, rfl, _⟩ := h
    rfl
  · obtain ⟨r, dx, ti, no, t, lo, w, rfl, hr1, k⟩ := h
    refine ⟨_, PSs.nox (pss_cons (ps_fld (pv 0) (pv 1) rfl)
  (pss_cons (ps_fld (pv 0) (pv 2) rfl)
  (pss_cons (ps_fld (pv 0) (pv 3) rfl)
  (pss_cons (ps_fld (pv 0) (pv 4) rfl)
  (pss_one (ps_fld (pv 0) (pv 5) rfl)))))), ?_⟩
    refine ⟨_, rfl, _, rfl, r, _, dx, [], rfl, hr1, T.c_Record, T.rA, (by show 0 < 1000; decide), ?_⟩
    refine ⟨_, rfl, _, rfl, r, _, dx, _, rfl, upd_same, T.c_Record, T.rB, (by show 1 < 1000; decide), ?_⟩
    rw [upd_upd]
    refine ⟨_, rfl, _, rfl, r, _, dx, _, rfl, upd_same, T.c_Record, T.rC, (by show 2 < 1000; decide), ?_⟩
    rw [upd_upd]
    refine ⟨_, rfl, _, rfl, r, _, dx, _, rfl, upd_same, T.c_Record, T.rD, (by show 3 < 1000; decide), ?_⟩
    rw [upd_upd]
    refine ⟨_, rfl, _, rfl, r, _, dx, _, rfl, upd_same, T.c_Record, T.rE, (by show 4 < 1000; decide), ?_⟩
    rw [upd_upd]
    exact k
/-! ### looks -/
def lkV : Option Int → V
  | none => .non
  | some q => .int q
theorem lk_scal (o : Option Int) (q : Int) : scal (lkV o) (.int q) = true := by cases o <;> rfl
theorem lk_eq (o : Option Int) (q : Int) : decide (lkV o = .int q) = decide (o = some q) := by
  cases o with
  | none => rfl
  | some p => exact decide_eq_decide.mpr ⟨fun h => by rw [V.int.inj h], fun h => by rw [Option.some.inj h]; rfl⟩
/-- at the spot-th place a look comes due -/
def dueAt (lks : List (Option Int)) (n spot : Nat) : Bool := decide (lks.getD (spot / n) none = some ((spot % n : Nat) : Int))
end
end K32

set_option Elab.async false
set_option linter.all false
set_option pp.deepTerms.threshold 14
set_option pp.maxSteps 2500
set_option maxRecDepth 100000
set_option maxHeartbeats 2000000
namespace K32
open PySem PySem.Spec PyProof.Rows L2 Vf
section
variable {P : Program} {w : World} {K : PySem.W.Frag} {mg : Str → Option Value} {base : Heap}
/-! ### notes -/
def nStep (lt : Str → Bool) (s : List (Nat × Str) × Bool × Nat) (p : Str × Bool) : List (Nat × Str) × Bool × Nat :=
  if ((s.2.1 || p.2) && lt p.1) = true then (s.1 ++ [(s.2.2, p.1)], false, s.2.2 + 1) else (s.1, s.2.1 || p.2, s.2.2 + 1)
def nRun (lt : Str → Bool) (l : List (Str × Bool)) : List (Nat × Str) × Bool × Nat := l.foldl (nStep lt) ([], false, 0)
theorem nRun_snoc (lt : Str → Bool) (l : List (Str × Bool)) (p : Str × Bool) : nRun lt (l ++ [p]) = nStep lt (nRun lt l) p := by
  unfold nRun
  rw [List.foldl_append]
  rfl
theorem nStep_tick (lt : Str → Bool) (s : List (Nat × Str) × Bool × Nat) (p : Str × Bool) : (nStep lt s p).2.2 = s.2.2 + 1 := by
  unfold nStep
  split <;> rfl
theorem fold_tick (lt : Str → Bool) : ∀ (l : List (Str × Bool)) (s : List (Nat × Str) × Bool × Nat), (l.foldl (nStep lt) s).2.2 = s.2.2 + l.length
  | [], _ => rfl
  | p :: l, s => by
    rw [List.foldl_cons, fold_tick lt l, nStep_tick, List.length_cons]
    omega
theorem nRun_tick (lt : Str → Bool) (l : List (Str × Bool)) : (nRun lt l).2.2 = l.length := by
  have h := fold_tick lt l ([], false, 0)
  unfold nRun
  rw [h]
  exact Nat.zero_add _
theorem nStep_len (lt : Str → Bool) (s : List (Nat × Str) × Bool × Nat) (p : Str × Bool) : (nStep lt s p).1.length ≤ s.1.length + 1 := by
  unfold nStep
  split
  · show (s.1 ++ [_]).length ≤ _
    rw [List.length_append]
    exact Nat.le_refl _
  · exact Nat.le_succ _
theorem fold_len (lt : Str → Bool) : ∀ (l : List (Str × Bool)) (s : List (Nat × Str) × Bool × Nat), (l.foldl (nStep lt) s).1.length ≤ s.1.length + l.length
  | [], _ => Nat.le_refl _
  | p :: l, s => by
    rw [List.foldl_cons, List.length_cons]
    exact Nat.le_trans (fold_len lt l _) (by have := nStep_len lt s p; omega)
theorem nRun_len (lt : Str → Bool) (l : List (Str × Bool)) : (nRun lt l).1.length ≤ l.length := by
  have h := fold_len lt l ([], false, 0)
  exact Nat.le_trans h (by simp)
/-- the place of this name is let -/
def letQ (xs : List PgE) (z : Str) : Bool := match xs.find? (fun x => x.2.2.z == z) with
  | some x => x.2.2.b
  | none => false
theorem find_row {xs : List PgE} (nd : (zsOf xs).Nodup) {i : Nat} {x : PgE} (h : xs[i]? = some x) : xs.find? (fun y => y.2.2.z == x.2.2.z) = some x := by
  induction xs generalizing i with
  | nil => cases h
  | cons a xs ih =>
    have nd' : a.2.2.z ∉ zsOf xs ∧ (zsOf xs).Nodup := List.nodup_cons.mp nd
    cases i with
    | zero =>
      cases h
      rw [List.find?_cons, beq_self_eq_true]
    | succ i =>
      have hm : x.2.2.z ∈ zsOf xs := List.mem_map_of_mem (List.mem_of_getElem? h)
      rw [List.find?_cons, show (a.2.2.z == x.2.2.z) = false from beq_eq_false_iff_ne.mpr fun e => nd'.1 (e ▸ hm)]
      exact ih nd'.2 h
theorem letQ_row {xs : List PgE} (nd : (zsOf xs).Nodup) {i : Nat} {x : PgE} (h : xs[i]? = some x) : letQ xs x.2.2.z = x.2.2.b := by
  unfold letQ
  rw [find_row nd h]
/-- the list of notes at no -/
def NotesA (H : Hp) (no : Addr) (ns : List (Nat × Str)) : Prop := ∃ rs : List Addr, H no = some (.lst (rs.map V.ref)) ∧ Paired (fun r (p : Nat × Str) => H r = some (.tup [.int (p.1 : Int), .str p.2])) rs ns
theorem paired_imp {α β : Type} {R S : α → β → Prop} (h : ∀ a b, R a b → S a b) : ∀ {xs : List α} {ys : List β}, Paired R xs ys → Paired S xs ys
  | _, _, .nil => .nil
  | _, _, .cons r p => .cons (h _ _ r) (paired_imp h p)
theorem paired_snoc {α β : Type} {R : α → β → Prop} {a : α} {b : β} (r : R a b) : ∀ {xs : List α} {ys : List β}, Paired R xs ys → Paired R (xs ++ [a]) (ys ++ [b])
  | _, _, .nil => .cons r .nil
  | _, _, .cons q p => .cons q (paired_snoc r p)
theorem NotesA.ext {H H' : Hp} {no : Addr} {ns : List (Nat × Str)} (h : NotesA H no ns) (s : Same H H') : NotesA H' no ns := by
  obtain ⟨rs, h1, h2⟩ := h
  exact ⟨rs, s _ _ h1, paired_imp (fun _ _ q => s _ _ q) h2⟩
theorem NotesA.add {H : Hp} {no t : Addr} {ns : List (Nat × Str)} {k : Nat} {z : Str} {vs : List V} (h : NotesA H no ns) (hv : H no = some (.lst vs)) (ht : H t = some (.tup [.int (k : Int), .str z])) : NotesA (upd H no (.lst (vs ++ [.ref t]))) no (ns ++ [(k, z)]) := by
  obtain ⟨rs, h1, h2⟩ := h
  rw [hv] at h1
  cases h1
  refine ⟨rs ++ [t], by rw [upd_same, List.map_append]; rfl, paired_snoc ?_ (paired_imp (fun r p q => ?_) h2)⟩
  · rw [upd_ne (ne_of ht hv (by intro z; cases z))]
    exact ht
  · rw [upd_ne (ne_of q hv (by intro z; cases z))]
    exact q
theorem NotesA.len {H : Hp} {no : Addr} {ns : List (Nat × Str)} (h : NotesA H no ns) : ∃ vs, H no = some (.lst vs) ∧ vs.length = ns.length := by
  obtain ⟨rs, h1, h2⟩ := h
  exact ⟨_, h1, by rw [List.length_map, paired_len h2]⟩
def cntN (zs : List Str) (z : Str) : Nat := (zs.map V.str).countP fun v => eqV v (.str z)
def kvT (xs : List PgE) (zs : List Str) : List (Key × V) := xs.map fun x => (Sum.inr x.2.2.z, V.int (cntN zs x.2.2.z : Int))
def cntT (ds : List Bool) : Nat := (ds.map V.bl).countP fun v => eqV v (.bl true)
def recLost (lt : Str → Bool) (l : List (Str × Bool)) : Int := (cntT (l.map (·.2)) : Int) - ((nRun lt l).1.length : Int) - (if (nRun lt l).2.1 = true then 1 else 0)
/-- the record at r of the ticks l -/
structure RecA (K : PySem.W.Frag) (H : Hp) (r : Addr) (xs : List PgE) (l : List (Str × Bool)) (dx ti no : Addr) : Prop where
  hr : H r = some (.ins (CR K) dx (rcf (l.length : Int) ti no (nRun (letQ xs) l).2.1 (recLost (letQ xs) l)))
  ht : H ti = some (.dK (kvT xs (l.map (·.1))))
  hn : NotesA H no (nRun (letQ xs) l).1
theorem RecA.ext {K : PySem.W.Frag} {H H' : Hp} {r : Addr} {xs : List PgE} {l : List (Str × Bool)} {dx ti no : Addr} (h : RecA K H r xs l dx ti no) (s : Same H H') : RecA K H' r xs l dx ti no := ⟨s _ _ h.hr, s _ _ h.ht, h.hn.ext s⟩
theorem row_of {xs : List PgE} {z : Str} (h : z ∈ zsOf xs) : ∃ (i : Nat) (y : PgE), xs[i]? = some y ∧ y.2.2.z = z := by
  obtain ⟨y, hy, e⟩ := List.mem_map.mp h
  obtain ⟨i, hi⟩ := List.mem_iff_getElem?.mp hy
  exact ⟨i, y, hi, e⟩
theorem sc_record_of : FnScope ["program", "names", "dues", "notes", "waiting", "tick", "name", "times", "lost"] ["program", "names", "dues"] (defScope s_record_of) := ⟨rfl, rfl, rfl, by decide +kernel, rfl, by decide +kernel, by decide +kernel⟩
-- slots: 0 program, 1 names, 2 dues, 3 notes, 4 waiting, 5 tick, 6 name, 7 times, 8 lost
def spRecOf (K : PySem.W.Frag) : Sp := fun vs H Q _ => ∃ (g N D : Addr) (xs : List PgE) (st : Str) (dx tn dP dN : Addr) (l : List (Str × Bool)), vs = [.ref g, .ref N, .ref D] ∧ PgA K H g xs st dx tn dP dN ∧ SqL K H N ((l.map (·.1)).map V.str) ∧ SqL K H D ((l.map (·.2)).map V.bl) ∧ l.length ≤ 10000 ∧ (∀ p ∈ l, p.1 ∈ zsOf xs) ∧
  ∀ H' r dr ti no, Same H H' → RecA K H' r xs l dr ti no → H ti = none → H no = none → Q (.ref r) H'
theorem ok_record_of {fd : FuncData} (F : FnD K ("record_of", none) "record_of" "record_of" s_record_of fd) (T : RTxt K mg) (M : GMeth K) (O_getitem : OkM P w K mg base (L2.CX P w) 4 "Program" "__getitem__" ["self", "at"] (spGet K)) (O_Record_init5 : OkD P w K mg base CX0 1 ("Record", some "__init__") ["self", "ticks", "times", "notes", "waiting", "lost"] [] (spRecI K)) :
    OkF P w K mg base CX0 6 "record_of" ["program", "names", "dues"] (spRecOf K) := by
  refine okd F (F.ok sc_record_of (fun vs H Q E h => ?_) fun cdv A outer s H vs Q E hr h => ?_) fun _ _ _ _ _ _ us hl => match us, hl with | [_, _, _], _ => rfl
  · obtain ⟨g, N, D, xs, st, dx, tn, dP, dN, l, rfl, _⟩ := h
    rfl
  · obtain ⟨g, N, D, xs, st, dx, tn, dP, dN, l, rfl, hg, hN, hD, hl, hz, k⟩ := h
    refine ⟨_, PSs.nox (pss_cons (ps_set (i := 3) sc_record_of.nd rfl (Or.inl rfl) (pe_lst pa_nil))
  (pss_cons (ps_set (i := 4) sc_record_of.nd rfl (Or.inl rfl) pe_bl)
  (pss_cons (ps_for PassesOwn.never rfl (pi_enum (by rfl) T.z_enumerate (pa_cons (pv 1) pa_nil)) (pg_tup rfl (pgs_cons (pg_name (i := 5) sc_record_of.nd rfl (Or.inl rfl)) (pgs_cons (pg_name (i := 6) sc_record_of.nd rfl (Or.inl rfl)) pgs_nil)))
  (pss_cons (ps_set (i := 4) sc_record_of.nd rfl (Or.inl rfl) (pe_orB (pv 4) (pe_one (pe_ix ix_list (pv 2) (pv 5) (fun _ _ => rfl)))))
  (pss_one (ps_if (PW.pt (pw_andB (pt_val (pv 4)) (pw_and1 (pt_val (pe_fld (pe_subO (pv 0) (pv 6) M.m_getitem M.f_getitem O_getitem hr (by decide) passL) rfl))))) (pss_cons (ps_expr (pe_bm PySem.F.plainAttrs_list PySem.F.slot_list_append PySem.F.type_list_append mt_append (pv 3) (pa_cons (pe_tup (pa_cons (pv 5) (pa_cons (pv 6) pa_nil))) pa_nil)))
  (pss_one (ps_set (i := 4) sc_record_of.nd rfl (Or.inl rfl) pe_bl)))
  pss_nil))))
  (pss_cons (ps_setDc (i := 7) (own := [("name", 6)]) (g := gName 6) (tt := tYes) (by rfl) sc_record_of.nd rfl rfl (sw_trueD rfl rfl rfl (by decide +kernel)) (pi_tup (pe_fld (pv 0) rfl)) (blkOk_by (N := ["program", "names", "dues", "notes", "waiting", "tick", "name", "times", "lost"]) (sc := defScope s_record_of) (by decide +kernel)) (fun _ _ _ _ _ => (pg_name (i := 6) sc_record_of.nd rfl (Or.inl rfl))) (fun _ _ _ _ _ => pts_nil) (fun _ _ _ _ _ => (pv 6)) (fun _ _ _ _ _ => (pe_bmK (K := K) rfl PySem.F.plainAttrs_list PySem.F.slot_list_count PySem.F.type_list_count (mt_lcountVK (K := K) rfl) (pv 1) (pa_cons (pv 6) pa_nil))))
  (pss_cons (ps_set (i := 8) sc_record_of.nd rfl (Or.inl rfl) (pe_op op_sub (pe_op op_sub (pe_bm PySem.F.plainAttrs_list PySem.F.slot_list_count PySem.F.type_list_count mt_lcountV (pv 2) (pa_cons pe_bl pa_nil)) (pe_callB (id := "len") call_len_seq (by rfl) T.z_len (by decide +kernel) (pa_cons (pv 3) pa_nil))) (pe_callTy call_int1 (by rfl) T.z_int (by decide +kernel) (pa_cons (pv 4) pa_nil))))
  (pss_one (ps_ret (c_mk T.m_Record O_Record_init5 hr (by decide) T.g_Record pass0 (pa_cons (pe_callB (id := "len") call_len_seq (by rfl) T.z_len (by decide +kernel) (pa_cons (pv 1) pa_nil)) (pa_cons (pv 7) (pa_cons (pv 3) (pa_cons (pv 4) (pa_cons (pv 8) pa_nil))))))))))))), ?_⟩
    refine ⟨(by show 0 ≤ sizeLine; decide), fun no nno => ?_⟩
    have s1 := same_new (o := .lst []) nno
    have hno : NotesA (upd H no (.lst [])) no (nRun (letQ xs) (l.take 0)).1 := ⟨[], upd_same, .nil⟩
    refine ⟨_, rfl, N, _, rfl, s1.seq hN, for_it walk_enum (fun i σ H' => Same H H' ∧ NotesA H' no (nRun (letQ xs) (l.take i)).1 ∧ ∃ v5 v6 : Option V, σ = [some (.ref g), some (.ref N), some (.ref D), some (.ref no), some (.bl (nRun (letQ xs) (l.take i)).2.1), v5, v6, none, none]) ⟨s1, hno, none, none, rfl⟩ (fun i σ H' _ h => h.1.seq hN) ?_ ?_⟩
    · clear hno s1
      rintro i x σ H1 H2 hi ⟨sg, hno, v5, v6, rfl⟩ hy
      obtain ⟨T', x', y', rfl, nT', rfl, hx', hz'⟩ := hy
      cases (Option.some.inj hx')
      rw [List.length_map, List.length_map] at hi
      have hp : l[i]? = some l[i] := List.getElem?_eq_getElem hi
      generalize l[i] = p at hp
      obtain ⟨z, d⟩ := p
      obtain rfl : y' = .str z := by
        replace hz' : ((l.map (·.1)).map V.str)[i]? = some y' := hz'
        rw [List.getElem?_map, List.getElem?_map, hp] at hz'
        exact (Option.some.inj hz').symm
      have sT := sg.trans (same_new (o := .tup [.int (i : Nat), .str z]) nT')
      have hno2 := hno.ext (same_new (o := .tup [.int (i : Nat), .str z]) nT')
      refine ⟨T', _, rfl, SqT.of upd_same, rfl, _, _, rfl, _, _, rfl, rfl, ?_⟩
      generalize upd H1 T' (.tup [.int (i : Nat), .str z]) = H2 at sT hno2 ⊢
      clear hno sg nT'
      have hD2 := sT.seq hD
      have hg2 := hg.ext sT
      have htk := nRun_tick (letQ xs) (l.take i)
      rw [List.length_take, Nat.min_eq_left (Nat.le_of_lt hi)] at htk
      have hst : nRun (letQ xs) (l.take (i + 1)) = nStep (letQ xs) (nRun (letQ xs) (l.take i)) (z, d) := by
        rw [List.take_add_one, hp]
        exact nRun_snoc ..
      generalize hns : nRun (letQ xs) (l.take i) = S at hst hno2 htk ⊢
      obtain ⟨ns, w, tk⟩ := S
      replace htk : tk = i := htk
      subst htk
      replace hno2 : NotesA H2 no ns := hno2
      refine ⟨_, rfl, w, d, (· = H2), rfl, fun _ => ⟨_, rfl, _, rfl, D, _, (tk : Int), .bl d, rfl, rfl, hD2, atI_nat (by rw [List.getElem?_map, List.getElem?_map, hp]; rfl), rfl, rfl⟩, fun _ => rfl, fun H3 e => ?_⟩
      subst e
      obtain ⟨iy, y, hy, hyz⟩ := row_of (hz _ (List.mem_of_getElem? hp))
      replace hyz : y.2.2.z = z := hyz
      obtain ⟨d1, e1⟩ := hg2.pl y (List.mem_of_getElem? hy)
      have hlq : letQ xs z = y.2.2.b := by rw [← hyz]; exact letQ_row hg2.nd hy
      refine ⟨_, rfl, w || d, rfl, y.2.2.b, (· = H3), fun _ => ⟨_, rfl, _, rfl, g, dx, _, rfl, hg2.hg, g, _, xs, st, dx, tn, dP, dN, rfl, hg2, .inl ⟨iy, y, hy, by rw [hyz], y.1, _, d1, _, _, rfl, e1, T.c_Place, T.nT, plf_let .., _, rfl, rfl, rfl⟩⟩, fun _ => rfl, fun H4 e => ?_⟩
      subst e
      rw [← hlq]
      have hs2 : nRun (letQ xs) (l.take (tk + 1)) = if ((w || d) && letQ xs z) = true then (ns ++ [(tk, z)], false, tk + 1) else (ns, w || d, tk + 1) := hst
      refine ite_one (fun e => ?_) fun e => ?_
      · rw [if_pos e] at hs2
        obtain ⟨vs, hvs, hvl⟩ := hno2.len
        have hnl : ns.length ≤ 10000 := by
          have h1 := nRun_len (letQ xs) (l.take tk)
          rw [hns, List.length_take] at h1
          have h1 : ns.length ≤ min tk l.length := h1
          omega
        refine ⟨_, rfl, .inl ⟨rfl, _, SqL.of hvs⟩, _, rfl, _, rfl, (by show 2 ≤ sizeLine; decide), fun a na => ?_⟩
        have sa := same_new (o := .tup [.int (tk : Int), .str z]) na
        refine ⟨no, _, _, rfl, rfl, sa _ _ hvs, ?_, ?_⟩
        · rw [hvl]
          exact Nat.lt_of_le_of_lt hnl (by decide)
        · rw [hs2]
          exact ⟨same_app (sT.trans sa) (Same.refl _) nno, (hno2.ext sa).add (sa _ _ hvs) upd_same, _, _, rfl⟩
      · rw [if_neg (by rw [e]; decide)] at hs2
        rw [hs2]
        exact ⟨sT, hno2, _, _, rfl⟩
    · rintro σ H1 ⟨sg, hno, v5, v6, rfl⟩
      rw [List.length_map, List.length_map, List.take_length] at hno ⊢
      clear s1
      generalize hw : nRun (letQ xs) l = S at hno ⊢
      obtain ⟨ns, w, tk⟩ := S
      have hg1 := hg.ext sg
      have hlz : (zsOf xs).length = xs.length := List.length_map ..
      have hN1 := sg.seq hN
      have hD1 := sg.seq hD
      have allN : ((l.map (·.1)).map V.str).all flatV = true := List.all_eq_true.mpr fun v hv => by
        obtain ⟨z, _, rfl⟩ := List.mem_map.mp hv
        rfl
      have allD : ((l.map (·.2)).map V.bl).all flatV = true := List.all_eq_true.mpr fun v hv => by
        obtain ⟨z, _, rfl⟩ := List.mem_map.mp hv
        rfl
      refine ⟨_, rfl, g, _, dx, _, _, rfl, hg1.hg, T.c_Program, T.nA, pgf_names .., tn, rfl, ⟨_, SqT.of hg1.hn⟩, fun TD nTD => dc_it walk_tup (fun i H' => Same H1 H' ∧ H' TD = some (.dK ((xs.take i).map fun y => ((Sum.inr y.2.2.z : Key), V.int (cntN (l.map (·.1)) y.2.2.z : Int))))) ⟨same_new nTD, by rw [upd_same]; rfl⟩ (fun i H' _ h => SqT.ext (SqT.of hg1.hn) h.1) ?_ ?_⟩
      · rintro i x H8 H' hi ⟨s8, hD8⟩ ⟨rfl, hx⟩
        obtain ⟨y, hy, rfl⟩ := zsAt hx
        refine ⟨rfl, _, rfl, _, rfl, .inl ⟨rfl, _, s8.seq hN1⟩, _, rfl, N, _, _, rfl, rfl, s8.seq hN1, rfl, allN, _, Sum.inr y.2.2.z, rfl, hD8, ?_, same_app s8 (Same.refl _) nTD, ?_⟩
        · rw [List.length_map, List.length_take]
          rw [List.length_map, hlz] at hi
          exact Nat.lt_of_le_of_lt (Nat.min_le_left _ _) (Nat.lt_of_lt_of_le hi (Nat.le_trans hg1.l6 (by decide)))
        · rw [upd_same]
          exact congrArg (fun z => some (HO.dK z)) (put_row (f := fun y => V.int (cntN (l.map (·.1)) y.2.2.z : Int)) hg1.nd hy)
      rintro H8 ⟨s18, hT8⟩
      rw [List.length_map, hlz, List.take_length] at hT8
      replace hno := hno.ext s18
      replace hN1 := s18.seq hN1
      replace hD1 := s18.seq hD1
      obtain ⟨vs, hvs, hvl⟩ := hno.len
      have hnT : H TD = none := by
        cases e : H TD with
        | none => rfl
        | some o =>
          have := sg _ _ e
          rw [nTD] at this
          cases this
      refine ⟨_, rfl, .inl ⟨rfl, _, hD1⟩, D, _, _, rfl, rfl, hD1, rfl, allD, _, rfl, no, _, rfl, .inl (SqL.of hvs), _, _, rfl, rfl, _, rfl, .inr ⟨w, rfl, _, _, rfl, rfl, ?_⟩⟩
      refine ⟨_, rfl, N, _, rfl, .inl hN1, _, rfl, _, rfl, _, rfl, _, rfl, fun r dr nr ndr ne => ⟨r, dr, TD, no, _, _, w, rfl, upd_same, ?_⟩⟩
      have sm : Same H8 (upd (upd (upd H8 dr (.own r)) r (.ins (CR K) dr [])) r (.ins (CR K) dr (rcf (((l.map (·.1)).map V.str).length : Int) TD no w (((List.countP (fun z => eqV z (V.bl true)) ((l.map (·.2)).map V.bl) : Nat) : Int) - (vs.length : Int) - (if w = true then 1 else 0))))) := same_make2 nr ndr
      have hrr : (upd (upd (upd H8 dr (.own r)) r (.ins (CR K) dr [])) r (.ins (CR K) dr (rcf (((l.map (·.1)).map V.str).length : Int) TD no w (((List.countP (fun z => eqV z (V.bl true)) ((l.map (·.2)).map V.bl) : Nat) : Int) - (vs.length : Int) - (if w = true then 1 else 0))))) r = some (.ins (CR K) dr (rcf (((l.map (·.1)).map V.str).length : Int) TD no w (((List.countP (fun z => eqV z (V.bl true)) ((l.map (·.2)).map V.bl) : Nat) : Int) - (vs.length : Int) - (if w = true then 1 else 0)))) := upd_same
      refine ⟨rfl, k _ r dr TD no (sg.trans (s18.trans sm)) ⟨?_, sm _ _ hT8, ?_⟩ hnT nno⟩
      · rw [hrr, hw]
        unfold recLost
        rw [hw, hvl, List.length_map, List.length_map]
        rfl
      · rw [hw]
        exact hno.ext sm
end
end K32

set_option Elab.async false
set_option linter.all false
set_option pp.deepTerms.threshold 14
set_option pp.maxSteps 2500
set_option maxRecDepth 100000
set_option maxHeartbeats 2000000
namespace K32
open PySem PySem.Spec PyProof.Rows L2 Vf
section
variable {P : Program} {w : World} {K : PySem.W.Frag} {mg : Str → Option Value} {base : Heap}
theorem sc_Program_nexts : FnScope ["self", "name"] ["self"] (defScope s_Program_nexts) := ⟨rfl, rfl, rfl, by decide +kernel, rfl, by decide +kernel, by decide +kernel⟩
-- slots: 0 self, 1 name
/-- the table of nexts, new -/
def spNxT (K : PySem.W.Frag) : Sp := fun vs H Q _ => ∃ (g : Addr) (xs : List PgE) (st : Str) (dx tn dP dN : Addr), vs = [.ref g] ∧ PgA K H g xs st dx tn dP dN ∧ ∀ H' D, Same H H' → H D = none → H' D = some (.dK (kvN xs)) → Q (.ref D) H'
theorem ok_Program_nexts {fd : FuncData} (F : FunD K "nexts" "Program.nexts" (defArgs s_Program_nexts) (defBody s_Program_nexts) (defScope s_Program_nexts) [] [] (gAd K "Program" "nexts") fd) (pr : PropOf K (He.ga K "Program") "nexts" (He.ma K (He.ga K "Program") "nexts") (gAd K "Program" "nexts")) (T : GTxt K mg) : OkG P w K mg base CX0 1 "Program" "nexts" (spNxT K) := by
  refine ⟨⟨fd, F.ok sc_Program_nexts (fun vs H Q E h => ?_) fun cdv A outer s H vs Q E hr h => ?_, F.bindsN fun _ _ _ _ _ _ us hl => match us, hl with | [_], _ => rfl⟩, pr⟩
  · obtain ⟨g, xs, st, dx, tn, dP, dN, rfl, _⟩ := h
    rfl
  · obtain ⟨g, xs, st, dx, tn, dP, dN, rfl, hp, k⟩ := h
    refine ⟨_, PSs.nox (pss_one (ps_ret (pe_dc (own := [("name", 1)]) (g := gName 1) (tt := tYes) (by rfl) sc_Program_nexts.nd (pi_tup (pe_fld (pv 0) rfl)) (blkOk_by (N := ["self", "name"]) (sc := defScope s_Program_nexts) (by decide +kernel)) (fun _ _ _ _ _ => (pg_name (i := 1) sc_Program_nexts.nd rfl (Or.inl rfl))) (fun _ _ _ _ _ => pts_nil) (fun _ _ _ _ _ => (pv 1)) (fun _ _ _ _ _ => (pe_dget (hu_of hr) (pe_fldK (K := K) rfl (pv 0) rfl) (pv 1) (fun _ _ => rfl)))))), ?_⟩
    have hlz : (zsOf xs).length = xs.length := List.length_map ..
    refine ⟨_, rfl, g, _, dx, _, _, rfl, hp.hg, T.c_Program, T.nA, pgf_names .., tn, rfl, ⟨_, SqT.of hp.hn⟩, fun D nD => dc_it walk_tup (fun i H' => Same H H' ∧ H' D = some (.dK ((xs.take i).map fun y => ((Sum.inr y.2.2.z : Key), V.ref y.2.1)))) ⟨same_new nD, by rw [upd_same]; rfl⟩ (fun i H' _ h => SqT.ext (SqT.of hp.hn) h.1) ?_ ?_⟩
    · rintro i x H8 H' hi ⟨sg, hD2⟩ ⟨rfl, hx⟩
      obtain ⟨y, hy, rfl⟩ := zsAt hx
      have hq := hp.ext sg
      refine ⟨rfl, _, rfl, _, rfl, g, _, dx, _, _, rfl, hq.hg, T.c_Program, T.nD, pgf_nexts .., _, rfl, dN, _, rfl, dget_of hq.hN (val_row (f := fun y => V.ref y.2.1) hp.nd hy), _, Sum.inr y.2.2.z, rfl, hD2, ?_, same_app sg (Same.refl _) nD, ?_⟩
      · rw [List.length_map, List.length_take]
        rw [List.length_map, hlz] at hi
        exact Nat.lt_of_le_of_lt (Nat.min_le_left _ _) (Nat.lt_of_lt_of_le hi (Nat.le_trans hp.l6 (by decide)))
      · rw [upd_same, put_row (f := fun y => V.ref y.2.1) hp.nd hy]
    rintro H8 ⟨s78, hD2⟩
    rw [List.length_map, hlz, List.take_length] at hD2
    exact k H8 D s78 nD hD2
/-- the list of stays at S -/
def StsA (H : Hp) (S : Addr) (sts : List (Str × Int)) : Prop := ∃ rs : List Addr, H S = some (.lst (rs.map V.ref)) ∧ Paired (fun r (p : Str × Int) => H r = some (.tup [.str p.1, .int p.2])) rs sts
theorem StsA.ext {H H' : Hp} {S : Addr} {sts : List (Str × Int)} (h : StsA H S sts) (s : Same H H') : StsA H' S sts := by
  obtain ⟨rs, h1, h2⟩ := h
  exact ⟨rs, s _ _ h1, paired_imp (fun _ _ q => s _ _ q) h2⟩
theorem paired_at {α β : Type} {R : α → β → Prop} : ∀ {xs : List α} {ys : List β} {i : Nat} {x : α}, Paired R xs ys → xs[i]? = some x → ∃ y, ys[i]? = some y ∧ R x y
  | _, _, i, _, .nil, h => by cases h
  | _, _, 0, _, .cons r _, h => by cases h; exact ⟨_, rfl, r⟩
  | _, _, i + 1, _, .cons _ p, h => paired_at (i := i) p h
theorem paired_at2 {α β : Type} {R : α → β → Prop} : ∀ {xs : List α} {ys : List β} {i : Nat} {y : β}, Paired R xs ys → ys[i]? = some y → ∃ x, xs[i]? = some x ∧ R x y
  | _, _, i, _, .nil, h => by cases h
  | _, _, 0, _, .cons r _, h => by cases h; exact ⟨_, rfl, r⟩
  | _, _, i + 1, _, .cons _ p, h => paired_at2 (i := i) p h
/-- the stays are a way through the program -/
structure StsOk (xs : List PgE) (st : Str) (sts : List (Str × Int)) : Prop where
  ne : sts ≠ []
  h0 : ∀ p, sts[0]? = some p → p.1 = st
  hs : ∀ j p, sts[j]? = some p → ∃ (i : Nat) (x : PgE), xs[i]? = some x ∧ x.2.2.z = p.1 ∧ 1 ≤ p.2 ∧ p.2 ≤ x.2.2.m ∧ (j + 1 < sts.length → x.2.2.l ≤ p.2) ∧ ∀ p', sts[j + 1]? = some p' → p'.1 ∈ x.2.2.ns
/-- a look that fits the places lo to hi of its slot -/
def LkFit (lk : V) (lo hi j : Int) : Prop := (lk = .non ∧ (lo > j ∨ hi < j)) ∨ ∃ q : Int, lk = .int q ∧ lo ≤ q ∧ q ≤ hi ∧ q ≤ j
/-- the looks fit the slots of the ticks that count from first to last -/
structure LksOk (n i first last : Int) (lks : List (Option Int)) : Prop where
  len : (lks.length : Int) = last / n + 1
  ok : ∀ (s : Nat) (o : Option Int), lks[s]? = some o → LkFit (lkV o) (if (s : Int) = 0 then first else 0) (if (s : Int) = last / n + 1 - 1 then last % n else n - 1) i
theorem lk_any (H : Hp) (o : Option Int) : Any H (lkV o) := by
  cases o with
  | none => exact .inr .non
  | some q => exact .inl ⟨q, rfl⟩
/-- the ticks' names -/
def namesL (sts : List (Str × Int)) : List Str := sts.flatMap fun p => List.replicate p.2.toNat p.1
def totL (sts : List (Str × Int)) : Int := (sts.map (·.2)).sum
/-- the ticks of a run: their names, and whether a look comes due -/
def runL (sts : List (Str × Int)) (lks : List (Option Int)) (n sh : Nat) : List (Str × Bool) := (namesL sts).zip ((List.range (namesL sts).length).map fun t => dueAt lks n (sh + t))
theorem runL_names (sts : List (Str × Int)) (lks : List (Option Int)) (n sh : Nat) : (runL sts lks n sh).map (·.1) = namesL sts := by
  unfold runL
  exact List.map_fst_zip (by rw [List.length_map, List.length_range]; exact Nat.le_refl _)
theorem runL_dues (sts : List (Str × Int)) (lks : List (Option Int)) (n sh : Nat) : (runL sts lks n sh).map (·.2) = (List.range (namesL sts).length).map fun t => dueAt lks n (sh + t) := by
  unfold runL
  exact List.map_snd_zip (by rw [List.length_map, List.length_range]; exact Nat.le_refl _)
theorem runL_len (sts : List (Str × Int)) (lks : List (Option Int)) (n sh : Nat) : (runL sts lks n sh).length = (namesL sts).length := by
  rw [← runL_names sts lks n sh, List.length_map]
theorem namesL_len : ∀ {sts : List (Str × Int)}, (∀ p ∈ sts, 0 ≤ p.2) → ((namesL sts).length : Int) = totL sts
  | [], _ => rfl
  | p :: sts, h => by
    have ih := namesL_len (sts := sts) fun q hq => h q (List.mem_cons_of_mem _ hq)
    have h0 := h p List.mem_cons_self
    unfold namesL totL at ih ⊢
    rw [List.flatMap_cons, List.length_append, List.length_replicate, List.map_cons, List.sum_cons]
    omega
theorem namesL_mem {sts : List (Str × Int)} {z : Str} (h : z ∈ namesL sts) : ∃ p ∈ sts, p.1 = z := by
  obtain ⟨p, hp, hz⟩ := List.mem_flatMap.mp h
  exact ⟨p, hp, (List.eq_of_mem_replicate hz).symm⟩

theorem none_of {H H1 : Hp} {a : Addr} (s : Same H H1) (n : H1 a = none) : H a = none := by
  cases e : H a with
  | none => rfl
  | some o =>
    have := s _ _ e
    rw [n] at this
    cases this
end
end K32

set_option Elab.async false
set_option linter.all false
set_option pp.deepTerms.threshold 14
set_option pp.maxSteps 2500
set_option maxRecDepth 100000
set_option maxHeartbeats 2000000
namespace K32
open PySem PySem.Spec PyProof.Rows L2 Vf
section
variable {P : Program} {w : World} {K : PySem.W.Frag} {mg : Str → Option Value} {base : Heap}
def PhFit (f : V) (n : Int) (ph : V) : Prop := (f = .non ∧ ∃ q : Int, ph = .int q ∧ 0 ≤ q ∧ q ≤ n - 1) ∨ (f ≠ .non ∧ (ph = .non ∨ ph = f))
theorem sc_check_phase : FnScope ["sampler", "phase", "fits"] ["sampler", "phase"] (defScope s_check_phase) := ⟨rfl, rfl, rfl, by decide +kernel, rfl, by decide +kernel, by decide +kernel⟩
-- slots: 0 sampler, 1 phase, 2 fits
def spChkPh (K : PySem.W.Frag) : Sp := fun vs H Q E => ∃ (p : Addr) (ph : V) (n i : Int) (f : V), vs = [.ref p, ph] ∧ SaA (CS K) H p n i f ∧ 1 ≤ n ∧ n ≤ 8 ∧ PhOk f n ∧ Any H ph ∧ (PhFit f n ph → Q .non H) ∧ (¬ PhFit f n ph → ∀ d, H d = none → E (.ref (He.ga K "BadPhase")) (some d) (upd H d (.xd [("phase", ph)])))
theorem ok_check_phase {fd : FuncData} (F : FnD K ("check_phase", none) "check_phase" "check_phase" s_check_phase fd) (T : RTxt K mg) (O_is_integer : OkF P w K mg base CX0 1 "is_integer" ["x"] spIsInt) (O_is_integer_from : OkF P w K mg base CX0 2 "is_integer_from" ["x", "low", "high"] spFr)
    (O_BadPhase_init : OkD P w K mg base CX0 1 ("BadPhase", some "__init__") ["self", "phase"] [] (spExI K (He.ga K "BadPhase") "phase")) : OkF P w K mg base (L2.CX P w) 3 "check_phase" ["sampler", "phase"] (spChkPh K) := by
  refine okd F (F.ok sc_check_phase (fun vs H Q E h => ?_) fun cdv A outer s H vs Q E hr h => ?_) fun _ _ _ _ _ _ us hl => match us, hl with | [_, _], _ => rfl
  · obtain ⟨p, ph, n, i, f, rfl, _⟩ := h
    rfl
  · obtain ⟨p, ph, n, i, f, rfl, hp, n1, n8, hf, ha, k1, k2⟩ := h
    obtain ⟨dx, hp⟩ := hp
    refine ⟨_, (C8.pss_cut (ps_if (pt_cmpR op_isN (pe_fld (pv 0) rfl) pe_non (nomark _)) (pss_one (ps_set (i := 2) sc_check_phase.nd rfl (Or.inl rfl) (c_fn O_is_integer_from hr (by decide) T.g_is_integer_from pass0 (pa_cons (pv 1) (pa_cons pe_int (pa_cons (pe_op op_sub (pe_fld (pv 0) rfl) pe_int) pa_nil))))))
  (pss_one (ps_set (i := 2) sc_check_phase.nd rfl (Or.inl rfl) (pe_orB (pe_cmpR op_isN (pv 1) pe_non (nomark _)) (pe_one (pe_andB (c_fn O_is_integer hr (by decide) T.g_is_integer pass0 (pa_cons (pv 1) pa_nil)) (pe_one (pe_cmpR op_eq (pv 1) (pe_fld (pv 0) rfl) (nomark _)))))))))
  (pss_one (ps_if (pt_not (pt_val (pv 2))) (pss_one (c_raise T.x_BadPhase O_BadPhase_init hr (by decide) T.g_BadPhase (takes_of rfl rfl rfl rfl) (pa_cons (pv 1) pa_nil)))
  pss_nil))), ?_⟩
    refine ⟨fun σ' H' => H' = H ∧ ∃ b : Bool, (b = true ↔ PhFit f n ph) ∧ σ' = [some (.ref p), some ph, some (.bl b)], ?_, ?_⟩
    · refine ⟨_, rfl, p, _, dx, _, _, rfl, hp, T.c_Sampler, T.sF, saf_phase .., rfl, _, rfl, ite2 (fun hc => ?_) fun hc => ?_⟩
      · have hc := of_decide_eq_true hc
        refine ⟨_, rfl, _, rfl, p, _, dx, _, _, rfl, hp, T.c_Sampler, T.sP, saf_period .., n, 1, rfl, rfl, ph, 0, n - 1, rfl, ?_⟩
        by_cases hq : ∃ q : Int, ph = .int q ∧ 0 ≤ q ∧ q ≤ n - 1
        · obtain ⟨q, rfl, q0, q1⟩ := hq
          exact .inl ⟨q, rfl, q0, q1, rfl, true, ⟨fun _ => .inl ⟨hc, q, rfl, q0, q1⟩, fun _ => rfl⟩, rfl⟩
        · refine .inr ⟨?_, rfl, false, ⟨fun z => Bool.noConfusion z, fun z => ?_⟩, rfl⟩
          · rcases ha with ⟨q, rfl⟩ | o
            · exact .inl ⟨q, rfl, fun z => hq ⟨q, rfl, z⟩⟩
            · exact .inr o
          · rcases z with ⟨_, z⟩ | ⟨z, _⟩
            · exact absurd z hq
            · exact absurd hc z
      · have hc := of_decide_eq_false (Bool.eq_false_iff.mpr hc)
        obtain ⟨q0, rfl⟩ : ∃ q : Int, f = .int q := by
          rcases hf with h | ⟨q, e, _⟩
          · exact absurd h hc
          · exact ⟨q, e⟩
        refine ⟨_, rfl, rfl, decide (ph = .non), decide (ph = .int q0), (· = H), rfl, fun hn => ?_, fun _ => rfl, fun H2 e => ?_⟩
        · refine ⟨_, rfl, ph, rfl, ?_⟩
          rcases ha with ⟨q, rfl⟩ | o
          · exact .inl ⟨⟨q, rfl⟩, true, decide (V.int q = .int q0), (· = H), rfl, fun _ => ⟨_, rfl, _, rfl, p, _, dx, _, _, rfl, hp, T.c_Sampler, T.sF, saf_phase .., rfl, rfl, rfl⟩, fun _ => rfl, fun H2 e => ⟨rfl, e⟩⟩
          · refine .inr ⟨o, false, true, (· = H), rfl, fun z => Bool.noConfusion z, fun _ => rfl, fun H2 e => ⟨?_, e⟩⟩
            rw [decide_eq_false (fun z => by rw [z] at o; cases o)]
            rfl
        · subst e
          refine ⟨rfl, _, ?_, rfl⟩
          constructor
          · intro z
            rcases Bool.or_eq_true_iff.mp z with z | z
            · exact .inr ⟨hc, .inl (of_decide_eq_true z)⟩
            · exact .inr ⟨hc, .inr (of_decide_eq_true z)⟩
          · rintro (⟨z, _⟩ | ⟨_, z | z⟩)
            · exact absurd z hc
            · rw [decide_eq_true z]
              rfl
            · rw [decide_eq_true z, Bool.or_true]
    · rintro σ' H' ⟨rfl, b, hb, rfl⟩
      refine ⟨_, rfl, b, rfl, ?_⟩
      cases b with
      | true => exact iteF (k1 (hb.mp rfl))
      | false => exact iteT ⟨_, rfl, _, rfl, fun d hd => k2 (fun z => Bool.noConfusion (hb.mpr z)) d hd⟩
def PhSh (f ph : V) (n : Int) (sh : Nat) : Prop := (f = .non ∧ ph = .int (sh : Int) ∧ (sh : Int) ≤ n - 1) ∨ (f = .int (sh : Int) ∧ (ph = .non ∨ ph = .int (sh : Int)))
theorem PhSh.fit {f ph : V} {n : Int} {sh : Nat} (h : PhSh f ph n sh) : PhFit f n ph := by
  rcases h with ⟨rfl, rfl, h⟩ | ⟨rfl, h⟩
  · exact .inl ⟨rfl, _, rfl, by omega, h⟩
  · exact .inr ⟨(fun z => nomatch z), h⟩
end
end K32

set_option Elab.async false
set_option linter.all false
set_option pp.deepTerms.threshold 14
set_option pp.maxSteps 2500
set_option maxRecDepth 100000
set_option maxHeartbeats 2000000
namespace K32
open PySem PySem.Spec PyProof.Rows L2 Vf
section
variable {P : Program} {w : World} {K : PySem.W.Frag} {mg : Str → Option Value} {base : Heap}
structure Txt (K : PySem.W.Frag) (mg : Str → Option Value) : Prop extends RTxt K mg where
  g_law_cell : mg "_law_cell" = some (.ref (He.ga K "_law_cell"))
  g_law_take : mg "_law_take" = some (.ref (He.ga K "_law_take"))
  g_law_name : mg "_law_name" = some (.ref (He.ga K "_law_name"))
  g_law_rows : mg "_law_rows" = some (.ref (He.ga K "_law_rows"))
  g_law_nexts : mg "_law_nexts" = some (.ref (He.ga K "_law_nexts"))
  g_law_program : mg "_law_program" = some (.ref (He.ga K "_law_program"))
  g_law_is_integer : mg "_law_is_integer" = some (.ref (He.ga K "_law_is_integer"))
  g_law_row : mg "_law_row" = some (.ref (He.ga K "_law_row"))
  g_law_spec : mg "_law_spec" = some (.ref (He.ga K "_law_spec"))
  g_law_sampler : mg "_law_sampler" = some (.ref (He.ga K "_law_sampler"))
  g_law_ticks : mg "_law_ticks" = some (.ref (He.ga K "_law_ticks"))
  g_law_first : mg "_law_first" = some (.ref (He.ga K "_law_first"))
  g_law_after : mg "_law_after" = some (.ref (He.ga K "_law_after"))
  g_law_walk : mg "_law_walk" = some (.ref (He.ga K "_law_walk"))
  g_law_stays : mg "_law_stays" = some (.ref (He.ga K "_law_stays"))
  g_law_looks : mg "_law_looks" = some (.ref (He.ga K "_law_looks"))
  g_law_seen : mg "_law_seen" = some (.ref (He.ga K "_law_seen"))
  g_law_notes_fit : mg "_law_notes_fit" = some (.ref (He.ga K "_law_notes_fit"))
  g_law_record_fits : mg "_law_record_fits" = some (.ref (He.ga K "_law_record_fits"))
  g_law_options : mg "_law_options" = some (.ref (He.ga K "_law_options"))
  g_law_next : mg "_law_next" = some (.ref (He.ga K "_law_next"))
  g_law_empty : mg "_law_empty" = some (.ref (He.ga K "_law_empty"))
  g_law_due : mg "_law_due" = some (.ref (He.ga K "_law_due"))
  g_law_grown : mg "_law_grown" = some (.ref (He.ga K "_law_grown"))
  g_law_tried : mg "_law_tried" = some (.ref (He.ga K "_law_tried"))
  g_law_stands : mg "_law_stands" = some (.ref (He.ga K "_law_stands"))
  g_law_odd : mg "_law_odd" = some (.ref (He.ga K "_law_odd"))
theorem sc_law_take : FnScope ["_law_draw", "_law_size", "_law_taken"] ["_law_draw", "_law_size"] (defScope s_law_take) := ⟨rfl, rfl, rfl, by decide +kernel, rfl, by decide +kernel, by decide +kernel⟩
-- slots: 0 _law_draw, 1 _law_size, 2 _law_taken
theorem ok_law_take {fd : FuncData} (F : FnD K ("_law_take", none) "_law_take" "_law_take" s_law_take fd) (T : Txt K mg) : OkF P w K mg base CX0 1 "_law_take" ["_law_draw", "_law_size"] spTake := by
  refine okd F (F.ok sc_law_take (fun vs H Q E h => ?_) fun cdv A outer s H vs Q E hr h => ?_) fun _ _ _ _ _ _ us hl => match us, hl with | [_, _], _ => rfl
  · obtain ⟨d, n, s, rfl, _⟩ := h
    rfl
  · obtain ⟨d, n, s, rfl, hd, s0, s1, q⟩ := h
    refine ⟨_, PSs.nox (pss_cons (ps_set (i := 2) sc_law_take.nd rfl (Or.inl rfl) (pe_op op_mod (pe_callTy call_int1 (by rfl) T.z_int (by decide +kernel) (pa_cons (pe_ix ix_list (pv 0) pe_int (fun _ _ => rfl)) pa_nil)) (pv 1)))
  (pss_cons (ps_asg (pe_op op_fdiv (pe_ix ix_list (pv 0) pe_int (fun _ _ => rfl)) (pv 1)) (pg_sub (pv 0) pe_int set_list))
  (pss_one (ps_ret (pv 2))))), ?_⟩
    refine ⟨_, rfl, d, [.int n], 0, .int n, rfl, rfl, SqL.of hd, atI0, .inl ⟨n, rfl, _, rfl, n, s, rfl, rfl, s0, ?_⟩⟩
    refine ⟨_, rfl, d, [.int n], 0, .int n, rfl, rfl, SqL.of hd, atI0, _, rfl, n, s, rfl, rfl, ⟨s0, s1⟩, ?_⟩
    refine ⟨_, rfl, d, [.int n], 0, 0, rfl, rfl, hd, ixN0, _, rfl, ?_⟩
    exact q (n % s) (n / s) (Int.emod_nonneg n (by omega)) (Int.emod_lt_of_pos n s0)
theorem sc_law_cell : FnScope ["_law_script", "_law_k", "_law_cell_here", "_law_number", "_law_total", "_law_step"] ["_law_script", "_law_k"] (defScope s_law_cell) := ⟨rfl, rfl, rfl, by decide +kernel, rfl, by decide +kernel, by decide +kernel⟩
-- slots: 0 _law_script, 1 _law_k, 2 _law_cell_here, 3 _law_number, 4 _law_total, 5 _law_step
theorem ok_law_cell {fd : FuncData} (F : FnD K ("_law_cell", none) "_law_cell" "_law_cell" s_law_cell fd) (T : Txt K mg) : OkF P w K mg base CX0 1 "_law_cell" ["_law_script", "_law_k"] (Vf.spCell K) := by
  refine okd F (F.ok sc_law_cell (fun vs H Q E h => ?_) fun cdv A outer s H vs Q E hr h => ?_) fun _ _ _ _ _ _ us hl => match us, hl with | [_, _], _ => rfl
  · obtain ⟨l, ns, j, rfl, _⟩ := h
    rfl
  · obtain ⟨l, ns, j, rfl, hS, hj, q⟩ := h
    refine ⟨_, PSs.nox (pss_cons (ps_set (i := 2) sc_law_cell.nd rfl (Or.inl rfl) pe_int)
  (C8.pss_cut (ps_if (pt_cmpR op_lt (pv 1) (pe_callB (id := "len") call_len_seq (by rfl) T.z_len (by decide +kernel) (pa_cons (pv 0) pa_nil)) (nomark _)) (pss_one (ps_set (i := 2) sc_law_cell.nd rfl (Or.inl rfl) (pe_ix ix_list (pv 0) (pv 1) (fun _ _ => rfl))))
  pss_nil)
  (pss_cons (ps_if (pt_cmpR op_ge (pv 2) (pe_op op_pow pe_int pe_int) (nomark _)) (pss_one (ps_ret (pv 2)))
  pss_nil)
  (pss_cons (ps_set (i := 3) sc_law_cell.nd rfl (Or.inl rfl) (pe_op op_mod (pe_callTy call_int1 (by rfl) T.z_int (by decide +kernel) (pa_cons (pe_op op_add (pe_op op_add (pe_op op_mul (pv 2) pe_int) (pe_op op_mul (pv 1) pe_int)) pe_int) pa_nil)) pe_int))
  (pss_cons (ps_set (i := 4) sc_law_cell.nd rfl (Or.inl rfl) pe_int)
  (pss_cons (ps_for PassesOwn.never rfl (pi_range1 rfl T.z_range (pa_cons pe_int pa_nil)) (pg_name (i := 5) sc_law_cell.nd rfl (Or.inl rfl))
  (pss_cons (ps_set (i := 3) sc_law_cell.nd rfl (Or.inl rfl) (pe_op op_mod (pe_callTy call_int1 (by rfl) T.z_int (by decide +kernel) (pa_cons (pe_op op_add (pe_op op_add (pe_op op_mul (pv 3) pe_int) (pe_op op_mul (pv 5) pe_int)) pe_int) pa_nil)) pe_int))
  (pss_cons (ps_set (i := 3) sc_law_cell.nd rfl (Or.inl rfl) (pe_op op_mod (pe_callTy call_int1 (by rfl) T.z_int (by decide +kernel) (pa_cons (pe_op op_mul (pv 3) (pe_op op_add (pe_op op_fdiv (pv 3) pe_int) pe_int)) pa_nil)) pe_int))
  (pss_one (ps_set (i := 4) sc_law_cell.nd rfl (Or.inl rfl) (pe_op op_add (pe_op op_mul (pv 4) pe_int) (pv 3)))))))
  (pss_one (ps_ret (pv 4))))))))), ?_⟩
    refine ⟨fun σ' H' => H' = H ∧ ∃ c : Int, σ' = [some (.ref l), some (.int (j : Int)), some (.int c), none, none, none], ?_, ?_⟩
    · refine ⟨_, rfl, _, rfl, l, _, rfl, .inl hS, _, _, rfl, rfl, _, rfl, ite2 (fun hlt => ?_) fun _ => ⟨rfl, 0, rfl⟩⟩
      have hj2 : j < ns.length := by
        have := of_decide_eq_true hlt
        rw [List.length_map] at this
        omega
      refine ⟨_, rfl, _, rfl, l, _, (j : Int), .int ns[j], rfl, rfl, hS, atI_nat ?_, rfl, _, rfl⟩
      rw [List.getElem?_map, List.getElem?_eq_getElem hj2]
      rfl
    rintro σ' H' ⟨rfl, c, rfl⟩
    refine ⟨_, rfl, 10, 18, rfl, rfl, ⟨by decide, by decide, by decide⟩, _, _, rfl, rfl, _, rfl, ite2 (fun _ => ⟨_, rfl, q c⟩) fun _ => ?_⟩
    refine ⟨_, rfl, c, 7, rfl, rfl, .inr ⟨by decide, by decide⟩, _, rfl, (j : Int), 7919, rfl, rfl, .inr ⟨by decide, by decide⟩, _, _, rfl, rfl, _, _, rfl, rfl, .inl ⟨_, rfl, _, 2147483647, rfl, rfl, (by show (0 : Int) < 2147483647; decide), ?_⟩⟩
    refine ⟨8, rfl, by decide, by decide, for_range (lo := 0) (n := 8) (fun i σ H1 => H1 = H' ∧ ∃ (num tot : Int) (v : Option V), 0 ≤ num ∧ num < 2147483647 ∧ σ = [some (.ref l), some (.int (j : Int)), some (.int c), some (.int num), some (.int tot), v]) ?_ ?_ ?_⟩
    · exact ⟨rfl, _, 0, none, Int.emod_nonneg _ (by decide), Int.emod_lt_of_pos _ (by decide), rfl⟩
    · rintro i σ H1 hi ⟨rfl, num, tot, v, h0, h1, rfl⟩
      refine ⟨_, rfl, num, 48271, rfl, rfl, .inr ⟨by decide, by decide⟩, _, rfl, _, 30103, rfl, rfl, .inr ⟨by decide, by decide⟩, _, _, rfl, rfl, _, 11, rfl, rfl, .inl ⟨_, rfl, _, 2147483647, rfl, rfl, (by show (0 : Int) < 2147483647; decide), ?_⟩⟩
      have b0 := Int.emod_nonneg (num * 48271 + (0 + (i : Int)) * 30103 + 11) (b := 2147483647) (by decide)
      have b1 := Int.emod_lt_of_pos (num * 48271 + (0 + (i : Int)) * 30103 + 11) (b := 2147483647) (by decide)
      refine ⟨_, rfl, _, rfl, _, 1009, rfl, rfl, ⟨by decide, by decide⟩, _, 69621, rfl, rfl, _, _, rfl, rfl, .inl ⟨by omega, by omega⟩, .inl ⟨_, rfl, _, 2147483629, rfl, rfl, (by show (0 : Int) < 2147483629; decide), ?_⟩⟩
      refine ⟨_, rfl, tot, 2147483629, rfl, rfl, .inr ⟨by decide, by decide⟩, _, rfl, _, _, rfl, rfl, ?_⟩
      exact ⟨rfl, _, _, _, Int.emod_nonneg _ (by decide), Int.lt_trans (Int.emod_lt_of_pos _ (by decide)) (by decide), rfl⟩
    · rintro σ H1 ⟨rfl, num, tot, v, h0, h1, rfl⟩
      exact ⟨_, rfl, q tot⟩
theorem sc_law_name : FnScope ["_law_draw", "_law_used", "_law_letters", "_law_word", "_law_k", "_law_letter"] ["_law_draw", "_law_used"] (defScope s_law_name) := ⟨rfl, rfl, rfl, by decide +kernel, rfl, by decide +kernel, by decide +kernel⟩
-- slots: 0 _law_draw, 1 _law_used, 2 _law_letters, 3 _law_word, 4 _law_k, 5 _law_letter
/-- a name apart from the used ones -/
def spNam : Sp := fun vs H Q _ => ∃ (d u : Addr) (n : Int) (us : List Str), vs = [.ref d, .ref u] ∧ H d = some (.lst [.int n]) ∧ H u = some (.lst (us.map V.str)) ∧ u ≠ d ∧ us.length ≤ 6 ∧ ∀ H' (m : Int) z, SameX d H H' → H' d = some (.lst [.int m]) → nmB z = true → z.length ≤ 8 → z ∉ us → Q (.str z) H'
def okW (z : Str) (i : Nat) : Prop := z.length = i ∧ ∀ c ∈ z.cps.toList, c ∈ LET.cps.toList
theorem okW_nm {z : Str} {i : Nat} (h : okW z i) (h1 : 1 ≤ i) (h2 : i ≤ 8) (hk : inV (.str z) (KEPT.map V.str) = false) : nmB z = true := by
  unfold nmB
  rw [hk, h.1, decide_eq_true h1, decide_eq_true h2]
  simp only [Bool.true_and, Bool.not_false]
  rw [List.all_eq_true]
  exact fun c hc => decide_eq_true (h.2 c hc)
theorem okW_add {z : Str} {i c : Nat} (h : okW z i) (hc : c ∈ LET.cps.toList) : okW (z ++ ⟨#[c]⟩) (i + 1) := by
  have e : (z ++ (⟨#[c]⟩ : Str)).cps.toList = z.cps.toList ++ [c] := by
    show (z.cps ++ #[c]).toList = _
    simp
  refine ⟨?_, fun y hy => ?_⟩
  · show (z.cps ++ #[c]).size = i + 1
    rw [Array.size_append]
    have := h.1
    simp only [Str.length] at this
    simp [this]
  · rw [e] at hy
    rcases List.mem_append.mp hy with hy | hy
    · exact h.2 y hy
    · rw [List.mem_singleton] at hy
      rw [hy]
      exact hc
theorem let_nm {c : Nat} (h : c ∈ LET.cps.toList) : nmB ⟨#[c]⟩ = true := by
  have a : (LET.cps.toList.all fun c => nmB ⟨#[c]⟩) = true := by decide +kernel
  exact List.all_eq_true.mp a c h
theorem nodup_le {α : Type} [DecidableEq α] : ∀ {l u : List α}, l.Nodup → (∀ x ∈ l, x ∈ u) → l.length ≤ u.length
  | [], _, _, _ => Nat.zero_le _
  | a :: l, u, nd, h => by
    rw [List.nodup_cons] at nd
    have ha := h a (List.mem_cons_self ..)
    have h2 : ∀ x ∈ l, x ∈ u.erase a := fun x hx => by
      have hne : x ≠ a := fun e => nd.1 (e ▸ hx)
      exact (List.mem_erase_of_ne hne).mpr (h x (List.mem_cons_of_mem _ hx))
    have := nodup_le nd.2 h2
    rw [List.length_erase_of_mem ha] at this
    have hp : 0 < u.length := List.length_pos_of_mem ha
    rw [List.length_cons]
    omega
theorem some_letter {us : List Str} (h : us.length ≤ 6) : ¬ ∀ c ∈ LET.cps.toList, (⟨#[c]⟩ : Str) ∈ us := fun hall => by
  have nd : (LET.cps.toList.map fun c => (⟨#[c]⟩ : Str)).Nodup := by decide +kernel
  have := nodup_le nd (u := us) fun x hx => by
    obtain ⟨c, hc, rfl⟩ := List.mem_map.mp hx
    exact hall c hc
  rw [List.length_map] at this
  have e : LET.cps.toList.length = 26 := by decide +kernel
  omega
theorem ok_law_name {fd : FuncData} (F : FnD K ("_law_name", none) "_law_name" "_law_name" s_law_name fd) (T : Txt K mg) (O_law_take : OkF P w K mg base CX0 1 "_law_take" ["_law_draw", "_law_size"] spTake) : OkF P w K mg base CX0 2 "_law_name" ["_law_draw", "_law_used"] spNam := by
  refine okd F (F.ok sc_law_name (fun vs H Q E h => ?_) fun cdv A outer s H vs Q E hr h => ?_) fun _ _ _ _ _ _ us hl => match us, hl with | [_, _], _ => rfl
  · obtain ⟨d, u, n, us, rfl, _⟩ := h
    rfl
  · obtain ⟨d, u, n, us, rfl, hd, hu, nud, hus, k⟩ := h
    refine ⟨_, PSs.nox (pss_cons (ps_set (i := 2) sc_law_name.nd rfl (Or.inl rfl) pe_str)
  (pss_cons (ps_set (i := 3) sc_law_name.nd rfl (Or.inl rfl) pe_str)
  (pss_cons (ps_for PassesOwn.never rfl (pi_range1 rfl T.z_range (pa_cons (pe_op op_add pe_int (c_fn O_law_take hr (by decide) T.g_law_take pass0 (pa_cons (pv 0) (pa_cons pe_int pa_nil)))) pa_nil)) (pg_name (i := 4) sc_law_name.nd rfl (Or.inl rfl))
  (pss_one (ps_set (i := 3) sc_law_name.nd rfl (Or.inl rfl) (pe_op op_add_str (pv 3) (pe_ix ix_str (pv 2) (c_fn O_law_take hr (by decide) T.g_law_take pass0 (pa_cons (pv 0) (pa_cons pe_int pa_nil))) (fun _ _ => rfl))))))
  (pss_cons (ps_if (PW.pt (pw_and (pt_cmpR op_notIn_seq (pv 3) (pv 1) rfl) (pw_and1 (pt_cmpR op_notIn_seq (pv 3) (pe_lst (pa_cons pe_str (pa_cons pe_str (pa_cons pe_str (pa_cons pe_str (pa_cons pe_str pa_nil)))))) rfl)))) (pss_one (ps_ret (pv 3)))
  pss_nil)
  (pss_cons (ps_for PassesOwn.never rfl (pi_str (pv 2)) (pg_name (i := 5) sc_law_name.nd rfl (Or.inl rfl))
  (pss_one (ps_if (pt_cmpR op_notIn_seq (pv 5) (pv 1) rfl) (pss_one (ps_ret (pv 5)))
  pss_nil)))
  (pss_one (ps_ret (pv 3)))))))), ?_⟩
    refine ⟨_, rfl, d, n, 8, rfl, hd, by decide, by decide, fun r m r0 r1 => ⟨1, r, rfl, rfl, 1 + r, rfl, by omega, by omega, ?_⟩⟩
    refine for_range (lo := 0) (n := (1 + r).toNat) (fun i σ H' => SameX d H H' ∧ ∃ (m : Int) (z : Str) (v : Option V), H' d = some (.lst [.int m]) ∧ okW z i ∧ σ = [some (.ref d), some (.ref u), some (.str LET), some (.str z), v, none]) ⟨SameX.upd, m, "", none, upd_same, ⟨rfl, fun _ h => nomatch h⟩, rfl⟩ ?_ ?_
    · rintro i σ H' hi ⟨sg, m, z, v, hd', hw, rfl⟩
      refine ⟨_, rfl, _, rfl, _, rfl, d, m, 26, rfl, hd', by decide, by decide, fun q m2 q0 q1 => ?_⟩
      have hl26 : LET.cps.toList.length = 26 := by decide +kernel
      have hq : q.toNat < LET.cps.toList.length := by omega
      refine ⟨LET, q, LET.cps.toList[q.toNat], rfl, rfl, by decide +kernel, ?_, z, ⟨#[LET.cps.toList[q.toNat]]⟩, rfl, rfl, ?_, ?_⟩
      · have h := atI_nat (List.getElem?_eq_getElem hq)
        rw [Int.toNat_of_nonneg q0] at h
        exact h
      · have := hw.1
        have h1 : (⟨#[LET.cps.toList[q.toNat]]⟩ : Str).length = 1 := rfl
        rw [h1, this]
        exact Nat.le_trans (show i + 1 ≤ 9 by omega) (by decide)
      · exact ⟨sg.trans SameX.upd, m2, _, _, upd_same, okW_add hw (List.getElem_mem hq), rfl⟩
    · rintro σ H' ⟨sg, m, z, v, hd', hw, rfl⟩
      have hu' := sg _ _ nud hu
      have fin := fun H2 z' (s2 : Same H' H2) => k H2 m z' (sg.trans (same_x s2)) (s2 _ _ hd')
      -- the letters
      have letters : ∀ H2 : Hp, Same H' H2 → ∀ v : Option V, ∃ W : Nat → Nat → L2.St → Hp → Prop, True := fun _ _ _ => ⟨fun _ _ _ _ => True, trivial⟩
      clear letters
      refine ⟨_, rfl, _, rfl, u, _, rfl, .inl (SqL.of hu'), rfl, flat_str us, _, rfl, ?_⟩
      rw [inV_str]
      by_cases hz : z ∈ us
      · rw [decide_eq_true hz]
        refine iteF ⟨_, rfl, LET, rfl, for_it walk_str (fun i σ' H2 => H2 = H' ∧ (∀ j c, j < i → LET.cps[j]? = some c → (⟨#[c]⟩ : Str) ∈ us) ∧ ∃ v2, σ' = [some (.ref d), some (.ref u), some (.str LET), some (.str z), v, v2]) ⟨rfl, (fun j c h => absurd h (Nat.not_lt_zero _)), _, rfl⟩ (fun _ _ _ _ _ => trivial) ?_ ?_⟩
        · rintro i x σ' H2 H3 hi ⟨rfl, hin, v2, rfl⟩ ⟨rfl, c, hc, rfl⟩
          have hcm : c ∈ LET.cps.toList := by
            have : LET.cps.toList[i]? = some c := by simpa using hc
            exact List.mem_of_getElem? this
          refine ⟨_, rfl, _, rfl, u, _, rfl, .inl (SqL.of hu'), rfl, flat_str us, _, rfl, ?_⟩
          rw [inV_str]
          by_cases hcu : (⟨#[c]⟩ : Str) ∈ us
          · rw [decide_eq_true hcu]
            refine iteF ⟨rfl, fun j c' hj hc' => ?_, _, rfl⟩
            by_cases hji : j = i
            · subst hji
              rw [hc] at hc'
              cases hc'
              exact hcu
            · exact hin j c' (by omega) hc'
          · rw [decide_eq_false hcu]
            exact iteT ⟨_, rfl, fin _ _ (Same.refl _) (let_nm hcm) (show 1 ≤ 8 by decide) hcu⟩
        · rintro σ' H2 ⟨rfl, hin, v2, rfl⟩
          refine absurd (fun c hc => ?_) (some_letter hus)
          obtain ⟨j, hj⟩ := List.mem_iff_getElem?.mp hc
          have hj2 : LET.cps[j]? = some c := by simpa using hj
          exact hin j c (Array.getElem?_eq_some_iff.mp hj2).1 hj2
      · rw [decide_eq_false hz]
        refine iteT ⟨_, rfl, (by show 5 ≤ sizeLine; decide), fun L nL => ⟨L, KEPT.map V.str, rfl, .inl (SqL.of upd_same), rfl, by decide +kernel, _, rfl, ?_⟩⟩
        have sL := same_new (o := .lst (KEPT.map V.str)) nL
        cases hv : inV (.str z) (KEPT.map V.str) with
        | false => exact iteT ⟨_, rfl, fin _ _ sL (okW_nm hw (by omega) (by omega) hv) (by rw [hw.1]; omega) hz⟩
        | true =>
          have hu2 := sL _ _ hu'
          refine iteF ⟨_, rfl, LET, rfl, for_it walk_str (fun i σ' H2 => H2 = upd H' L (.lst (KEPT.map V.str)) ∧ (∀ j c, j < i → LET.cps[j]? = some c → (⟨#[c]⟩ : Str) ∈ us) ∧ ∃ v2, σ' = [some (.ref d), some (.ref u), some (.str LET), some (.str z), v, v2]) ⟨rfl, (fun j c h => absurd h (Nat.not_lt_zero _)), _, rfl⟩ (fun _ _ _ _ _ => trivial) ?_ ?_⟩
          · rintro i x σ' H2 H3 hi ⟨rfl, hin, v2, rfl⟩ ⟨rfl, c, hc, rfl⟩
            have hcm : c ∈ LET.cps.toList := by
              have : LET.cps.toList[i]? = some c := by simpa using hc
              exact List.mem_of_getElem? this
            refine ⟨_, rfl, _, rfl, u, _, rfl, .inl (SqL.of hu2), rfl, flat_str us, _, rfl, ?_⟩
            rw [inV_str]
            by_cases hcu : (⟨#[c]⟩ : Str) ∈ us
            · rw [decide_eq_true hcu]
              refine iteF ⟨rfl, fun j c' hj hc' => ?_, _, rfl⟩
              by_cases hji : j = i
              · subst hji
                rw [hc] at hc'
                cases hc'
                exact hcu
              · exact hin j c' (by omega) hc'
            · rw [decide_eq_false hcu]
              exact iteT ⟨_, rfl, fin _ _ sL (let_nm hcm) (show 1 ≤ 8 by decide) hcu⟩
          · rintro σ' H2 ⟨rfl, hin, v2, rfl⟩
            refine absurd (fun c hc => ?_) (some_letter hus)
            obtain ⟨j, hj⟩ := List.mem_iff_getElem?.mp hc
            have hj2 : LET.cps[j]? = some c := by simpa using hj
            exact hin j c (Array.getElem?_eq_some_iff.mp hj2).1 hj2
end
end K32

set_option Elab.async false
set_option linter.all false
set_option pp.deepTerms.threshold 14
set_option pp.maxSteps 2500
set_option maxRecDepth 100000
set_option maxHeartbeats 2000000
namespace K32
open PySem PySem.Spec PyProof.Rows L2 Vf
section
variable {P : Program} {w : World} {K : PySem.W.Frag} {mg : Str → Option Value} {base : Heap}
/-- all but what stands at d and at e is as it was -/
def Same2 (d e : Addr) (H H' : Hp) : Prop := ∀ b o, b ≠ d → b ≠ e → H b = some o → H' b = some o
theorem Same2.x {d e : Addr} {H H1 H2 : Hp} (a : Same2 d e H H1) (b : SameX d H1 H2) : Same2 d e H H2 := fun c o n m h => b c o n (a c o n m h)
theorem Same2.y {d e : Addr} {H H1 H2 : Hp} (a : Same2 d e H H1) (b : SameX e H1 H2) : Same2 d e H H2 := fun c o n m h => b c o m (a c o n m h)
theorem Same2.s {d e : Addr} {H H1 H2 : Hp} (a : Same2 d e H H1) (b : Same H1 H2) : Same2 d e H H2 := fun c o n m h => b c o (a c o n m h)
/-- a row's list and the tuple of its nexts -/
def RowA (H : Hp) (y : PgE) : Prop := H y.1 = some (.lst [.str y.2.2.z, .int y.2.2.l, .int y.2.2.m, .bl y.2.2.b, .ref y.2.1]) ∧ H y.2.1 = some (.tup (y.2.2.ns.map V.str))
/-- the list at R: rows -/
structure RowsA (H : Hp) (R : Addr) (ys : List PgE) : Prop where
  hR : H R = some (.lst (ys.map fun y => V.ref y.1))
  row : ∀ y ∈ ys, RowA H y
theorem ref_int {ys : List PgE} {n : Int} : HO.lst (ys.map fun y => V.ref y.1) ≠ HO.lst [.int n] := fun z => by
  injection z with z
  cases ys with
  | nil => cases z
  | cons y ys => cases z
theorem RowA.ne_int {H : Hp} {y : PgE} {d : Addr} {n : Int} (h : RowA H y) (hd : H d = some (.lst [.int n])) : y.1 ≠ d ∧ y.2.1 ≠ d := ⟨ne_of h.1 hd (by intro z; cases z), ne_of h.2 hd (by intro z; cases z)⟩
theorem RowA.ne_R {H : Hp} {y : PgE} {R : Addr} {ys : List PgE} (h : RowA H y) (hR : H R = some (.lst (ys.map fun y => V.ref y.1))) : y.1 ≠ R ∧ y.2.1 ≠ R := by
  refine ⟨ne_of h.1 hR fun z => ?_, ne_of h.2 hR (by intro z; cases z)⟩
  injection z with z
  cases ys with
  | nil => cases z
  | cons y ys => cases z
theorem RowA.ext {H H' : Hp} {y : PgE} (h : RowA H y) (s : Same H H') : RowA H' y := ⟨s _ _ h.1, s _ _ h.2⟩
theorem RowsA.ext {H H' : Hp} {R : Addr} {ys : List PgE} (h : RowsA H R ys) (s : Same H H') : RowsA H' R ys := ⟨s _ _ h.hR, fun y hy => (h.row y hy).ext s⟩
theorem RowsA.extX {H H' : Hp} {R d : Addr} {n : Int} {ys : List PgE} (h : RowsA H R ys) (hd : H d = some (.lst [.int n])) (s : SameX d H H') : RowsA H' R ys := by
  refine ⟨s _ _ (ne_of h.hR hd ref_int) h.hR, fun y hy => ?_⟩
  have r := h.row y hy
  exact ⟨s _ _ (r.ne_int hd).1 r.1, s _ _ (r.ne_int hd).2 r.2⟩
theorem RowsA.add {H : Hp} {R a t : Addr} {r : Rw} {ys : List PgE} (h : RowsA H R ys) (hr : RowA H (a, t, r)) : RowsA (upd H R (.lst ((ys.map fun y => V.ref y.1) ++ [.ref a]))) R (ys ++ [(a, t, r)]) := by
  refine ⟨by rw [upd_same, List.map_append]; rfl, fun y hy => ?_⟩
  have hy' : RowA H y := by
    rcases List.mem_append.mp hy with hy | hy
    · exact h.row y hy
    · rw [List.mem_singleton] at hy
      rw [hy]
      exact hr
  exact ⟨by rw [upd_ne (hy'.ne_R h.hR).1]; exact hy'.1, by rw [upd_ne (hy'.ne_R h.hR).2]; exact hy'.2⟩
/-- a row whose list is made anew in place -/
theorem RowsA.put {H : Hp} {R : Addr} {k : Nat} {t : Addr} {y : PgE} {r : Rw} {ys : List PgE} (h : RowsA H R ys) (nd : (ys.map (·.1)).Nodup) (hk : ys[k]? = some y) (ht : H t = some (.tup (r.ns.map V.str))) (hz : t ≠ y.1) :
    RowsA (upd H y.1 (.lst [.str r.z, .int r.l, .int r.m, .bl r.b, .ref t])) R (ys.set k (y.1, t, r)) := by
  have hy := h.row y (List.mem_of_getElem? hk)
  have hlt : k < ys.length := (List.getElem?_eq_some_iff.mp hk).1
  refine ⟨?_, fun v hv => ?_⟩
  · rw [upd_ne (hy.ne_R h.hR).1.symm, h.hR]
    congr 2
    refine List.ext_getElem? fun i => ?_
    rw [List.getElem?_map, List.getElem?_map, List.getElem?_set]
    by_cases e : k = i
    · subst e
      rw [if_pos rfl, if_pos hlt, hk]
      rfl
    · rw [if_neg e]
  · obtain ⟨i, hi⟩ := List.mem_iff_getElem?.mp hv
    rw [List.getElem?_set] at hi
    by_cases e : k = i
    · subst e
      rw [if_pos rfl, if_pos hlt] at hi
      cases hi
      exact ⟨upd_same, by rw [upd_ne hz]; exact ht⟩
    · rw [if_neg e] at hi
      have hv' := h.row v (List.mem_of_getElem? hi)
      have hne : v.1 ≠ y.1 := fun q => by
        have h1 : (ys.map (·.1))[i]? = some v.1 := by rw [List.getElem?_map, hi]; rfl
        have h2 : (ys.map (·.1))[k]? = some v.1 := by rw [List.getElem?_map, hk, q]; rfl
        have hlt2 : k < (ys.map (·.1)).length := by rw [List.length_map]; exact hlt
        exact e ((List.getElem?_inj hlt2 nd).mp (h2.trans h1.symm))
      exact ⟨by rw [upd_ne hne]; exact hv'.1, by rw [upd_ne (ne_of hv'.2 hy.1 (by intro z; cases z))]; exact hv'.2⟩
theorem set_zs {ys : List PgE} {k : Nat} {y : PgE} {t : Addr} {r : Rw} (hk : ys[k]? = some y) (hz : r.z = y.2.2.z) : zsOf (ys.set k (y.1, t, r)) = zsOf ys := by
  unfold zsOf
  refine List.ext_getElem? fun i => ?_
  have hlt : k < ys.length := (List.getElem?_eq_some_iff.mp hk).1
  rw [List.getElem?_map, List.getElem?_map, List.getElem?_set]
  by_cases e : k = i
  · subst e
    rw [if_pos rfl, if_pos hlt, hk]
    show some r.z = some y.2.2.z
    rw [hz]
  · rw [if_neg e]
theorem set_ad {ys : List PgE} {k : Nat} {y : PgE} {t : Addr} {r : Rw} (hk : ys[k]? = some y) : (ys.set k (y.1, t, r)).map (·.1) = ys.map (·.1) := by
  refine List.ext_getElem? fun i => ?_
  have hlt : k < ys.length := (List.getElem?_eq_some_iff.mp hk).1
  rw [List.getElem?_map, List.getElem?_map, List.getElem?_set]
  by_cases e : k = i
  · subst e
    rw [if_pos rfl, if_pos hlt, hk]
    rfl
  · rw [if_neg e]
/-- what a row keeps: its name, its stay -/
def RowK (r : Rw) : Prop := nmB r.z = true ∧ r.z.length ≤ 8 ∧ 1 ≤ r.l ∧ r.l ≤ r.m ∧ r.m ≤ 6
structure RowsOk (ys : List PgE) : Prop where
  nd : (zsOf ys).Nodup
  l1 : 1 ≤ ys.length
  l6 : ys.length ≤ 6
  kp : ∀ y ∈ ys, RowK y.2.2
  ns : ∀ y ∈ ys, (∀ v ∈ y.2.2.ns, v ∈ zsOf ys) ∧ y.2.2.ns.Nodup
theorem mod_inj {n s w a b : Int} (hn : 1 ≤ n) (hn6 : n ≤ 6) (hw : w = 1 ∨ w = -1) (a0 : 0 ≤ a) (a1 : a < n) (b0 : 0 ≤ b) (b1 : b < n) (h : (s + w * a) % n = (s + w * b) % n) : a = b := by
  have h6 : n = 1 ∨ n = 2 ∨ n = 3 ∨ n = 4 ∨ n = 5 ∨ n = 6 := by omega
  rcases hw with rfl | rfl <;> rcases h6 with rfl | rfl | rfl | rfl | rfl | rfl <;> omega
theorem RowsA.extF {H H' : Hp} {R F : Addr} {ys : List PgE} {fs : List Str} (h : RowsA H R ys) (hn : ys ≠ []) (hF : H F = some (.lst (fs.map V.str))) (s : SameX F H H') : RowsA H' R ys := by
  refine ⟨s _ _ (ne_of h.hR hF fun z => ?_) h.hR, fun y hy => ?_⟩
  · injection z with z
    cases ys with
    | nil => exact hn rfl
    | cons y ys =>
      cases fs with
      | nil => cases z
      | cons f fs => cases z
  · have r := h.row y hy
    refine ⟨s _ _ (ne_of r.1 hF fun z => ?_) r.1, s _ _ (ne_of r.2 hF (by intro z; cases z)) r.2⟩
    injection z with z
    cases fs with
    | nil => cases z
    | cons f fs =>
      cases fs with
      | nil => cases z
      | cons g gs => cases z
theorem int_str {n : Int} {fs : List Str} : HO.lst [.int n] ≠ HO.lst (fs.map V.str) := fun z => by
  injection z with z
  cases fs with
  | nil => cases z
  | cons f fs => cases z
theorem ixN4 {n : Nat} : ixN (n + 5) 4 = some 4 := by
  unfold ixN
  rw [if_pos (by omega), if_pos (by omega)]
  all_goals rfl
theorem sc_law_rows : FnScope ["_law_draw", "_law_words", "_law_many", "_law_longest", "_law_rows_here", "_law_k", "_law_word", "_law_row_here", "_law_low", "_law_shift", "_law_way", "_law_found", "_law_j"] ["_law_draw", "_law_words", "_law_many", "_law_longest"] (defScope s_law_rows) := ⟨rfl, rfl, rfl, by decide +kernel, rfl, by decide +kernel, by decide +kernel⟩
-- slots: 0 _law_draw, 1 _law_words, 2 _law_many, 3 _law_longest, 4 _law_rows_here, 5 _law_k, 6 _law_word, 7 _law_row_here, 8 _law_low, 9 _law_shift, 10 _law_way, 11 _law_found, 12 _law_j
def spRows : Sp := fun vs H Q _ => ∃ (d e : Addr) (n n' mn lg : Int), vs = [.ref d, .ref e, .int mn, .int lg] ∧ H d = some (.lst [.int n]) ∧ H e = some (.lst [.int n']) ∧ d ≠ e ∧ 1 ≤ mn ∧ mn ≤ 6 ∧ 1 ≤ lg ∧ lg ≤ 6 ∧
  ∀ H' R ys, Same2 d e H H' → (∃ m : Int, H' d = some (.lst [.int m])) → RowsA H' R ys → RowsOk ys → (ys.map (·.1)).Nodup → H R = none → Q (.ref R) H'
theorem zs_add {ys : List PgE} {y : PgE} : zsOf (ys ++ [y]) = zsOf ys ++ [y.2.2.z] := List.map_append ..
theorem nodup_add {α : Type} {l : List α} {a : α} (h : l.Nodup) (n : a ∉ l) : (l ++ [a]).Nodup := List.nodup_append.mpr ⟨h, by simp, fun x hx y hy => by
  rw [List.mem_singleton] at hy
  rw [hy]
  exact fun e => n (e ▸ hx)⟩
theorem ok_law_rows {fd : FuncData} (F : FnD K ("_law_rows", none) "_law_rows" "_law_rows" s_law_rows fd) (T : Txt K mg) (O_law_take : OkF P w K mg base CX0 1 "_law_take" ["_law_draw", "_law_size"] spTake) (O_law_name : OkF P w K mg base CX0 2 "_law_name" ["_law_draw", "_law_used"] spNam) : OkF P w K mg base CX0 3 "_law_rows" ["_law_draw", "_law_words", "_law_many", "_law_longest"] spRows := by
  refine okd F (F.ok sc_law_rows (fun vs H Q E h => ?_) fun cdv A outer s H vs Q E hr h => ?_) fun _ _ _ _ _ _ us hl => match us, hl with | [_, _, _, _], _ => rfl
  · obtain ⟨d, e, n, n', mn, lg, rfl, _⟩ := h
    rfl
  · obtain ⟨d, e, n, n', mn, lg, rfl, hd, he, nde, m1, m6, g1, g6, k⟩ := h
    refine ⟨_, PSs.nox (pss_cons (ps_set (i := 4) sc_law_rows.nd rfl (Or.inl rfl) (pe_lst pa_nil))
  (pss_cons (ps_for PassesOwn.never rfl (pi_range1 rfl T.z_range (pa_cons (pe_op op_add pe_int (c_fn O_law_take hr (by decide) T.g_law_take pass0 (pa_cons (pv 0) (pa_cons (pv 2) pa_nil)))) pa_nil)) (pg_name (i := 5) sc_law_rows.nd rfl (Or.inl rfl))
  (pss_cons (ps_set (i := 6) sc_law_rows.nd rfl (Or.inl rfl) (c_fn O_law_name hr (by decide) T.g_law_name pass0 (pa_cons (pv 1) (pa_cons (pe_lc (own := [("_law_row_here", 7)]) (g := gName 7) (tt := tYes) (by rfl) sc_law_rows.nd (pi_list (pv 4)) (blkOk_by (N := ["_law_draw", "_law_words", "_law_many", "_law_longest", "_law_rows_here", "_law_k", "_law_word", "_law_row_here", "_law_low", "_law_shift", "_law_way", "_law_found", "_law_j"]) (sc := defScope s_law_rows) (by decide +kernel)) (fun _ _ _ _ _ => (pg_name (i := 7) sc_law_rows.nd rfl (Or.inl rfl))) (fun _ _ _ _ _ => pts_nil) (fun _ _ _ _ _ => (pe_ix (ix_listK (K := K) rfl) (pv 7) pe_int (fun _ _ => rfl)))) pa_nil))))
  (pss_cons (ps_set (i := 8) sc_law_rows.nd rfl (Or.inl rfl) (pe_op op_add pe_int (c_fn O_law_take hr (by decide) T.g_law_take pass0 (pa_cons (pv 0) (pa_cons (pv 3) pa_nil)))))
  (pss_one (ps_expr (pe_bm PySem.F.plainAttrs_list PySem.F.slot_list_append PySem.F.type_list_append mt_append (pv 4) (pa_cons (pe_lst (pa_cons (pv 6) (pa_cons (pv 8) (pa_cons (pe_op op_add (pv 8) (c_fn O_law_take hr (by decide) T.g_law_take pass0 (pa_cons (pv 0) (pa_cons (pe_op op_sub (pe_op op_add (pv 3) pe_int) (pv 8)) pa_nil)))) (pa_cons (pe_cmpR op_gt (c_fn O_law_take hr (by decide) T.g_law_take pass0 (pa_cons (pv 0) (pa_cons pe_int pa_nil))) pe_int (nomark _)) (pa_cons (pe_tup pa_nil) pa_nil)))))) pa_nil)))))))
  (pss_cons (ps_for PassesOwn.never rfl (pi_range1 rfl T.z_range (pa_cons (pe_callB (id := "len") call_len_seq (by rfl) T.z_len (by decide +kernel) (pa_cons (pv 4) pa_nil)) pa_nil)) (pg_name (i := 5) sc_law_rows.nd rfl (Or.inl rfl))
  (pss_cons (ps_set (i := 9) sc_law_rows.nd rfl (Or.inl rfl) (c_fn O_law_take hr (by decide) T.g_law_take pass0 (pa_cons (pv 0) (pa_cons (pe_callB (id := "len") call_len_seq (by rfl) T.z_len (by decide +kernel) (pa_cons (pv 4) pa_nil)) pa_nil))))
  (pss_cons (ps_set (i := 10) sc_law_rows.nd rfl (Or.inl rfl) (pe_op op_sub pe_int (pe_op op_mul pe_int (c_fn O_law_take hr (by decide) T.g_law_take pass0 (pa_cons (pv 0) (pa_cons pe_int pa_nil))))))
  (pss_cons (ps_set (i := 11) sc_law_rows.nd rfl (Or.inl rfl) (pe_lst pa_nil))
  (pss_cons (ps_for PassesOwn.never rfl (pi_range1 rfl T.z_range (pa_cons (pe_callB (id := "len") call_len_seq (by rfl) T.z_len (by decide +kernel) (pa_cons (pv 4) pa_nil)) pa_nil)) (pg_name (i := 12) sc_law_rows.nd rfl (Or.inl rfl))
  (pss_one (ps_if (pt_cmpR op_gt (c_fn O_law_take hr (by decide) T.g_law_take pass0 (pa_cons (pv 0) (pa_cons pe_int pa_nil))) pe_int (nomark _)) (pss_one (ps_expr (pe_bm PySem.F.plainAttrs_list PySem.F.slot_list_append PySem.F.type_list_append mt_append (pv 11) (pa_cons (pe_ix ix_list (pe_ix ix_list (pv 4) (pe_op op_mod (pe_op op_add (pv 9) (pe_op op_mul (pv 10) (pv 12))) (pe_callB (id := "len") call_len_seq (by rfl) T.z_len (by decide +kernel) (pa_cons (pv 4) pa_nil))) (fun _ _ => rfl)) pe_int (fun _ _ => rfl)) pa_nil))))
  pss_nil)))
  (pss_cons (ps_set (i := 7) sc_law_rows.nd rfl (Or.inl rfl) (pe_ix ix_list (pv 4) (pv 5) (fun _ _ => rfl)))
  (pss_one (ps_asg (pe_callTy call_tuple_of (by rfl) T.z_tuple (by decide +kernel) (pa_cons (pv 11) pa_nil)) (pg_sub (pv 7) pe_int set_list)))))))))
  (pss_one (ps_ret (pv 4)))))), ?_⟩
    refine ⟨(by show 0 ≤ sizeLine; decide), fun R nR => ?_⟩
    have nRd : R ≠ d := (ne_of_none hd nR).symm
    have nRe : R ≠ e := (ne_of_none he nR).symm
    have hd0 := same_new (o := .lst []) nR _ _ hd
    have he0 := same_new (o := .lst []) nR _ _ he
    have s0 : Same2 d e H (upd H R (.lst [])) := fun b o _ _ h => same_new nR _ _ h
    have hR0 : (upd H R (.lst [])) R = some (.lst []) := upd_same
    generalize upd H R (.lst []) = H0 at hd0 he0 s0 hR0 ⊢
    refine ⟨_, rfl, _, rfl, d, n, mn, rfl, hd0, by omega, by omega, fun r m r0 r1 => ⟨1, r, rfl, rfl, 1 + r, rfl, by omega, by omega, ?_⟩⟩
    have hRm : (upd H0 d (.lst [.int m])) R = some (.lst []) := by rw [upd_ne nRd]; exact hR0
    have hem : (upd H0 d (.lst [.int m])) e = some (.lst [.int n']) := by rw [upd_ne nde.symm]; exact he0
    refine for_range (lo := 0) (n := (1 + r).toNat) (fun i σ H' => Same2 d e H H' ∧ (∃ m : Int, H' d = some (.lst [.int m])) ∧ (∃ m : Int, H' e = some (.lst [.int m])) ∧ ∃ (ys : List PgE) (v5 v6 v8 : Option V), RowsA H' R ys ∧ ys.length = i ∧ (zsOf ys).Nodup ∧ (ys.map (·.1)).Nodup ∧ (∀ y ∈ ys, RowK y.2.2 ∧ y.2.2.ns = []) ∧ (∀ a ∈ ys.map (·.1), H a = none) ∧
      σ = [some (.ref d), some (.ref e), some (.int mn), some (.int lg), some (.ref R), v5, v6, none, v8, none, none, none, none]) ⟨s0.x SameX.upd, ⟨m, upd_same⟩, ⟨n', hem⟩, [], none, none, none, ⟨hRm, fun _ h => nomatch h⟩, rfl, List.nodup_nil, List.nodup_nil, (fun _ h => nomatch h), (fun _ h => nomatch h), rfl⟩ ?_ ?_
    · clear hRm hem hR0 s0 he0 hd0 hd he H0 n n' m
      rintro i σ H1 hi ⟨sg, ⟨m, hd⟩, ⟨m', he⟩, ys, v5, v6, v8, hR, hl, hz, ha, hk, hfr, rfl⟩
      have hi6 : ys.length ≤ 5 := by omega
      have hlz : (zsOf ys).length = ys.length := List.length_map ..
      -- the used names
      refine ⟨_, rfl, _, rfl, R, rfl, ⟨_, SqL.of hR.hR⟩, fun D nD => lc_it walk_list (fun i H' => Same H1 H' ∧ H' D = some (.lst (((zsOf ys).take i).map V.str))) ⟨same_new nD, upd_same⟩ (fun i H' _ h => h.1.seq (SqL.of hR.hR)) ?_ ?_⟩
      · rintro j x H3 H' hj ⟨sg3, hD3⟩ ⟨rfl, hx⟩
        obtain ⟨y, hy, rfl⟩ := getE hx
        have hyr := ((hR.ext sg3).row y (List.mem_of_getElem? hy)).1
        refine ⟨rfl, _, rfl, y.1, _, 0, .str y.2.2.z, rfl, rfl, SqL.of hyr, atI0, ?_⟩
        refine ⟨_, hD3, ?_, same_app sg3 (Same.refl _) nD, ?_⟩
        · rw [List.length_map, List.length_take]
          rw [List.length_map] at hj
          exact Nat.lt_of_le_of_lt (Nat.min_le_left _ _) (Nat.lt_of_lt_of_le hj (Nat.le_trans hi6 (by decide)))
        · rw [upd_same, List.take_add_one, List.map_append]
          have : (zsOf ys)[j]? = some y.2.2.z := by
            unfold zsOf
            rw [List.getElem?_map, hy]
            rfl
          rw [this]
          rfl
      rintro H2 ⟨s12, hD⟩
      rw [List.length_map, ← hlz, List.take_length] at hD
      have hd2 := s12 _ _ hd
      have he2 := s12 _ _ he
      have hR2 := hR.ext s12
      have nDe : D ≠ e := (ne_of_none he nD).symm
      refine ⟨e, D, m', zsOf ys, rfl, he2, hD, nDe, by omega, fun H3 m3 z x3 he3 hz1 hz8 hzn => ?_⟩
      have hd3 := x3 _ _ nde hd2
      have hR3 := hR2.extX he2 x3
      have sg3 := (sg.s s12).y x3
      clear hR2 he2 hd2 x3 nDe hD s12 nD hR he hd sg H1 H2
      -- the stay
      refine ⟨_, rfl, _, rfl, d, m, lg, rfl, hd3, by omega, by omega, fun lo m4 lo0 lo1 => ⟨1, lo, rfl, rfl, ?_⟩⟩
      have hd4 : (upd H3 d (.lst [.int m4])) d = some (.lst [.int m4]) := upd_same
      have he4 : (upd H3 d (.lst [.int m4])) e = some (.lst [.int m3]) := by rw [upd_ne nde.symm]; exact he3
      have hR4 := hR3.extX hd3 (SameX.upd (o := .lst [.int m4]))
      have sg4 := sg3.x (SameX.upd (d := d) (H := H3) (o := .lst [.int m4]))
      generalize upd H3 d (.lst [.int m4]) = H4 at hd4 he4 hR4 sg4 ⊢
      clear hR3 he3 hd3 sg3 H3
      refine ⟨_, rfl, .inl ⟨rfl, _, SqL.of hR4.hR⟩, _, rfl, _, rfl, _, rfl, _, rfl, _, rfl, lg, 1, rfl, rfl, _, rfl, lg + 1, 1 + lo, rfl, rfl, d, m4, lg + 1 - (1 + lo), rfl, hd4, by omega, by omega, fun q m5 q0 q1 => ⟨1 + lo, q, rfl, rfl, _, rfl, d, m5, 3, rfl, upd_same, by decide, by decide, fun q' m6 q0' q1' => ⟨q', 0, rfl, rfl, (by show 0 ≤ sizeLine; decide), fun t nt => ⟨(by show 5 ≤ sizeLine; decide), fun a na => ?_⟩⟩⟩⟩
      have x5 : SameX d H4 (upd (upd H4 d (.lst [.int m5])) d (.lst [.int m6])) := SameX.upd.trans SameX.upd
      have hd5 : (upd (upd H4 d (.lst [.int m5])) d (.lst [.int m6])) d = some (.lst [.int m6]) := upd_same
      have he5 := x5 _ _ nde.symm he4
      have hR5 := hR4.extX hd4 x5
      have sg5 := sg4.x x5
      generalize upd (upd H4 d (.lst [.int m5])) d (.lst [.int m6]) = H5 at hd5 he5 hR5 sg5 nt na ⊢
      clear x5 hR4 he4 hd4 sg4 H4
      have st := same_new (o := .tup []) nt
      have sa := same_new (o := .lst [.str z, .int (1 + lo), .int (1 + lo + q), .bl (decide (q' > 0)), .ref t]) na
      have hrow : RowA (upd (upd H5 t (.tup [])) a (.lst [.str z, .int (1 + lo), .int (1 + lo + q), .bl (decide (q' > 0)), .ref t])) (a, t, ⟨z, 1 + lo, 1 + lo + q, decide (q' > 0), []⟩) := ⟨upd_same, sa _ _ upd_same⟩
      have hd6 := sa _ _ (st _ _ hd5)
      have he6 := sa _ _ (st _ _ he5)
      have hR6 := hR5.ext (st.trans sa)
      have sg6 := sg5.s (st.trans sa)
      have nad : a ≠ d := (ne_of_none (st _ _ hd5) na).symm
      have nae : a ≠ e := (ne_of_none (st _ _ he5) na).symm
      have na0 : H a = none := by
        cases q : H a with
        | none => rfl
        | some o =>
          have := st _ _ (sg5 a o nad nae q)
          rw [na] at this
          cases this
      have nas : a ∉ ys.map (·.1) := fun hm => by
        obtain ⟨y, hy, e⟩ := List.mem_map.mp hm
        have := st _ _ (hR5.row y hy).1
        rw [e, na] at this
        cases this
      generalize hG : upd (upd H5 t (.tup [])) a (.lst [.str z, .int (1 + lo), .int (1 + lo + q), .bl (decide (q' > 0)), .ref t]) = H6 at hrow hd6 he6 hR6 sg6 ⊢
      clear hG sa st na nt hR5 he5 hd5 sg5 H5
      refine ⟨R, _, .ref a, rfl, rfl, hR6.hR, ?_, ?_⟩
      · rw [List.length_map]
        exact Nat.lt_of_le_of_lt hi6 (by decide)
      have hR7 := hR6.add hrow
      have nRd' : d ≠ R := nRd.symm
      refine ⟨fun b o h1 h2 h3 => ?_, ⟨m6, by rw [upd_ne nRd']; exact hd6⟩, ⟨m3, by rw [upd_ne nRe.symm]; exact he6⟩, ys ++ [(a, t, ⟨z, 1 + lo, 1 + lo + q, decide (q' > 0), []⟩)], _, _, _, hR7, by rw [List.length_append, hl]; rfl, ?_, ?_, ?_, ?_, rfl⟩
      · rw [upd_ne (ne_of_none h3 nR)]
        exact sg6 b o h1 h2 h3
      · rw [zs_add]
        exact nodup_add hz hzn
      · rw [List.map_append]
        exact nodup_add ha nas
      · intro y hy
        rcases List.mem_append.mp hy with hy | hy
        · exact hk y hy
        · rw [List.mem_singleton] at hy
          rw [hy]
          exact ⟨⟨hz1, hz8, by show 1 ≤ 1 + lo; omega, by show 1 + lo ≤ 1 + lo + q; omega, by show 1 + lo + q ≤ 6; omega⟩, rfl⟩
      · intro b hb
        rw [List.map_append] at hb
        rcases List.mem_append.mp hb with hb | hb
        · exact hfr b hb
        · have : b = a := by simpa using hb
          rw [this]
          exact na0
    · clear hRm hem hR0 s0 he0 hd0 H0 m
      rintro σ H1 ⟨sg, ⟨m, hd1⟩, ⟨me, he1⟩, ys, v5, v6, v8, hR, hl, hz, ha, hk, hfr, rfl⟩
      have hn1 : 1 ≤ ys.length := by omega
      have hn6 : ys.length ≤ 6 := by omega
      have hlz : (zsOf ys).length = ys.length := List.length_map ..
      refine ⟨_, rfl, R, _, rfl, .inl (SqL.of hR.hR), _, rfl, by rw [List.length_map]; omega, by rw [List.length_map]; omega, ?_⟩
      rw [List.length_map]
      refine for_range (lo := 0) (n := (ys.length : Int).toNat) (fun i σ H' => Same2 d e H H' ∧ (∃ m : Int, H' d = some (.lst [.int m])) ∧ (∃ m : Int, H' e = some (.lst [.int m])) ∧ ∃ (ys' : List PgE) (v5 v7 v9 v10 v11 v12 : Option V), RowsA H' R ys' ∧ ys'.length = ys.length ∧ zsOf ys' = zsOf ys ∧ ys'.map (·.1) = ys.map (·.1) ∧ (∀ y ∈ ys', RowK y.2.2) ∧ (∀ y ∈ ys', (∀ v ∈ y.2.2.ns, v ∈ zsOf ys) ∧ y.2.2.ns.Nodup) ∧
        σ = [some (.ref d), some (.ref e), some (.int mn), some (.int lg), some (.ref R), v5, v6, v7, v8, v9, v10, v11, v12]) ⟨sg, ⟨m, hd1⟩, ⟨me, he1⟩, ys, _, none, none, none, none, none, hR, rfl, rfl, rfl, (fun y hy => (hk y hy).1), (fun y hy => by rw [(hk y hy).2]; exact ⟨(fun _ h => nomatch h), List.nodup_nil⟩), rfl⟩ ?_ ?_
      · clear hR hd1 he1 sg m me hk H1
        rintro i σ H1 hi ⟨sg, ⟨m, hd1⟩, ⟨me, he1⟩, ys', v5, v7, v9, v10, v11, v12, hR, hl', hz', ha', hk, hns, rfl⟩
        have hne : ys' ≠ [] := fun z => by rw [z] at hl'; simp at hl'; omega
        refine ⟨_, rfl, _, rfl, R, _, rfl, .inl (SqL.of hR.hR), d, m, _, rfl, hd1, by rw [List.length_map, hl']; omega, by rw [List.length_map, hl']; omega, fun sh m2 sh0 sh1 => ?_⟩
        rw [List.length_map, hl'] at sh1
        refine ⟨_, rfl, d, m2, 2, rfl, upd_same, by decide, by decide, fun q m3 q0 q1 => ⟨2, q, rfl, rfl, .inl ⟨by decide, by decide⟩, 1, 2 * q, rfl, rfl, (by show 0 ≤ sizeLine; decide), fun F nF => ?_⟩⟩
        have hw : 1 - 2 * q = 1 ∨ 1 - 2 * q = -1 := by omega
        have x2 : SameX d H1 (upd (upd H1 d (.lst [.int m2])) d (.lst [.int m3])) := SameX.upd.trans SameX.upd
        have hd2 : (upd (upd H1 d (.lst [.int m2])) d (.lst [.int m3])) d = some (.lst [.int m3]) := upd_same
        have hR2 := hR.extX hd1 x2
        have sg2 := sg.x x2
        generalize upd (upd H1 d (.lst [.int m2])) d (.lst [.int m3]) = H2 at nF x2 hd2 hR2 sg2 ⊢
        have he2 := x2 _ _ nde.symm he1
        have nFd : F ≠ d := (ne_of_none hd2 nF).symm
        have nFe : F ≠ e := (ne_of_none he2 nF).symm
        have nF0 : H F = none := by
          cases hF : H F with
          | none => rfl
          | some o =>
            have := sg2 F o nFd nFe hF
            rw [nF] at this
            cases this
        have sF := same_new (o := .lst []) nF
        have hF3 : (upd H2 F (.lst [])) F = some (.lst ([] : List V)) := upd_same
        have hd3 := sF _ _ hd2
        have he3 := sF _ _ he2
        have hR3 := hR2.ext sF
        have sg3 := sg2.s sF
        generalize upd H2 F (.lst []) = H3 at hF3 hd3 he3 hR3 sg3 ⊢
        clear sF sg2 hR2 hd2 he2 x2 nF hR hd1 he1 sg H2
        refine ⟨_, rfl, R, _, rfl, .inl (SqL.of hR3.hR), _, rfl, by rw [List.length_map]; omega, by rw [List.length_map]; omega, ?_⟩
        rw [List.length_map, hl']
        refine for_range (lo := 0) (n := (ys.length : Int).toNat) (fun j σ H' => Same2 d e H H' ∧ (∃ m : Int, H' d = some (.lst [.int m])) ∧ (∃ m : Int, H' e = some (.lst [.int m])) ∧ RowsA H' R ys' ∧ ∃ (fs : List Str) (v12 : Option V), H' F = some (.lst (fs.map V.str)) ∧ fs.Nodup ∧ fs.length ≤ j ∧ (∀ y ∈ fs, ∃ j' i : Nat, j' < j ∧ (i : Int) = (sh + (1 - 2 * q) * (j' : Int)) % (ys.length : Int) ∧ (zsOf ys)[i]? = some y) ∧
          σ = [some (.ref d), some (.ref e), some (.int mn), some (.int lg), some (.ref R), some (.int (0 + (i : Int))), v6, v7, v8, some (.int sh), some (.int (1 - 2 * q)), some (.ref F), v12]) ⟨sg3, ⟨m3, hd3⟩, ⟨me, he3⟩, hR3, [], v12, hF3, List.nodup_nil, Nat.zero_le _, (fun _ h => nomatch h), rfl⟩ ?_ ?_
        · clear hF3 hd3 he3 hR3 sg3 H3
          rintro j σ H3 hj ⟨sg, ⟨m, hd⟩, ⟨me, he⟩, hR, fs, v12, hF, hfn, hfl, hfs, rfl⟩
          refine ⟨_, rfl, d, m, 3, rfl, hd, by decide, by decide, fun q3 m' q30 q31 => ⟨q3, 0, rfl, rfl, _, rfl, ?_⟩⟩
          have x4 := SameX.upd (d := d) (H := H3) (o := .lst [.int m'])
          have hR4 := hR.extX hd x4
          have hF4 := x4 _ _ nFd hF
          have he4 := x4 _ _ nde.symm he
          have hd4 : (upd H3 d (.lst [.int m'])) d = some (.lst [.int m']) := upd_same
          have sg4 := sg.x x4
          generalize upd H3 d (.lst [.int m']) = H4 at hR4 hF4 he4 hd4 sg4 ⊢
          refine ite2 (fun _ => ?_) fun _ => ?_
          · have hz0 : (0 : Int) < ys.length := by omega
            have b0 := Int.emod_nonneg (sh + (1 - 2 * q) * (0 + (j : Int))) (b := (ys.length : Int)) (by omega)
            have b1 := Int.emod_lt_of_pos (sh + (1 - 2 * q) * (0 + (j : Int))) hz0
            obtain ⟨x, hx⟩ : ∃ x : Nat, (x : Int) = (sh + (1 - 2 * q) * (0 + (j : Int))) % (ys.length : Int) := ⟨((sh + (1 - 2 * q) * (0 + (j : Int))) % (ys.length : Int)).toNat, by omega⟩
            have hxl : x < ys'.length := by omega
            have hyx : ys'[x]? = some ys'[x] := List.getElem?_eq_getElem hxl
            generalize ys'[x] = y at hyx
            have hya := (hR4.row y (List.mem_of_getElem? hyx)).1
            have a1 : atI (ys'.map fun y => V.ref y.1) ((sh + (1 - 2 * q) * (0 + (j : Int))) % (((ys'.map fun y => V.ref y.1).length : Nat) : Int)) = some (.ref y.1) := by
              rw [List.length_map, hl', ← hx]
              exact atI_nat (by rw [List.getElem?_map, hyx]; rfl)
            have hzx : (zsOf ys)[x]? = some y.2.2.z := by
              rw [← hz', zsOf, List.getElem?_map, hyx]
              rfl
            refine ⟨_, rfl, .inl ⟨rfl, _, SqL.of hF4⟩, _, rfl, _, rfl, _, rfl, _, rfl, 1 - 2 * q, _, rfl, rfl, .inl ⟨by rcases hw with h | h <;> rw [h] <;> decide, by rcases hw with h | h <;> rw [h] <;> decide⟩, sh, _, rfl, rfl, _, rfl, R, _, rfl, .inl (SqL.of hR4.hR), _, _, rfl, rfl, (by show (0 : Int) < ((ys'.map fun y => V.ref y.1).length : Nat); rw [List.length_map, hl']; exact hz0), R, _, _, .ref y.1, rfl, rfl, SqL.of hR4.hR, a1, y.1, _, 0, .str y.2.2.z, rfl, rfl, SqL.of hya, atI0, F, _, .str y.2.2.z, rfl, rfl, hF4, ?_, ?_⟩
            · rw [List.length_map]
              exact Nat.lt_of_le_of_lt (show fs.length ≤ 6 by omega) (by decide)
            have hnot : y.2.2.z ∉ fs := fun hm => by
              obtain ⟨j', i', h1, h2, h3⟩ := hfs _ hm
              have hlt2 : x < (zsOf ys).length := by omega
              have e1 : x = i' := (List.getElem?_inj hlt2 hz).mp (hzx.trans h3.symm)
              have e2 : (sh + (1 - 2 * q) * (j' : Int)) % (ys.length : Int) = (sh + (1 - 2 * q) * (j : Int)) % (ys.length : Int) := by
                rw [← h2, ← e1, hx, Int.zero_add]
              have e3 := mod_inj (by omega) (by omega) hw (by omega) (by omega) (by omega) (by omega) e2
              omega
            refine ⟨fun b o h1 h2 h3 => ?_, ⟨m', by rw [upd_ne nFd.symm]; exact hd4⟩, ⟨me, by rw [upd_ne nFe.symm]; exact he4⟩, hR4.extF hne hF4 SameX.upd, fs ++ [y.2.2.z], _, by rw [upd_same, List.map_append]; rfl, nodup_add hfn hnot, by rw [List.length_append]; exact Nat.succ_le_succ hfl, fun v hv => ?_, rfl⟩
            · rw [upd_ne (ne_of_none h3 nF0)]
              exact sg4 b o h1 h2 h3
            · rcases List.mem_append.mp hv with hv | hv
              · obtain ⟨j', i', h1, h2, h3⟩ := hfs v hv
                exact ⟨j', i', by omega, h2, h3⟩
              · rw [List.mem_singleton] at hv
                rw [hv]
                refine ⟨j, x, by omega, ?_, hzx⟩
                rw [hx, Int.zero_add]
          · exact ⟨sg4, ⟨m', hd4⟩, ⟨me, he4⟩, hR4, fs, _, hF4, hfn, by omega, fun y hy => by
              obtain ⟨j', i', h1, h2, h3⟩ := hfs y hy
              exact ⟨j', i', by omega, h2, h3⟩, rfl⟩
        · clear hF3 hd3 he3 hR3 sg3 H3
          rintro σ H3 ⟨sg, ⟨m, hd⟩, ⟨me, he⟩, hR, fs, v12, hF, hfn, hfl, hfs, rfl⟩
          have hil : i < ys'.length := by omega
          have hyi : ys'[i]? = some ys'[i] := List.getElem?_eq_getElem hil
          generalize ys'[i] = y at hyi
          have a1 : atI (ys'.map fun y => V.ref y.1) (0 + (i : Int)) = some (.ref y.1) := by
            rw [Int.zero_add]
            exact atI_nat (by rw [List.getElem?_map, hyi]; rfl)
          refine ⟨_, rfl, _, rfl, R, _, _, .ref y.1, rfl, rfl, SqL.of hR.hR, a1, ?_⟩
          refine ⟨_, rfl, F, _, rfl, .inl ⟨SqL.of hF, fun t nt => ?_⟩⟩
          have st := same_new (o := .tup (fs.map V.str)) nt
          have ht : (upd H3 t (.tup (fs.map V.str))) t = some (.tup (fs.map V.str)) := upd_same
          have hR4 := hR.ext st
          have hd4 := st _ _ hd
          have he4 := st _ _ he
          have sg4 := sg.s st
          generalize upd H3 t (.tup (fs.map V.str)) = H4 at ht hR4 hd4 he4 sg4 ⊢
          have hya := (hR4.row y (List.mem_of_getElem? hyi)).1
          have nyd := (RowA.ne_int (hR4.row y (List.mem_of_getElem? hyi)) hd4).1
          have nye := (RowA.ne_int (hR4.row y (List.mem_of_getElem? hyi)) he4).1
          have nty : t ≠ y.1 := ne_of ht hya (by intro z; cases z)
          refine ⟨_, rfl, y.1, _, 4, 4, rfl, rfl, hya, ixN4, ?_⟩
          have hput := hR4.put (r := ⟨y.2.2.z, y.2.2.l, y.2.2.m, y.2.2.b, fs⟩) (by rw [ha']; exact ha) hyi ht nty
          have ny0 : H y.1 = none := hfr _ (ha' ▸ List.mem_map_of_mem (List.mem_of_getElem? hyi))
          refine ⟨fun b o h1 h2 h3 => ?_, ⟨m, by rw [upd_ne nyd.symm]; exact hd4⟩, ⟨me, by rw [upd_ne nye.symm]; exact he4⟩, _, _, _, _, _, _, _, hput, by rw [List.length_set]; exact hl', (set_zs (r := ⟨y.2.2.z, y.2.2.l, y.2.2.m, y.2.2.b, fs⟩) hyi rfl).trans hz', (set_ad hyi).trans ha', fun v hv => ?_, fun v hv => ?_, rfl⟩
          · rw [upd_ne (ne_of_none h3 ny0)]
            exact sg4 b o h1 h2 h3
          · rcases List.mem_or_eq_of_mem_set hv with hv | rfl
            · exact hk v hv
            · exact hk y (List.mem_of_getElem? hyi)
          · rcases List.mem_or_eq_of_mem_set hv with hv | rfl
            · exact hns v hv
            · refine ⟨fun x hx => ?_, hfn⟩
              obtain ⟨_, i', _, _, h3⟩ := hfs x hx
              exact List.mem_of_getElem? h3
      · rintro σ H2 ⟨sg, hd2, _, ys', v5, v7, v9, v10, v11, v12, hR, hl', hz', ha', hk, hns, rfl⟩
        exact ⟨_, rfl, k H2 R ys' sg hd2 hR ⟨by rw [hz']; exact hz, by omega, by omega, hk, fun y hy => by rw [hz']; exact hns y hy⟩ (by rw [ha']; exact ha) nR⟩
end
end K32

set_option Elab.async false
set_option linter.all false
set_option pp.deepTerms.threshold 14
set_option pp.maxSteps 2500
set_option maxRecDepth 100000
set_option maxHeartbeats 2000000
namespace K32
open PySem PySem.Spec PyProof.Rows L2 Vf
section
variable {P : Program} {w : World} {K : PySem.W.Frag} {mg : Str → Option Value} {base : Heap}
theorem sc_law_nexts : FnScope ["_law_rows_here", "_law_table", "_law_row_here"] ["_law_rows_here"] (defScope s_law_nexts) := ⟨rfl, rfl, rfl, by decide +kernel, rfl, by decide +kernel, by decide +kernel⟩
-- slots: 0 _law_rows_here, 1 _law_table, 2 _law_row_here
def spNxL : Sp := fun vs H Q _ => ∃ (R : Addr) (ys : List PgE), vs = [.ref R] ∧ RowsA H R ys ∧ (zsOf ys).Nodup ∧ ys.length ≤ 6 ∧ ∀ H' N, Same H H' → H N = none → H' N = some (.dK (kvN ys)) → Q (.ref N) H'
theorem ok_law_nexts {fd : FuncData} (F : FnD K ("_law_nexts", none) "_law_nexts" "_law_nexts" s_law_nexts fd) (T : Txt K mg) : OkF P w K mg base CX0 1 "_law_nexts" ["_law_rows_here"] spNxL := by
  refine okd F (F.ok sc_law_nexts (fun vs H Q E h => ?_) fun cdv A outer s H vs Q E hr h => ?_) fun _ _ _ _ _ _ us hl => match us, hl with | [_], _ => rfl
  · obtain ⟨R, ys, rfl, _⟩ := h
    rfl
  · obtain ⟨R, ys, rfl, hR, hz, h6, k⟩ := h
    refine ⟨_, PSs.nox (pss_cons (ps_set (i := 1) sc_law_nexts.nd rfl (Or.inl rfl) pe_dnewK)
  (pss_cons (ps_for PassesOwn.never rfl (pi_list (pv 0)) (pg_name (i := 2) sc_law_nexts.nd rfl (Or.inl rfl))
  (pss_one (ps_dput (hu_of hr) (pv 1) (pe_ix ix_list (pv 2) pe_int (fun _ _ => rfl)) (pe_ix ix_list (pv 2) pe_int (fun _ _ => rfl)) rfl)))
  (pss_one (ps_ret (pv 1))))), ?_⟩
    intro N nN
    have s1 := same_new (o := .dK []) nN
    have hN : (upd H N (.dK [])) N = some (.dK []) := upd_same
    have hR1 := hR.ext s1
    have s0 : ∀ {H' : Hp}, SameX N (upd H N (.dK [])) H' → Same H H' := fun x b o h => x b o (ne_of_none h nN) (s1 _ _ h)
    generalize upd H N (.dK []) = H1 at s1 hN hR1 s0 ⊢
    have keep : ∀ {H' : Hp}, SameX N H1 H' → RowsA H' R ys := fun x => ⟨x _ _ (ne_of hR1.hR hN (by intro z; cases z)) hR1.hR, fun y hy => ⟨x _ _ (ne_of (hR1.row y hy).1 hN (by intro z; cases z)) (hR1.row y hy).1, x _ _ (ne_of (hR1.row y hy).2 hN (by intro z; cases z)) (hR1.row y hy).2⟩⟩
    refine ⟨_, rfl, R, rfl, ⟨_, SqL.of hR1.hR⟩, for_it walk_list (fun i σ H' => SameX N H1 H' ∧ H' N = some (.dK ((ys.take i).map fun y => ((Sum.inr y.2.2.z : Key), V.ref y.2.1))) ∧ ∃ v : Option V, σ = [some (.ref R), some (.ref N), v]) ⟨fun _ _ _ h => h, hN, none, rfl⟩ (fun i σ H' _ h => SqL.of (keep h.1).hR) ?_ ?_⟩
    · rintro i x σ H2 H' hi ⟨sx, hN2, v, rfl⟩ ⟨rfl, hx⟩
      obtain ⟨y, hy, rfl⟩ := getE hx
      have hya := ((keep sx).row y (List.mem_of_getElem? hy)).1
      refine ⟨_, rfl, y.1, _, 4, .ref y.2.1, rfl, rfl, SqL.of hya, atI_nat (j := 4) rfl, _, rfl, _, rfl, y.1, _, 0, .str y.2.2.z, rfl, rfl, SqL.of hya, atI0, N, _, rfl, DPut.k (k := Sum.inr y.2.2.z) hN2 ?_, sx.trans SameX.upd, ?_, _, rfl⟩
      · rw [List.length_map, List.length_take]
        rw [List.length_map] at hi
        exact Nat.lt_of_le_of_lt (Nat.min_le_left _ _) (Nat.lt_of_lt_of_le hi (Nat.le_trans h6 (by decide)))
      · rw [upd_same, put_row (f := fun y => V.ref y.2.1) hz hy]
    · rintro σ H2 ⟨sx, hN2, v, rfl⟩
      rw [List.length_map, List.take_length] at hN2
      exact ⟨_, rfl, k H2 N (s0 sx) nN hN2⟩
theorem sc_law_program : FnScope ["_law_rows_here", "_law_begin", "_law_places", "_law_row_here"] ["_law_rows_here", "_law_begin"] (defScope s_law_program) := ⟨rfl, rfl, rfl, by decide +kernel, rfl, by decide +kernel, by decide +kernel⟩
-- slots: 0 _law_rows_here, 1 _law_begin, 2 _law_places, 3 _law_row_here
/-- the row beside the place that is made of it -/
def Beside (xs ys : List PgE) : Prop := xs.map (·.2) = ys.map (·.2)
theorem Beside.zs {xs ys : List PgE} (h : Beside xs ys) : zsOf xs = zsOf ys := by
  have := congrArg (List.map fun x : Addr × Rw => x.2.z) h
  rw [List.map_map, List.map_map] at this
  exact this
theorem Beside.len {xs ys : List PgE} (h : Beside xs ys) : xs.length = ys.length := by
  have := congrArg List.length h
  simpa using this
theorem Beside.get {xs ys : List PgE} (h : Beside xs ys) {i : Nat} {x : PgE} (hx : xs[i]? = some x) : ∃ y, ys[i]? = some y ∧ y.2 = x.2 := by
  have h1 : (xs.map (·.2))[i]? = some x.2 := by rw [List.getElem?_map, hx]; rfl
  rw [h, List.getElem?_map] at h1
  cases hq : ys[i]? with
  | none => rw [hq] at h1; cases h1
  | some y =>
    rw [hq] at h1
    exact ⟨y, rfl, Option.some.inj h1⟩
theorem Beside.mem {xs ys : List PgE} (h : Beside xs ys) {x : PgE} (hx : x ∈ xs) : ∃ y ∈ ys, y.2 = x.2 := by
  obtain ⟨i, hi⟩ := List.mem_iff_getElem?.mp hx
  obtain ⟨y, hy, e⟩ := h.get hi
  exact ⟨y, List.mem_of_getElem? hy, e⟩
theorem Beside.kvN {xs ys : List PgE} (h : Beside xs ys) : kvN xs = kvN ys := by
  have := congrArg (List.map fun x : Addr × Rw => ((Sum.inr x.2.z : Key), V.ref x.1)) h
  rw [List.map_map, List.map_map] at this
  exact this
def spPrL (K : PySem.W.Frag) : Sp := fun vs H Q _ => ∃ (R : Addr) (ys : List PgE) (s : Str), vs = [.ref R, .str s] ∧ RowsA H R ys ∧ RowsOk ys ∧ s ∈ zsOf ys ∧ ∀ H' g xs dx tn dP dN, Same H H' → PgA K H' g xs s dx tn dP dN → Beside xs ys → H dP = none → H dN = none → Q (.ref g) H'
theorem ok_law_program {fd : FuncData} (F : FnD K ("_law_program", none) "_law_program" "_law_program" s_law_program fd) (T : Txt K mg) (O_law_nexts : OkF P w K mg base CX0 1 "_law_nexts" ["_law_rows_here"] spNxL)
    (O_Place_init3k : OkK P w K mg base (L2.CX P w) 4 ("Place", some "__init__") ["self", "name", "least", "most", "let"] 4 ["let"] (fun vs zs => vs ++ zs) (spPlI K)) (O_Program_init2k : OkK P w K mg base (L2.CX P w) 5 ("Program", some "__init__") ["self", "places", "nexts", "start"] 3 ["start"] (fun vs zs => vs ++ zs) (spPgI K)) : OkF P w K mg base CX0 7 "_law_program" ["_law_rows_here", "_law_begin"] (spPrL K) := by
  refine okd F (F.ok sc_law_program (fun vs H Q E h => ?_) fun cdv A outer s H vs Q E hr h => ?_) fun _ _ _ _ _ _ us hl => match us, hl with | [_, _], _ => rfl
  · obtain ⟨R, ys, z, rfl, _⟩ := h
    rfl
  · obtain ⟨R, ys, z, rfl, hR, hok, hz, k⟩ := h
    refine ⟨_, PSs.nox (pss_cons (ps_setLc (i := 2) (own := [("_law_row_here", 3)]) (g := gName 3) (tt := tYes) (by rfl) sc_law_program.nd rfl rfl (sw_true rfl rfl rfl (by decide +kernel)) (pi_list (pv 0)) (blkOk_by (N := ["_law_rows_here", "_law_begin", "_law_places", "_law_row_here"]) (sc := defScope s_law_program) (by decide +kernel)) (fun _ _ _ _ _ => (pg_name (i := 3) sc_law_program.nd rfl (Or.inl rfl))) (fun _ _ _ _ _ => pts_nil) (fun _ _ _ _ _ => (c_mkK T.m_Place O_Place_init3k hr (by decide) T.g_Place passL (pa_cons (pe_ix (ix_listK (K := K) rfl) (pv 3) pe_int (fun _ _ => rfl)) (pa_cons (pe_ix (ix_listK (K := K) rfl) (pv 3) pe_int (fun _ _ => rfl)) (pa_cons (pe_ix (ix_listK (K := K) rfl) (pv 3) pe_int (fun _ _ => rfl)) pa_nil))) (pk_cons (pe_ix (ix_listK (K := K) rfl) (pv 3) pe_int (fun _ _ => rfl)) pk_nil))))
  (pss_one (ps_ret (c_mkK T.m_Program O_Program_init2k hr (by decide) T.g_Program passL (pa_cons (pv 2) (pa_cons (c_fn O_law_nexts hr (by decide) T.g_law_nexts pass0 (pa_cons (pv 0) pa_nil)) pa_nil)) (pk_cons (pv 1) pk_nil))))), ?_⟩
    refine ⟨_, rfl, R, rfl, ⟨_, SqL.of hR.hR⟩, fun D nD => lc_it walk_list (fun i H' => Same H H' ∧ ∃ xs : List PgE, H' D = some (.lst (xs.map fun x => V.ref x.1)) ∧ xs.map (·.2) = (ys.take i).map (·.2) ∧ ∀ x ∈ xs, PlE K H' x) ⟨same_new nD, [], upd_same, rfl, (fun _ h => nomatch h)⟩ (fun i H' _ h => h.1.seq (SqL.of hR.hR)) ?_ ?_⟩
    · rintro i x H1 H' hi ⟨sg, xs, hD, hb, hp⟩ ⟨rfl, hx⟩
      obtain ⟨y, hy, rfl⟩ := getE hx
      have hm := List.mem_of_getElem? hy
      have hya := SqL.of (K := K) ((hR.ext sg).row y hm).1
      obtain ⟨k1, k2, k3, k4, k5⟩ := hok.kp y hm
      have hxl : xs.length ≤ 6 := by
        have := congrArg List.length hb
        simp only [List.length_map, List.length_take] at this
        have := hok.l6
        omega
      refine ⟨rfl, _, rfl, y.1, _, 0, .str y.2.2.z, rfl, rfl, hya, atI0, _, rfl, y.1, _, 1, .int y.2.2.l, rfl, rfl, hya, atI_nat (j := 1) rfl, _, rfl, y.1, _, 2, .int y.2.2.m, rfl, rfl, hya, atI_nat (j := 2) rfl, _, rfl, y.1, _, 3, .bl y.2.2.b, rfl, rfl, hya, atI_nat (j := 3) rfl, rfl, rfl, fun p dx np ndx ne => ⟨p, dx, _, _, _, _, rfl, upd_same, .inr ⟨y.2.2.z, y.2.2.l, y.2.2.m, y.2.2.b, ⟨rfl, Nat.le_trans k2 (by decide), k1, rfl, k3, k4, k5, .inl rfl, rfl⟩, fun H2 s2 => ⟨rfl, ?_⟩⟩⟩⟩
      have sm : Same H' (upd H2 p (.ins (CP K) dx (plf y.2.2.z y.2.2.l y.2.2.m y.2.2.b))) := fun b' u e => by
        rw [upd_ne (ne_of_none e np)]
        exact s2 _ _ (same_make np ndx _ _ e)
      have hpl : PlE K (upd H2 p (.ins (CP K) dx (plf y.2.2.z y.2.2.l y.2.2.m y.2.2.b))) (p, y.2) := ⟨dx, upd_same⟩
      generalize upd H2 p (.ins (CP K) dx (plf y.2.2.z y.2.2.l y.2.2.m y.2.2.b)) = H3 at sm hpl ⊢
      have hD3 := sm _ _ hD
      have old : ∀ x ∈ xs ++ [(p, y.2)], PlE K H3 x := fun x hx => by
        rcases List.mem_append.mp hx with hx | hx
        · exact (hp x hx).ext sm
        · rw [List.mem_singleton] at hx
          rw [hx]
          exact hpl
      refine ⟨_, hD3, ?_, same_app sg sm nD, xs ++ [(p, y.2)], by rw [upd_same, List.map_append]; rfl, ?_, fun x hx => ?_⟩
      · rw [List.length_map]
        exact Nat.lt_of_le_of_lt hxl (by decide)
      · rw [List.map_append, hb, List.take_add_one, List.map_append, hy]
        rfl
      · obtain ⟨d1, e1⟩ := old x hx
        exact ⟨d1, by rw [upd_ne (ne_of e1 hD3 (by intro z; cases z))]; exact e1⟩
    rintro H1 ⟨s1, xs, hD, hb, hp⟩
    rw [List.length_map, List.take_length] at hb
    have hB : Beside xs ys := hb
    have hR1 := hR.ext s1
    refine ⟨_, rfl, _, rfl, R, ys, rfl, hR1, hok.nd, hok.l6, fun H2 N s2 nN hN => ⟨_, rfl, rfl, rfl, fun g dx ng ndx ne => ?_⟩⟩
    have sm := same_make (o1 := .own g) (o2 := .ins (CG K) dx []) ng ndx
    have hparts : PartsOk K H2 HO.lst D N xs := by
      refine ⟨s2 _ _ hD, fun x hx => (hp x hx).ext s2, ⟨kvN ys, hN, ?_, fun x hx => ?_⟩, fun x hx => ?_, by rw [hB.zs]; exact hok.nd, by rw [hB.len]; exact hok.l1, by rw [hB.len]; exact hok.l6, fun v hv => ?_, .inl rfl⟩
      · rw [← hB.kvN]
        exact List.length_map ..
      · obtain ⟨i, hi⟩ := List.mem_iff_getElem?.mp hx
        have hzx : (zsOf xs).Nodup := by rw [hB.zs]; exact hok.nd
        rw [← hB.kvN]
        exact val_row (f := fun y => V.ref y.2.1) hzx hi
      · obtain ⟨y, hy, e⟩ := hB.mem hx
        have h1 := ((hR1.ext s2).row y hy).2
        have h2 := hok.ns y hy
        unfold NsE
        rw [← e]
        refine ⟨h1, fun v hv => by rw [hB.zs]; exact h2.1 v hv, h2.2, ?_⟩
        have := nodup_le h2.2 h2.1
        have h3 : (zsOf ys).length = ys.length := List.length_map ..
        have := hok.l6
        omega
      · rw [hB.zs] at hv
        obtain ⟨y, hy, rfl⟩ := List.mem_map.mp hv
        exact (hok.kp y hy).1
    refine ⟨g, dx, D, N, _, xs, _, z, rfl, upd_same, hparts.ext sm, by rw [hB.zs]; exact hz, .inl rfl, fun H3 dx3 tn dP dN x3 hpg nP nN2 => ⟨rfl, ?_⟩⟩
    have s3 : Same H2 H3 := fun b o e => x3 b o (ne_of_none e ng) (sm _ _ e)
    have back : ∀ {b : Addr}, (upd (upd H2 dx (.own g)) g (.ins (CG K) dx [])) b = none → H b = none := fun {b} e => by
      cases q : H b with
      | none => rfl
      | some o =>
        have := sm _ _ (s2 _ _ (s1 _ _ q))
        rw [e] at this
        cases this
    exact k H3 g xs dx3 tn dP dN (s1.trans (s2.trans s3)) hpg hB (back nP) (back nN2)
end
end K32

set_option Elab.async false
set_option linter.all false
set_option pp.deepTerms.threshold 14
set_option pp.maxSteps 2500
set_option maxRecDepth 100000
set_option maxHeartbeats 2000000
namespace K32
open PySem PySem.Spec PyProof.Rows L2 Vf
section
variable {P : Program} {w : World} {K : PySem.W.Frag} {mg : Str → Option Value} {base : Heap}
theorem sc_law_is_integer : FnScope ["_law_value"] ["_law_value"] (defScope s_law_is_integer) := ⟨rfl, rfl, rfl, by decide +kernel, rfl, by decide +kernel, by decide +kernel⟩
-- slots: 0 _law_value
theorem ok_law_is_integer {fd : FuncData} (F : FnD K ("_law_is_integer", none) "_law_is_integer" "_law_is_integer" s_law_is_integer fd) (T : Txt K mg) : OkF P w K mg base CX0 1 "_law_is_integer" ["_law_value"] spIsInt := by
  refine okd F (F.ok sc_law_is_integer (fun vs H Q E h => ?_) fun cdv A outer s H vs Q E hr h => ⟨t_isint K, PSs.nox ?_, run_isint h⟩) fun _ _ _ _ _ _ us hl => match us, hl with | [_], _ => rfl
  · obtain ⟨x, rfl, _⟩ := h
    rfl
  · exact (pss_one (ps_ret (pe_and (pe_callB (id := "isinstance") call_isi (by rfl) T.z_isinstance (by decide +kernel) (pa_cons (pv 0) (pa_cons (pe_ty (n := "int") T.z_int (by decide +kernel)) pa_nil))) (pe_one (pe_not (pe_callB (id := "isinstance") call_isi (by rfl) T.z_isinstance (by decide +kernel) (pa_cons (pv 0) (pa_cons (pe_ty (n := "bool") T.z_bool (by decide +kernel)) pa_nil))))))))
/-- the list of a sampler's values -/
structure SpA (H : Hp) (s : Addr) (n i : Int) (f : V) : Prop where
  hs : H s = some (.lst [.int n, .int i, f])
  n1 : 1 ≤ n
  n8 : n ≤ 8
  i0 : 0 ≤ i
  i1 : i ≤ n - 1
  hf : PhOk f n
theorem SpA.ext {H H' : Hp} {s : Addr} {n i : Int} {f : V} (h : SpA H s n i f) (e : Same H H') : SpA H' s n i f := ⟨e _ _ h.hs, h.n1, h.n8, h.i0, h.i1, h.hf⟩
theorem ixN2 {n : Nat} : ixN (n + 3) 2 = some 2 := by
  unfold ixN
  rw [if_pos (by omega), if_pos (by omega)]
  rfl
theorem sc_law_spec : FnScope ["_law_draw", "_law_longest", "_law_spec_here", "_law_shift"] ["_law_draw", "_law_longest"] (defScope s_law_spec) := ⟨rfl, rfl, rfl, by decide +kernel, rfl, by decide +kernel, by decide +kernel⟩
-- slots: 0 _law_draw, 1 _law_longest, 2 _law_spec_here, 3 _law_shift
def spSpec : Sp := fun vs H Q _ => ∃ (d : Addr) (n lg : Int), vs = [.ref d, .int lg] ∧ H d = some (.lst [.int n]) ∧ 1 ≤ lg ∧ lg ≤ 8 ∧ ∀ (H' : Hp) (s : Addr) (m p i : Int) (f : V), SameX d H H' → H' d = some (.lst [.int m]) → H s = none → SpA H' s p i f → p ≤ lg → Q (.ref s) H'
theorem ok_law_spec {fd : FuncData} (F : FnD K ("_law_spec", none) "_law_spec" "_law_spec" s_law_spec fd) (T : Txt K mg) (O_law_take : OkF P w K mg base CX0 1 "_law_take" ["_law_draw", "_law_size"] spTake) : OkF P w K mg base CX0 2 "_law_spec" ["_law_draw", "_law_longest"] spSpec := by
  refine okd F (F.ok sc_law_spec (fun vs H Q E h => ?_) fun cdv A outer s H vs Q E hr h => ?_) fun _ _ _ _ _ _ us hl => match us, hl with | [_, _], _ => rfl
  · obtain ⟨d, n, lg, rfl, _⟩ := h
    rfl
  · obtain ⟨d, n, lg, rfl, hd, l1, l8, k⟩ := h
    refine ⟨_, PSs.nox (pss_cons (ps_set (i := 2) sc_law_spec.nd rfl (Or.inl rfl) (pe_lst (pa_cons (pe_op op_add pe_int (c_fn O_law_take hr (by decide) T.g_law_take pass0 (pa_cons (pv 0) (pa_cons (pv 1) pa_nil)))) pa_nil)))
  (pss_cons (ps_expr (pe_bm PySem.F.plainAttrs_list PySem.F.slot_list_append PySem.F.type_list_append mt_append (pv 2) (pa_cons (c_fn O_law_take hr (by decide) T.g_law_take pass0 (pa_cons (pv 0) (pa_cons (pe_ix ix_list (pv 2) pe_int (fun _ _ => rfl)) pa_nil))) pa_nil)))
  (pss_cons (ps_set (i := 3) sc_law_spec.nd rfl (Or.inl rfl) (c_fn O_law_take hr (by decide) T.g_law_take pass0 (pa_cons (pv 0) (pa_cons (pe_op op_add (pe_ix ix_list (pv 2) pe_int (fun _ _ => rfl)) pe_int) pa_nil))))
  (pss_cons (ps_expr (pe_bm PySem.F.plainAttrs_list PySem.F.slot_list_append PySem.F.type_list_append mt_append (pv 2) (pa_cons (pv 3) pa_nil)))
  (C8.pss_cut (ps_if (pt_cmpR op_eq (pv 3) (pe_ix ix_list (pv 2) pe_int (fun _ _ => rfl)) (nomark _)) (pss_one (ps_asg pe_non (pg_sub (pv 2) pe_int set_list)))
  pss_nil)
  (pss_one (ps_ret (pv 2)))))))), ?_⟩
    refine ⟨_, rfl, _, rfl, d, n, lg, rfl, hd, by omega, by omega, fun q m q0 q1 => ⟨1, q, rfl, rfl, (by show 1 ≤ sizeLine; decide), fun s ns => ?_⟩⟩
    have x1 : SameX d H (upd H d (.lst [.int m])) := SameX.upd
    have hd1 : (upd H d (.lst [.int m])) d = some (.lst [.int m]) := upd_same
    generalize upd H d (.lst [.int m]) = H1 at x1 hd1 ns ⊢
    have nsd : s ≠ d := (ne_of_none hd1 ns).symm
    have s2 := same_new (o := .lst [.int (1 + q)]) ns
    have hs2 : (upd H1 s (.lst [.int (1 + q)])) s = some (.lst [.int (1 + q)]) := upd_same
    have hd2 := s2 _ _ hd1
    have x2 := x1.trans (same_x (d := d) s2)
    have nH : H s = none := by
      cases e : H s with
      | none => rfl
      | some o =>
        have := x1 _ _ nsd e
        rw [ns] at this
        cases this
    generalize upd H1 s (.lst [.int (1 + q)]) = H2 at hs2 hd2 x2 ⊢
    clear s2 ns x1 hd1
    refine ⟨_, rfl, .inl ⟨rfl, _, SqL.of hs2⟩, _, rfl, _, rfl, s, _, 0, .int (1 + q), rfl, rfl, SqL.of hs2, atI0, d, m, 1 + q, rfl, hd2, by omega, by omega, fun i m2 i0 i1 => ?_⟩
    have hs3 : (upd H2 d (.lst [.int m2])) s = some (.lst [.int (1 + q)]) := by rw [upd_ne nsd]; exact hs2
    refine ⟨s, _, _, rfl, rfl, hs3, (by show 1 < sizeLine; decide), ?_⟩
    have hs4 : (upd (upd H2 d (.lst [.int m2])) s (.lst ([.int (1 + q)] ++ [.int i]))) s = some (.lst [.int (1 + q), .int i]) := upd_same
    have hd4 : (upd (upd H2 d (.lst [.int m2])) s (.lst ([.int (1 + q)] ++ [.int i]))) d = some (.lst [.int m2]) := by rw [upd_ne nsd.symm]; exact upd_same
    have x4 : SameX d H (upd (upd H2 d (.lst [.int m2])) s (.lst ([.int (1 + q)] ++ [.int i]))) := fun b o nb e => by
      rw [upd_ne (ne_of_none e nH), upd_ne nb]
      exact x2 b o nb e
    generalize upd (upd H2 d (.lst [.int m2])) s (.lst ([.int (1 + q)] ++ [.int i])) = H4 at hs4 hd4 x4 ⊢
    clear hs3 hs2 hd2 x2 H2 H1
    refine ⟨_, rfl, _, rfl, s, _, 0, .int (1 + q), rfl, rfl, SqL.of hs4, atI0, _, _, rfl, rfl, d, m2, 1 + q + 1, rfl, hd4, by omega, by omega, fun h m3 h0 h1 => ?_⟩
    have hs5 : (upd H4 d (.lst [.int m3])) s = some (.lst [.int (1 + q), .int i]) := by rw [upd_ne nsd]; exact hs4
    refine ⟨_, rfl, .inl ⟨rfl, _, SqL.of hs5⟩, _, rfl, s, _, _, rfl, rfl, hs5, (by show 2 < sizeLine; decide), ?_⟩
    have hs6 : (upd (upd H4 d (.lst [.int m3])) s (.lst ([.int (1 + q), .int i] ++ [.int h]))) s = some (.lst [.int (1 + q), .int i, .int h]) := upd_same
    have hd6 : (upd (upd H4 d (.lst [.int m3])) s (.lst ([.int (1 + q), .int i] ++ [.int h]))) d = some (.lst [.int m3]) := by rw [upd_ne nsd.symm]; exact upd_same
    have x6 : SameX d H (upd (upd H4 d (.lst [.int m3])) s (.lst ([.int (1 + q), .int i] ++ [.int h]))) := fun b o nb e => by
      rw [upd_ne (ne_of_none e nH), upd_ne nb]
      exact x4 b o nb e
    generalize upd (upd H4 d (.lst [.int m3])) s (.lst ([.int (1 + q), .int i] ++ [.int h])) = H6 at hs6 hd6 x6 ⊢
    refine ⟨fun σ' H' => σ' = [some (.ref d), some (.int lg), some (.ref s), some (.int h)] ∧ SameX d H H' ∧ H' d = some (.lst [.int m3]) ∧ ∃ f : V, SpA H' s (1 + q) i f, ?_, ?_⟩
    · refine ⟨_, rfl, _, rfl, s, _, 0, .int (1 + q), rfl, rfl, SqL.of hs6, atI0, rfl, _, rfl, ite2 (fun hc => ?_) fun hc => ?_⟩
      · refine ⟨_, rfl, s, _, 2, 2, rfl, rfl, hs6, ixN2, rfl, fun b o nb e => ?_, by rw [upd_ne nsd.symm]; exact hd6, .non, upd_same, by omega, by omega, by omega, by omega, .inl rfl⟩
        rw [upd_ne (ne_of_none e nH)]
        exact x6 b o nb e
      · refine ⟨rfl, x6, hd6, .int h, hs6, by omega, by omega, by omega, by omega, .inr ⟨h, rfl, h0, ?_⟩⟩
        have : ¬ h = 1 + q := fun z => hc (decide_eq_true (congrArg V.int z))
        omega
    · rintro σ' H' ⟨rfl, x7, hd7, f, hf⟩
      exact ⟨_, rfl, k H' s m3 (1 + q) i f x7 hd7 nH hf (by omega)⟩
theorem sc_law_sampler : FnScope ["_law_spec_here"] ["_law_spec_here"] (defScope s_law_sampler) := ⟨rfl, rfl, rfl, by decide +kernel, rfl, by decide +kernel, by decide +kernel⟩
-- slots: 0 _law_spec_here
def spSmp (K : PySem.W.Frag) : Sp := fun vs H Q _ => ∃ (s : Addr) (n i : Int) (f : V), vs = [.ref s] ∧ SpA H s n i f ∧ ∀ H' p, Same H H' → SaA (CS K) H' p n i f → Q (.ref p) H'
theorem ok_law_sampler {fd : FuncData} (F : FnD K ("_law_sampler", none) "_law_sampler" "_law_sampler" s_law_sampler fd) (T : Txt K mg) (O_Sampler_init2k : OkK P w K mg base (L2.CX P w) 4 ("Sampler", some "__init__") ["self", "period", "jitter", "phase"] 3 ["phase"] (fun vs zs => vs ++ zs) (spSaI K)) : OkF P w K mg base CX0 6 "_law_sampler" ["_law_spec_here"] (spSmp K) := by
  refine okd F (F.ok sc_law_sampler (fun vs H Q E h => ?_) fun cdv A outer s H vs Q E hr h => ?_) fun _ _ _ _ _ _ us hl => match us, hl with | [_], _ => rfl
  · obtain ⟨s, n, i, f, rfl, _⟩ := h
    rfl
  · obtain ⟨s, n, i, f, rfl, hs, k⟩ := h
    refine ⟨_, PSs.nox (pss_one (ps_ret (c_mkK T.m_Sampler O_Sampler_init2k hr (by decide) T.g_Sampler passL (pa_cons (pe_ix ix_list (pv 0) pe_int (fun _ _ => rfl)) (pa_cons (pe_ix ix_list (pv 0) pe_int (fun _ _ => rfl)) pa_nil)) (pk_cons (pe_ix ix_list (pv 0) pe_int (fun _ _ => rfl)) pk_nil)))), ?_⟩
    refine ⟨_, rfl, s, _, 0, .int n, rfl, rfl, SqL.of hs.hs, atI0, _, rfl, s, _, 1, .int i, rfl, rfl, SqL.of hs.hs, atI1, _, rfl, s, _, 2, f, rfl, rfl, SqL.of hs.hs, atI_nat (j := 2) rfl, rfl, rfl, fun p dx np ndx ne => ⟨p, dx, .int n, .int i, f, rfl, upd_same, .inr ⟨n, i, ⟨rfl, hs.n1, hs.n8, rfl, hs.i0, hs.i1, hs.hf⟩, rfl, ?_⟩⟩⟩
    exact k _ p (same_make2 np ndx) ⟨dx, upd_same⟩
end
end K32

set_option Elab.async false
set_option linter.all false
set_option pp.deepTerms.threshold 14
set_option pp.maxSteps 2500
set_option maxRecDepth 100000
set_option maxHeartbeats 2000000
namespace K32
open PySem PySem.Spec PyProof.Rows L2 Vf
section
variable {P : Program} {w : World} {K : PySem.W.Frag} {mg : Str → Option Value} {base : Heap}
/-- a tick: its state, and whether it writes a note -/
structure Tk where
  z : Str
  sp : Int
  sl : Int
  dn : Bool
  wt : Bool
  nt : Bool
deriving DecidableEq
def TkA (H : Hp) (p : Addr) (k : Tk) : Prop := ∃ t, H p = some (.tup [.ref t, .bl k.nt]) ∧ H t = some (.tup [.str k.z, .int k.sp, .int k.sl, .bl k.dn, .bl k.wt])
theorem TkA.ext {H H' : Hp} {p : Addr} {k : Tk} (h : TkA H p k) (s : Same H H') : TkA H' p k := by
  obtain ⟨t, h1, h2⟩ := h
  exact ⟨t, s _ _ h1, s _ _ h2⟩
/-- the list of ticks at L -/
def TksA (H : Hp) (L : Addr) (ks : List Tk) : Prop := ∃ rs : List Addr, H L = some (.lst (rs.map V.ref)) ∧ Paired (TkA H) rs ks
theorem TksA.ext {H H' : Hp} {L : Addr} {ks : List Tk} (h : TksA H L ks) (s : Same H H') : TksA H' L ks := by
  obtain ⟨rs, h1, h2⟩ := h
  exact ⟨rs, s _ _ h1, paired_imp (fun _ _ q => q.ext s) h2⟩
theorem TkA.keep {H : Hp} {L p : Addr} {vs us : List V} {k : Tk} (h : TkA H p k) (hL : H L = some (.lst vs)) : TkA (upd H L (.lst us)) p k := by
  obtain ⟨t, h1, h2⟩ := h
  exact ⟨t, by rw [upd_ne (ne_of h1 hL (by intro z; cases z))]; exact h1, by rw [upd_ne (ne_of h2 hL (by intro z; cases z))]; exact h2⟩
theorem TksA.add {H : Hp} {L p : Addr} {ks : List Tk} {k : Tk} {vs : List V} (h : TksA H L ks) (hv : H L = some (.lst vs)) (hp : TkA H p k) : TksA (upd H L (.lst (vs ++ [.ref p]))) L (ks ++ [k]) := by
  obtain ⟨rs, h1, h2⟩ := h
  rw [hv] at h1
  cases h1
  exact ⟨rs ++ [p], by rw [upd_same, List.map_append]; rfl, paired_snoc (hp.keep hv) (paired_imp (fun r k q => q.keep hv) h2)⟩
theorem TksA.len {H : Hp} {L : Addr} {ks : List Tk} (h : TksA H L ks) : ∃ vs, H L = some (.lst vs) ∧ vs.length = ks.length := by
  obtain ⟨rs, h1, h2⟩ := h
  exact ⟨_, h1, by rw [List.length_map, paired_len h2]⟩
theorem paired_app {α β : Type} {R : α → β → Prop} : ∀ {xs xs' : List α} {ys ys' : List β}, Paired R xs ys → Paired R xs' ys' → Paired R (xs ++ xs') (ys ++ ys')
  | _, _, _, _, .nil, q => q
  | _, _, _, _, .cons r p, q => .cons r (paired_app p q)
/-- one list behind another, at a new place -/
theorem TksA.cat {H : Hp} {L M D : Addr} {ks ms : List Tk} {vs us : List V} (h : TksA H L ks) (h' : TksA H M ms) (hv : H L = some (.lst vs)) (hu : H M = some (.lst us)) (nD : H D = none) : TksA (upd H D (.lst (vs ++ us))) D (ks ++ ms) := by
  obtain ⟨rs, h1, h2⟩ := h
  obtain ⟨rs', h1', h2'⟩ := h'
  rw [hv] at h1
  rw [hu] at h1'
  cases h1
  cases h1'
  exact ⟨rs ++ rs', by rw [upd_same, List.map_append], paired_app (paired_imp (fun _ _ q => q.ext (same_new nD)) h2) (paired_imp (fun _ _ q => q.ext (same_new nD)) h2')⟩
/-- the row of this name -/
def rowQ (ys : List PgE) (z : Str) : Rw := match ys.find? (fun y => y.2.2.z == z) with
  | some y => y.2.2
  | none => ⟨"", 0, 0, false, []⟩
theorem rowQ_row {ys : List PgE} (nd : (zsOf ys).Nodup) {i : Nat} {y : PgE} (h : ys[i]? = some y) : rowQ ys y.2.2.z = y.2.2 := by
  unfold rowQ
  rw [find_row nd h]
theorem rowQ_z {ys : List PgE} (nd : (zsOf ys).Nodup) {z : Str} (h : z ∈ zsOf ys) : (rowQ ys z).z = z := by
  obtain ⟨i, y, hy, e⟩ := row_of h
  subst e
  rw [rowQ_row nd hy]
theorem rowQ_mem {ys : List PgE} (nd : (zsOf ys).Nodup) {z : Str} (h : z ∈ zsOf ys) : ∃ y ∈ ys, y.2.2 = rowQ ys z := by
  obtain ⟨i, y, hy, e⟩ := row_of h
  subst e
  exact ⟨y, List.mem_of_getElem? hy, (rowQ_row nd hy).symm⟩
theorem sc_law_row : FnScope ["_law_rows_here", "_law_word", "_law_row_here"] ["_law_rows_here", "_law_word"] (defScope s_law_row) := ⟨rfl, rfl, rfl, by decide +kernel, rfl, by decide +kernel, by decide +kernel⟩
-- slots: 0 _law_rows_here, 1 _law_word, 2 _law_row_here
def spRow : Sp := fun vs H Q _ => ∃ (R : Addr) (ys : List PgE) (z : Str), vs = [.ref R, .str z] ∧ RowsA H R ys ∧ (zsOf ys).Nodup ∧ z ∈ zsOf ys ∧ ∀ (i : Nat) (y : PgE), ys[i]? = some y → y.2.2.z = z → Q (.ref y.1) H
theorem ok_law_row {fd : FuncData} (F : FnD K ("_law_row", none) "_law_row" "_law_row" s_law_row fd) (T : Txt K mg) : OkF P w K mg base CX0 1 "_law_row" ["_law_rows_here", "_law_word"] spRow := by
  refine okd F (F.ok sc_law_row (fun vs H Q E h => ?_) fun cdv A outer s H vs Q E hr h => ?_) fun _ _ _ _ _ _ us hl => match us, hl with | [_, _], _ => rfl
  · obtain ⟨R, ys, z, rfl, _⟩ := h
    rfl
  · obtain ⟨R, ys, z, rfl, hR, nd, hz, k⟩ := h
    refine ⟨_, PSs.nox (pss_cons (ps_for PassesOwn.never rfl (pi_list (pv 0)) (pg_name (i := 2) sc_law_row.nd rfl (Or.inl rfl))
  (pss_one (ps_if (pt_cmpR op_eq (pe_ix ix_list (pv 2) pe_int (fun _ _ => rfl)) (pv 1) (nomark _)) (pss_one (ps_ret (pv 2)))
  pss_nil)))
  (pss_one (ps_ret (pe_ix ix_list (pv 0) pe_int (fun _ _ => rfl))))), ?_⟩
    refine ⟨_, rfl, R, rfl, ⟨_, SqL.of hR.hR⟩, for_it walk_list (fun j σ H' => H' = H ∧ (∀ (i : Nat) (y : PgE), i < j → ys[i]? = some y → y.2.2.z ≠ z) ∧ ∃ v : Option V, σ = [some (.ref R), some (.str z), v]) ⟨rfl, fun i y h _ => absurd h (Nat.not_lt_zero i), none, rfl⟩ (fun j σ H' _ h => h.1 ▸ SqL.of hR.hR) ?_ ?_⟩
    · rintro j x σ H1 H' hj ⟨rfl, hn, v, rfl⟩ ⟨rfl, hx⟩
      obtain ⟨y, hy, rfl⟩ := getE hx
      have hya := (hR.row y (List.mem_of_getElem? hy)).1
      refine ⟨_, rfl, y.1, _, 0, .str y.2.2.z, rfl, rfl, SqL.of hya, atI0, _, rfl, rfl, _, rfl, ite2 (fun hc => ?_) fun hc => ?_⟩
      · exact ⟨_, rfl, k j y hy (V.str.inj (of_decide_eq_true hc))⟩
      · have hc := of_decide_eq_false (Bool.eq_false_iff.mpr hc)
        refine ⟨rfl, fun i y' hi hy' => ?_, _, rfl⟩
        by_cases e : i = j
        · subst e
          rw [hy] at hy'
          cases hy'
          exact fun q => hc (by rw [q])
        · exact hn i y' (by omega) hy'
    · rintro σ H' ⟨rfl, hn, v, rfl⟩
      obtain ⟨i, y, hy, e⟩ := row_of hz
      have hi : i < ys.length := (List.getElem?_eq_some_iff.mp hy).1
      exact absurd e (hn i y (by rw [List.length_map]; exact hi) hy)
/-! ### the ticks that can come -/
def tkOff (i sl : Int) (bf due : Bool) : Bool := (due && bf) || (!due && (!bf && decide (sl = i)))
def tkOne (r : Rw) (i sp sl : Int) (bf wd due : Bool) : List Tk := if tkOff i sl bf due = true then [] else [⟨r.z, sp, sl, bf || due, (wd || due) && !r.b, (wd || due) && r.b⟩]
def tkL (r : Rw) (i sp sl : Int) (bf wd : Bool) : List Tk := tkOne r i sp sl bf wd false ++ tkOne r i sp sl bf wd true
def tkUp (r : Rw) (i sp sl : Int) (bf wd : Bool) : Nat → List Tk
  | 0 => []
  | 1 => tkOne r i sp sl bf wd false
  | _ => tkL r i sp sl bf wd
theorem tkOne_len (r : Rw) (i sp sl : Int) (bf wd due : Bool) : (tkOne r i sp sl bf wd due).length ≤ 1 := by
  unfold tkOne
  split
  · exact Nat.zero_le _
  · exact Nat.le_refl _
theorem sc_law_ticks : FnScope ["_law_row_here", "_law_spec_here", "_law_spent", "_law_slot", "_law_before", "_law_waited", "_law_pairs", "_law_due_here", "_law_waits"] ["_law_row_here", "_law_spec_here", "_law_spent", "_law_slot", "_law_before", "_law_waited"] (defScope s_law_ticks) := ⟨rfl, rfl, rfl, by decide +kernel, rfl, by decide +kernel, by decide +kernel⟩
-- slots: 0 _law_row_here, 1 _law_spec_here, 2 _law_spent, 3 _law_slot, 4 _law_before, 5 _law_waited, 6 _law_pairs, 7 _law_due_here, 8 _law_waits
def spTks : Sp := fun vs H Q _ => ∃ (a s b : Addr) (r : Rw) (n i sp sl : Int) (f : V) (bf wd : Bool), vs = [.ref a, .ref s, .int sp, .int sl, .bl bf, .bl wd] ∧ H a = some (.lst [.str r.z, .int r.l, .int r.m, .bl r.b, .ref b]) ∧ H s = some (.lst [.int n, .int i, f]) ∧ ∀ H' L, Same H H' → H L = none → TksA H' L (tkL r i sp sl bf wd) → Q (.ref L) H'
theorem ok_law_ticks {fd : FuncData} (F : FnD K ("_law_ticks", none) "_law_ticks" "_law_ticks" s_law_ticks fd) (T : Txt K mg) : OkF P w K mg base CX0 1 "_law_ticks" ["_law_row_here", "_law_spec_here", "_law_spent", "_law_slot", "_law_before", "_law_waited"] spTks := by
  refine okd F (F.ok sc_law_ticks (fun vs H Q E h => ?_) fun cdv A outer s H vs Q E hr h => ?_) fun _ _ _ _ _ _ us hl => match us, hl with | [_, _, _, _, _, _], _ => rfl
  · obtain ⟨a, s, b, r, n, i, sp, sl, f, bf, wd, rfl, _⟩ := h
    rfl
  · obtain ⟨a, s, b, r, n, i, sp, sl, f, bf, wd, rfl, ha, hs, k⟩ := h
    refine ⟨_, PSs.nox (pss_cons (ps_set (i := 6) sc_law_ticks.nd rfl (Or.inl rfl) (pe_lst pa_nil))
  (pss_cons (ps_for PassesOwn.never rfl (pi_list (pe_lst (pa_cons pe_bl (pa_cons pe_bl pa_nil)))) (pg_name (i := 7) sc_law_ticks.nd rfl (Or.inl rfl))
  (pss_cons (ps_if (PW.pt (pw_orB (PW.pt (pw_andB (pt_val (pv 7)) (pw_and1 (pt_val (pv 4))))) (pw_or1 (PW.pt (pw_andB (pt_not (pt_val (pv 7))) (pw_andB (pt_not (pt_val (pv 4))) (pw_and1 (pt_cmpR op_eq (pv 3) (pe_ix ix_list (pv 1) pe_int (fun _ _ => rfl)) (nomark _))))))))) (pss_one ps_continue)
  pss_nil)
  (pss_cons (ps_set (i := 8) sc_law_ticks.nd rfl (Or.inl rfl) (pe_orB (pv 5) (pe_one (pv 7))))
  (pss_one (ps_expr (pe_bm PySem.F.plainAttrs_list PySem.F.slot_list_append PySem.F.type_list_append mt_append (pv 6) (pa_cons (pe_tup (pa_cons (pe_tup (pa_cons (pe_ix ix_list (pv 0) pe_int (fun _ _ => rfl)) (pa_cons (pv 2) (pa_cons (pv 3) (pa_cons (pe_orB (pv 4) (pe_one (pv 7))) (pa_cons (pe_andB (pv 8) (pe_one (pe_not (pe_ix ix_list (pv 0) pe_int (fun _ _ => rfl))))) pa_nil)))))) (pa_cons (pe_andB (pv 8) (pe_one (pe_ix ix_list (pv 0) pe_int (fun _ _ => rfl)))) pa_nil))) pa_nil)))))))
  (pss_one (ps_ret (pv 6))))), ?_⟩
    refine ⟨(by show 0 ≤ sizeLine; decide), fun L nL => ?_⟩
    have s1 := same_new (o := .lst []) nL
    have hL1 : TksA (upd H L (.lst [])) L (tkUp r i sp sl bf wd 0) := ⟨[], upd_same, .nil⟩
    generalize upd H L (.lst []) = H1 at s1 hL1 ⊢
    refine ⟨(by show 2 ≤ sizeLine; decide), fun D nD => ?_⟩
    have s2 := s1.trans (same_new (o := .lst [.bl false, .bl true]) nD)
    have hD : (upd H1 D (.lst [.bl false, .bl true])) D = some (.lst [.bl false, .bl true]) := upd_same
    have hL2 := hL1.ext (same_new (o := .lst [.bl false, .bl true]) nD)
    have nDL : D ≠ L := by
      obtain ⟨vs, hv, _⟩ := hL1.len
      exact (ne_of_none hv nD).symm
    generalize upd H1 D (.lst [.bl false, .bl true]) = H2 at s2 hD hL2 ⊢
    refine ⟨D, rfl, ⟨_, SqL.of hD⟩, for_it (walk_list (xs := [.bl false, .bl true])) (fun j σ H' => Same H H' ∧ TksA H' L (tkUp r i sp sl bf wd j) ∧ H' D = some (.lst [.bl false, .bl true]) ∧ ∃ v7 v8 : Option V, σ = [some (.ref a), some (.ref s), some (.int sp), some (.int sl), some (.bl bf), some (.bl wd), some (.ref L), v7, v8]) ⟨s2, hL2, hD, none, none, rfl⟩ (fun j σ H' _ h => SqL.of h.2.2.1) ?_ ?_⟩
    · clear hL2 hD s2 nD hL1 s1 H1 H2
      rintro j x σ H1 H' hj ⟨sg, hL, hD, v7, v8, rfl⟩ ⟨rfl, hx⟩
      obtain ⟨due, rfl, hup⟩ : ∃ due : Bool, x = .bl due ∧ tkUp r i sp sl bf wd (j + 1) = tkUp r i sp sl bf wd j ++ tkOne r i sp sl bf wd due := by
        match j, hj, hx with
        | 0, _, hx => cases hx; exact ⟨false, rfl, rfl⟩
        | 1, _, hx => cases hx; exact ⟨true, rfl, rfl⟩
      have hs1 := sg _ _ hs
      have ha1 := sg _ _ ha
      refine ⟨_, rfl, due, rfl, bf, (· = H'), fun _ => ⟨_, rfl, bf, rfl, rfl, rfl⟩, fun _ => rfl, fun H2 e => ?_⟩
      subst e
      refine ⟨!due && (!bf && decide (sl = i)), (· = H2), fun _ => ?_, fun _ => rfl, fun H3 e => ?_⟩
      · exact ⟨_, rfl, due, rfl, !bf && decide (sl = i), (· = H2), fun _ => ⟨_, rfl, bf, rfl, decide (sl = i), (· = H2), fun _ => ⟨_, rfl, _, rfl, s, _, 1, .int i, rfl, rfl, SqL.of hs1, atI1, rfl, _, rfl, int_dec _ _, rfl⟩, fun _ => rfl, fun _ e => ⟨rfl, e⟩⟩, fun _ => rfl, fun _ e => ⟨rfl, e⟩⟩
      subst e
      have hoff : ((due && bf) || (!due && (!bf && decide (sl = i)))) = tkOff i sl bf due := rfl
      rw [hoff]
      refine ite_one (fun hc => ?_) fun hc => ?_
      · have e1 : tkOne r i sp sl bf wd due = [] := by
          unfold tkOne
          rw [if_pos hc]
        refine ⟨sg, ?_, hD, _, _, rfl⟩
        rw [hup, e1, List.append_nil]
        exact hL
      · have e1 : tkOne r i sp sl bf wd due = [⟨r.z, sp, sl, bf || due, (wd || due) && !r.b, (wd || due) && r.b⟩] := by
          unfold tkOne
          rw [if_neg (by rw [hc]; decide)]
        rw [e1] at hup
        clear hoff hc e1
        refine ⟨_, rfl, wd, due, (· = H3), rfl, fun _ => ⟨_, rfl, rfl, rfl⟩, fun _ => rfl, fun H4 e => ?_⟩
        subst e
        obtain ⟨vs, hv, hvl⟩ := hL.len
        have hvs : vs.length ≤ 2 := by
          rw [hvl]
          match j, hj with
          | 0, _ => exact Nat.zero_le _
          | 1, _ => exact Nat.le_trans (tkOne_len ..) (by decide)
        refine ⟨_, rfl, .inl ⟨rfl, _, SqL.of hv⟩, ?_⟩
        refine ⟨_, rfl, a, _, 0, .str r.z, rfl, rfl, SqL.of ha1, atI0, _, rfl, _, rfl, _, rfl, bf, due, (· = H4), rfl, fun _ => ⟨_, rfl, rfl, rfl⟩, fun _ => rfl, fun H5 e => ?_⟩
        subst e
        refine ⟨_, rfl, wd || due, !r.b, (· = H5), rfl, fun _ => ⟨_, rfl, a, _, 3, .bl r.b, rfl, rfl, SqL.of ha1, atI_nat (j := 3) rfl, r.b, rfl, rfl, rfl⟩, fun _ => rfl, fun H6 e => ?_⟩
        subst e
        refine ⟨(by show 5 ≤ sizeLine; decide), fun t nt => ?_⟩
        have st := same_new (o := .tup [.str r.z, .int sp, .int sl, .bl (bf || due), .bl ((wd || due) && !r.b)]) nt
        have ht : (upd H6 t (.tup [.str r.z, .int sp, .int sl, .bl (bf || due), .bl ((wd || due) && !r.b)])) t = some (.tup [.str r.z, .int sp, .int sl, .bl (bf || due), .bl ((wd || due) && !r.b)]) := upd_same
        have ha2 := st _ _ ha1
        generalize upd H6 t (.tup [.str r.z, .int sp, .int sl, .bl (bf || due), .bl ((wd || due) && !r.b)]) = H7 at st ht ha2 ⊢
        refine ⟨_, rfl, wd || due, r.b, (· = H7), rfl, fun _ => ⟨_, rfl, a, _, 3, .bl r.b, rfl, rfl, SqL.of ha2, atI_nat (j := 3) rfl, rfl, rfl⟩, fun _ => rfl, fun H8 e => ?_⟩
        subst e
        refine ⟨(by show 2 ≤ sizeLine; decide), fun q nq => ?_⟩
        have sq := same_new (o := .tup [.ref t, .bl ((wd || due) && r.b)]) nq
        have hq : TkA (upd H8 q (.tup [.ref t, .bl ((wd || due) && r.b)])) q ⟨r.z, sp, sl, bf || due, (wd || due) && !r.b, (wd || due) && r.b⟩ := ⟨t, upd_same, sq _ _ ht⟩
        have stq := st.trans sq
        have hL2 := hL.ext stq
        have hv2 := stq _ _ hv
        have hD2 := stq _ _ hD
        refine ⟨L, _, _, rfl, rfl, hv2, Nat.lt_of_le_of_lt hvs (by decide), ?_⟩
        refine ⟨same_app (sg.trans stq) (Same.refl _) nL, ?_, ?_, _, _, rfl⟩
        · rw [hup]
          exact hL2.add hv2 hq
        · rw [upd_ne nDL]
          exact hD2
    · rintro σ H' ⟨sg, hL, hD, v7, v8, rfl⟩
      exact ⟨_, rfl, k H' L sg nL hL⟩
end
end K32

set_option Elab.async false
set_option linter.all false
set_option pp.deepTerms.threshold 14
set_option pp.maxSteps 2500
set_option maxRecDepth 100000
set_option maxHeartbeats 2000000
namespace K32
open PySem PySem.Spec PyProof.Rows L2 Vf
section
variable {P : Program} {w : World} {K : PySem.W.Frag} {mg : Str → Option Value} {base : Heap}
def shL (f : V) (n : Int) : List Int := match f with
  | .int q => [q]
  | _ => (List.range (n - 0).toNat).map fun i => 0 + ((i : Nat) : Int)
theorem shL_len {f : V} {n : Int} (hf : PhOk f n) (n8 : n ≤ 8) : (shL f n).length ≤ 8 := by
  rcases hf with rfl | ⟨q, rfl, _⟩
  · unfold shL
    rw [List.length_map, List.length_range]
    omega
  · exact (by decide : (1 : Nat) ≤ 8)
def firstL (r : Rw) (i n : Int) (f : V) : List Tk := (shL f n).flatMap fun q => tkL r i 1 q (decide (q > i)) false
theorem tkL_len (r : Rw) (i sp sl : Int) (bf wd : Bool) : (tkL r i sp sl bf wd).length ≤ 2 := by
  unfold tkL
  rw [List.length_append]
  have h1 := tkOne_len r i sp sl bf wd false
  have h2 := tkOne_len r i sp sl bf wd true
  omega
theorem flat_len {α β : Type} {g : α → List β} {c : Nat} (h : ∀ a, (g a).length ≤ c) : ∀ (l : List α), (l.flatMap g).length ≤ l.length * c
  | [] => by simp
  | a :: l => by
    have h1 := h a
    have h2 := flat_len h l
    rw [List.flatMap_cons, List.length_append, List.length_cons, Nat.succ_mul]
    omega
theorem flat_up {α β : Type} (g : α → List β) {l : List α} {j : Nat} {a : α} (h : l[j]? = some a) : (l.take (j + 1)).flatMap g = (l.take j).flatMap g ++ g a := by
  rw [List.take_add_one, h, List.flatMap_append]
  show _ ++ (g a ++ []) = _
  rw [List.append_nil]
theorem sc_law_first : FnScope ["_law_rows_here", "_law_spec_here", "_law_begin", "_law_shifts", "_law_pairs", "_law_shift"] ["_law_rows_here", "_law_spec_here", "_law_begin"] (defScope s_law_first) := ⟨rfl, rfl, rfl, by decide +kernel, rfl, by decide +kernel, by decide +kernel⟩
-- slots: 0 _law_rows_here, 1 _law_spec_here, 2 _law_begin, 3 _law_shifts, 4 _law_pairs, 5 _law_shift
def spFst : Sp := fun vs H Q _ => ∃ (R s : Addr) (ys : List PgE) (z : Str) (n i : Int) (f : V), vs = [.ref R, .ref s, .str z] ∧ RowsA H R ys ∧ (zsOf ys).Nodup ∧ z ∈ zsOf ys ∧ SpA H s n i f ∧ ∀ H' L, Same H H' → H L = none → TksA H' L (firstL (rowQ ys z) i n f) → Q (.ref L) H'
theorem ok_law_first {fd : FuncData} (F : FnD K ("_law_first", none) "_law_first" "_law_first" s_law_first fd) (T : Txt K mg) (O_law_row : OkF P w K mg base CX0 1 "_law_row" ["_law_rows_here", "_law_word"] spRow) (O_law_ticks : OkF P w K mg base CX0 1 "_law_ticks" ["_law_row_here", "_law_spec_here", "_law_spent", "_law_slot", "_law_before", "_law_waited"] spTks) : OkF P w K mg base CX0 2 "_law_first" ["_law_rows_here", "_law_spec_here", "_law_begin"] spFst := by
  refine okd F (F.ok sc_law_first (fun vs H Q E h => ?_) fun cdv A outer s H vs Q E hr h => ?_) fun _ _ _ _ _ _ us hl => match us, hl with | [_, _, _], _ => rfl
  · obtain ⟨R, s, ys, z, n, i, f, rfl, _⟩ := h
    rfl
  · obtain ⟨R, s, ys, z, n, i, f, rfl, hR, nd, hz, hs, k⟩ := h
    refine ⟨_, PSs.nox (pss_cons (ps_set (i := 3) sc_law_first.nd rfl (Or.inl rfl) (pe_lst (pa_cons (pe_ix ix_list (pv 1) pe_int (fun _ _ => rfl)) pa_nil)))
  (C8.pss_cut (ps_if (pt_cmpR op_isN (pe_ix ix_list (pv 1) pe_int (fun _ _ => rfl)) pe_non (nomark _)) (pss_one (ps_set (i := 3) sc_law_first.nd rfl (Or.inl rfl) (pe_listRg rfl rfl T.z_list (prg_1 rfl T.z_range (pe_ix ix_list (pv 1) pe_int (fun _ _ => rfl))))))
  pss_nil)
  (pss_cons (ps_set (i := 4) sc_law_first.nd rfl (Or.inl rfl) (pe_lst pa_nil))
  (pss_cons (ps_for PassesOwn.never rfl (pi_list (pv 3)) (pg_name (i := 5) sc_law_first.nd rfl (Or.inl rfl))
  (pss_one (ps_set (i := 4) sc_law_first.nd rfl (Or.inl rfl) (pe_op op_cat (pv 4) (c_fn O_law_ticks hr (by decide) T.g_law_ticks pass0 (pa_cons (c_fn O_law_row hr (by decide) T.g_law_row pass0 (pa_cons (pv 0) (pa_cons (pv 2) pa_nil))) (pa_cons (pv 1) (pa_cons pe_int (pa_cons (pv 5) (pa_cons (pe_cmpR op_gt (pv 5) (pe_ix ix_list (pv 1) pe_int (fun _ _ => rfl)) (nomark _)) (pa_cons pe_bl pa_nil)))))))))))
  (pss_one (ps_ret (pv 4))))))), ?_⟩
    have n1 := hs.n1
    have n8 := hs.n8
    have hf := hs.hf
    refine ⟨_, rfl, s, _, 2, f, rfl, rfl, SqL.of hs.hs, atI_nat (j := 2) rfl, (by show 1 ≤ sizeLine; decide), fun S nS => ?_⟩
    have s1 := same_new (o := .lst [f]) nS
    have hS1 : (upd H S (.lst [f])) S = some (.lst [f]) := upd_same
    generalize upd H S (.lst [f]) = H1 at s1 hS1 ⊢
    refine ⟨fun σ' H' => Same H H' ∧ ∃ S : Addr, H' S = some (.lst ((shL f n).map V.int)) ∧ σ' = [some (.ref R), some (.ref s), some (.str z), some (.ref S), none, none], ?_, ?_⟩
    · refine ⟨_, rfl, s, _, 2, f, rfl, rfl, SqL.of (s1 _ _ hs.hs), atI_nat (j := 2) rfl, rfl, _, rfl, ite2 (fun hc => ?_) fun hc => ?_⟩
      · obtain rfl := of_decide_eq_true hc
        refine ⟨_, rfl, s, _, 0, .int n, rfl, rfl, SqL.of (s1 _ _ hs.hs), atI0, n, rfl, RgOk.of_le (by decide) (by omega) (by decide) (by omega), fun q nq => ?_⟩
        refine ⟨s1.trans (same_new nq), q, ?_, rfl⟩
        rw [upd_same]
        unfold rgV shL
        rw [List.map_map]
        rfl
      · have hc := of_decide_eq_false (Bool.eq_false_iff.mpr hc)
        obtain ⟨q, rfl⟩ : ∃ q : Int, f = .int q := by
          rcases hf with h | ⟨q, e, _⟩
          · exact absurd h hc
          · exact ⟨q, e⟩
        exact ⟨s1, S, hS1, rfl⟩
    clear hS1 s1 nS S H1
    rintro σ' H1 ⟨s1, S, hS, rfl⟩
    have hl8 := shL_len hf n8
    refine ⟨(by show 0 ≤ sizeLine; decide), fun L nL => ?_⟩
    have s2 := s1.trans (same_new (o := .lst []) nL)
    have hL : TksA (upd H1 L (.lst [])) L (((shL f n).take 0).flatMap fun q => tkL (rowQ ys z) i 1 q (decide (q > i)) false) := ⟨[], upd_same, .nil⟩
    have hS2 := same_new (o := .lst []) nL _ _ hS
    have nL0 := none_of s1 nL
    generalize upd H1 L (.lst []) = H2 at s2 hL hS2 ⊢
    refine ⟨_, rfl, S, rfl, ⟨_, SqL.of hS2⟩, for_it walk_list (fun j σ H' => Same H2 H' ∧ (∃ L, H L = none ∧ TksA H' L (((shL f n).take j).flatMap fun q => tkL (rowQ ys z) i 1 q (decide (q > i)) false) ∧ ∃ v5 : Option V, σ = [some (.ref R), some (.ref s), some (.str z), some (.ref S), some (.ref L), v5])) ⟨Same.refl _, L, nL0, hL, none, rfl⟩ (fun j σ H' _ h => SqL.of (h.1 _ _ hS2)) ?_ ?_⟩
    · clear hL nL0 nL L
      rintro j x σ H3 H' hj ⟨sg, L, nL0, hL, v5, rfl⟩ ⟨rfl, hx⟩
      rw [List.length_map] at hj
      have hq : (shL f n)[j]? = some (shL f n)[j] := List.getElem?_eq_getElem hj
      generalize (shL f n)[j] = q at hq
      obtain rfl : x = .int q := by
        rw [List.getElem?_map, hq] at hx
        exact (Option.some.inj hx).symm
      have s3 := s2.trans sg
      refine ⟨_, rfl, _, rfl, _, rfl, R, ys, z, rfl, hR.ext s3, nd, hz, fun iy y hy hyz => ?_⟩
      have hya := ((hR.ext s3).row y (List.mem_of_getElem? hy)).1
      have hyr : rowQ ys z = y.2.2 := by rw [← hyz]; exact rowQ_row nd hy
      refine ⟨_, rfl, _, rfl, _, rfl, _, rfl, s, _, 1, .int i, rfl, rfl, SqL.of (s3 _ _ hs.hs), atI1, q, i, rfl, rfl, y.1, s, y.2.1, y.2.2, n, i, 1, q, f, decide (q > i), false, rfl, hya, s3 _ _ hs.hs, fun H4 M s4 nM hM => ?_⟩
      rw [← hyr] at hM
      obtain ⟨vs, hv, hvl⟩ := (hL.ext s4).len
      obtain ⟨us, hu, hul⟩ := hM.len
      refine ⟨L, M, vs, us, rfl, rfl, hv, hu, ?_, fun D nD => ?_⟩
      · have h1 : (((shL f n).take j).flatMap fun q => tkL (rowQ ys z) i 1 q (decide (q > i)) false).length ≤ ((shL f n).take j).length * 2 := flat_len (fun q => tkL_len ..) _
        have h2 := tkL_len (rowQ ys z) i 1 q (decide (q > i)) false
        rw [List.length_take] at h1
        rw [hvl, hul]
        exact Nat.le_trans (show _ ≤ 20 by omega) (by decide)
      · refine ⟨(sg.trans s4).trans (same_new nD), D, none_of (s3.trans s4) nD, ?_, _, rfl⟩
        rw [flat_up _ hq]
        exact (hL.ext s4).cat hM hv hu nD
    · rintro σ H3 ⟨sg, L, nL0, hL, v5, rfl⟩
      rw [List.length_map, List.take_length] at hL
      exact ⟨_, rfl, k H3 L (s2.trans sg) nL0 hL⟩
theorem sc_law_after : FnScope ["_law_rows_here", "_law_spec_here", "_law_state", "_law_row_here", "_law_slot", "_law_before", "_law_pairs", "_law_word"] ["_law_rows_here", "_law_spec_here", "_law_state"] (defScope s_law_after) := ⟨rfl, rfl, rfl, by decide +kernel, rfl, by decide +kernel, by decide +kernel⟩
-- slots: 0 _law_rows_here, 1 _law_spec_here, 2 _law_state, 3 _law_row_here, 4 _law_slot, 5 _law_before, 6 _law_pairs, 7 _law_word
def afterL (ys : List PgE) (n i : Int) (k : Tk) : List Tk :=
  (if k.sp < (rowQ ys k.z).m then tkL (rowQ ys k.z) i (k.sp + 1) ((k.sl + 1) % n) (k.dn && decide ((k.sl + 1) % n > 0)) k.wt else []) ++
  (if k.sp ≥ (rowQ ys k.z).l then (rowQ ys k.z).ns.flatMap fun w => tkL (rowQ ys w) i 1 ((k.sl + 1) % n) (k.dn && decide ((k.sl + 1) % n > 0)) k.wt else [])
def spAft : Sp := fun vs H Q _ => ∃ (R s t : Addr) (ys : List PgE) (k : Tk) (n i : Int) (f : V), vs = [.ref R, .ref s, .ref t] ∧ RowsA H R ys ∧ RowsOk ys ∧ k.z ∈ zsOf ys ∧ SpA H s n i f ∧ H t = some (.tup [.str k.z, .int k.sp, .int k.sl, .bl k.dn, .bl k.wt]) ∧ ∀ H' L, Same H H' → H L = none → TksA H' L (afterL ys n i k) → Q (.ref L) H'
theorem nodup_len {α : Type} [DecidableEq α] {l u : List α} (h : l.Nodup) (s : ∀ x ∈ l, x ∈ u) : l.length ≤ u.length := nodup_le h s
theorem ok_law_after {fd : FuncData} (F : FnD K ("_law_after", none) "_law_after" "_law_after" s_law_after fd) (T : Txt K mg) (O_law_row : OkF P w K mg base CX0 1 "_law_row" ["_law_rows_here", "_law_word"] spRow) (O_law_ticks : OkF P w K mg base CX0 1 "_law_ticks" ["_law_row_here", "_law_spec_here", "_law_spent", "_law_slot", "_law_before", "_law_waited"] spTks) : OkF P w K mg base CX0 2 "_law_after" ["_law_rows_here", "_law_spec_here", "_law_state"] spAft := by
  refine okd F (F.ok sc_law_after (fun vs H Q E h => ?_) fun cdv A outer s H vs Q E hr h => ?_) fun _ _ _ _ _ _ us hl => match us, hl with | [_, _, _], _ => rfl
  · obtain ⟨R, s, t, ys, k, n, i, f, rfl, _⟩ := h
    rfl
  · obtain ⟨R, s, t, ys, ⟨z, sp, sl, dn, wt, nt⟩, n, i, f, rfl, hR, hok, hz, hs, ht, k⟩ := h
    refine ⟨_, PSs.nox (pss_cons (ps_set (i := 3) sc_law_after.nd rfl (Or.inl rfl) (c_fn O_law_row hr (by decide) T.g_law_row pass0 (pa_cons (pv 0) (pa_cons (pe_ix ix_tup (pv 2) pe_int (fun _ _ => rfl)) pa_nil))))
  (pss_cons (ps_set (i := 4) sc_law_after.nd rfl (Or.inl rfl) (pe_op op_mod (pe_op op_add (pe_ix ix_tup (pv 2) pe_int (fun _ _ => rfl)) pe_int) (pe_ix ix_list (pv 1) pe_int (fun _ _ => rfl))))
  (pss_cons (ps_set (i := 5) sc_law_after.nd rfl (Or.inl rfl) (pe_andB (pe_ix ix_tup (pv 2) pe_int (fun _ _ => rfl)) (pe_one (pe_cmpR op_gt (pv 4) pe_int (nomark _)))))
  (pss_cons (ps_set (i := 6) sc_law_after.nd rfl (Or.inl rfl) (pe_lst pa_nil))
  (C8.pss_cut (ps_if (pt_cmpR op_lt (pe_ix ix_tup (pv 2) pe_int (fun _ _ => rfl)) (pe_ix ix_list (pv 3) pe_int (fun _ _ => rfl)) (nomark _)) (pss_one (ps_set (i := 6) sc_law_after.nd rfl (Or.inl rfl) (pe_op op_cat (pv 6) (c_fn O_law_ticks hr (by decide) T.g_law_ticks pass0 (pa_cons (pv 3) (pa_cons (pv 1) (pa_cons (pe_op op_add (pe_ix ix_tup (pv 2) pe_int (fun _ _ => rfl)) pe_int) (pa_cons (pv 4) (pa_cons (pv 5) (pa_cons (pe_ix ix_tup (pv 2) pe_int (fun _ _ => rfl)) pa_nil))))))))))
  pss_nil)
  (C8.pss_cut (ps_if (pt_cmpR op_ge (pe_ix ix_tup (pv 2) pe_int (fun _ _ => rfl)) (pe_ix ix_list (pv 3) pe_int (fun _ _ => rfl)) (nomark _)) (pss_one (ps_for PassesOwn.never rfl (pi_tup (pe_ix ix_list (pv 3) pe_int (fun _ _ => rfl))) (pg_name (i := 7) sc_law_after.nd rfl (Or.inl rfl))
  (pss_one (ps_set (i := 6) sc_law_after.nd rfl (Or.inl rfl) (pe_op op_cat (pv 6) (c_fn O_law_ticks hr (by decide) T.g_law_ticks pass0 (pa_cons (c_fn O_law_row hr (by decide) T.g_law_row pass0 (pa_cons (pv 0) (pa_cons (pv 7) pa_nil))) (pa_cons (pv 1) (pa_cons pe_int (pa_cons (pv 4) (pa_cons (pv 5) (pa_cons (pe_ix ix_tup (pv 2) pe_int (fun _ _ => rfl)) pa_nil))))))))))))
  pss_nil)
  (pss_one (ps_ret (pv 6))))))))), ?_⟩
    have n1 := hs.n1
    have n8 := hs.n8
    have hT0 : ∀ {H' : Hp}, Same H H' → SqT K H' t [.str z, .int sp, .int sl, .bl dn, .bl wt] := fun e => SqT.of (e _ _ ht)
    refine ⟨_, rfl, _, rfl, t, _, 0, .str z, rfl, rfl, hT0 (Same.refl _), atI0, R, ys, z, rfl, hR, hok.nd, hz, fun iy y hy hyz => ?_⟩
    have hym := List.mem_of_getElem? hy
    have hyr : rowQ ys z = y.2.2 := by rw [← hyz]; exact rowQ_row hok.nd hy
    have hya := (hR.row y hym).1
    have hyn := (hR.row y hym).2
    refine ⟨_, rfl, t, _, 2, .int sl, rfl, rfl, hT0 (Same.refl _), atI_nat (j := 2) rfl, _, _, rfl, rfl, _, rfl, s, _, 0, .int n, rfl, rfl, SqL.of hs.hs, atI0, sl + 1, n, rfl, rfl, (by show (0 : Int) < n; omega), ?_⟩
    refine ⟨_, rfl, t, _, 3, .bl dn, rfl, rfl, hT0 (Same.refl _), atI_nat (j := 3) rfl, dn, decide ((sl + 1) % n > 0), (· = H), rfl, fun _ => ⟨_, rfl, _, _, rfl, rfl, rfl, rfl⟩, fun _ => rfl, fun H0 e => ?_⟩
    subst e
    generalize hbf : (dn && decide ((sl + 1) % n > 0)) = bf
    have hA : afterL ys n i ⟨z, sp, sl, dn, wt, nt⟩ = (if sp < y.2.2.m then tkL y.2.2 i (sp + 1) ((sl + 1) % n) bf wt else []) ++ (if sp ≥ y.2.2.l then y.2.2.ns.flatMap fun w => tkL (rowQ ys w) i 1 ((sl + 1) % n) bf wt else []) := by
      unfold afterL
      simp only [hyr, hbf]
    rw [hA] at k
    clear hA
    refine ⟨(by show 0 ≤ sizeLine; decide), fun L nL => ?_⟩
    have s1 := same_new (o := .lst []) nL
    have hL1 : TksA (upd H0 L (.lst [])) L [] := ⟨[], upd_same, .nil⟩
    generalize upd H0 L (.lst []) = H1 at s1 hL1 ⊢
    refine ⟨fun σ' H' => Same H0 H' ∧ ∃ L : Addr, H0 L = none ∧ TksA H' L (if sp < y.2.2.m then tkL y.2.2 i (sp + 1) ((sl + 1) % n) bf wt else []) ∧ σ' = [some (.ref R), some (.ref s), some (.ref t), some (.ref y.1), some (.int ((sl + 1) % n)), some (.bl bf), some (.ref L), none], ?_, ?_⟩
    · refine ⟨_, rfl, t, _, 1, .int sp, rfl, rfl, hT0 s1, atI1, _, rfl, y.1, _, 2, .int y.2.2.m, rfl, rfl, SqL.of (s1 _ _ hya), atI_nat (j := 2) rfl, sp, y.2.2.m, rfl, rfl, _, rfl, ite2 (fun hc => ?_) fun hc => ?_⟩
      · have hc := of_decide_eq_true hc
        rw [if_pos hc]
        refine ⟨_, rfl, _, rfl, _, rfl, _, rfl, t, _, 1, .int sp, rfl, rfl, hT0 s1, atI1, _, _, rfl, rfl, _, rfl, _, rfl, _, rfl, t, _, 4, .bl wt, rfl, rfl, hT0 s1, atI_nat (j := 4) rfl, y.1, s, y.2.1, y.2.2, n, i, sp + 1, ((sl + 1) % n), f, bf, wt, rfl, s1 _ _ hya, s1 _ _ hs.hs, fun H4 M s4 nM hM => ?_⟩
        obtain ⟨vs, hv, hvl⟩ := (hL1.ext s4).len
        obtain ⟨us, hu, hul⟩ := hM.len
        refine ⟨L, M, vs, us, rfl, rfl, hv, hu, ?_, fun D nD => ?_⟩
        · have h2 := tkL_len y.2.2 i (sp + 1) ((sl + 1) % n) bf wt
          have h3 : vs.length = 0 := hvl
          rw [hul, h3]
          exact Nat.le_trans (show _ ≤ 2 by omega) (by decide)
        · exact ⟨(s1.trans s4).trans (same_new nD), D, none_of (s1.trans s4) nD, (hL1.ext s4).cat hM hv hu nD, rfl⟩
      · have hc := of_decide_eq_false (Bool.eq_false_iff.mpr hc)
        rw [if_neg hc]
        exact ⟨s1, L, nL, hL1, rfl⟩
    clear hL1 s1 nL H1 L
    rintro σ' H1 ⟨s1, L, nL, hL, rfl⟩
    have hl1 : (if sp < y.2.2.m then tkL y.2.2 i (sp + 1) ((sl + 1) % n) bf wt else []).length ≤ 2 := by
      split
      · exact tkL_len ..
      · exact Nat.zero_le _
    generalize (if sp < y.2.2.m then tkL y.2.2 i (sp + 1) ((sl + 1) % n) bf wt else []) = as at hL hl1 k
    refine ⟨fun σ' H' => Same H0 H' ∧ ∃ (L : Addr) (v7 : Option V), H0 L = none ∧ TksA H' L (as ++ (if sp ≥ y.2.2.l then y.2.2.ns.flatMap fun w => tkL (rowQ ys w) i 1 ((sl + 1) % n) bf wt else [])) ∧ σ' = [some (.ref R), some (.ref s), some (.ref t), some (.ref y.1), some (.int ((sl + 1) % n)), some (.bl bf), some (.ref L), v7], ?_, ?_⟩
    · refine ⟨_, rfl, t, _, 1, .int sp, rfl, rfl, hT0 s1, atI1, _, rfl, y.1, _, 1, .int y.2.2.l, rfl, rfl, SqL.of (s1 _ _ hya), atI1, sp, y.2.2.l, rfl, rfl, _, rfl, ite2 (fun hc => ?_) fun hc => ?_⟩
      · have hc := of_decide_eq_true hc
        rw [if_pos hc]
        have hns := hok.ns y hym
        have hnl : y.2.2.ns.length ≤ 6 := Nat.le_trans (nodup_le hns.2 hns.1) (by unfold zsOf; rw [List.length_map]; exact hok.l6)
        refine ⟨_, rfl, y.1, _, 4, .ref y.2.1, rfl, rfl, SqL.of (s1 _ _ hya), atI_nat (j := 4) rfl, y.2.1, rfl, ⟨_, SqT.of (s1 _ _ hyn)⟩, for_it walk_tup (fun j σ H' => Same H1 H' ∧ (∃ L, H0 L = none ∧ TksA H' L (as ++ ((y.2.2.ns.take j).flatMap fun w => tkL (rowQ ys w) i 1 ((sl + 1) % n) bf wt)) ∧ ∃ v7 : Option V, σ = [some (.ref R), some (.ref s), some (.ref t), some (.ref y.1), some (.int ((sl + 1) % n)), some (.bl bf), some (.ref L), v7])) ⟨Same.refl _, L, nL, by simpa using hL, none, rfl⟩ (fun j σ H' _ h => SqT.of (h.1 _ _ (s1 _ _ hyn))) ?_ ?_⟩
        · clear hL nL L
          rintro j x σ H3 H' hj ⟨sg, L, nL, hL, v7, rfl⟩ ⟨rfl, hx⟩
          rw [List.length_map] at hj
          have hw : y.2.2.ns[j]? = some y.2.2.ns[j] := List.getElem?_eq_getElem hj
          generalize y.2.2.ns[j] = w at hw
          obtain rfl : x = .str w := by
            rw [List.getElem?_map, hw] at hx
            exact (Option.some.inj hx).symm
          have s3 := s1.trans sg
          have hwz := hns.1 w (List.mem_of_getElem? hw)
          refine ⟨_, rfl, _, rfl, _, rfl, R, ys, w, rfl, hR.ext s3, hok.nd, hwz, fun iy' y' hy' hyz' => ?_⟩
          have hya' := ((hR.ext s3).row y' (List.mem_of_getElem? hy')).1
          have hyr' : rowQ ys w = y'.2.2 := by rw [← hyz']; exact rowQ_row hok.nd hy'
          refine ⟨_, rfl, _, rfl, _, rfl, _, rfl, t, _, 4, .bl wt, rfl, rfl, hT0 s3, atI_nat (j := 4) rfl, y'.1, s, y'.2.1, y'.2.2, n, i, 1, ((sl + 1) % n), f, bf, wt, rfl, hya', s3 _ _ hs.hs, fun H4 M s4 nM hM => ?_⟩
          rw [← hyr'] at hM
          obtain ⟨vs, hv, hvl⟩ := (hL.ext s4).len
          obtain ⟨us, hu, hul⟩ := hM.len
          refine ⟨L, M, vs, us, rfl, rfl, hv, hu, ?_, fun D nD => ?_⟩
          · have h1 : ((y.2.2.ns.take j).flatMap fun w => tkL (rowQ ys w) i 1 ((sl + 1) % n) bf wt).length ≤ (y.2.2.ns.take j).length * 2 := flat_len (fun w => tkL_len ..) _
            have h2 := tkL_len (rowQ ys w) i 1 ((sl + 1) % n) bf wt
            rw [List.length_take] at h1
            rw [hvl, hul, List.length_append]
            exact Nat.le_trans (show _ ≤ 20 by omega) (by decide)
          · refine ⟨(sg.trans s4).trans (same_new nD), D, none_of (s3.trans s4) nD, ?_, _, rfl⟩
            rw [flat_up _ hw, ← List.append_assoc]
            exact (hL.ext s4).cat hM hv hu nD
        · rintro σ H3 ⟨sg, L, nL, hL, v7, rfl⟩
          rw [List.length_map, List.take_length] at hL
          exact ⟨s1.trans sg, L, v7, nL, hL, rfl⟩
      · have hc := of_decide_eq_false (Bool.eq_false_iff.mpr hc)
        rw [if_neg hc]
        exact ⟨s1, L, none, nL, by rw [List.append_nil]; exact hL, rfl⟩
    · rintro σ' H2 ⟨s2, L, v7, nL, hL, rfl⟩
      exact ⟨_, rfl, k H2 L s2 nL hL⟩
end
end K32

set_option Elab.async false
set_option linter.all false
set_option pp.deepTerms.threshold 14
set_option pp.maxSteps 2500
set_option maxRecDepth 100000
set_option maxHeartbeats 2000000
namespace K32
open PySem PySem.Spec PyProof.Rows L2 Vf
section
variable {P : Program} {w : World} {K : PySem.W.Frag} {mg : Str → Option Value} {base : Heap}
theorem nm_ok {z : Str} (h : nmB z = true) : PyData.strOk z = true := by
  unfold nmB at h
  simp only [Bool.and_eq_true] at h
  have h4 := h.2.2.2
  have hL : ∀ c ∈ LET.cps.toList, c < 0x110000 := by decide +kernel
  unfold PyData.strOk
  rw [Array.all_eq_true]
  intro i hi
  refine decide_eq_true (hL _ (of_decide_eq_true (List.all_eq_true.mp h4 _ ?_)))
  exact Array.getElem_mem_toList hi
theorem tkOne_mem {r : Rw} {i sp sl : Int} {bf wd due : Bool} {k : Tk} (h : k ∈ tkOne r i sp sl bf wd due) : tkOff i sl bf due = false ∧ k = ⟨r.z, sp, sl, bf || due, (wd || due) && !r.b, (wd || due) && r.b⟩ := by
  unfold tkOne at h
  split at h
  · cases h
  · rename_i hc
    exact ⟨Bool.eq_false_iff.mpr hc, List.mem_singleton.mp h⟩
theorem tkL_mem {r : Rw} {i sp sl : Int} {bf wd : Bool} {k : Tk} (h : k ∈ tkL r i sp sl bf wd) : ∃ due, tkOff i sl bf due = false ∧ k = ⟨r.z, sp, sl, bf || due, (wd || due) && !r.b, (wd || due) && r.b⟩ := by
  rcases List.mem_append.mp h with h | h
  · exact ⟨_, tkOne_mem h⟩
  · exact ⟨_, tkOne_mem h⟩
theorem tkL_ne (r : Rw) (i sp sl : Int) (bf wd : Bool) : tkL r i sp sl bf wd ≠ [] := by
  unfold tkL tkOne tkOff
  cases bf <;> by_cases e : sl = i <;> simp [e]
theorem first_mem {r : Rw} {i n : Int} {f : V} {k : Tk} (h : k ∈ firstL r i n f) : ∃ q ∈ shL f n, k ∈ tkL r i 1 q (decide (q > i)) false := List.mem_flatMap.mp h
theorem sh_ok {f : V} {n q : Int} (hf : PhOk f n) (h : q ∈ shL f n) : 0 ≤ q ∧ q ≤ n - 1 ∧ (f = .non ∨ f = .int q) := by
  rcases hf with rfl | ⟨p, rfl, p0, p1⟩
  · obtain ⟨j, hj, rfl⟩ := List.mem_map.mp h
    have := List.mem_range.mp hj
    exact ⟨by omega, by omega, .inl rfl⟩
  · obtain rfl : q = p := List.mem_singleton.mp h
    exact ⟨p0, p1, .inr rfl⟩
theorem sh_ne {f : V} {n : Int} (hf : PhOk f n) (n1 : 1 ≤ n) : shL f n ≠ [] := by
  rcases hf with rfl | ⟨p, rfl, _⟩
  · intro e
    have := congrArg List.length e
    unfold shL at this
    rw [List.length_map, List.length_range] at this
    simp at this
    omega
  · exact fun e => by cases e
theorem first_ne {r : Rw} {i n : Int} {f : V} (hf : PhOk f n) (n1 : 1 ≤ n) : firstL r i n f ≠ [] := by
  have h := sh_ne hf n1
  unfold firstL
  cases hs : shL f n with
  | nil => exact absurd hs h
  | cons a l =>
    rw [List.flatMap_cons]
    intro e
    exact tkL_ne _ _ _ _ _ _ (List.append_eq_nil_iff.mp e).1
theorem after_mem {ys : List PgE} {n i : Int} {a k : Tk} (h : k ∈ afterL ys n i a) :
    (a.sp < (rowQ ys a.z).m ∧ k ∈ tkL (rowQ ys a.z) i (a.sp + 1) ((a.sl + 1) % n) (a.dn && decide ((a.sl + 1) % n > 0)) a.wt) ∨
    ((rowQ ys a.z).l ≤ a.sp ∧ ∃ w ∈ (rowQ ys a.z).ns, k ∈ tkL (rowQ ys w) i 1 ((a.sl + 1) % n) (a.dn && decide ((a.sl + 1) % n > 0)) a.wt) := by
  unfold afterL at h
  rcases List.mem_append.mp h with h | h
  · split at h
    · rename_i hc
      exact .inl ⟨hc, h⟩
    · cases h
  · split at h
    · rename_i hc
      obtain ⟨w, hw, hk⟩ := List.mem_flatMap.mp h
      exact .inr ⟨hc, w, hw, hk⟩
    · cases h
theorem rowQ_ns {ys : List PgE} (hok : RowsOk ys) {z w : Str} (hz : z ∈ zsOf ys) (h : w ∈ (rowQ ys z).ns) : w ∈ zsOf ys := by
  obtain ⟨y, hy, e⟩ := rowQ_mem hok.nd hz
  rw [← e] at h
  exact (hok.ns y hy).1 w h
theorem first_z {ys : List PgE} (hok : RowsOk ys) {z : Str} (hz : z ∈ zsOf ys) {i n : Int} {f : V} {k : Tk} (h : k ∈ firstL (rowQ ys z) i n f) : k.z = z := by
  obtain ⟨q, _, hk⟩ := first_mem h
  obtain ⟨due, _, rfl⟩ := tkL_mem hk
  exact rowQ_z hok.nd hz
theorem after_z {ys : List PgE} (hok : RowsOk ys) {n i : Int} {a k : Tk} (ha : a.z ∈ zsOf ys) (h : k ∈ afterL ys n i a) : k.z ∈ zsOf ys := by
  rcases after_mem h with ⟨_, hk⟩ | ⟨_, w, hw, hk⟩
  · obtain ⟨due, _, rfl⟩ := tkL_mem hk
    show (rowQ ys a.z).z ∈ _
    rw [rowQ_z hok.nd ha]
    exact ha
  · obtain ⟨due, _, rfl⟩ := tkL_mem hk
    have hwz := rowQ_ns hok ha hw
    show (rowQ ys w).z ∈ _
    rw [rowQ_z hok.nd hwz]
    exact hwz
/-- a walk along the rules -/
structure RoadOk (ys : List PgE) (bg : Str) (n i : Int) (f : V) (ws : List Tk) : Prop where
  h0 : ∀ k, ws[0]? = some k → k ∈ firstL (rowQ ys bg) i n f
  hs : ∀ j a b, ws[j]? = some a → ws[j + 1]? = some b → b ∈ afterL ys n i a
theorem RoadOk.z {ys : List PgE} {bg : Str} {n i : Int} {f : V} {ws : List Tk} (h : RoadOk ys bg n i f ws) (hok : RowsOk ys) (hz : bg ∈ zsOf ys) : ∀ (j : Nat) (k : Tk), ws[j]? = some k → k.z ∈ zsOf ys := by
  intro j
  induction j with
  | zero =>
    intro k hk
    rw [first_z hok hz (h.h0 k hk)]
    exact hz
  | succ j ih =>
    intro k hk
    have hj : j < ws.length := by
      have := (List.getElem?_eq_some_iff.mp hk).1
      omega
    exact after_z hok (ih _ (List.getElem?_eq_getElem hj)) (h.hs j _ k (List.getElem?_eq_getElem hj) hk)
/-! ### ticks as data -/
def tkD (k : Tk) : PyData := .tuple [.tuple [.str k.z, .int k.sp, .int k.sl, .bool k.dn, .bool k.wt], .bool k.nt]
theorem tk_dp {K : PySem.W.Frag} {H : Hp} {p : Addr} {k : Tk} (h : TkA H p k) : Dp K H (.ref p) (tkD k) := by
  obtain ⟨t, h1, h2⟩ := h
  exact .tup (SqT.of h1) (.cons (.tup (SqT.of h2) (.cons (.str _) (.cons (.int _) (.cons (.int _) (.cons (.bl _) (.cons (.bl _) .nil)))))) (.cons (.bl _) .nil))
theorem tks_dp {K : PySem.W.Frag} {H : Hp} : ∀ {rs : List Addr} {ks : List Tk}, Paired (TkA H) rs ks → DpAll K H (rs.map V.ref) (ks.map tkD)
  | _, _, .nil => .nil
  | _, _, .cons r p => .cons (tk_dp r) (tks_dp p)
theorem tk_lay (k : Tk) (h : PyData.strOk k.z = true) : PyData.canLay0 (tkD k) = true ∧ PyData.depth (tkD k) = 2 := by
  refine ⟨?_, rfl⟩
  simp [tkD, PyData.canLay0, PyData.canLayAll0, h]
theorem tks_lay : ∀ ks : List Tk, (∀ k ∈ ks, PyData.strOk k.z = true) → PyData.canLayAll0 (ks.map tkD) = true ∧ PyData.depthAll (ks.map tkD) ≤ 2
  | [], _ => ⟨rfl, Nat.zero_le _⟩
  | k :: ks, h => by
    obtain ⟨h1, h2⟩ := tks_lay ks fun y hy => h y (List.mem_cons_of_mem _ hy)
    obtain ⟨h3, h4⟩ := tk_lay k (h k List.mem_cons_self)
    refine ⟨?_, ?_⟩
    · show (PyData.canLay0 (tkD k) && PyData.canLayAll0 (ks.map tkD)) = true
      rw [h3, h1]
      rfl
    · show max (PyData.depth (tkD k)) (PyData.depthAll (ks.map tkD)) ≤ 2
      rw [h4]
      omega
theorem tks_sh {ks : List Tk} (h : ∀ k ∈ ks, PyData.strOk k.z = true) : SeqAt.shaped (.list (ks.map tkD)) = true := by
  obtain ⟨h1, h2⟩ := tks_lay ks h
  unfold SeqAt.shaped
  have e : PyData.depth (.list (ks.map tkD)) = PyData.depthAll (ks.map tkD) + 1 := rfl
  rw [e]
  simp [PyData.canLay0, h1]
  omega
theorem sc_law_walk : FnScope ["_law_rows_here", "_law_spec_here", "_law_begin", "_law_script", "_law_first_here", "_law_many", "_law_walk_here", "_law_options_here", "_law_k", "_law_pair"] ["_law_rows_here", "_law_spec_here", "_law_begin", "_law_script", "_law_first_here", "_law_many"] (defScope s_law_walk) := ⟨rfl, rfl, rfl, by decide +kernel, rfl, by decide +kernel, by decide +kernel⟩
-- slots: 0 _law_rows_here, 1 _law_spec_here, 2 _law_begin, 3 _law_script, 4 _law_first_here, 5 _law_many, 6 _law_walk_here, 7 _law_options_here, 8 _law_k, 9 _law_pair
def spWlk (K : PySem.W.Frag) : Sp := fun vs H Q _ => ∃ (R s S : Addr) (ys : List PgE) (bg : Str) (n i : Int) (f : V) (ns : List Int) (c m : Nat), vs = [.ref R, .ref s, .str bg, .ref S, .int (c : Int), .int (m : Int)] ∧ RowsA H R ys ∧ RowsOk ys ∧ bg ∈ zsOf ys ∧ SpA H s n i f ∧ SqL K H S (ns.map V.int) ∧ c + m < 1000 ∧
  ∀ H' W ws, Same H H' → H W = none → TksA H' W ws → RoadOk ys bg n i f ws → ws.length ≤ m → (1 ≤ m → ws ≠ []) → Q (.ref W) H'
theorem ok_law_walk {fd : FuncData} (F : FnD K ("_law_walk", none) "_law_walk" "_law_walk" s_law_walk fd) (T : Txt K mg) (O_law_cell : OkF P w K mg base CX0 1 "_law_cell" ["_law_script", "_law_k"] (Vf.spCell K)) (O_law_first : OkF P w K mg base CX0 2 "_law_first" ["_law_rows_here", "_law_spec_here", "_law_begin"] spFst) (O_law_after : OkF P w K mg base CX0 2 "_law_after" ["_law_rows_here", "_law_spec_here", "_law_state"] spAft) : OkF P w K mg base CX0 3 "_law_walk" ["_law_rows_here", "_law_spec_here", "_law_begin", "_law_script", "_law_first_here", "_law_many"] (spWlk K) := by
  refine okd F (F.ok sc_law_walk (fun vs H Q E h => ?_) fun cdv A outer s H vs Q E hr h => ?_) fun _ _ _ _ _ _ us hl => match us, hl with | [_, _, _, _, _, _], _ => rfl
  · obtain ⟨R, s, S, ys, bg, n, i, f, ns, c, m, rfl, _⟩ := h
    rfl
  · obtain ⟨R, s, S, ys, bg, n, i, f, ns, c, m, rfl, hR, hok, hz, hs, hS, hcm, k⟩ := h
    refine ⟨_, PSs.nox (pss_cons (ps_set (i := 6) sc_law_walk.nd rfl (Or.inl rfl) (pe_lst pa_nil))
  (pss_cons (ps_set (i := 7) sc_law_walk.nd rfl (Or.inl rfl) (c_fn O_law_first hr (by decide) T.g_law_first pass0 (pa_cons (pv 0) (pa_cons (pv 1) (pa_cons (pv 2) pa_nil)))))
  (pss_cons (ps_for PassesOwn.never rfl (pi_range1 rfl T.z_range (pa_cons (pv 5) pa_nil)) (pg_name (i := 8) sc_law_walk.nd rfl (Or.inl rfl))
  (pss_cons (ps_if (pt_cmpR (op_eqD hr.units) (pv 7) (pe_lst pa_nil) (nomark _)) (pss_one ps_break)
  pss_nil)
  (pss_cons (ps_set (i := 9) sc_law_walk.nd rfl (Or.inl rfl) (pe_ix ix_list (pv 7) (pe_op op_mod (pe_callTy call_int1 (by rfl) T.z_int (by decide +kernel) (pa_cons (c_fn O_law_cell hr (by decide) T.g_law_cell pass0 (pa_cons (pv 3) (pa_cons (pe_op op_add (pv 4) (pv 8)) pa_nil))) pa_nil)) (pe_callB (id := "len") call_len_seq (by rfl) T.z_len (by decide +kernel) (pa_cons (pv 7) pa_nil))) (fun _ _ => rfl)))
  (pss_cons (ps_expr (pe_bm PySem.F.plainAttrs_list PySem.F.slot_list_append PySem.F.type_list_append mt_append (pv 6) (pa_cons (pv 9) pa_nil)))
  (pss_one (ps_set (i := 7) sc_law_walk.nd rfl (Or.inl rfl) (c_fn O_law_after hr (by decide) T.g_law_after pass0 (pa_cons (pv 0) (pa_cons (pv 1) (pa_cons (pe_ix ix_tup (pv 9) pe_int (fun _ _ => rfl)) pa_nil))))))))))
  (pss_one (ps_ret (pv 6)))))), ?_⟩
    refine ⟨(by show 0 ≤ sizeLine; decide), fun W nW => ?_⟩
    have s1 := same_new (o := .lst []) nW
    have hW1 : TksA (upd H W (.lst [])) W [] := ⟨[], upd_same, .nil⟩
    generalize upd H W (.lst []) = H1 at s1 hW1 ⊢
    refine ⟨_, rfl, _, rfl, _, rfl, R, s, ys, bg, n, i, f, rfl, hR.ext s1, hok.nd, hz, hs.ext s1, fun H2 O s2 nO hO => ?_⟩
    have s12 := s1.trans s2
    have fin : ∀ (ws : List Tk) (H' : Hp), Same H H' → TksA H' W ws → RoadOk ys bg n i f ws → ws.length ≤ m → (1 ≤ m → ws ≠ []) → Q (.ref W) H' := fun ws H' s' hW hr' hl hne => k H' W ws s' nW hW hr' hl hne
    refine ⟨_, rfl, (m : Int), rfl, by omega, by omega, for_range (lo := 0) (n := (m : Int).toNat) (fun j σ H' => Same H H' ∧ ∃ (ws os : List Tk) (O : Addr) (v8 v9 : Option V), TksA H' W ws ∧ RoadOk ys bg n i f ws ∧ ws.length = j ∧ TksA H' O os ∧ O ≠ W ∧ (j = 0 → os = firstL (rowQ ys bg) i n f) ∧ (∀ a, ws[j - 1]? = some a → os = afterL ys n i a) ∧ (∀ k ∈ os, k.z ∈ zsOf ys) ∧
      σ = [some (.ref R), some (.ref s), some (.str bg), some (.ref S), some (.int (c : Int)), some (.int (m : Int)), some (.ref W), some (.ref O), v8, v9]) ⟨s12, [], _, O, none, none, hW1.ext s2, ⟨(fun k h => by cases h), (fun j a b h => by cases h)⟩, rfl, hO, ?_, fun _ => rfl, (fun a h => by cases h), (fun k hk => by rw [first_z hok hz hk]; exact hz), rfl⟩ ?_ ?_⟩
    · obtain ⟨vs, hv, _⟩ := hW1.len
      exact (ne_of_none hv nO).symm
    · clear hW1 hO nO s2 s12 s1 O H2 H1
      rintro j σ H3 hj ⟨sg, ws, os, O, v8, v9, hW, hrd, hl, hO, nOW, ho0, hoA, hoz, rfl⟩
      have hjm : j < m := by omega
      have hst : ∀ k ∈ os, PyData.strOk k.z = true := fun k hk => by
        obtain ⟨y, hy, e⟩ := List.mem_map.mp (hoz k hk)
        rw [← e]
        exact nm_ok (hok.kp y hy).1
      obtain ⟨rs, hrs, hps⟩ := id hO
      refine ⟨_, rfl, (by show 0 ≤ sizeLine; decide), fun E0 nE => ?_⟩
      have sE := same_new (o := .lst []) nE
      refine ⟨.list (os.map tkD), .list [], .lst (SqL.of (sE _ _ hrs)) (tks_dp (paired_imp (fun _ _ q => q.ext sE) hps)), .lst (SqL.of upd_same) .nil, tks_sh hst, tks_sh (ks := []) (fun _ h => nomatch h), _, rfl, ite2 (fun hc => ?_) fun hc => ?_⟩
      · have ho : os = [] := by
          cases os with
          | nil => rfl
          | cons a l => exact absurd hc (by show ¬ false = true; decide)
        refine ⟨_, rfl, fin ws _ (sg.trans sE) (hW.ext sE) hrd (by omega) fun _ e => ?_⟩
        rw [e] at hl
        exact first_ne hs.hf hs.n1 ((ho0 hl.symm).symm.trans ho)
      have ho : 1 ≤ os.length := by
        cases os with
        | nil => exact absurd rfl hc
        | cons a l => rw [List.length_cons]; omega
      have sg4 := sg.trans sE
      have hW4 := hW.ext sE
      have hrs4 := sE _ _ hrs
      have hps4 := paired_imp (S := TkA (upd H3 E0 (.lst []))) (fun _ _ q => q.ext sE) hps
      generalize upd H3 E0 (.lst []) = H4 at sg4 hW4 hrs4 hps4 ⊢
      clear hc sE nE hps hrs hO hW sg H3
      have hrl : (rs.map V.ref).length = os.length := by rw [List.length_map, paired_len hps4]
      refine ⟨_, rfl, _, rfl, _, rfl, _, rfl, _, _, rfl, rfl, S, ns, c + j, congrArg (fun z => [V.ref S, V.int z]) (by omega), sg4.seq hS, by omega, fun v => .inl ⟨v, rfl, _, rfl, O, _, rfl, .inl (SqL.of hrs4), _, _, rfl, rfl, ?_, ?_⟩⟩
      · rw [hrl]
        show (0 : Int) < os.length
        omega
      rw [hrl]
      have g0 := Int.emod_nonneg v (show (os.length : Int) ≠ 0 by omega)
      have g1 := Int.emod_lt_of_pos v (show (0 : Int) < os.length by omega)
      obtain ⟨q, hq⟩ : ∃ q : Nat, v % (os.length : Int) = (q : Int) := ⟨(v % (os.length : Int)).toNat, by omega⟩
      rw [hq] at g1
      have hkq : os[q]? = some (os[q]'(by omega)) := List.getElem?_eq_getElem _
      generalize os[q]'(by omega) = kk at hkq
      obtain ⟨r, hr1, hr2⟩ := paired_at2 hps4 hkq
      refine ⟨O, _, v % (os.length : Int), .ref r, rfl, rfl, SqL.of hrs4, (by rw [hq]; exact atI_nat (by rw [List.getElem?_map, hr1]; rfl)), ?_⟩
      obtain ⟨vs, hv, hvl⟩ := hW4.len
      refine ⟨_, rfl, .inl ⟨rfl, _, SqL.of hv⟩, _, rfl, W, _, _, rfl, rfl, hv, Nat.lt_of_lt_of_le (show vs.length < 1000 by omega) (by decide), ?_⟩
      have hW5 := hW4.add hv hr2
      have hr5 := hr2.keep (us := vs ++ [.ref r]) hv
      have sg5 : Same H (upd H4 W (.lst (vs ++ [.ref r]))) := same_app sg4 (Same.refl _) nW
      generalize upd H4 W (.lst (vs ++ [.ref r])) = H5 at hW5 hr5 sg5 ⊢
      obtain ⟨t, ht1, ht2⟩ := id hr5
      have hkz := hoz kk (List.mem_of_getElem? hkq)
      refine ⟨_, rfl, _, rfl, _, rfl, r, _, 0, .ref t, rfl, rfl, SqT.of ht1, atI0, R, s, t, ys, kk, n, i, f, rfl, hR.ext sg5, hok, hkz, hs.ext sg5, ht2, fun H6 O6 s6 nO6 hO6 => ?_⟩
      refine ⟨sg5.trans s6, ws ++ [kk], _, O6, _, _, hW5.ext s6, ?_, by rw [List.length_append, hl]; rfl, hO6, ?_, fun e => by omega, fun a ha => ?_, fun k hk => after_z hok hkz hk, rfl⟩
      · refine ⟨fun k hk => ?_, fun j' a b ha hb => ?_⟩
        · cases hws : ws with
          | nil =>
            rw [hws] at hk hl
            cases hk
            rw [← ho0 hl.symm]
            exact List.mem_of_getElem? hkq
          | cons a l =>
            rw [hws] at hk
            exact hrd.h0 k (by rw [hws]; exact hk)
        · by_cases hlt : j' + 1 < ws.length
          · rw [List.getElem?_append_left hlt] at hb
            rw [List.getElem?_append_left (by omega)] at ha
            exact hrd.hs j' a b ha hb
          · have hb2 := (List.getElem?_eq_some_iff.mp hb).1
            rw [List.length_append, List.length_singleton] at hb2
            have e1 : j' + 1 = ws.length := by omega
            rw [List.getElem?_append_right (by omega), show j' + 1 - ws.length = 0 by omega] at hb
            cases hb
            rw [List.getElem?_append_left (by omega)] at ha
            have hos := hoA a (by rw [show j - 1 = j' by omega]; exact ha)
            rw [← hos]
            exact List.mem_of_getElem? hkq
      · obtain ⟨vs5, hv5, _⟩ := hW5.len
        exact (ne_of_none hv5 nO6).symm
      · rw [show j + 1 - 1 = ws.length by omega, List.getElem?_append_right (Nat.le_refl _), Nat.sub_self] at ha
        cases ha
        rfl
    · rintro σ H3 ⟨sg, ws, os, O, v8, v9, hW, hrd, hl, hO, nOW, ho0, hoA, hoz, rfl⟩
      rw [Int.toNat_natCast] at hl
      exact ⟨_, rfl, fin ws H3 sg hW hrd (by omega) fun h1 e => by rw [e] at hl; simp at hl; omega⟩
end
end K32

set_option Elab.async false
set_option linter.all false
set_option pp.deepTerms.threshold 14
set_option pp.maxSteps 2500
set_option maxRecDepth 100000
set_option maxHeartbeats 2000000
namespace K32
open PySem PySem.Spec PyProof.Rows L2 Vf
section
variable {P : Program} {w : World} {K : PySem.W.Frag} {mg : Str → Option Value} {base : Heap}
theorem set_last {α : Type} (a : α) : ∀ {l : List α}, l ≠ [] → l.set (l.length - 1) a = l.dropLast ++ [a]
  | [], h => absurd rfl h
  | [_], _ => rfl
  | x :: y :: l, _ => by
    have ih := set_last a (l := y :: l) (fun h => by cases h)
    show (x :: y :: l).set (l.length + 1) a = x :: (y :: l).dropLast ++ [a]
    rw [List.set_cons_succ]
    exact congrArg (x :: ·) ih
theorem paired_drop {α β : Type} {R : α → β → Prop} : ∀ {xs : List α} {ys : List β}, Paired R xs ys → Paired R xs.dropLast ys.dropLast
  | _, _, .nil => .nil
  | _, _, .cons r .nil => .nil
  | _, _, .cons r (.cons q p) => .cons r (paired_drop (.cons q p))
theorem ixN_m1 {n : Nat} (h : 1 ≤ n) : ixN n (-1) = some (n - 1) := by
  unfold ixN
  rw [if_neg (by omega), if_pos (by omega)]
  congr 1
  omega
def stStep (s : List (Str × Int)) (k : Tk) : List (Str × Int) := if k.sp = 1 then s ++ [(k.z, 1)] else s.dropLast ++ [(k.z, k.sp)]
def staysL (ws : List Tk) : List (Str × Int) := ws.foldl stStep []
theorem staysL_snoc (ws : List Tk) (k : Tk) : staysL (ws ++ [k]) = stStep (staysL ws) k := by
  unfold staysL
  rw [List.foldl_append]
  rfl
theorem stStep_ne (s : List (Str × Int)) (k : Tk) : stStep s k ≠ [] := by
  unfold stStep
  split <;> exact fun e => by simp at e
theorem stStep_len (s : List (Str × Int)) (k : Tk) : (stStep s k).length ≤ s.length + 1 := by
  unfold stStep
  split
  · rw [List.length_append]
    exact Nat.le_refl _
  · rw [List.length_append, List.length_dropLast]
    show s.length - 1 + 1 ≤ _
    omega
theorem staysL_len (ws : List Tk) : ∀ j, (staysL (ws.take j)).length ≤ j := by
  intro j
  induction j with
  | zero => exact Nat.le_refl _
  | succ j ih =>
    cases h : ws[j]? with
    | none =>
      rw [List.take_add_one, h]
      show (staysL (ws.take j ++ [])).length ≤ _
      rw [List.append_nil]
      exact Nat.le_succ_of_le ih
    | some k =>
      rw [List.take_add_one, h]
      show (staysL (ws.take j ++ [k])).length ≤ _
      rw [staysL_snoc]
      exact Nat.le_trans (stStep_len _ _) (Nat.succ_le_succ ih)
theorem staysL_ne {ws : List Tk} {j : Nat} (h0 : 1 ≤ j) (h : j ≤ ws.length) : staysL (ws.take j) ≠ [] := by
  obtain ⟨j, rfl⟩ : ∃ q, j = q + 1 := ⟨j - 1, by omega⟩
  rw [List.take_add_one, List.getElem?_eq_getElem (by omega)]
  show staysL (ws.take j ++ [_]) ≠ []
  rw [staysL_snoc]
  exact stStep_ne _ _
theorem StsA.len {H : Hp} {S : Addr} {sts : List (Str × Int)} (h : StsA H S sts) : ∃ vs, H S = some (.lst vs) ∧ vs.length = sts.length := by
  obtain ⟨rs, h1, h2⟩ := h
  exact ⟨_, h1, by rw [List.length_map, paired_len h2]⟩
theorem StsA.add {H : Hp} {S t : Addr} {sts : List (Str × Int)} {z : Str} {k : Int} {vs : List V} (h : StsA H S sts) (hv : H S = some (.lst vs)) (ht : H t = some (.tup [.str z, .int k])) : StsA (upd H S (.lst (vs ++ [.ref t]))) S (sts ++ [(z, k)]) := by
  obtain ⟨rs, h1, h2⟩ := h
  rw [hv] at h1
  cases h1
  refine ⟨rs ++ [t], by rw [upd_same, List.map_append]; rfl, paired_snoc ?_ (paired_imp (fun r p q => ?_) h2)⟩
  · rw [upd_ne (ne_of ht hv (by intro z; cases z))]
    exact ht
  · rw [upd_ne (ne_of q hv (by intro z; cases z))]
    exact q
theorem StsA.last {H : Hp} {S t : Addr} {sts : List (Str × Int)} {z : Str} {k : Int} {vs : List V} (h : StsA H S sts) (hv : H S = some (.lst vs)) (hne : sts ≠ []) (ht : H t = some (.tup [.str z, .int k])) : StsA (upd H S (.lst (vs.set (vs.length - 1) (.ref t)))) S (sts.dropLast ++ [(z, k)]) := by
  obtain ⟨rs, h1, h2⟩ := h
  rw [hv] at h1
  cases h1
  have hrn : rs.map V.ref ≠ [] := fun e => by
    have h3 := paired_len h2
    have h4 : rs = [] := List.map_eq_nil_iff.mp e
    rw [h4] at h3
    exact hne (List.length_eq_zero_iff.mp h3.symm)
  refine ⟨rs.dropLast ++ [t], by rw [upd_same, set_last _ hrn, List.map_append, List.map_dropLast]; rfl, paired_snoc ?_ (paired_imp (fun r p q => ?_) (paired_drop h2))⟩
  · rw [upd_ne (ne_of ht hv (by intro z; cases z))]
    exact ht
  · rw [upd_ne (ne_of q hv (by intro z; cases z))]
    exact q
theorem sc_law_stays : FnScope ["_law_walk_here", "_law_stays_here", "_law_pair"] ["_law_walk_here"] (defScope s_law_stays) := ⟨rfl, rfl, rfl, by decide +kernel, rfl, by decide +kernel, by decide +kernel⟩
-- slots: 0 _law_walk_here, 1 _law_stays_here, 2 _law_pair
def spStL : Sp := fun vs H Q _ => ∃ (W : Addr) (ws : List Tk), vs = [.ref W] ∧ TksA H W ws ∧ ws.length ≤ 1000 ∧ (∀ k, ws[0]? = some k → k.sp = 1) ∧ ∀ H' S, Same H H' → H S = none → StsA H' S (staysL ws) → Q (.ref S) H'
theorem ok_law_stays {fd : FuncData} (F : FnD K ("_law_stays", none) "_law_stays" "_law_stays" s_law_stays fd) (T : Txt K mg) : OkF P w K mg base CX0 1 "_law_stays" ["_law_walk_here"] spStL := by
  refine okd F (F.ok sc_law_stays (fun vs H Q E h => ?_) fun cdv A outer s H vs Q E hr h => ?_) fun _ _ _ _ _ _ us hl => match us, hl with | [_], _ => rfl
  · obtain ⟨W, ws, rfl, _⟩ := h
    rfl
  · obtain ⟨W, ws, rfl, hW, hl, h1, k⟩ := h
    refine ⟨_, PSs.nox (pss_cons (ps_set (i := 1) sc_law_stays.nd rfl (Or.inl rfl) (pe_lst pa_nil))
  (pss_cons (ps_for PassesOwn.never rfl (pi_list (pv 0)) (pg_name (i := 2) sc_law_stays.nd rfl (Or.inl rfl))
  (pss_one (ps_if (pt_cmpR op_eq (pe_ix ix_tup (pe_ix ix_tup (pv 2) pe_int (fun _ _ => rfl)) pe_int (fun _ _ => rfl)) pe_int (nomark _)) (pss_one (ps_expr (pe_bm PySem.F.plainAttrs_list PySem.F.slot_list_append PySem.F.type_list_append mt_append (pv 1) (pa_cons (pe_tup (pa_cons (pe_ix ix_tup (pe_ix ix_tup (pv 2) pe_int (fun _ _ => rfl)) pe_int (fun _ _ => rfl)) (pa_cons pe_int pa_nil))) pa_nil))))
  (pss_one (ps_asg (pe_slice sl_tup (pe_ix ix_tup (pv 2) pe_int (fun _ _ => rfl)) (po_some pe_int) (po_some pe_int)) (pg_sub (pv 1) (pe_un un_neg pe_int) set_list))))))
  (pss_one (ps_ret (pv 1))))), ?_⟩
    refine ⟨(by show 0 ≤ sizeLine; decide), fun S nS => ?_⟩
    have s1 := same_new (o := .lst []) nS
    have hS1 : StsA (upd H S (.lst [])) S (staysL (ws.take 0)) := ⟨[], upd_same, .nil⟩
    generalize upd H S (.lst []) = H1 at s1 hS1 ⊢
    obtain ⟨rs, hrs, hps⟩ := id hW
    have hrl : rs.length = ws.length := paired_len hps
    refine ⟨_, rfl, W, rfl, ⟨_, SqL.of (s1 _ _ hrs)⟩, for_it walk_list (fun j σ H' => Same H H' ∧ StsA H' S (staysL (ws.take j)) ∧ ∃ v : Option V, σ = [some (.ref W), some (.ref S), v]) ⟨s1, hS1, none, rfl⟩ (fun j σ H' _ h => SqL.of (h.1 _ _ hrs)) ?_ ?_⟩
    · clear hS1 s1 H1
      rintro j x σ H3 H' hj ⟨sg, hS, v, rfl⟩ ⟨rfl, hx⟩
      rw [List.length_map] at hj
      have hrj : rs[j]? = some rs[j] := List.getElem?_eq_getElem hj
      generalize rs[j] = r at hrj
      obtain rfl : x = .ref r := by
        rw [List.getElem?_map, hrj] at hx
        exact (Option.some.inj hx).symm
      obtain ⟨⟨z, sp, sl, dn, wt, nt⟩, hk, t, hr1, ht1⟩ := paired_at hps hrj
      have hr2 := sg _ _ hr1
      have ht2 := sg _ _ ht1
      obtain ⟨vs, hv, hvl⟩ := hS.len
      have hvs : vs.length ≤ 1000 := by
        rw [hvl]
        exact Nat.le_trans (staysL_len ws j) (by omega)
      have hup : staysL (ws.take (j + 1)) = stStep (staysL (ws.take j)) ⟨z, sp, sl, dn, wt, nt⟩ := by
        rw [List.take_add_one, hk]
        exact staysL_snoc _ _
      refine ⟨_, rfl, r, _, 0, .ref t, rfl, rfl, SqT.of hr2, atI0, t, _, 1, .int sp, rfl, rfl, SqT.of ht2, atI1, rfl, _, rfl, ite2 (fun hc => ?_) fun hc => ?_⟩
      · have hc := V.int.inj (of_decide_eq_true hc)
        subst hc
        refine ⟨_, rfl, .inl ⟨rfl, _, SqL.of hv⟩, _, rfl, r, _, 0, .ref t, rfl, rfl, SqT.of hr2, atI0, t, _, 0, .str z, rfl, rfl, SqT.of ht2, atI0, (by show 2 ≤ sizeLine; decide), fun a na => ?_⟩
        have sa := same_new (o := .tup [.str z, .int 1]) na
        refine ⟨S, vs, _, rfl, rfl, sa _ _ hv, Nat.lt_of_le_of_lt hvs (by decide), same_app (sg.trans sa) (Same.refl _) nS, ?_, _, rfl⟩
        rw [hup]
        exact (hS.ext sa).add (sa _ _ hv) upd_same
      · have hc : sp ≠ 1 := fun e => hc (decide_eq_true (by rw [e]))
        have hj1 : 1 ≤ j := by
          cases j with
          | zero => exact absurd (h1 _ hk) hc
          | succ j => omega
        have hne := staysL_ne hj1 (ws := ws) (by omega)
        refine ⟨_, rfl, r, _, 0, .ref t, rfl, rfl, SqT.of hr2, atI0, 0, rfl, 2, rfl, t, _, rfl, SqT.of ht2, (fun q => absurd q.2 (by show ¬ HT.sIx 5 5 (some 2) = 5; decide)), fun a na => ?_⟩
        have ecut : cutV [.str z, .int sp, .int sl, .bl dn, .bl wt] (some 0) (some 2) = [.str z, .int sp] := rfl
        rw [ecut]
        have sa := same_new (o := .tup [.str z, .int sp]) na
        have hvn : 1 ≤ vs.length := by
          rw [hvl]
          exact Nat.one_le_iff_ne_zero.mpr fun e => hne (List.length_eq_zero_iff.mp e)
        refine ⟨_, rfl, 1, rfl, S, vs, -1, _, rfl, rfl, sa _ _ hv, ixN_m1 hvn, same_app (sg.trans sa) (Same.refl _) nS, ?_, _, rfl⟩
        rw [hup]
        unfold stStep
        rw [if_neg hc]
        exact (hS.ext sa).last (sa _ _ hv) hne upd_same
    · rintro σ H' ⟨sg, hS, v, rfl⟩
      rw [List.length_map, hrl, List.take_length] at hS
      exact ⟨_, rfl, k H' S sg nS hS⟩
end
end K32

set_option Elab.async false
set_option linter.all false
set_option pp.deepTerms.threshold 14
set_option pp.maxSteps 2500
set_option maxRecDepth 100000
set_option maxHeartbeats 2000000
namespace K32
open PySem PySem.Spec PyProof.Rows L2 Vf
section
variable {P : Program} {w : World} {K : PySem.W.Frag} {mg : Str → Option Value} {base : Heap}
structure LkS where
  l : List (Option Int)
  b : Bool
  j : Nat
def lkStep (i : Int) (s : LkS) (k : Tk) : LkS :=
  let b1 := if decide (s.j = 0) = true then decide (k.sl > i) else s.b
  let l1 := if (decide (s.j = 0) || decide (k.sl = 0)) = true then s.l ++ [none] else s.l
  let b2 := if (decide (0 < s.j) && decide (k.sl = 0)) = true then false else b1
  let l2 := if (k.dn && !b2) = true then l1.dropLast ++ [some k.sl] else l1
  ⟨l2, k.dn, s.j + 1⟩
def lkRun (i : Int) (ws : List Tk) : LkS := ws.foldl (lkStep i) ⟨[], false, 0⟩
def looksL (i : Int) (ws : List Tk) : List (Option Int) := (lkRun i ws).l
theorem lkRun_snoc (i : Int) (ws : List Tk) (k : Tk) : lkRun i (ws ++ [k]) = lkStep i (lkRun i ws) k := by
  unfold lkRun
  rw [List.foldl_append]
  rfl
theorem lkRun_take (i : Int) {ws : List Tk} {j : Nat} {k : Tk} (h : ws[j]? = some k) : lkRun i (ws.take (j + 1)) = lkStep i (lkRun i (ws.take j)) k := by
  rw [List.take_add_one, h]
  exact lkRun_snoc _ _ _
theorem lkRun_j (i : Int) (ws : List Tk) : ∀ j, j ≤ ws.length → (lkRun i (ws.take j)).j = j := by
  intro j
  induction j with
  | zero => intro _; rfl
  | succ j ih =>
    intro h
    rw [lkRun_take i (List.getElem?_eq_getElem (by omega))]
    show (lkRun i (ws.take j)).j + 1 = j + 1
    rw [ih (by omega)]
theorem lkStep_len (i : Int) (s : LkS) (k : Tk) (h : s.j = 0 ∨ s.l ≠ []) : (lkStep i s k).l.length ≤ s.l.length + 1 ∧ (lkStep i s k).l ≠ [] := by
  have h1 : (if (decide (s.j = 0) || decide (k.sl = 0)) = true then s.l ++ [none] else s.l).length ≤ s.l.length + 1 ∧ (if (decide (s.j = 0) || decide (k.sl = 0)) = true then s.l ++ [none] else s.l) ≠ [] := by
    split
    · rw [List.length_append]
      exact ⟨Nat.le_refl _, fun e => by simp at e⟩
    · rename_i hc
      refine ⟨Nat.le_succ _, ?_⟩
      rcases h with h | h
      · rw [decide_eq_true h, Bool.true_or] at hc
        exact absurd rfl hc
      · exact h
  unfold lkStep
  simp only
  generalize (if (decide (s.j = 0) || decide (k.sl = 0)) = true then s.l ++ [none] else s.l) = l1 at h1 ⊢
  generalize (k.dn && !(if (decide (0 < s.j) && decide (k.sl = 0)) = true then false else (if decide (s.j = 0) = true then decide (k.sl > i) else s.b))) = c
  split
  · rw [List.length_append, List.length_dropLast]
    refine ⟨?_, fun e => by simp at e⟩
    have : l1.length ≠ 0 := fun e => h1.2 (List.length_eq_zero_iff.mp e)
    show l1.length - 1 + 1 ≤ _
    omega
  · exact h1
theorem lkRun_len (i : Int) (ws : List Tk) : ∀ j, j ≤ ws.length → (lkRun i (ws.take j)).l.length ≤ j ∧ (j = 0 ∨ (lkRun i (ws.take j)).l ≠ []) := by
  intro j
  induction j with
  | zero => intro _; exact ⟨Nat.le_refl _, .inl rfl⟩
  | succ j ih =>
    intro h
    have h2 := ih (by omega)
    rw [lkRun_take i (List.getElem?_eq_getElem (by omega))]
    have h3 := lkStep_len i (lkRun i (ws.take j)) ws[j] (by rw [lkRun_j i ws j (by omega)]; exact h2.2)
    exact ⟨by omega, .inr h3.2⟩
theorem lk_last {l : List (Option Int)} (h : l ≠ []) (q : Int) : (l.map lkV).set ((l.map lkV).length - 1) (.int q) = (l.dropLast ++ [some q]).map lkV := by
  rw [set_last _ (fun e => h (List.map_eq_nil_iff.mp e)), List.map_append, List.map_dropLast]
  rfl
theorem sc_law_looks : FnScope ["_law_walk_here", "_law_spec_here", "_law_looks_here", "_law_before", "_law_k", "_law_state"] ["_law_walk_here", "_law_spec_here"] (defScope s_law_looks) := ⟨rfl, rfl, rfl, by decide +kernel, rfl, by decide +kernel, by decide +kernel⟩
-- slots: 0 _law_walk_here, 1 _law_spec_here, 2 _law_looks_here, 3 _law_before, 4 _law_k, 5 _law_state
def spLkL : Sp := fun vs H Q _ => ∃ (W s : Addr) (ws : List Tk) (n i : Int) (f : V), vs = [.ref W, .ref s] ∧ TksA H W ws ∧ ws.length ≤ 1000 ∧ SpA H s n i f ∧ ∀ H' L, Same H H' → H L = none → H' L = some (.lst ((looksL i ws).map lkV)) → Q (.ref L) H'
theorem ok_law_looks {fd : FuncData} (F : FnD K ("_law_looks", none) "_law_looks" "_law_looks" s_law_looks fd) (T : Txt K mg) : OkF P w K mg base CX0 1 "_law_looks" ["_law_walk_here", "_law_spec_here"] spLkL := by
  refine okd F (F.ok sc_law_looks (fun vs H Q E h => ?_) fun cdv A outer s H vs Q E hr h => ?_) fun _ _ _ _ _ _ us hl => match us, hl with | [_, _], _ => rfl
  · obtain ⟨W, s, ws, n, i, f, rfl, _⟩ := h
    rfl
  · obtain ⟨W, s, ws, n, i, f, rfl, hW, hl, hs, k⟩ := h
    refine ⟨_, PSs.nox (pss_cons (ps_set (i := 2) sc_law_looks.nd rfl (Or.inl rfl) (pe_lst pa_nil))
  (pss_cons (ps_set (i := 3) sc_law_looks.nd rfl (Or.inl rfl) pe_bl)
  (pss_cons (ps_for PassesOwn.never rfl (pi_range1 rfl T.z_range (pa_cons (pe_callB (id := "len") call_len_seq (by rfl) T.z_len (by decide +kernel) (pa_cons (pv 0) pa_nil)) pa_nil)) (pg_name (i := 4) sc_law_looks.nd rfl (Or.inl rfl))
  (pss_cons (ps_set (i := 5) sc_law_looks.nd rfl (Or.inl rfl) (pe_ix ix_tup (pe_ix ix_list (pv 0) (pv 4) (fun _ _ => rfl)) pe_int (fun _ _ => rfl)))
  (C8.pss_cut (ps_if (pt_cmpR op_eq (pv 4) pe_int (nomark _)) (pss_one (ps_set (i := 3) sc_law_looks.nd rfl (Or.inl rfl) (pe_cmpR op_gt (pe_ix ix_tup (pv 5) pe_int (fun _ _ => rfl)) (pe_ix ix_list (pv 1) pe_int (fun _ _ => rfl)) (nomark _))))
  pss_nil)
  (C8.pss_cut (ps_if (PW.pt (pw_orB (pt_cmpR op_eq (pv 4) pe_int (nomark _)) (pw_or1 (pt_cmpR op_eq (pe_ix ix_tup (pv 5) pe_int (fun _ _ => rfl)) pe_int (nomark _))))) (pss_one (ps_expr (pe_bm PySem.F.plainAttrs_list PySem.F.slot_list_append PySem.F.type_list_append mt_append (pv 2) (pa_cons pe_non pa_nil))))
  pss_nil)
  (C8.pss_cut (ps_if (PW.pt (pw_andB (pt_cmpR op_gt (pv 4) pe_int (nomark _)) (pw_and1 (pt_cmpR op_eq (pe_ix ix_tup (pv 5) pe_int (fun _ _ => rfl)) pe_int (nomark _))))) (pss_one (ps_set (i := 3) sc_law_looks.nd rfl (Or.inl rfl) pe_bl))
  pss_nil)
  (C8.pss_cut (ps_if (PW.pt (pw_andB (pt_val (pe_ix ix_tup (pv 5) pe_int (fun _ _ => rfl))) (pw_and1 (pt_not (pt_val (pv 3)))))) (pss_one (ps_asg (pe_ix ix_tup (pv 5) pe_int (fun _ _ => rfl)) (pg_sub (pv 2) (pe_un un_neg pe_int) set_list)))
  pss_nil)
  (pss_one (ps_set (i := 3) sc_law_looks.nd rfl (Or.inl rfl) (pe_ix ix_tup (pv 5) pe_int (fun _ _ => rfl))))))))))
  (pss_one (ps_ret (pv 2)))))), ?_⟩
    refine ⟨(by show 0 ≤ sizeLine; decide), fun L nL => ?_⟩
    have s1 := same_new (o := .lst []) nL
    have hL1 : (upd H L (.lst [])) L = some (.lst ((lkRun i (ws.take 0)).l.map lkV)) := upd_same
    generalize upd H L (.lst []) = H1 at s1 hL1 ⊢
    obtain ⟨rs, hrs, hps⟩ := id hW
    have hrl : rs.length = ws.length := paired_len hps
    refine ⟨_, rfl, W, _, rfl, .inl (SqL.of (s1 _ _ hrs)), _, rfl, by rw [List.length_map, hrl]; omega, by rw [List.length_map, hrl]; omega, ?_⟩
    rw [List.length_map, hrl]
    refine for_range (lo := 0) (n := (ws.length : Int).toNat) (fun j σ H' => Same H H' ∧ H' L = some (.lst ((lkRun i (ws.take j)).l.map lkV)) ∧ ∃ v4 v5 : Option V, σ = [some (.ref W), some (.ref s), some (.ref L), some (.bl (lkRun i (ws.take j)).b), v4, v5]) ⟨s1, hL1, none, none, rfl⟩ ?_ ?_
    · clear hL1 s1 H1
      rintro j σ H3 hj ⟨sg, hL, v4, v5, rfl⟩
      have hjl : j < ws.length := by omega
      have hk : ws[j]? = some ws[j] := List.getElem?_eq_getElem hjl
      generalize ws[j] = kk at hk
      obtain ⟨z, sp, sl, dn, wt, nt⟩ := kk
      obtain ⟨r, hr1, t, hr2, ht1⟩ := paired_at2 hps hk
      have hup := lkRun_take i hk
      have hjj := lkRun_j i ws j (by omega)
      obtain ⟨hll, hln⟩ := lkRun_len i ws j (by omega)
      rw [hup]
      generalize lkRun i (ws.take j) = S at hL hjj hll hln ⊢
      obtain ⟨l, b, j'⟩ := S
      replace hjj : j' = j := hjj
      subst hjj
      replace hL : H3 L = some (.lst (l.map lkV)) := hL
      replace hll : l.length ≤ j' := hll
      replace hln : j' = 0 ∨ l ≠ [] := hln
      have hW3 := sg _ _ hrs
      have ht3 := sg _ _ ht1
      have hr3 := sg _ _ hr2
      have hs3 := hs.ext sg
      refine ⟨_, rfl, _, rfl, W, _, _, .ref r, rfl, rfl, SqL.of hW3, (by rw [Int.zero_add]; exact atI_nat (by rw [List.getElem?_map, hr1]; rfl)), r, _, 0, .ref t, rfl, rfl, SqT.of hr3, atI0, ?_⟩
      refine ⟨fun σ' H' => H' = H3 ∧ σ' = [some (.ref W), some (.ref s), some (.ref L), some (.bl (if decide (j' = 0) = true then decide (sl > i) else b)), some (.int (0 + (j' : Int))), some (.ref t)], ?_, ?_⟩
      · refine ⟨_, rfl, rfl, _, rfl, ite2 (fun hc => ?_) fun hc => ?_⟩
        · have hc : j' = 0 := by have := V.int.inj (of_decide_eq_true hc); omega
          rw [decide_eq_true hc]
          exact ⟨_, rfl, t, _, 2, .int sl, rfl, rfl, SqT.of ht3, atI_nat (j := 2) rfl, _, rfl, s, _, 1, .int i, rfl, rfl, SqL.of hs3.hs, atI1, sl, i, rfl, rfl, rfl, rfl⟩
        · have hc : ¬ j' = 0 := fun e => hc (decide_eq_true (by rw [e]; rfl))
          rw [decide_eq_false hc]
          exact ⟨rfl, rfl⟩
      rintro σ' H' ⟨rfl, rfl⟩
      generalize hb1 : (if decide (j' = 0) = true then decide (sl > i) else b) = b1
      refine ⟨fun σ' H'' => Same H H'' ∧ H'' L = some (.lst ((if (decide (j' = 0) || decide (sl = 0)) = true then l ++ [none] else l).map lkV)) ∧ σ' = [some (.ref W), some (.ref s), some (.ref L), some (.bl b1), some (.int (0 + (j' : Int))), some (.ref t)], ?_, ?_⟩
      · refine ⟨_, rfl, rfl, _, rfl, decide (sl = 0), (· = H'), fun _ => ⟨_, rfl, t, _, 2, .int sl, rfl, rfl, SqT.of ht3, atI_nat (j := 2) rfl, rfl, _, rfl, int_dec _ _, rfl⟩, fun _ => rfl, fun H4 e => ?_⟩
        subst e
        have ed : decide (V.int (0 + (j' : Int)) = V.int 0) = decide (j' = 0) := decide_eq_decide.mpr ⟨fun e => by have := V.int.inj e; omega, fun e => by rw [e]; rfl⟩
        rw [ed]
        refine ite_one (fun hc => ?_) fun hc => ?_
        · rw [if_pos hc]
          refine ⟨_, rfl, .inl ⟨rfl, _, SqL.of hL⟩, L, _, _, rfl, rfl, hL, ?_, same_app sg (Same.refl _) nL, ?_, rfl⟩
          · rw [List.length_map]
            exact Nat.lt_of_le_of_lt (show l.length ≤ 1000 by omega) (by decide)
          · rw [upd_same, List.map_append]
            rfl
        · rw [if_neg (by rw [hc]; decide)]
          exact ⟨sg, hL, rfl⟩
      have hn1 : (if (decide (j' = 0) || decide (sl = 0)) = true then l ++ [none] else l) ≠ [] ∧ (if (decide (j' = 0) || decide (sl = 0)) = true then l ++ [none] else l).length ≤ 1001 := by
        split
        · exact ⟨fun e => by simp at e, by rw [List.length_append]; show l.length + 1 ≤ _; omega⟩
        · rename_i hc
          refine ⟨?_, by omega⟩
          rcases hln with h | h
          · rw [decide_eq_true h, Bool.true_or] at hc
            exact absurd rfl hc
          · exact h
      rintro σ' H4 ⟨sg4, hL4, rfl⟩
      have e1 : lkStep i ⟨l, b, j'⟩ ⟨z, sp, sl, dn, wt, nt⟩ = ⟨if (dn && !(if (decide (0 < j') && decide (sl = 0)) = true then false else b1)) = true then (if (decide (j' = 0) || decide (sl = 0)) = true then l ++ [none] else l).dropLast ++ [some sl] else (if (decide (j' = 0) || decide (sl = 0)) = true then l ++ [none] else l), dn, j' + 1⟩ := by
        rw [← hb1]
        rfl
      rw [e1]
      generalize (if (decide (j' = 0) || decide (sl = 0)) = true then l ++ [none] else l) = l1 at hL4 hn1 e1 ⊢
      clear e1 hL hr3 hW3 hs3 sg hb1 ht3
      have ht4 := sg4 _ _ ht1
      refine ⟨fun σ' H'' => H'' = H4 ∧ σ' = [some (.ref W), some (.ref s), some (.ref L), some (.bl (if (decide (0 < j') && decide (sl = 0)) = true then false else b1)), some (.int (0 + (j' : Int))), some (.ref t)], ?_, ?_⟩
      · refine ⟨_, rfl, _, _, rfl, rfl, _, rfl, decide (sl = 0), (· = H4), fun _ => ⟨_, rfl, t, _, 2, .int sl, rfl, rfl, SqT.of ht4, atI_nat (j := 2) rfl, rfl, _, rfl, int_dec _ _, rfl⟩, fun _ => rfl, fun H5 e => ?_⟩
        subst e
        have ed : decide ((0 : Int) < 0 + (j' : Int)) = decide (0 < j') := decide_eq_decide.mpr ⟨fun e => by omega, fun e => by omega⟩
        show if (decide ((0 : Int) < 0 + (j' : Int)) && decide (sl = 0)) = true then _ else _
        rw [ed]
        refine ite_one (fun hc => ?_) fun hc => ?_
        · rw [if_pos hc]
          exact ⟨rfl, rfl⟩
        · rw [if_neg (by rw [hc]; decide)]
          exact ⟨rfl, rfl⟩
      rintro σ' H5 ⟨rfl, rfl⟩
      generalize (if (decide (0 < j') && decide (sl = 0)) = true then false else b1) = b2
      refine ⟨fun σ' H'' => Same H H'' ∧ H'' L = some (.lst ((if (dn && !b2) = true then l1.dropLast ++ [some sl] else l1).map lkV)) ∧ σ' = [some (.ref W), some (.ref s), some (.ref L), some (.bl b2), some (.int (0 + (j' : Int))), some (.ref t)], ?_, ?_⟩
      · refine ⟨_, rfl, t, _, 3, .bl dn, rfl, rfl, SqT.of ht4, atI_nat (j := 3) rfl, dn, rfl, !b2, (· = H5), fun _ => ⟨_, rfl, b2, rfl, rfl, rfl⟩, fun _ => rfl, fun H6 e => ?_⟩
        subst e
        refine ite_one (fun hc => ?_) fun hc => ?_
        · rw [if_pos hc]
          refine ⟨_, rfl, t, _, 2, .int sl, rfl, rfl, SqT.of ht4, atI_nat (j := 2) rfl, _, rfl, 1, rfl, L, _, -1, _, rfl, rfl, hL4, ixN_m1 ?_, same_app sg4 (Same.refl _) nL, ?_, rfl⟩
          · rw [List.length_map]
            exact Nat.one_le_iff_ne_zero.mpr fun e => hn1.1 (List.length_eq_zero_iff.mp e)
          · rw [upd_same, lk_last hn1.1]
        · rw [if_neg (by rw [hc]; decide)]
          exact ⟨sg4, hL4, rfl⟩
      rintro σ' H6 ⟨sg6, hL6, rfl⟩
      exact ⟨_, rfl, t, _, 3, .bl dn, rfl, rfl, SqT.of (sg6 _ _ ht1), atI_nat (j := 3) rfl, sg6, hL6, _, _, rfl⟩
    · rintro σ H' ⟨sg, hL, v4, v5, rfl⟩
      rw [Int.toNat_natCast, List.take_length] at hL
      exact ⟨_, rfl, k H' L sg nL hL⟩
end
end K32

set_option Elab.async false
set_option linter.all false
set_option pp.deepTerms.threshold 14
set_option pp.maxSteps 2500
set_option maxRecDepth 100000
set_option maxHeartbeats 2000000
namespace K32
open PySem PySem.Spec PyProof.Rows L2 Vf
section
variable {P : Program} {w : World} {K : PySem.W.Frag} {mg : Str → Option Value} {base : Heap}
/-! ### what a walk is -/
theorem div_step {n m : Nat} (hn : 1 ≤ n) : (m % n + 1 < n ∧ (m + 1) / n = m / n ∧ (m + 1) % n = m % n + 1) ∨ (m % n + 1 = n ∧ (m + 1) / n = m / n + 1 ∧ (m + 1) % n = 0) := by
  have h1 := Nat.div_add_mod m n
  have h2 := Nat.mod_lt m (show 0 < n by omega)
  by_cases h : m % n + 1 < n
  · refine .inl ⟨h, ?_, ?_⟩
    · have e : m + 1 = n * (m / n) + (m % n + 1) := by omega
      rw [e, Nat.mul_add_div (by omega), Nat.div_eq_of_lt h, Nat.add_zero]
    · have e : m + 1 = n * (m / n) + (m % n + 1) := by omega
      rw [e, Nat.mul_add_mod, Nat.mod_eq_of_lt h]
  · have h3 : m % n + 1 = n := by omega
    have e : m + 1 = n * (m / n + 1) := by rw [Nat.mul_add, Nat.mul_one]; omega
    refine .inr ⟨h3, ?_, ?_⟩
    · rw [e, Nat.mul_div_cancel_left _ (by omega)]
    · rw [e, Nat.mul_mod_right]
/-- the j-th tick of a walk that began at place sh -/
structure TkOk (ys : List PgE) (n i sh j : Nat) (k : Tk) : Prop where
  hz : k.z ∈ zsOf ys
  s1 : 1 ≤ k.sp
  sm : k.sp ≤ (rowQ ys k.z).m
  sl : k.sl = (((sh + j) % n : Nat) : Int)
  dn : k.dn = false → k.sl < i
theorem row_k {ys : List PgE} (hok : RowsOk ys) {z : Str} (hz : z ∈ zsOf ys) : RowK (rowQ ys z) := by
  obtain ⟨y, hy, e⟩ := rowQ_mem hok.nd hz
  rw [← e]
  exact hok.kp y hy
theorem first_ok {ys : List PgE} (hok : RowsOk ys) {z : Str} (hz : z ∈ zsOf ys) {n i : Nat} (n1 : 1 ≤ n) {f : V} (hf : PhOk f (n : Int)) {k : Tk} (h : k ∈ firstL (rowQ ys z) (i : Int) (n : Int) f) :
    ∃ sh : Nat, sh ≤ n - 1 ∧ k.sl = (sh : Int) ∧ k.sp = 1 ∧ k.z = z ∧ (f = .non ∨ f = .int (sh : Int)) ∧ TkOk ys n i sh 0 k ∧ (k.dn = true ↔ ((sh : Int) > i ∨ (k.dn = true ∧ (sh : Int) ≤ i))) := by
  have hkz := first_z hok hz h
  obtain ⟨q, hq, hk⟩ := first_mem h
  obtain ⟨q0, q1, hfq⟩ := sh_ok hf hq
  obtain ⟨due, hoff, rfl⟩ := tkL_mem hk
  obtain ⟨sh, rfl⟩ : ∃ sh : Nat, q = (sh : Int) := ⟨q.toNat, by omega⟩
  have hrk := row_k hok hz
  refine ⟨sh, by omega, rfl, rfl, hkz, hfq, ⟨by rw [hkz]; exact hz, Int.le_refl 1, ?_, ?_, fun hd => ?_⟩, ?_⟩
  · show (1 : Int) ≤ (rowQ ys (rowQ ys z).z).m
    rw [rowQ_z hok.nd hz]
    have h1 := hrk.2.2.1
    have h2 := hrk.2.2.2.1
    omega
  · show (sh : Int) = (((sh + 0) % n : Nat) : Int)
    rw [Nat.add_zero, Nat.mod_eq_of_lt (by omega)]
  · have hd : (decide ((sh : Int) > i) || due) = false := hd
    obtain ⟨h1, h2⟩ := Bool.or_eq_false_iff.mp hd
    subst h2
    unfold tkOff at hoff
    rw [h1] at hoff
    have h3 : ¬ (sh : Int) > i := of_decide_eq_false h1
    have h4 : ¬ (sh : Int) = i := of_decide_eq_false (by simpa using hoff)
    show (sh : Int) < i
    omega
  · constructor
    · intro hd
      by_cases h1 : (sh : Int) > i
      · exact .inl h1
      · exact .inr ⟨hd, by omega⟩
    · rintro (h1 | h1)
      · show (decide ((sh : Int) > i) || due) = true
        rw [decide_eq_true h1]
        rfl
      · exact h1.1
/-- one tick later: the stay goes on, or a new one begins; the look is due or not -/
structure NextOk (ys : List PgE) (n i sh j : Nat) (a k : Tk) : Prop where
  ok : TkOk ys n i sh (j + 1) k
  st : (k.z = a.z ∧ k.sp = a.sp + 1) ∨ (k.sp = 1 ∧ (rowQ ys a.z).l ≤ a.sp ∧ k.z ∈ (rowQ ys a.z).ns)
  dn : (a.dn && decide (k.sl > 0)) = true → k.dn = true
  wt : ∃ due : Bool, k.dn = ((a.dn && decide (k.sl > 0)) || due) ∧ ((a.dn && decide (k.sl > 0)) = true → due = false) ∧ k.wt = ((a.wt || due) && !(rowQ ys k.z).b) ∧ k.nt = ((a.wt || due) && (rowQ ys k.z).b)
theorem after_ok {ys : List PgE} (hok : RowsOk ys) {n i sh j : Nat} (n1 : 1 ≤ n) (i1 : i ≤ n - 1) {a k : Tk} (ha : TkOk ys n i sh j a) (h : k ∈ afterL ys (n : Int) (i : Int) a) : NextOk ys n i sh j a k := by
  have hkz := after_z hok ha.hz h
  have esl : (a.sl + 1) % (n : Int) = (((sh + (j + 1)) % n : Nat) : Int) := by
    rw [ha.sl, Int.natCast_emod, Int.natCast_emod, Int.emod_add_emod, show ((sh + (j + 1) : Nat) : Int) = ((sh + j : Nat) : Int) + 1 from by omega]
  have key : ∀ {r : Rw} {sp : Int}, k ∈ tkL r (i : Int) sp ((a.sl + 1) % (n : Int)) (a.dn && decide ((a.sl + 1) % (n : Int) > 0)) a.wt →
      k.z = r.z ∧ k.sp = sp ∧ k.sl = (a.sl + 1) % (n : Int) ∧ (k.dn = false → k.sl < i) ∧ ((a.dn && decide (k.sl > 0)) = true → k.dn = true) ∧ ∃ due : Bool, k.dn = ((a.dn && decide (k.sl > 0)) || due) ∧ ((a.dn && decide (k.sl > 0)) = true → due = false) ∧ k.wt = ((a.wt || due) && !r.b) ∧ k.nt = ((a.wt || due) && r.b) := by
    intro r sp hk
    obtain ⟨due, hoff, rfl⟩ := tkL_mem hk
    refine ⟨rfl, rfl, rfl, fun hd => ?_, fun hd => ?_, due, rfl, fun hd => ?_, rfl, rfl⟩
    · have hd : ((a.dn && decide ((a.sl + 1) % (n : Int) > 0)) || due) = false := hd
      obtain ⟨h1, h2⟩ := Bool.or_eq_false_iff.mp hd
      subst h2
      unfold tkOff at hoff
      rw [h1] at hoff
      have h4 : ¬ (a.sl + 1) % (n : Int) = i := of_decide_eq_false (by simpa using hoff)
      show (a.sl + 1) % (n : Int) < i
      rw [esl] at h4 h1 ⊢
      have hds := div_step (n := n) (m := sh + j) n1
      have hsl := ha.sl
      rw [show sh + (j + 1) = sh + j + 1 from rfl] at h4 h1 ⊢
      rcases hds with ⟨d1, _, d3⟩ | ⟨d1, _, d3⟩
      · rw [d3] at h4 h1 ⊢
        by_cases hlt : ((sh + j) % n + 1 : Nat) < i
        · omega
        · exfalso
          have hadn : a.dn = true := by
            cases hh : a.dn with
            | true => rfl
            | false =>
              have := ha.dn hh
              rw [hsl] at this
              omega
          rw [hadn, decide_eq_true (by omega)] at h1
          cases h1
      · rw [d3] at h4 ⊢
        omega
    · show ((a.dn && decide ((a.sl + 1) % (n : Int) > 0)) || due) = true
      have hd : (a.dn && decide ((a.sl + 1) % (n : Int) > 0)) = true := hd
      rw [hd]
      rfl
    · have hd : (a.dn && decide ((a.sl + 1) % (n : Int) > 0)) = true := hd
      unfold tkOff at hoff
      rw [hd] at hoff
      cases due with
      | false => rfl
      | true => cases hoff
  have hrk := row_k hok hkz
  rcases after_mem h with ⟨h1, hk⟩ | ⟨h1, w, hw, hk⟩
  · obtain ⟨e1, e2, e3, e4, e5, due, e6, e7, e8, e9⟩ := key hk
    rw [rowQ_z hok.nd ha.hz] at e1
    have s1 := ha.s1
    refine ⟨⟨hkz, by omega, by rw [e1, e2]; omega, e3.trans esl, e4⟩, .inl ⟨e1, e2⟩, e5, due, e6, e7, by rw [e1]; exact e8, by rw [e1]; exact e9⟩
  · obtain ⟨e1, e2, e3, e4, e5, due, e6, e7, e8, e9⟩ := key hk
    have hwz := rowQ_ns hok ha.hz hw
    rw [rowQ_z hok.nd hwz] at e1
    have g1 := hrk.2.2.1
    have g2 := hrk.2.2.2.1
    refine ⟨⟨hkz, by omega, by omega, e3.trans esl, e4⟩, .inr ⟨e2, h1, by rw [e1]; exact hw⟩, e5, due, e6, e7, by rw [e1]; exact e8, by rw [e1]; exact e9⟩
/-- the whole walk -/
structure WalkOk (ys : List PgE) (bg : Str) (n i sh : Nat) (ws : List Tk) : Prop where
  ne : ws ≠ []
  h0 : ∀ k, ws[0]? = some k → k.sl = (sh : Int) ∧ k.sp = 1 ∧ k.z = bg ∧ (k.dn = true ↔ ((sh : Int) > i ∨ (k.dn = true ∧ (sh : Int) ≤ i)))
  hk : ∀ j k, ws[j]? = some k → TkOk ys n i sh j k
  hs : ∀ j a k, ws[j]? = some a → ws[j + 1]? = some k → NextOk ys n i sh j a k
theorem road_walk {ys : List PgE} (hok : RowsOk ys) {bg : Str} (hz : bg ∈ zsOf ys) {n i : Nat} (n1 : 1 ≤ n) (i1 : i ≤ n - 1) {f : V} (hf : PhOk f (n : Int)) {ws : List Tk} (hne : ws ≠ []) (h : RoadOk ys bg (n : Int) (i : Int) f ws) :
    ∃ sh : Nat, sh ≤ n - 1 ∧ (f = .non ∨ f = .int (sh : Int)) ∧ WalkOk ys bg n i sh ws := by
  obtain ⟨k0, hk0⟩ : ∃ k, ws[0]? = some k := by
    cases ws with
    | nil => exact absurd rfl hne
    | cons a l => exact ⟨a, rfl⟩
  obtain ⟨sh, hsh, e1, e2, e3, hfs, hok0, hd0⟩ := first_ok hok hz n1 hf (h.h0 k0 hk0)
  have hall : ∀ (j : Nat) (k : Tk), ws[j]? = some k → TkOk ys n i sh j k := by
    intro j
    induction j with
    | zero =>
      intro k hk
      rw [hk0] at hk
      cases hk
      exact hok0
    | succ j ih =>
      intro k hk
      have hj : j < ws.length := by
        have := (List.getElem?_eq_some_iff.mp hk).1
        omega
      exact (after_ok hok n1 i1 (ih _ (List.getElem?_eq_getElem hj)) (h.hs j _ k (List.getElem?_eq_getElem hj) hk)).ok
  refine ⟨sh, hsh, hfs, hne, fun k hk => ?_, hall, fun j a k ha hk => after_ok hok n1 i1 (hall j a ha) (h.hs j a k ha hk)⟩
  rw [hk0] at hk
  cases hk
  exact ⟨e1, e2, e3, hd0⟩
end
end K32

set_option Elab.async false
set_option linter.all false
set_option pp.deepTerms.threshold 14
set_option pp.maxSteps 2500
set_option maxRecDepth 100000
set_option maxHeartbeats 2000000
namespace K32
open PySem PySem.Spec PyProof.Rows L2 Vf
section
variable {P : Program} {w : World} {K : PySem.W.Frag} {mg : Str → Option Value} {base : Heap}
structure StsQ (ys : List PgE) (st : Str) (sts : List (Str × Int)) : Prop where
  ne : sts ≠ []
  h0 : ∀ p, sts[0]? = some p → p.1 = st
  hs : ∀ j p, sts[j]? = some p → p.1 ∈ zsOf ys ∧ 1 ≤ p.2 ∧ p.2 ≤ (rowQ ys p.1).m ∧ (j + 1 < sts.length → (rowQ ys p.1).l ≤ p.2) ∧ ∀ p', sts[j + 1]? = some p' → p'.1 ∈ (rowQ ys p.1).ns
theorem StsQ.ok {xs ys : List PgE} {st : Str} {sts : List (Str × Int)} (h : StsQ ys st sts) (nd : (zsOf ys).Nodup) (hB : Beside xs ys) : StsOk xs st sts := by
  refine ⟨h.ne, h.h0, fun j p hp => ?_⟩
  obtain ⟨hz, a1, a2, a3, a4⟩ := h.hs j p hp
  obtain ⟨i, y, hy, e⟩ := row_of hz
  have hr : rowQ ys p.1 = y.2.2 := by rw [← e]; exact rowQ_row nd hy
  rw [hr] at a2 a3 a4
  have hi : i < xs.length := by rw [hB.len]; exact (List.getElem?_eq_some_iff.mp hy).1
  have hx : xs[i]? = some xs[i] := List.getElem?_eq_getElem hi
  obtain ⟨y', hy', e'⟩ := hB.get hx
  rw [hy] at hy'
  cases hy'
  refine ⟨i, xs[i], hx, by rw [← e']; exact e, a1, ?_, ?_, ?_⟩
  · rw [← e']; exact a2
  · rw [← e']; exact a3
  · rw [← e']; exact a4
theorem StsQ.add {ys : List PgE} {st : Str} {S : List (Str × Int)} {z z' : Str} {q : Int} (h : StsQ ys st (S ++ [(z, q)])) (hl : (rowQ ys z).l ≤ q) (hn : z' ∈ (rowQ ys z).ns) (hz : z' ∈ zsOf ys) (hm : 1 ≤ (rowQ ys z').m) : StsQ ys st (S ++ [(z, q)] ++ [(z', 1)]) := by
  refine ⟨fun e => by simp at e, fun p hp => ?_, fun j p hp => ?_⟩
  · rw [List.getElem?_append_left (by rw [List.length_append]; simp)] at hp
    exact h.h0 p hp
  · have hlen : (S ++ [(z, q)]).length = S.length + 1 := by rw [List.length_append]; rfl
    have hj := (List.getElem?_eq_some_iff.mp hp).1
    rw [List.length_append, hlen] at hj
    replace hj : j < S.length + 1 + 1 := hj
    by_cases h1 : j < S.length + 1
    · rw [List.getElem?_append_left (by rw [hlen]; exact h1)] at hp
      obtain ⟨a0, a1, a2, a3, a4⟩ := h.hs j p hp
      by_cases h2 : j < S.length
      · refine ⟨a0, a1, a2, fun _ => a3 (by rw [hlen]; omega), fun p' hp' => ?_⟩
        rw [List.getElem?_append_left (by rw [hlen]; omega)] at hp'
        exact a4 p' hp'
      · have h3 : j = S.length := by omega
        subst h3
        rw [List.getElem?_append_right (Nat.le_refl _), Nat.sub_self] at hp
        cases hp
        refine ⟨a0, a1, a2, fun _ => hl, fun p' hp' => ?_⟩
        rw [List.getElem?_append_right (by rw [hlen]; exact Nat.le_refl _), hlen, Nat.sub_self] at hp'
        cases hp'
        exact hn
    · have h3 : j = S.length + 1 := by omega
      subst h3
      rw [List.getElem?_append_right (by rw [hlen]; exact Nat.le_refl _), hlen, Nat.sub_self] at hp
      cases hp
      refine ⟨hz, Int.le_refl 1, hm, fun hlt => ?_, fun p' hp' => ?_⟩
      · rw [List.length_append, hlen] at hlt
        replace hlt : S.length + 1 + 1 < S.length + 1 + 1 := hlt
        omega
      · have := (List.getElem?_eq_some_iff.mp hp').1
        rw [List.length_append, hlen] at this
        replace this : S.length + 1 + 1 < S.length + 1 + 1 := this
        omega
theorem StsQ.more {ys : List PgE} {st : Str} {S : List (Str × Int)} {z : Str} {q : Int} (h : StsQ ys st (S ++ [(z, q)])) (hm : q + 1 ≤ (rowQ ys z).m) : StsQ ys st (S ++ [(z, q + 1)]) := by
  have hlen : (S ++ [(z, q)]).length = S.length + 1 := by rw [List.length_append]; rfl
  have hlen' : (S ++ [(z, q + 1)]).length = S.length + 1 := by rw [List.length_append]; rfl
  have hat : (S ++ [(z, q)])[S.length]? = some (z, q) := by rw [List.getElem?_append_right (Nat.le_refl _), Nat.sub_self]; rfl
  refine ⟨fun e => by simp at e, fun p hp => ?_, fun j p hp => ?_⟩
  · cases S with
    | nil =>
      cases hp
      exact h.h0 (z, q) rfl
    | cons a l => exact h.h0 p hp
  · have hj := (List.getElem?_eq_some_iff.mp hp).1
    rw [hlen'] at hj
    by_cases h2 : j < S.length
    · rw [List.getElem?_append_left h2] at hp
      obtain ⟨a0, a1, a2, a3, a4⟩ := h.hs j p (by rw [List.getElem?_append_left h2]; exact hp)
      refine ⟨a0, a1, a2, fun hlt => a3 (by rw [hlen]; rw [hlen'] at hlt; exact hlt), fun p' hp' => ?_⟩
      by_cases h3 : j + 1 < S.length
      · rw [List.getElem?_append_left h3] at hp'
        exact a4 p' (by rw [List.getElem?_append_left h3]; exact hp')
      · have h4 : j + 1 = S.length := by omega
        rw [h4, List.getElem?_append_right (Nat.le_refl _), Nat.sub_self] at hp'
        cases hp'
        exact a4 (z, q) (by rw [h4]; exact hat)
    · have h3 : j = S.length := by omega
      subst h3
      rw [List.getElem?_append_right (Nat.le_refl _), Nat.sub_self] at hp
      cases hp
      obtain ⟨a0, a1, a2, a3, a4⟩ := h.hs S.length (z, q) hat
      replace a1 : 1 ≤ q := a1
      refine ⟨a0, by show 1 ≤ q + 1; omega, hm, fun hlt => ?_, fun p' hp' => ?_⟩
      · rw [hlen'] at hlt
        omega
      · have := (List.getElem?_eq_some_iff.mp hp').1
        rw [hlen'] at this
        omega
theorem tot_app (a b : List (Str × Int)) : totL (a ++ b) = totL a + totL b := by
  unfold totL
  rw [List.map_append, List.sum_append]
theorem names_app (a b : List (Str × Int)) : namesL (a ++ b) = namesL a ++ namesL b := by
  unfold namesL
  rw [List.flatMap_append]
theorem walk_stays {ys : List PgE} {bg : Str} {n i sh : Nat} {ws : List Tk} (hok : RowsOk ys) (h : WalkOk ys bg n i sh ws) : ∀ (j : Nat) (k : Tk), ws[j]? = some k →
    ∃ S : List (Str × Int), staysL (ws.take (j + 1)) = S ++ [(k.z, k.sp)] ∧ StsQ ys bg (S ++ [(k.z, k.sp)]) ∧ namesL (S ++ [(k.z, k.sp)]) = (ws.take (j + 1)).map (·.z) := by
  intro j
  induction j with
  | zero =>
    intro k hk
    obtain ⟨_, e2, e3, _⟩ := h.h0 k hk
    have hko := h.hk 0 k hk
    have e : ws.take (0 + 1) = [k] := by rw [List.take_add_one, hk]; rfl
    refine ⟨[], ?_, ⟨fun e => by simp at e, fun p hp => ?_, fun j p hp => ?_⟩, ?_⟩
    · rw [e]
      show stStep [] k = _
      unfold stStep
      rw [if_pos e2, e2]
    · cases hp
      exact e3
    · have hj := (List.getElem?_eq_some_iff.mp hp).1
      replace hj : j < 1 := hj
      obtain rfl : j = 0 := by omega
      cases hp
      exact ⟨hko.hz, hko.s1, hko.sm, fun hlt => absurd hlt (by show ¬ 0 + 1 < 1; omega), fun p' hp' => by cases hp'⟩
    · rw [e, e2]
      rfl
  | succ j ih =>
    intro k hk
    have hj : j < ws.length := by
      have := (List.getElem?_eq_some_iff.mp hk).1
      omega
    have ha : ws[j]? = some ws[j] := List.getElem?_eq_getElem hj
    generalize ws[j] = a at ha
    obtain ⟨S, hS, hQ, hN⟩ := ih a ha
    have hnx := h.hs j a k ha hk
    have e : ws.take (j + 1 + 1) = ws.take (j + 1) ++ [k] := by rw [List.take_add_one (i := j + 1), hk]; rfl
    have hko := hnx.ok
    have hao := h.hk j a ha
    rcases hnx.st with ⟨e1, e2⟩ | ⟨e1, e2, e3⟩
    · have hne : ¬ k.sp = 1 := by have := hao.s1; omega
      refine ⟨S, ?_, ?_, ?_⟩
      · rw [e, staysL_snoc, hS]
        unfold stStep
        rw [if_neg hne, List.dropLast_concat]
      · rw [e1, e2]
        exact hQ.more (by rw [← e2, ← e1]; exact hko.sm)
      · rw [e, List.map_append, ← hN, names_app, names_app, List.append_assoc]
        refine congrArg (namesL S ++ ·) ?_
        unfold namesL
        rw [e1, e2]
        show List.replicate (a.sp + 1).toNat a.z ++ [] = (List.replicate a.sp.toNat a.z ++ []) ++ [k.z]
        rw [e1, List.append_nil, List.append_nil, show (a.sp + 1).toNat = a.sp.toNat + 1 by have := hao.s1; omega, List.replicate_succ']
    · refine ⟨S ++ [(a.z, a.sp)], ?_, ?_, ?_⟩
      · rw [e, staysL_snoc, hS]
        unfold stStep
        rw [if_pos e1, e1]
      · rw [e1]
        have hrk := row_k hok hko.hz
        exact hQ.add e2 e3 hko.hz (by have g1 := hrk.2.2.1; have g2 := hrk.2.2.2.1; omega)
      · rw [e, List.map_append, ← hN, names_app, e1]
        rfl
theorem walk_sts {ys : List PgE} {bg : Str} {n i sh : Nat} {ws : List Tk} (hok : RowsOk ys) (h : WalkOk ys bg n i sh ws) : StsQ ys bg (staysL ws) ∧ namesL (staysL ws) = ws.map (·.z) := by
  have hl : 1 ≤ ws.length := Nat.one_le_iff_ne_zero.mpr fun e => h.ne (List.length_eq_zero_iff.mp e)
  have hk : ws[ws.length - 1]? = some ws[ws.length - 1] := List.getElem?_eq_getElem (by omega)
  obtain ⟨S, h1, h2, h3⟩ := walk_stays hok h _ _ hk
  rw [show ws.length - 1 + 1 = ws.length by omega, List.take_length] at h1 h3
  rw [h1]
  exact ⟨h2, h3⟩
theorem walk_tot {ys : List PgE} {bg : Str} {n i sh : Nat} {ws : List Tk} (hok : RowsOk ys) (h : WalkOk ys bg n i sh ws) : totL (staysL ws) = (ws.length : Int) := by
  obtain ⟨h1, h2⟩ := walk_sts hok h
  have h3 := namesL_len (sts := staysL ws) fun p hp => by
    obtain ⟨j, hj⟩ := List.mem_iff_getElem?.mp hp
    have := (h1.hs j p hj).2.1
    omega
  rw [h2, List.length_map] at h3
  exact h3.symm
/-! ### its looks -/
theorem lk_step {i : Nat} {S : LkS} {a k : Tk} (hb : S.b = a.dn) (hj : 0 < S.j) : lkStep (i : Int) S k = if k.sl = 0 then ⟨if k.dn = true then S.l ++ [some k.sl] else S.l ++ [none], k.dn, S.j + 1⟩ else ⟨if (k.dn && !a.dn) = true then S.l.dropLast ++ [some k.sl] else S.l, k.dn, S.j + 1⟩ := by
  have hj0 : ¬ S.j = 0 := by omega
  unfold lkStep
  simp only
  rw [decide_eq_false hj0, decide_eq_true hj, hb]
  by_cases h : k.sl = 0
  · rw [if_pos h, decide_eq_true h]
    cases hd : k.dn with
    | true => simp
    | false => simp
  · rw [if_neg h, decide_eq_false h]
    simp
structure LkInv (n i sh m d : Nat) (k : Tk) (S : LkS) : Prop where
  len : S.l.length = d + 1
  b : S.b = k.dn
  jj : S.j + sh = m + 1
  old : ∀ (s : Nat) (o : Option Int), S.l[s]? = some o → s < d → LkFit (lkV o) (if s = 0 then (sh : Int) else 0) ((n : Int) - 1) i
  no : k.dn = false → S.l[d]? = some none
  yes : k.dn = true → (S.l[d]? = some none ∧ d = 0 ∧ sh > i) ∨ ∃ q : Int, S.l[d]? = some (some q) ∧ (if d = 0 then (sh : Int) else 0) ≤ q ∧ q ≤ k.sl ∧ q ≤ i
theorem walk_looks {ys : List PgE} {bg : Str} {n i sh : Nat} {ws : List Tk} (n1 : 1 ≤ n) (i1 : i ≤ n - 1) (hsh : sh ≤ n - 1) (h : WalkOk ys bg n i sh ws) : ∀ (j : Nat) (k : Tk), ws[j]? = some k → LkInv n i sh (sh + j) ((sh + j) / n) k (lkRun (i : Int) (ws.take (j + 1))) := by
  intro j
  induction j with
  | zero =>
    intro k hk
    obtain ⟨e1, _, _, hd⟩ := h.h0 k hk
    have hko := h.hk 0 k hk
    rw [lkRun_take _ hk]
    have e0 : (sh + 0) / n = 0 := Nat.div_eq_of_lt (by omega)
    have est : lkStep (i : Int) (lkRun (i : Int) (ws.take 0)) k = ⟨if (k.dn && !decide (k.sl > (i : Int))) = true then [some k.sl] else [none], k.dn, 1⟩ := by
      show lkStep (i : Int) ⟨[], false, 0⟩ k = _
      unfold lkStep
      simp
    rw [est]
    refine ⟨?_, rfl, by show 1 + sh = sh + 0 + 1; omega, fun s o _ hs => by omega, fun hdn => ?_, fun hdn => ?_⟩
    · rw [e0]
      show (if _ then _ else _ : List (Option Int)).length = 0 + 1
      split <;> rfl
    · rw [e0]
      show (if _ then _ else _ : List (Option Int))[0]? = _
      rw [hdn]
      simp
    · rw [e0]
      show ((if _ then _ else _ : List (Option Int))[0]? = _ ∧ _) ∨ _
      rw [hdn, e1]
      by_cases hgt : (sh : Int) > i
      · rw [decide_eq_true hgt]
        exact .inl ⟨rfl, rfl, by omega⟩
      · rw [decide_eq_false hgt]
        exact .inr ⟨(sh : Int), rfl, by rw [if_pos rfl]; exact Int.le_refl _, Int.le_refl _, by omega⟩
  | succ j ih =>
    intro k hk
    have hj : j < ws.length := by
      have := (List.getElem?_eq_some_iff.mp hk).1
      omega
    have ha : ws[j]? = some ws[j] := List.getElem?_eq_getElem hj
    generalize ws[j] = a at ha
    have I := ih a ha
    have hnx := h.hs j a k ha hk
    have hko := hnx.ok
    have hao := h.hk j a ha
    rw [lkRun_take _ hk, lk_step I.b (by have := I.jj; omega)]
    have hlen := I.len
    have hIj := I.jj
    have hIo := I.old
    have hIn := I.no
    have hIy := I.yes
    generalize lkRun (i : Int) (ws.take (j + 1)) = S at hlen hIj hIo hIn hIy ⊢
    obtain ⟨l, b, jj⟩ := S
    replace hlen : l.length = (sh + j) / n + 1 := hlen
    replace hIj : jj + sh = sh + j + 1 := hIj
    replace hIo : ∀ (s : Nat) (o : Option Int), l[s]? = some o → s < (sh + j) / n → LkFit (lkV o) (if s = 0 then (sh : Int) else 0) ((n : Int) - 1) i := hIo
    replace hIn : a.dn = false → l[(sh + j) / n]? = some none := hIn
    replace hIy : a.dn = true → (l[(sh + j) / n]? = some none ∧ (sh + j) / n = 0 ∧ sh > i) ∨ ∃ q : Int, l[(sh + j) / n]? = some (some q) ∧ (if (sh + j) / n = 0 then (sh : Int) else 0) ≤ q ∧ q ≤ a.sl ∧ q ≤ i := hIy
    have hasl := hao.sl
    have hksl := hko.sl
    rw [show sh + (j + 1) = sh + j + 1 from rfl] at hksl
    show LkInv n i sh (sh + j + 1) ((sh + j + 1) / n) k _
    rcases div_step (n := n) (m := sh + j) n1 with ⟨d1, d2, d3⟩ | ⟨d1, d2, d3⟩
    · rw [d3] at hksl
      rw [d2, if_neg (by rw [hksl]; omega)]
      generalize hd0 : (sh + j) / n = d at hlen hIo hIn hIy ⊢
      by_cases hc : (k.dn && !a.dn) = true
      · obtain ⟨c1, c2⟩ := Bool.and_eq_true_iff.mp hc
        have c2 : a.dn = false := by simpa using c2
        have hlast : (l.dropLast ++ [some k.sl])[d]? = some (some k.sl) := by
          have e2 : l.dropLast.length = d := by rw [List.length_dropLast, hlen]; omega
          rw [List.getElem?_append_right (by rw [e2]; exact Nat.le_refl _), e2, Nat.sub_self]
          rfl
        have hpre : ∀ s, s < d → (l.dropLast ++ [some k.sl])[s]? = l[s]? := fun s hs => by
          rw [List.getElem?_append_left (by rw [List.length_dropLast, hlen]; omega), List.getElem?_dropLast, if_pos (by rw [hlen]; omega)]
        rw [if_pos hc]
        refine ⟨?_, rfl, by show jj + 1 + sh = _; omega, fun s o ho hs => ?_, fun hd => (by rw [c1] at hd; cases hd), fun _ => ?_⟩
        · show (l.dropLast ++ [some k.sl]).length = _
          rw [List.length_append, List.length_dropLast, hlen]
          rfl
        · replace ho : (l.dropLast ++ [some k.sl])[s]? = some o := ho
          rw [hpre s hs] at ho
          exact hIo s o ho hs
        · refine .inr ⟨k.sl, hlast, ?_, Int.le_refl _, ?_⟩
          · rw [hksl]
            split
            · rename_i h0
              have h1 := Nat.div_add_mod (sh + j) n
              rw [hd0, h0] at h1
              omega
            · omega
          · have := hao.dn c2
            omega
      · rw [if_neg hc]
        have hkd : k.dn = a.dn := by
          cases had : a.dn with
          | true => exact hnx.dn (by rw [had, decide_eq_true (by rw [hksl]; omega)]; rfl)
          | false =>
            rw [had] at hc
            cases hkd : k.dn with
            | false => rfl
            | true => rw [hkd] at hc; exact absurd rfl hc
        refine ⟨hlen, rfl, by show jj + 1 + sh = _; omega, hIo, fun hd => hIn (hkd ▸ hd), fun hd => ?_⟩
        rcases hIy (hkd ▸ hd) with h1 | ⟨q, q1, q2, q3, q4⟩
        · exact .inl h1
        · exact .inr ⟨q, q1, q2, by omega, q4⟩
    · rw [d3] at hksl
      rw [d2, if_pos (by rw [hksl]; rfl)]
      generalize hd0 : (sh + j) / n = d at hlen hIo hIn hIy ⊢
      have had : a.dn = true := by
        cases hh : a.dn with
        | true => rfl
        | false =>
          have := hao.dn hh
          omega
      have hold : ∀ (s : Nat) (o x : Option Int), (l ++ [x])[s]? = some o → s < d + 1 → LkFit (lkV o) (if s = 0 then (sh : Int) else 0) ((n : Int) - 1) i := fun s o x ho hs => by
        rw [List.getElem?_append_left (by rw [hlen]; exact hs)] at ho
        by_cases h1 : s < d
        · exact hIo s o ho h1
        · have h2 : s = d := by omega
          subst h2
          rcases hIy had with ⟨g1, g2, g3⟩ | ⟨q, q1, q2, q3, q4⟩
          · rw [ho] at g1
            cases g1
            exact .inl ⟨rfl, .inl (by rw [if_pos g2]; omega)⟩
          · rw [ho] at q1
            cases q1
            exact .inr ⟨q, rfl, q2, by omega, q4⟩
      have hnew : ∀ x : Option Int, (l ++ [x])[d + 1]? = some x := fun x => by
        rw [List.getElem?_append_right (by rw [hlen]; exact Nat.le_refl _), hlen, Nat.sub_self]
        rfl
      have hle : ∀ x : Option Int, (l ++ [x]).length = d + 1 + 1 := fun x => by rw [List.length_append, hlen]; rfl
      cases hkd : k.dn with
      | true =>
        rw [if_pos rfl]
        refine ⟨hle _, hkd.symm, by show jj + 1 + sh = _; omega, fun s o ho hs => hold s o _ ho hs, fun hd => (by rw [hkd] at hd; cases hd), fun _ => .inr ⟨k.sl, hnew _, ?_, Int.le_refl _, by omega⟩⟩
        rw [if_neg (by omega), hksl]
        exact Int.le_refl _
      | false =>
        rw [if_neg (by decide)]
        refine ⟨hle _, hkd.symm, by show jj + 1 + sh = _; omega, fun s o ho hs => hold s o _ ho hs, fun _ => hnew _, fun hd => (by rw [hkd] at hd; cases hd)⟩
theorem walk_lks {ys : List PgE} {bg : Str} {n i sh : Nat} {ws : List Tk} (n1 : 1 ≤ n) (i1 : i ≤ n - 1) (hsh : sh ≤ n - 1) (h : WalkOk ys bg n i sh ws) : LksOk (n : Int) (i : Int) (sh : Int) ((sh : Int) + (ws.length : Int) - 1) (looksL (i : Int) ws) := by
  have hl : 1 ≤ ws.length := Nat.one_le_iff_ne_zero.mpr fun e => h.ne (List.length_eq_zero_iff.mp e)
  have hk : ws[ws.length - 1]? = some ws[ws.length - 1] := List.getElem?_eq_getElem (by omega)
  generalize ws[ws.length - 1] = k at hk
  have I := walk_looks n1 i1 hsh h _ _ hk
  have hko := h.hk _ k hk
  rw [show ws.length - 1 + 1 = ws.length by omega, List.take_length] at I
  obtain ⟨m, hm⟩ : ∃ m : Nat, m = sh + (ws.length - 1) := ⟨_, rfl⟩
  have hM : (sh : Int) + (ws.length : Int) - 1 = (m : Int) := by omega
  have hd : (m : Int) / (n : Int) = ((m / n : Nat) : Int) := rfl
  have hr : (m : Int) % (n : Int) = ((m % n : Nat) : Int) := rfl
  rw [hM]
  have hlen := I.len
  have hIo := I.old
  have hIn := I.no
  have hIy := I.yes
  have hsl := hko.sl
  rw [← hm] at hlen hIo hIn hIy hsl
  refine ⟨?_, fun s o ho => ?_⟩
  · rw [hd]
    unfold looksL
    rw [hlen]
    omega
  · rw [hd, hr]
    replace ho : (lkRun (i : Int) ws).l[s]? = some o := ho
    have hs := (List.getElem?_eq_some_iff.mp ho).1
    rw [hlen] at hs
    have e0 : (if ((s : Nat) : Int) = 0 then (sh : Int) else 0) = if s = 0 then (sh : Int) else 0 := by
      by_cases h0 : s = 0
      · rw [if_pos h0, if_pos (by omega)]
      · rw [if_neg h0, if_neg (by omega)]
    rw [e0]
    by_cases h1 : s < m / n
    · have e1 : (if ((s : Nat) : Int) = ((m / n : Nat) : Int) + 1 - 1 then ((m % n : Nat) : Int) else (n : Int) - 1) = (n : Int) - 1 := if_neg (by omega)
      rw [e1]
      exact hIo s o ho h1
    · have h2 : s = m / n := by omega
      subst h2
      have e1 : (if ((m / n : Nat) : Int) = ((m / n : Nat) : Int) + 1 - 1 then ((m % n : Nat) : Int) else (n : Int) - 1) = ((m % n : Nat) : Int) := if_pos (by omega)
      rw [e1]
      cases hkd : k.dn with
      | false =>
        have := hIn hkd
        rw [ho] at this
        cases this
        have hlt := hko.dn hkd
        exact .inl ⟨rfl, .inr (by omega)⟩
      | true =>
        rcases hIy hkd with ⟨g1, g2, g3⟩ | ⟨q, q1, q2, q3, q4⟩
        · rw [ho] at g1
          cases g1
          exact .inl ⟨rfl, .inl (by rw [if_pos g2]; omega)⟩
        · rw [ho] at q1
          cases q1
          exact .inr ⟨q, rfl, q2, by omega, q4⟩
end
end K32

set_option Elab.async false
set_option linter.all false
set_option pp.deepTerms.threshold 14
set_option pp.maxSteps 2500
set_option maxRecDepth 100000
set_option maxHeartbeats 2000000
namespace K32
open PySem PySem.Spec PyProof.Rows L2 Vf
section
variable {P : Program} {w : World} {K : PySem.W.Frag} {mg : Str → Option Value} {base : Heap}
theorem cntN_snoc (zs : List Str) (z z' : Str) : cntN (zs ++ [z]) z' = cntN zs z' + (if z' = z then 1 else 0) := by
  unfold cntN
  rw [List.map_append, List.countP_append]
  congr 1
  show List.countP _ [V.str z] = _
  rw [List.countP_cons, List.countP_nil, Nat.zero_add]
  have e : eqV (.str z) (.str z') = decide (z' = z) := by
    show (z == z') = _
    by_cases h : z' = z
    · rw [h]; simp
    · rw [decide_eq_false h]
      exact beq_eq_false_iff_ne.mpr fun e => h e.symm
  rw [e]
  by_cases h : z' = z
  · rw [if_pos h, decide_eq_true h, if_pos rfl]
  · rw [if_neg h, decide_eq_false h, if_neg (by decide)]
theorem kvT_put {ys : List PgE} {zs : List Str} {z : Str} (hz : z ∈ zsOf ys) : putK (kvT ys zs) (Sum.inr z) (.int ((cntN zs z : Int) + 1)) = kvT ys (zs ++ [z]) := by
  unfold putK
  have hany : ((kvT ys zs).any fun kv => decide (kv.1 = (Sum.inr z : Key))) = true := by
    obtain ⟨y, hy, e⟩ := List.mem_map.mp hz
    refine List.any_eq_true.mpr ⟨(Sum.inr y.2.2.z, .int (cntN zs y.2.2.z : Int)), List.mem_map_of_mem hy, decide_eq_true ?_⟩
    show (Sum.inr y.2.2.z : Key) = Sum.inr z
    rw [e]
  rw [if_pos hany]
  unfold kvT
  rw [List.map_map]
  refine List.map_congr_left fun y _ => ?_
  show (if (Sum.inr y.2.2.z : Key) = Sum.inr z then ((Sum.inr y.2.2.z : Key), V.int ((cntN zs z : Int) + 1)) else ((Sum.inr y.2.2.z : Key), V.int (cntN zs y.2.2.z : Int))) = _
  rw [cntN_snoc]
  by_cases h : y.2.2.z = z
  · rw [if_pos (by rw [h]), if_pos h, h]
    rfl
  · rw [if_neg (fun e => h (Sum.inr.inj e)), if_neg h]
    rfl
theorem kvT_val {ys : List PgE} (nd : (zsOf ys).Nodup) {zs : List Str} {z : Str} (hz : z ∈ zsOf ys) : valV (kvT ys zs) (Sum.inr z) = some (.int (cntN zs z : Int)) := by
  obtain ⟨i, y, hy, e⟩ := row_of hz
  subst e
  exact val_row (f := fun y => V.int (cntN zs y.2.2.z : Int)) nd hy
theorem cntT_snoc (ds : List Bool) (d : Bool) : cntT (ds ++ [d]) = cntT ds + (if d = true then 1 else 0) := by
  unfold cntT
  rw [List.map_append, List.countP_append]
  congr 1
  cases d <;> rfl
theorem letQ_rowQ {ys : List PgE} (nd : (zsOf ys).Nodup) {z : Str} (hz : z ∈ zsOf ys) : letQ ys z = (rowQ ys z).b := by
  obtain ⟨i, y, hy, e⟩ := row_of hz
  subst e
  rw [letQ_row nd hy, rowQ_row nd hy]
theorem runL_at {sts : List (Str × Int)} {lks : List (Option Int)} {n sh t : Nat} {z : Str} (h : (namesL sts)[t]? = some z) : (runL sts lks n sh)[t]? = some (z, dueAt lks n (sh + t)) := by
  have ht := (List.getElem?_eq_some_iff.mp h).1
  unfold runL
  exact List.getElem?_zip_eq_some.mpr ⟨h, by rw [List.getElem?_map, List.getElem?_range ht]; rfl⟩
/-- the facts of a run so far -/
structure SeenInv (H : Hp) (T no : Addr) (ys : List PgE) (l : List (Str × Bool)) (pend lost : Int) : Prop where
  hT : H T = some (.dK (kvT ys (l.map (·.1))))
  hn : NotesA H no (nRun (letQ ys) l).1
  p0 : 0 ≤ pend
  pw : decide (pend > 0) = (nRun (letQ ys) l).2.1
  le : lost = (cntT (l.map (·.2)) : Int) - ((nRun (letQ ys) l).1.length : Int) - pend
theorem sc_law_seen : FnScope ["_law_rows_here", "_law_spec_here", "_law_shift", "_law_stays_here", "_law_looks_here", "_law_times", "_law_row_here", "_law_notes", "_law_tick", "_law_pending", "_law_lost", "_law_stay", "_law_k", "_law_at"] ["_law_rows_here", "_law_spec_here", "_law_shift", "_law_stays_here", "_law_looks_here"] (defScope s_law_seen) := ⟨rfl, rfl, rfl, by decide +kernel, rfl, by decide +kernel, by decide +kernel⟩
-- slots: 0 _law_rows_here, 1 _law_spec_here, 2 _law_shift, 3 _law_stays_here, 4 _law_looks_here, 5 _law_times, 6 _law_row_here, 7 _law_notes, 8 _law_tick, 9 _law_pending, 10 _law_lost, 11 _law_stay, 12 _law_k, 13 _law_at
def spSeen (K : PySem.W.Frag) : Sp := fun vs H Q _ => ∃ (R s S L : Addr) (ys : List PgE) (n : Nat) (i : Int) (f : V) (sh : Nat) (sts : List (Str × Int)) (lks : List (Option Int)), vs = [.ref R, .ref s, .int (sh : Int), .ref S, .ref L] ∧ RowsA H R ys ∧ RowsOk ys ∧ SpA H s (n : Int) i f ∧ StsA H S sts ∧ (∀ p ∈ sts, p.1 ∈ zsOf ys ∧ 1 ≤ p.2) ∧ H L = some (.lst (lks.map lkV)) ∧ totL sts ≤ 2000 ∧ (lks.length : Int) = ((sh : Int) + totL sts - 1) / (n : Int) + 1 ∧
  ∀ H' D T no, Same H H' → H D = none → H T = none → H no = none → H' D = some (.lst [.int (totL sts), .ref T, .ref no, .bl (nRun (letQ ys) (runL sts lks n sh)).2.1, .int (recLost (letQ ys) (runL sts lks n sh))]) → H' T = some (.dK (kvT ys (namesL sts))) → NotesA H' no (nRun (letQ ys) (runL sts lks n sh)).1 → Q (.ref D) H'
theorem ok_law_seen {fd : FuncData} (F : FnD K ("_law_seen", none) "_law_seen" "_law_seen" s_law_seen fd) (T : Txt K mg) (O_law_row : OkF P w K mg base CX0 1 "_law_row" ["_law_rows_here", "_law_word"] spRow) : OkF P w K mg base CX0 2 "_law_seen" ["_law_rows_here", "_law_spec_here", "_law_shift", "_law_stays_here", "_law_looks_here"] (spSeen K) := by
  refine okd F (F.ok sc_law_seen (fun vs H Q E h => ?_) fun cdv A outer s H vs Q E hr h => ?_) fun _ _ _ _ _ _ us hl => match us, hl with | [_, _, _, _, _], _ => rfl
  · obtain ⟨R, s, S, L, ys, n, i, f, sh, sts, lks, rfl, _⟩ := h
    rfl
  · obtain ⟨R, s, S, L, ys, n, i, f, sh, sts, lks, rfl, hR, hok, hs, hS, hsz, hL, htot, hlk, k⟩ := h
    refine ⟨_, PSs.nox (pss_cons (ps_set (i := 5) sc_law_seen.nd rfl (Or.inl rfl) pe_dnewK)
  (pss_cons (ps_for PassesOwn.never rfl (pi_list (pv 0)) (pg_name (i := 6) sc_law_seen.nd rfl (Or.inl rfl))
  (pss_one (ps_dput (hu_of hr) (pv 5) (pe_ix ix_list (pv 6) pe_int (fun _ _ => rfl)) pe_int rfl)))
  (pss_cons (ps_set (i := 7) sc_law_seen.nd rfl (Or.inl rfl) (pe_lst pa_nil))
  (pss_cons (ps_set (i := 8) sc_law_seen.nd rfl (Or.inl rfl) pe_int)
  (pss_cons (ps_set (i := 9) sc_law_seen.nd rfl (Or.inl rfl) pe_int)
  (pss_cons (ps_set (i := 10) sc_law_seen.nd rfl (Or.inl rfl) pe_int)
  (pss_cons (ps_for PassesOwn.never rfl (pi_list (pv 3)) (pg_name (i := 11) sc_law_seen.nd rfl (Or.inl rfl))
  (pss_one (ps_for PassesOwn.never rfl (pi_range1 rfl T.z_range (pa_cons (pe_ix ix_tup (pv 11) pe_int (fun _ _ => rfl)) pa_nil)) (pg_name (i := 12) sc_law_seen.nd rfl (Or.inl rfl))
  (pss_cons (ps_set (i := 13) sc_law_seen.nd rfl (Or.inl rfl) (pe_op op_add (pv 2) (pv 8)))
  (C8.pss_cut (ps_if (pt_cmpR op_eq (pe_ix ix_list (pv 4) (pe_op op_fdiv (pv 13) (pe_ix ix_list (pv 1) pe_int (fun _ _ => rfl))) (fun _ _ => rfl)) (pe_op op_mod (pe_callTy call_int1 (by rfl) T.z_int (by decide +kernel) (pa_cons (pv 13) pa_nil)) (pe_ix ix_list (pv 1) pe_int (fun _ _ => rfl))) (nomark _)) (pss_one (ps_set (i := 9) sc_law_seen.nd rfl (Or.inl rfl) (pe_op op_add (pv 9) pe_int)))
  pss_nil)
  (C8.pss_cut (ps_if (PW.pt (pw_andB (pt_cmpR op_gt (pv 9) pe_int (nomark _)) (pw_and1 (pt_val (pe_ix ix_list (c_fn O_law_row hr (by decide) T.g_law_row pass0 (pa_cons (pv 0) (pa_cons (pe_ix ix_tup (pv 11) pe_int (fun _ _ => rfl)) pa_nil))) pe_int (fun _ _ => rfl)))))) (pss_cons (ps_expr (pe_bm PySem.F.plainAttrs_list PySem.F.slot_list_append PySem.F.type_list_append mt_append (pv 7) (pa_cons (pe_tup (pa_cons (pv 8) (pa_cons (pe_ix ix_tup (pv 11) pe_int (fun _ _ => rfl)) pa_nil))) pa_nil)))
  (pss_cons (ps_set (i := 10) sc_law_seen.nd rfl (Or.inl rfl) (pe_op op_sub (pe_op op_add (pv 10) (pv 9)) pe_int))
  (pss_one (ps_set (i := 9) sc_law_seen.nd rfl (Or.inl rfl) pe_int))))
  pss_nil)
  (pss_cons (ps_daug (hu_of hr) (pv 5) (pe_ix ix_tup (pv 11) pe_int (fun _ _ => rfl)) pe_int in_add (fun _ _ _ => rfl))
  (pss_one (ps_set (i := 8) sc_law_seen.nd rfl (Or.inl rfl) (pe_op op_add (pv 8) pe_int))))))))))
  (C8.pss_cut (ps_if (pt_cmpR op_gt (pv 9) pe_int (nomark _)) (pss_one (ps_set (i := 10) sc_law_seen.nd rfl (Or.inl rfl) (pe_op op_sub (pe_op op_add (pv 10) (pv 9)) pe_int)))
  pss_nil)
  (pss_one (ps_ret (pe_lst (pa_cons (pv 8) (pa_cons (pv 5) (pa_cons (pv 7) (pa_cons (pe_cmpR op_gt (pv 9) pe_int (nomark _)) (pa_cons (pv 10) pa_nil)))))))))))))))), ?_⟩
    have n1 := hs.n1
    have n8 := hs.n8
    intro Td nT
    have s1 := same_new (o := .dK []) nT
    have hT1 : (upd H Td (.dK [])) Td = some (.dK ((ys.take 0).map fun y => ((Sum.inr y.2.2.z : Key), V.int (cntN [] y.2.2.z : Int)))) := upd_same
    have sT : ∀ {H' : Hp}, SameX Td (upd H Td (.dK [])) H' → Same H H' := fun x b o h => x b o (ne_of_none h nT) (s1 _ _ h)
    show tSeq _ _ _ _ (upd H Td (.dK []))
    generalize upd H Td (.dK []) = H1 at s1 hT1 sT ⊢
    refine ⟨_, rfl, R, rfl, ⟨_, SqL.of (hR.ext s1).hR⟩, for_it walk_list (fun j σ H' => SameX Td H1 H' ∧ H' Td = some (.dK ((ys.take j).map fun y => ((Sum.inr y.2.2.z : Key), V.int (cntN [] y.2.2.z : Int)))) ∧ ∃ v6 : Option V, σ = [some (.ref R), some (.ref s), some (.int (sh : Int)), some (.ref S), some (.ref L), some (.ref Td), v6, none, none, none, none, none, none, none]) ⟨fun _ _ _ h => h, hT1, none, rfl⟩ (fun j σ H' _ h => SqL.of (hR.ext (sT h.1)).hR) ?_ ?_⟩
    · rintro j x σ H2 H' hj ⟨sx, hT, v6, rfl⟩ ⟨rfl, hx⟩
      obtain ⟨y, hy, rfl⟩ := getE hx
      have hya := ((hR.ext (sT sx)).row y (List.mem_of_getElem? hy)).1
      refine ⟨_, rfl, _, rfl, y.1, _, 0, .str y.2.2.z, rfl, rfl, SqL.of hya, atI0, Td, _, rfl, DPut.k (k := Sum.inr y.2.2.z) hT ?_, sx.trans SameX.upd, ?_, _, rfl⟩
      · rw [List.length_map, List.length_take]
        rw [List.length_map] at hj
        exact Nat.lt_of_le_of_lt (Nat.min_le_left _ _) (Nat.lt_of_lt_of_le hj (Nat.le_trans hok.l6 (by decide)))
      · rw [upd_same]
        exact congrArg (fun z => some (HO.dK z)) (put_row (f := fun y => V.int (cntN [] y.2.2.z : Int)) hok.nd hy)
    rintro σ H2 ⟨sx, hT, v6, rfl⟩
    rw [List.length_map, List.take_length] at hT
    have s2 := sT sx
    clear sx hT1 s1 sT H1
    refine ⟨(by show 0 ≤ sizeLine; decide), fun no nno => ?_⟩
    have s3 := s2.trans (same_new (o := .lst []) nno)
    have hT3 := same_new (o := .lst []) nno _ _ hT
    have hno3 : (upd H2 no (.lst [])) no = some (.lst []) := upd_same
    have nnoT : no ≠ Td := (ne_of_none hT nno).symm
    have nno0 := none_of s2 nno
    generalize upd H2 no (.lst []) = H3 at s3 hT3 hno3 ⊢
    have hInv : SeenInv H3 Td no ys ((runL sts lks n sh).take 0) 0 0 := ⟨hT3, ⟨[], hno3, .nil⟩, Int.le_refl 0, rfl, rfl⟩
    clear hT3 hno3 hT s2 nno H2
    obtain ⟨rs, hrs, hps⟩ := id hS
    have hrl : rs.length = sts.length := paired_len hps
    have hpos : ∀ p ∈ sts, 0 ≤ p.2 := fun p hp => by have := (hsz p hp).2; omega
    have hnl := namesL_len hpos
    have hnt : ∀ j, (namesL (sts.take j)).length ≤ (namesL sts).length := fun j => by
      have e : namesL sts = namesL (sts.take j) ++ namesL (sts.drop j) := by
        rw [← names_app, List.take_append_drop]
      rw [e, List.length_append]
      exact Nat.le_add_right _ _
    have keepT : ∀ {H' H'' : Hp}, (∀ b o, b ≠ Td → b ≠ no → H' b = some o → H'' b = some o) → Same H H' → Same H H'' := fun k s b o e => k b o (ne_of_none e nT) (ne_of_none e nno0) (s b o e)
    refine ⟨_, rfl, S, rfl, ⟨_, SqL.of (s3 _ _ hrs)⟩, for_it walk_list (fun j σ H' => Same H H' ∧ (∃ (pend lost : Int), SeenInv H' Td no ys ((runL sts lks n sh).take (namesL (sts.take j)).length) pend lost ∧ ∃ v11 v12 v13 : Option V, σ = [some (.ref R), some (.ref s), some (.int (sh : Int)), some (.ref S), some (.ref L), some (.ref Td), v6, some (.ref no), some (.int ((namesL (sts.take j)).length : Int)), some (.int pend), some (.int lost), v11, v12, v13])) ⟨s3, 0, 0, hInv, none, none, none, rfl⟩ (fun j σ H' _ h => SqL.of (h.1 _ _ hrs)) ?_ ?_⟩
    · clear hInv s3 H3
      rintro j x σ H3 H' hj ⟨sg, pend, lost, hI, v11, v12, v13, rfl⟩ ⟨rfl, hx⟩
      rw [List.length_map] at hj
      have hrj : rs[j]? = some rs[j] := List.getElem?_eq_getElem hj
      generalize rs[j] = r at hrj
      obtain rfl : x = .ref r := by
        rw [List.getElem?_map, hrj] at hx
        exact (Option.some.inj hx).symm
      obtain ⟨⟨z, q⟩, hq, hr'⟩ := paired_at hps hrj
      obtain ⟨hz, hq1⟩ := hsz _ (List.mem_of_getElem? hq)
      replace hz : z ∈ zsOf ys := hz
      replace hq1 : 1 ≤ q := hq1
      have hN : namesL (sts.take (j + 1)) = namesL (sts.take j) ++ List.replicate q.toNat z := by
        rw [List.take_add_one, hq, names_app]
        show _ ++ (List.replicate q.toNat z ++ []) = _
        rw [List.append_nil]
      have hN2 : namesL sts = namesL (sts.take (j + 1)) ++ namesL (sts.drop (j + 1)) := by rw [← names_app, List.take_append_drop]
      have hle := hnt (j + 1)
      rw [hN, List.length_append, List.length_replicate] at hle
      generalize hB : (namesL (sts.take j)).length = B at hI hle ⊢
      have hname : ∀ t, t < q.toNat → (namesL sts)[B + t]? = some z := fun t ht => by
        rw [hN2, hN, List.append_assoc, List.getElem?_append_right (by rw [hB]; exact Nat.le_add_right _ _), hB, Nat.add_sub_cancel_left, List.getElem?_append_left (by rw [List.length_replicate]; exact ht), List.getElem?_replicate, if_pos ht]
      refine ⟨_, rfl, r, _, 1, .int q, rfl, rfl, SqT.of (sg _ _ hr'), atI1, q, rfl, by omega, by omega, ?_⟩
      refine for_range (lo := 0) (n := q.toNat) (fun t σ H' => Same H H' ∧ (∃ (pend lost : Int), SeenInv H' Td no ys ((runL sts lks n sh).take (B + t)) pend lost ∧ ∃ v12 v13 : Option V, σ = [some (.ref R), some (.ref s), some (.int (sh : Int)), some (.ref S), some (.ref L), some (.ref Td), v6, some (.ref no), some (.int ((B + t : Nat) : Int)), some (.int pend), some (.int lost), some (.ref r), v12, v13])) ⟨sg, pend, lost, hI, v12, v13, rfl⟩ ?_ ?_
      · clear hI pend lost v12 v13 sg H'
        rintro t σ H3 ht ⟨sg, pend, lost, hI, v12, v13, rfl⟩
        obtain ⟨tk, htk⟩ : ∃ tk : Nat, tk = B + t := ⟨_, rfl⟩
        have hnm := hname t ht
        rw [← htk] at hI hnm ⊢
        have hlt := runL_at (lks := lks) (n := n) (sh := sh) hnm
        have hlen : tk < (namesL sts).length := (List.getElem?_eq_some_iff.mp hnm).1
        have hup : (runL sts lks n sh).take (B + (t + 1)) = (runL sts lks n sh).take tk ++ [(z, dueAt lks n (sh + tk))] := by
          rw [show B + (t + 1) = tk + 1 by omega, List.take_add_one, hlt]
          rfl
        rw [hup, show B + (t + 1) = tk + 1 by omega]
        have htkl : (nRun (letQ ys) ((runL sts lks n sh).take tk)).2.2 = tk := by
          rw [nRun_tick, List.length_take, runL_len, Nat.min_eq_left (Nat.le_of_lt hlen)]
        have hnl2 : (nRun (letQ ys) ((runL sts lks n sh).take tk)).1.length ≤ 2000 := by
          have h1 := nRun_len (letQ ys) ((runL sts lks n sh).take tk)
          rw [List.length_take] at h1
          omega
        generalize hd : dueAt lks n (sh + tk) = d
        have hdiv : (sh + tk) / n < lks.length := by
          obtain ⟨m, hm⟩ : ∃ m : Nat, (sh : Int) + totL sts - 1 = (m : Int) := ⟨((sh : Int) + totL sts - 1).toNat, by omega⟩
          rw [hm] at hlk
          have h2 : (m : Int) / (n : Int) = ((m / n : Nat) : Int) := rfl
          rw [h2] at hlk
          have h3 : (sh + tk) / n ≤ m / n := Nat.div_le_div_right (by omega)
          omega
        have hat : lks[(sh + tk) / n]? = some (lks[(sh + tk) / n]'hdiv) := List.getElem?_eq_getElem hdiv
        have hda : decide (lkV (lks[(sh + tk) / n]'hdiv) = .int (((sh + tk) % n : Nat) : Int)) = d := by
          rw [← hd, lk_eq]
          unfold dueAt
          rw [List.getD_eq_getElem?_getD, hat]
          rfl
        generalize lks[(sh + tk) / n]'hdiv = o at hat hda
        generalize (runL sts lks n sh).take tk = l at hI htkl hnl2 ⊢
        clear hup hlt hdiv hd hname
        have hs3 := (hs.ext sg).hs
        have hL3 := sg _ _ hL
        have hst3 := sg _ _ hr'
        have e1 : (sh : Int) + (tk : Int) = ((sh + tk : Nat) : Int) := rfl
        refine ⟨_, rfl, _, rfl, _, _, rfl, rfl, ?_⟩
        refine ⟨fun σ' H' => H' = H3 ∧ σ' = [some (.ref R), some (.ref s), some (.int (sh : Int)), some (.ref S), some (.ref L), some (.ref Td), v6, some (.ref no), some (.int (tk : Int)), some (.int (if d = true then pend + 1 else pend)), some (.int lost), some (.ref r), some (.int (0 + (t : Int))), some (.int ((sh + tk : Nat) : Int))], ?_, ?_⟩
        · refine ⟨_, rfl, _, rfl, _, rfl, s, _, 0, .int (n : Int), rfl, rfl, SqL.of hs3, atI0, ((sh + tk : Nat) : Int), (n : Int), rfl, rfl, ⟨by omega, by show (n : Int) < _; omega⟩, L, _, (((sh + tk) / n : Nat) : Int), lkV o, rfl, rfl, SqL.of hL3, atI_nat (by rw [List.getElem?_map, hat]; rfl), ?_⟩
          refine ⟨_, rfl, .inl ⟨_, rfl, _, rfl, s, _, 0, .int (n : Int), rfl, rfl, SqL.of hs3, atI0, ((sh + tk : Nat) : Int), (n : Int), rfl, rfl, (by show (0 : Int) < n; omega), ?_⟩⟩
          refine ⟨lk_scal o _, d, ?_, ?_⟩
          · exact congrArg V.bl hda
          · cases d with
            | true => exact iteT ⟨_, rfl, _, _, rfl, rfl, rfl, rfl⟩
            | false => exact iteF ⟨rfl, rfl⟩
        rintro σ' H' ⟨rfl, rfl⟩
        have hp0 := hI.p0
        have hpw := hI.pw
        have hle' := hI.le
        have hnn := hI.hn
        generalize hS0 : nRun (letQ ys) l = S0 at htkl hnl2 hpw hle' hnn
        obtain ⟨ns, w0, tk0⟩ := S0
        replace htkl : tk0 = tk := htkl
        subst htkl
        replace hnl2 : ns.length ≤ 2000 := hnl2
        replace hpw : decide (pend > 0) = w0 := hpw
        replace hle' : lost = (cntT (l.map (·.2)) : Int) - (ns.length : Int) - pend := hle'
        replace hnn : NotesA H' no ns := hnn
        have hpend1 : decide ((if d = true then pend + 1 else pend) > 0) = (w0 || d) := by
          rw [← hpw]
          cases d with
          | true => simp; omega
          | false => simp
        have hp1 : 0 ≤ (if d = true then pend + 1 else pend) := by split <;> omega
        have hcT : (cntT ((l ++ [(z, d)]).map (·.2)) : Int) = (cntT (l.map (·.2)) : Int) + (if d = true then 1 else 0) := by
          rw [List.map_append]
          show ((cntT (l.map (·.2) ++ [d]) : Nat) : Int) = _
          rw [cntT_snoc]
          cases d <;> simp
        have hp2 : (if d = true then pend + 1 else pend) = pend + (if d = true then 1 else 0) := by cases d <;> simp
        generalize (if d = true then pend + 1 else pend) = pend1 at hpend1 hp1 hp2 ⊢
        have hlq := letQ_rowQ hok.nd hz
        have hst : nRun (letQ ys) (l ++ [(z, d)]) = if ((w0 || d) && (rowQ ys z).b) = true then (ns ++ [(tk0, z)], false, tk0 + 1) else (ns, w0 || d, tk0 + 1) := by
          rw [nRun_snoc, hS0, ← hlq]
          rfl
        refine ⟨fun σ' H'' => Same H H'' ∧ H'' Td = some (.dK (kvT ys (l.map (·.1)))) ∧ ∃ pend2 lost2 : Int, NotesA H'' no (nRun (letQ ys) (l ++ [(z, d)])).1 ∧ 0 ≤ pend2 ∧ decide (pend2 > 0) = (nRun (letQ ys) (l ++ [(z, d)])).2.1 ∧ lost2 = (cntT ((l ++ [(z, d)]).map (·.2)) : Int) - ((nRun (letQ ys) (l ++ [(z, d)])).1.length : Int) - pend2 ∧ σ' = [some (.ref R), some (.ref s), some (.int (sh : Int)), some (.ref S), some (.ref L), some (.ref Td), v6, some (.ref no), some (.int (tk0 : Int)), some (.int pend2), some (.int lost2), some (.ref r), some (.int (0 + (t : Int))), some (.int ((sh + tk0 : Nat) : Int))], ?_, ?_⟩
        · refine ⟨_, rfl, pend1, 0, rfl, rfl, _, rfl, (rowQ ys z).b, (· = H'), fun _ => ?_, fun _ => rfl, fun H4 e => ?_⟩
          · refine ⟨_, rfl, _, rfl, r, _, 0, .str z, rfl, rfl, SqT.of hst3, atI0, R, ys, z, rfl, hR.ext sg, hok.nd, hz, fun iy y hy hyz => ?_⟩
            have hyr : rowQ ys z = y.2.2 := by rw [← hyz]; exact rowQ_row hok.nd hy
            refine ⟨y.1, _, 3, .bl y.2.2.b, rfl, rfl, SqL.of ((hR.ext sg).row y (List.mem_of_getElem? hy)).1, atI_nat (j := 3) rfl, _, rfl, by rw [hyr], rfl⟩
          subst e
          rw [show decide ((0 : Int) < pend1) = (w0 || d) from hpend1]
          refine ite_one (fun hc => ?_) fun hc => ?_
          · rw [if_pos hc] at hst
            obtain ⟨vs, hvs, hvl⟩ := hnn.len
            refine ⟨_, rfl, .inl ⟨rfl, _, SqL.of hvs⟩, _, rfl, _, rfl, r, _, 0, .str z, rfl, rfl, SqT.of hst3, atI0, (by show 2 ≤ sizeLine; decide), fun a na => ?_⟩
            have sa := same_new (o := .tup [.int (tk0 : Int), .str z]) na
            refine ⟨no, vs, _, rfl, rfl, sa _ _ hvs, Nat.lt_of_le_of_lt (show vs.length ≤ 2000 by omega) (by decide), ?_⟩
            have hn2 := (hnn.ext sa).add (sa _ _ hvs) upd_same
            refine ⟨_, rfl, _, rfl, _, _, rfl, rfl, _, _, rfl, rfl, same_app (sg.trans sa) (Same.refl _) nno0, ?_, 0, lost + pend1 - 1, ?_, Int.le_refl 0, ?_, ?_, rfl⟩
            · rw [upd_ne nnoT.symm]
              exact sa _ _ hI.hT
            · rw [hst]
              exact hn2
            · rw [hst]
              rfl
            · rw [hst, hcT]
              show _ = _ - ((ns ++ [_]).length : Int) - 0
              rw [List.length_append]
              show _ = _ - ((ns.length + 1 : Nat) : Int) - 0
              omega
          · rw [if_neg (by rw [hc]; decide)] at hst
            refine ⟨sg, hI.hT, pend1, lost, ?_, hp1, ?_, ?_, rfl⟩
            · rw [hst]
              exact hnn
            · rw [hst]
              exact hpend1
            · rw [hst, hcT]
              show _ = _ - (ns.length : Int) - pend1
              omega
        rintro σ' H4 ⟨sg4, hT4, pend2, lost2, hn4, hp4, hw4, hl4, rfl⟩
        refine ⟨_, rfl, _, rfl, r, _, 0, .str z, rfl, rfl, SqT.of (sg4 _ _ hr'), atI0, Td, _, rfl, dget_of hT4 (kvT_val hok.nd hz), _, _, rfl, rfl, _, DPut.k (k := Sum.inr z) hT4 ?_, ?_⟩
        · unfold kvT
          rw [List.length_map]
          exact Nat.lt_of_le_of_lt hok.l6 (by decide)
        · have hT5 : (upd H4 Td (.dK (putK (kvT ys (l.map (·.1))) (Sum.inr z) (.int ((cntN (l.map (·.1)) z : Int) + 1))))) Td = some (.dK (kvT ys ((l ++ [(z, d)]).map (·.1)))) := by
            rw [upd_same, kvT_put hz, List.map_append]
            rfl
          refine ⟨_, rfl, _, _, rfl, rfl, same_app sg4 (Same.refl _) nT, pend2, lost2, ⟨hT5, ?_, hp4, hw4, hl4⟩, _, _, rfl⟩
          obtain ⟨us, hu1, hu2⟩ := hn4
          exact ⟨us, by rw [upd_ne nnoT]; exact hu1, paired_imp (fun a b q => by rw [upd_ne (ne_of q hT4 (by intro z; cases z))]; exact q) hu2⟩
      · rintro σ H4 ⟨sg, pend, lost, hI, v12, v13, rfl⟩
        have e : B + q.toNat = (namesL (sts.take (j + 1))).length := by rw [hN, List.length_append, List.length_replicate, hB]
        rw [e] at hI ⊢
        exact ⟨sg, pend, lost, hI, _, _, _, rfl⟩
    · rintro σ H4 ⟨sg, pend, lost, hI, v11, v12, v13, rfl⟩
      rw [List.length_map, hrl, List.take_length] at hI ⊢
      have hfull : (runL sts lks n sh).take (namesL sts).length = runL sts lks n sh := List.take_of_length_le (by rw [runL_len]; exact Nat.le_refl _)
      rw [hfull] at hI
      have hp0 := hI.p0
      have hpw := hI.pw
      have hle := hI.le
      refine ⟨fun σ' H' => H' = H4 ∧ σ' = [some (.ref R), some (.ref s), some (.int (sh : Int)), some (.ref S), some (.ref L), some (.ref Td), v6, some (.ref no), some (.int ((namesL sts).length : Int)), some (.int pend), some (.int (recLost (letQ ys) (runL sts lks n sh))), v11, v12, v13], ?_, ?_⟩
      · refine ⟨_, rfl, pend, 0, rfl, rfl, _, rfl, ite2 (fun hc => ?_) fun hc => ?_⟩
        · have hc : pend > 0 := of_decide_eq_true hc
          rw [decide_eq_true hc] at hpw
          refine ⟨_, rfl, _, rfl, _, _, rfl, rfl, _, _, rfl, rfl, rfl, ?_⟩
          have e : lost + pend - 1 = recLost (letQ ys) (runL sts lks n sh) := by
            unfold recLost
            rw [← hpw, if_pos rfl]
            omega
          rw [← e]
          rfl
        · have hc : ¬ pend > 0 := of_decide_eq_false (Bool.eq_false_iff.mpr hc)
          rw [decide_eq_false hc] at hpw
          refine ⟨rfl, ?_⟩
          have e : lost = recLost (letQ ys) (runL sts lks n sh) := by
            unfold recLost
            rw [← hpw, if_neg (by decide)]
            omega
          rw [← e]
      rintro σ' H5 ⟨rfl, rfl⟩
      refine ⟨_, rfl, _, rfl, _, rfl, _, rfl, pend, 0, rfl, rfl, _, rfl, (by show 5 ≤ sizeLine; decide), fun D nD => ?_⟩
      have sD := same_new (o := .lst [.int ((namesL sts).length : Int), .ref Td, .ref no, .bl (decide (0 < pend)), .int (recLost (letQ ys) (runL sts lks n sh))]) nD
      have hDD : (upd H5 D (.lst [.int ((namesL sts).length : Int), .ref Td, .ref no, .bl (decide (0 < pend)), .int (recLost (letQ ys) (runL sts lks n sh))])) D = some (.lst [.int (totL sts), .ref Td, .ref no, .bl (nRun (letQ ys) (runL sts lks n sh)).2.1, .int (recLost (letQ ys) (runL sts lks n sh))]) := by
        rw [upd_same, hnl, ← hpw]
      refine k _ D Td no (sg.trans sD) (none_of sg nD) nT nno0 hDD ?_ (hI.hn.ext sD)
      have hT := sD _ _ hI.hT
      rw [runL_names] at hT
      exact hT
end
end K32

set_option Elab.async false
set_option linter.all false
set_option pp.deepTerms.threshold 14
set_option pp.maxSteps 2500
set_option maxRecDepth 100000
set_option maxHeartbeats 2000000
namespace K32
open PySem PySem.Spec PyProof.Rows L2 Vf
section
variable {P : Program} {w : World} {K : PySem.W.Frag} {mg : Str → Option Value} {base : Heap}
theorem paired_same {α : Type} {F : α → α → Prop} : ∀ {xs : List α}, (∀ x ∈ xs, F x x) → Paired F xs xs
  | [], _ => .nil
  | x :: xs, h => .cons (h x List.mem_cons_self) (paired_same fun y hy => h y (List.mem_cons_of_mem _ hy))
theorem upd_self {H : Hp} {a : Addr} {u : HO} (h : H a = some u) : upd H a u = H := by
  funext b
  by_cases e : b = a
  · subst e
    rw [upd_same, h]
  · rw [upd_ne e]
theorem letQ_snd (z : Str) : ∀ (xs : List PgE), letQ xs z = (match (xs.map (·.2)).find? (fun q : Addr × Rw => q.2.z == z) with | some q => q.2.b | none => false)
  | [] => rfl
  | x :: xs => by
    have ih := letQ_snd z xs
    unfold letQ at ih ⊢
    rw [List.map_cons, List.find?_cons, List.find?_cons]
    cases h : x.2.2.z == z with
    | true => rfl
    | false => exact ih
theorem letQ_beside {xs ys : List PgE} (h : Beside xs ys) : letQ xs = letQ ys := by
  funext z
  rw [letQ_snd, letQ_snd, h]
theorem kvT_beside {xs ys : List PgE} (h : Beside xs ys) (zs : List Str) : kvT xs zs = kvT ys zs := by
  have := congrArg (List.map fun q : Addr × Rw => ((Sum.inr q.2.z : Key), V.int (cntN zs q.2.z : Int))) h
  rw [List.map_map, List.map_map] at this
  exact this
theorem RecA.to {K : PySem.W.Frag} {H : Hp} {r : Addr} {xs ys : List PgE} {l : List (Str × Bool)} {dx ti no : Addr} (h : RecA K H r xs l dx ti no) (hB : Beside xs ys) : RecA K H r ys l dx ti no := by
  obtain ⟨h1, h2, h3⟩ := h
  rw [letQ_beside hB] at h1 h3
  rw [kvT_beside hB] at h2
  exact ⟨h1, h2, h3⟩
theorem eqI_int {K : PySem.W.Frag} {H : Hp} (n : Int) : EqI K H (.int n) (.int n) true := by
  have h := EqI.flat (K := K) (H := H) (x := .int n) (y := .int n) rfl rfl
  rwa [show eqV (.int n) (.int n) = true from by simp [eqV]] at h
theorem eqI_str {K : PySem.W.Frag} {H : Hp} (z : Str) : EqI K H (.str z) (.str z) true := by
  have h := EqI.flat (K := K) (H := H) (x := .str z) (y := .str z) rfl rfl
  rwa [show eqV (.str z) (.str z) = true from by simp [eqV]] at h
theorem sc_law_notes_fit : FnScope ["_law_notes", "_law_due_here", "_law_k", "_law_note"] ["_law_notes", "_law_due_here"] (defScope s_law_notes_fit) := ⟨rfl, rfl, rfl, by decide +kernel, rfl, by decide +kernel, by decide +kernel⟩
-- slots: 0 _law_notes, 1 _law_due_here, 2 _law_k, 3 _law_note
def spNFit : Sp := fun vs H Q _ => ∃ (A B : Addr) (ns : List (Nat × Str)), vs = [.ref A, .ref B] ∧ NotesA H A ns ∧ NotesA H B ns ∧ ns.length ≤ 10000 ∧ Q (.bl true) H
theorem ok_law_notes_fit {fd : FuncData} (F : FnD K ("_law_notes_fit", none) "_law_notes_fit" "_law_notes_fit" s_law_notes_fit fd) (T : Txt K mg) (O_law_is_integer : OkF P w K mg base CX0 1 "_law_is_integer" ["_law_value"] spIsInt) : OkF P w K mg base CX0 2 "_law_notes_fit" ["_law_notes", "_law_due_here"] spNFit := by
  refine okd F (F.ok sc_law_notes_fit (fun vs H Q E h => ?_) fun cdv A outer s H vs Q E hr h => ?_) fun _ _ _ _ _ _ us hl => match us, hl with | [_, _], _ => rfl
  · obtain ⟨A, B, ns, rfl, _⟩ := h
    rfl
  · obtain ⟨A, B, ns, rfl, hA, hB, hl, k⟩ := h
    refine ⟨_, PSs.nox (pss_cons (ps_if (PW.pt (pw_orB (pt_not (pt_val (pe_callB (id := "isinstance") call_isi (by rfl) T.z_isinstance (by decide +kernel) (pa_cons (pv 0) (pa_cons (pe_ty (n := "list") T.z_list (by decide +kernel)) pa_nil))))) (pw_or1 (pt_cmpR op_ne (pe_callB (id := "len") call_len_seq (by rfl) T.z_len (by decide +kernel) (pa_cons (pv 0) pa_nil)) (pe_callB (id := "len") call_len_seq (by rfl) T.z_len (by decide +kernel) (pa_cons (pv 1) pa_nil)) (nomark _))))) (pss_one (ps_ret pe_bl))
  pss_nil)
  (pss_cons (ps_for PassesOwn.never rfl (pi_range1 rfl T.z_range (pa_cons (pe_callB (id := "len") call_len_seq (by rfl) T.z_len (by decide +kernel) (pa_cons (pv 1) pa_nil)) pa_nil)) (pg_name (i := 2) sc_law_notes_fit.nd rfl (Or.inl rfl))
  (pss_cons (ps_set (i := 3) sc_law_notes_fit.nd rfl (Or.inl rfl) (pe_ix ix_list (pv 0) (pv 2) (fun _ _ => rfl)))
  (pss_cons (ps_if (PW.pt (pw_orB (pt_not (pt_val (pe_callB (id := "isinstance") call_isi (by rfl) T.z_isinstance (by decide +kernel) (pa_cons (pv 3) (pa_cons (pe_ty (n := "tuple") T.z_tuple (by decide +kernel)) pa_nil))))) (pw_orB (pt_cmpR op_ne (pe_callB (id := "len") call_len_seq (by rfl) T.z_len (by decide +kernel) (pa_cons (pv 3) pa_nil)) pe_int (nomark _)) (pw_or1 (pt_not (pt_val (c_fn O_law_is_integer hr (by decide) T.g_law_is_integer pass0 (pa_cons (pe_ix ix_tup (pv 3) pe_int (fun _ _ => rfl)) pa_nil)))))))) (pss_one (ps_ret pe_bl))
  pss_nil)
  (pss_one (ps_if (PW.pt (pw_orB (pt_not (pt_val (pe_callB (id := "isinstance") call_isi (by rfl) T.z_isinstance (by decide +kernel) (pa_cons (pe_ix ix_tup (pv 3) pe_int (fun _ _ => rfl)) (pa_cons (pe_ty (n := "str") T.z_str (by decide +kernel)) pa_nil))))) (pw_or1 (pt_cmpR (op_ne0 hr.units) (pv 3) (pe_ix ix_list (pv 1) (pv 2) (fun _ _ => rfl)) (nomark _))))) (pss_one (ps_ret pe_bl))
  pss_nil)))))
  (pss_one (ps_ret pe_bl)))), ?_⟩
    obtain ⟨as, ha, pa⟩ := hA
    obtain ⟨bs, hb, pb⟩ := hB
    have la := paired_len pa
    have lb := paired_len pb
    refine ⟨_, rfl, .ref A, .ty "list", .type "list", .type "list", true, rfl, .ty _, .base (.lst ha), kit_ty (by decide +kernel), true, rfl, false, (· = H), fun _ => ⟨_, rfl, A, _, rfl, .inl (SqL.of ha), _, rfl, B, _, rfl, .inl (SqL.of hb), rfl, _, rfl, ?_, rfl⟩, fun _ => rfl, fun H1 e => ?_⟩
    · rw [List.length_map, List.length_map, la, lb, decide_eq_true rfl]
      rfl
    subst e
    refine iteF ?_
    refine ⟨_, rfl, B, _, rfl, .inl (SqL.of hb), _, rfl, by rw [List.length_map]; omega, by rw [List.length_map]; omega, ?_⟩
    rw [List.length_map]
    refine for_range (lo := 0) (n := (bs.length : Int).toNat) (fun j σ H' => H' = H1 ∧ ∃ v2 v3 : Option V, σ = [some (.ref A), some (.ref B), v2, v3]) ⟨rfl, none, none, rfl⟩ ?_ ?_
    · rintro j σ H' hj ⟨rfl, v2, v3, rfl⟩
      have hjb : j < bs.length := by omega
      have hb' : bs[j]? = some bs[j] := List.getElem?_eq_getElem hjb
      generalize bs[j] = b at hb'
      obtain ⟨⟨tk, z⟩, hn, hbb⟩ := paired_at pb hb'
      obtain ⟨a, ha', haa⟩ := paired_at2 pa hn
      replace hbb : H' b = some (.tup [.int (tk : Int), .str z]) := hbb
      replace haa : H' a = some (.tup [.int (tk : Int), .str z]) := haa
      refine ⟨_, rfl, _, rfl, A, _, _, .ref a, rfl, rfl, SqL.of ha, (by rw [Int.zero_add]; exact atI_nat (by rw [List.getElem?_map, ha']; rfl)), ?_⟩
      refine ⟨_, rfl, .ref a, .ty "tuple", .type "tuple", .type "tuple", true, rfl, .ty _, .base (.tup haa), kit_ty (by decide +kernel), true, rfl, false, (· = H'), fun _ => ?_, fun _ => rfl, fun H1 e => ?_⟩
      · refine ⟨_, rfl, a, _, rfl, .inr (SqT.of haa), rfl, false, rfl, false, (· = H'), fun _ => ?_, (fun z => nomatch z), fun H1 e => ⟨rfl, e⟩⟩
        exact ⟨_, rfl, a, _, 0, .int (tk : Int), rfl, rfl, SqT.of haa, atI0, _, rfl, .inl ⟨⟨_, rfl⟩, true, rfl, rfl, rfl⟩⟩
      subst e
      refine iteF ?_
      refine ⟨_, rfl, a, _, 1, .str z, rfl, rfl, SqT.of haa, atI1, .str z, .ty "str", .type "str", .type "str", true, rfl, .ty _, .base (.str z), kit_ty (by decide +kernel), true, rfl, false, (· = H1), fun _ => ?_, fun _ => rfl, fun H2 e => ?_⟩
      · exact ⟨_, rfl, _, rfl, _, rfl, B, _, _, .ref b, rfl, rfl, SqL.of hb, (by rw [Int.zero_add]; exact atI_nat (by rw [List.getElem?_map, hb']; rfl)), a, b, _, _, rfl, rfl, .inl ⟨SqT.of haa, SqT.of hbb⟩, .cons (eqI_int _) (.cons (eqI_str _) .nil), false, rfl, rfl, rfl⟩
      subst e
      exact iteF ⟨rfl, _, _, rfl⟩
    · rintro σ H' ⟨rfl, v2, v3, rfl⟩
      exact k
theorem sc_law_record_fits : FnScope ["_law_record", "_law_due_here", "_law_times", "_law_word"] ["_law_record", "_law_due_here"] (defScope s_law_record_fits) := ⟨rfl, rfl, rfl, by decide +kernel, rfl, by decide +kernel, by decide +kernel⟩
-- slots: 0 _law_record, 1 _law_due_here, 2 _law_times, 3 _law_word
def spRFit (K : PySem.W.Frag) : Sp := fun vs H Q _ => ∃ (r D : Addr) (ys : List PgE) (l : List (Str × Bool)) (dx ti no Td no' : Addr), vs = [.ref r, .ref D] ∧ RecA K H r ys l dx ti no ∧ (zsOf ys).Nodup ∧ ys.length ≤ 6 ∧ l.length ≤ 10000 ∧ ti ≠ Td ∧
  H D = some (.lst [.int (l.length : Int), .ref Td, .ref no', .bl (nRun (letQ ys) l).2.1, .int (recLost (letQ ys) l)]) ∧ H Td = some (.dK (kvT ys (l.map (·.1)))) ∧ NotesA H no' (nRun (letQ ys) l).1 ∧ ∀ H', Same H H' → Q (.bl true) H'
theorem ok_law_record_fits {fd : FuncData} (F : FnD K ("_law_record_fits", none) "_law_record_fits" "_law_record_fits" s_law_record_fits fd) (T : Txt K mg) (O_law_is_integer : OkF P w K mg base CX0 1 "_law_is_integer" ["_law_value"] spIsInt) (O_law_notes_fit : OkF P w K mg base CX0 2 "_law_notes_fit" ["_law_notes", "_law_due_here"] spNFit) : OkF P w K mg base CX0 3 "_law_record_fits" ["_law_record", "_law_due_here"] (spRFit K) := by
  refine okd F (F.ok sc_law_record_fits (fun vs H Q E h => ?_) fun cdv A outer s H vs Q E hr h => ?_) fun _ _ _ _ _ _ us hl => match us, hl with | [_, _], _ => rfl
  · obtain ⟨r, D, ys, l, dx, ti, no, Td, no', rfl, _⟩ := h
    rfl
  · obtain ⟨r, D, ys, l, dx, ti, no, Td, no', rfl, hrec, nd, h6, hl, nTi, hD, hT, hno', k⟩ := h
    refine ⟨_, PSs.nox (pss_cons (ps_if (PW.pt (pw_orB (pt_not (pt_val (c_fn O_law_is_integer hr (by decide) T.g_law_is_integer pass0 (pa_cons (pe_fld (pv 0) rfl) pa_nil)))) (pw_or1 (pt_cmpR op_ne (pe_fld (pv 0) rfl) (pe_ix ix_list (pv 1) pe_int (fun _ _ => rfl)) (nomark _))))) (pss_one (ps_ret pe_bl))
  pss_nil)
  (pss_cons (ps_set (i := 2) sc_law_record_fits.nd rfl (Or.inl rfl) (pe_fld (pv 0) rfl))
  (pss_cons (ps_if (PW.pt (pw_orB (pt_not (pt_val (pe_callB (id := "isinstance") call_isi (by rfl) T.z_isinstance (by decide +kernel) (pa_cons (pv 2) (pa_cons (pe_ty (n := "dict") T.z_dict (by decide +kernel)) pa_nil))))) (pw_or1 (pt_cmpR (op_ne0 hr.units) (pe_callTy (call_list_dK rfl) (by rfl) T.z_list (by decide +kernel) (pa_cons (pv 2) pa_nil)) (pe_callTy (call_list_dK rfl) (by rfl) T.z_list (by decide +kernel) (pa_cons (pe_ix ix_list (pv 1) pe_int (fun _ _ => rfl)) pa_nil)) (nomark _))))) (pss_one (ps_ret pe_bl))
  pss_nil)
  (pss_cons (ps_lock (ps_for PassesOwn.never rfl (pi_keys (pe_ix ix_list (pv 1) pe_int (fun _ _ => rfl))) (pg_name (i := 3) sc_law_record_fits.nd rfl (Or.inl rfl))
  (pss_one (ps_if (PW.pt (pw_orB (pt_not (pt_val (c_fn O_law_is_integer hr (by decide) T.g_law_is_integer pass0 (pa_cons (pe_dget (hu_of hr) (pv 2) (pv 3) (fun _ _ => rfl)) pa_nil)))) (pw_or1 (pt_cmpR op_ne (pe_dget (hu_of hr) (pv 2) (pv 3) (fun _ _ => rfl)) (pe_dget (hu_of hr) (pe_ix ix_list (pv 1) pe_int (fun _ _ => rfl)) (pv 3) (fun _ _ => rfl)) (nomark _))))) (pss_one (ps_ret pe_bl))
  pss_nil))))
  (pss_cons (ps_if (pt_not (pt_val (c_fn O_law_notes_fit hr (by decide) T.g_law_notes_fit pass0 (pa_cons (pe_fld (pv 0) rfl) (pa_cons (pe_ix ix_list (pv 1) pe_int (fun _ _ => rfl)) pa_nil))))) (pss_one (ps_ret pe_bl))
  pss_nil)
  (pss_cons (ps_if (PW.pt (pw_orB (pt_not (pt_val (pe_callB (id := "isinstance") call_isi (by rfl) T.z_isinstance (by decide +kernel) (pa_cons (pe_fld (pv 0) rfl) (pa_cons (pe_ty (n := "bool") T.z_bool (by decide +kernel)) pa_nil))))) (pw_or1 (pt_cmpR op_ne (pe_fld (pv 0) rfl) (pe_ix ix_list (pv 1) pe_int (fun _ _ => rfl)) (nomark _))))) (pss_one (ps_ret pe_bl))
  pss_nil)
  (pss_one (ps_ret (pe_andB (c_fn O_law_is_integer hr (by decide) T.g_law_is_integer pass0 (pa_cons (pe_fld (pv 0) rfl) pa_nil)) (pe_one (pe_cmpR op_eq (pe_fld (pv 0) rfl) (pe_ix ix_list (pv 1) pe_int (fun _ _ => rfl)) (nomark _)))))))))))), ?_⟩
    replace hrec := hrec.to (ys := ys) rfl
    have hr0 := hrec.hr
    have ht0 := hrec.ht
    refine ⟨_, rfl, r, _, dx, _, _, rfl, hr0, T.c_Record, T.rA, rcf_ticks .., _, rfl, .inl ⟨⟨_, rfl⟩, true, rfl, false, (· = H), fun _ => ⟨_, rfl, r, _, dx, _, _, rfl, hr0, T.c_Record, T.rA, rcf_ticks .., _, rfl, D, _, 0, _, rfl, rfl, SqL.of hD, atI0, rfl, _, rfl, by simp, rfl⟩, (fun z => nomatch z), fun H1 e => ?_⟩⟩
    subst e
    refine iteF ?_
    refine ⟨_, rfl, r, _, dx, _, _, rfl, hr0, T.c_Record, T.rB, rcf_times .., ?_⟩
    refine ⟨_, rfl, .ref ti, .ty "dict", .type "dict", .type "dict", true, rfl, .ty _, .base (.dK ht0), kit_ty (by decide +kernel), true, rfl, false, (Same H1), fun _ => ?_, (fun z => nomatch z), fun H2 s2 => ?_⟩
    · refine ⟨_, rfl, ti, _, rfl, ht0, fun q1 nq1 => ?_⟩
      have s1 := same_new (o := .lst ((kvT ys (l.map (·.1))).map fun kv => kV kv.1)) nq1
      have hq1 : (upd H1 q1 (.lst ((kvT ys (l.map (·.1))).map fun kv => kV kv.1))) q1 = some (.lst ((kvT ys (l.map (·.1))).map fun kv => kV kv.1)) := upd_same
      generalize upd H1 q1 (.lst ((kvT ys (l.map (·.1))).map fun kv => kV kv.1)) = H2 at s1 hq1 ⊢
      refine ⟨_, rfl, D, _, 1, _, rfl, rfl, SqL.of (s1 _ _ hD), atI1, Td, _, rfl, s1 _ _ hT, fun q2 nq2 => ?_⟩
      have s2 := same_new (o := .lst ((kvT ys (l.map (·.1))).map fun kv => kV kv.1)) nq2
      refine ⟨q1, q2, _, _, rfl, rfl, .inr ⟨SqL.of (s2 _ _ hq1), SqL.of upd_same⟩, ?_, false, rfl, rfl, s1.trans s2⟩
      refine paired_same fun v hv => ?_
      obtain ⟨kv, hkv, rfl⟩ := List.mem_map.mp hv
      obtain ⟨y, hy, rfl⟩ := List.mem_map.mp hkv
      exact eqI_str _
    refine iteF ?_
    replace hrec := hrec.ext s2
    replace hD := s2 _ _ hD
    replace hT := s2 _ _ hT
    replace hno' := hno'.ext s2
    have k2 : ∀ H', Same H2 H' → Q (.bl true) H' := fun H' s => k H' (s2.trans s)
    clear k hr0 ht0 s2
    refine ⟨Td, _, hT, trivial, fun od => ?_⟩
    refine ⟨_, rfl, D, _, 1, _, rfl, rfl, SqL.of (by rw [upd_ne (ne_of hD hT (by intro z; cases z))]; exact hD), atI1, Td, od, rfl, .inl ⟨_, upd_same, for_it walk_keys (fun j σ H' => H' = upd H2 Td (.frz od (.dK (kvT ys (l.map (·.1))))) ∧ ∃ v3 : Option V, σ = [some (.ref r), some (.ref D), some (.ref ti), v3]) ⟨rfl, none, rfl⟩ (fun j σ H' _ h => by rw [h.1]; exact upd_same) ?_ ?_⟩⟩
    · rintro j x σ H3 H' hj ⟨rfl, v3, rfl⟩ ⟨rfl, kk, v, hkv, rfl⟩
      obtain ⟨y, hy, e⟩ := List.mem_map.mp (List.mem_of_getElem? hkv)
      obtain ⟨rfl, rfl⟩ := Prod.mk.inj e
      have hz : y.2.2.z ∈ zsOf ys := List.mem_map_of_mem hy
      have hv := kvT_val (zs := l.map (·.1)) nd hz
      have hti : (upd H2 Td (.frz od (.dK (kvT ys (l.map (·.1)))))) ti = some (.dK (kvT ys (l.map (·.1)))) := by rw [upd_ne nTi]; exact hrec.ht
      have hDD : (upd H2 Td (.frz od (.dK (kvT ys (l.map (·.1)))))) D = some (.lst [.int (l.length : Int), .ref Td, .ref no', .bl (nRun (letQ ys) l).2.1, .int (recLost (letQ ys) l)]) := by rw [upd_ne (ne_of hD hT (by intro z; cases z))]; exact hD
      refine ⟨_, rfl, _, rfl, ti, _, rfl, dget_of hti hv, _, rfl, .inl ⟨⟨_, rfl⟩, true, rfl, false, (· = upd H2 Td (.frz od (.dK (kvT ys (l.map (·.1)))))), fun _ => ?_, (fun z => nomatch z), fun H4 e => ?_⟩⟩
      · exact ⟨_, rfl, _, rfl, ti, _, rfl, dget_of hti hv, _, rfl, D, _, 1, _, rfl, rfl, SqL.of hDD, atI1, _, rfl, Td, _, rfl, .inl ⟨_, Sum.inr y.2.2.z, .inr ⟨od, upd_same⟩, rfl, hv.symm⟩, rfl, _, rfl, by simp, rfl⟩
      · subst e
        exact iteF ⟨rfl, _, rfl⟩
    · rintro σ H3 ⟨rfl, v3, rfl⟩
      refine ⟨upd_same, ?_⟩
      show tSeq _ _ _ _ (upd (upd H2 Td _) Td _)
      rw [upd_upd, upd_self hT]
      have hr2 := hrec.hr
      refine ⟨_, rfl, r, _, dx, _, _, rfl, hr2, T.c_Record, T.rC, rcf_notes .., _, rfl, D, _, 2, _, rfl, rfl, SqL.of hD, atI_nat (j := 2) rfl, no, no', _, rfl, hrec.hn, hno', Nat.le_trans (nRun_len _ _) hl, _, rfl, ?_⟩
      refine iteF ?_
      refine ⟨_, rfl, r, _, dx, _, _, rfl, hr2, T.c_Record, T.rD, rcf_waiting .., .bl _, .ty "bool", .type "bool", .type "bool", true, rfl, .ty _, .base (.bl _), kit_ty (by decide +kernel), true, rfl, false, (· = H2), fun _ => ?_, (fun z => nomatch z), fun H4 e => ?_⟩
      · exact ⟨_, rfl, r, _, dx, _, _, rfl, hr2, T.c_Record, T.rD, rcf_waiting .., _, rfl, D, _, 3, _, rfl, rfl, SqL.of hD, atI_nat (j := 3) rfl, rfl, _, rfl, by simp, rfl⟩
      subst e
      refine iteF ?_
      refine ⟨_, rfl, r, _, dx, _, _, rfl, hr2, T.c_Record, T.rE, rcf_lost .., _, rfl, .inl ⟨⟨_, rfl⟩, true, true, (· = H4), rfl, fun _ => ?_, (fun z => nomatch z), fun H5 e => ?_⟩⟩
      · exact ⟨_, rfl, r, _, dx, _, _, rfl, hr2, T.c_Record, T.rE, rcf_lost .., _, rfl, D, _, 4, _, rfl, rfl, SqL.of hD, atI_nat (j := 4) rfl, rfl, by simp, rfl⟩
      · subst e
        exact k2 _ (Same.refl _)
end
end K32

set_option Elab.async false
set_option linter.all false
set_option pp.deepTerms.threshold 14
set_option pp.maxSteps 2500
set_option maxRecDepth 100000
set_option maxHeartbeats 2000000
namespace K32
open PySem PySem.Spec PyProof.Rows L2 Vf
section
variable {P : Program} {w : World} {K : PySem.W.Frag} {mg : Str → Option Value} {base : Heap}
structure LvTxt (K : PySem.W.Frag) (mg : Str → Option Value) : Prop extends RTxt K mg where
  g_look_flags : mg "look_flags" = some (.ref (He.ga K "look_flags"))
  g_pair_at : mg "pair_at" = some (.ref (He.ga K "pair_at"))
  g_is_one_of_choices : mg "is_one_of_choices" = some (.ref (He.ga K "is_one_of_choices"))
  g_stays_made : mg "stays_made" = some (.ref (He.ga K "stays_made"))
  g_looks_made : mg "looks_made" = some (.ref (He.ga K "looks_made"))
  g_Profile : mg "Profile" = some (.ref (He.ga K "Profile"))
  g_BadChoice : mg "BadChoice" = some (.ref (He.ga K "BadChoice"))
  x_BadChoice : ExI K "BadChoice" "index"
  c_Profile : Cls K (He.ga K "Profile")
  m_Profile : Mk K (He.ga K "Profile") (He.fAd K ("Profile", some "__init__"))
  fT : NoAttr K (He.ga K "Profile") "ticks"
  fP : NoAttr K (He.ga K "Profile") "_program"
  fS : NoAttr K (He.ga K "Profile") "_sampler"
  fF : NoAttr K (He.ga K "Profile") "_phase"
  fM : NoAttr K (He.ga K "Profile") "_made"
  fA : NoAttr K (He.ga K "Profile") "_state"
  fK : NoAttr K (He.ga K "Profile") "_mark"
structure PMeth (K : PySem.W.Frag) : Prop where
  m_choices : Meth K (He.ga K "Profile") "choices" (He.fAd K ("Profile", some "choices"))
  m_record : Meth K (He.ga K "Profile") "record" (He.fAd K ("Profile", some "record"))
  m_run : Meth K (He.ga K "Profile") "run" (He.fAd K ("Profile", some "run"))
  m__go_on : Meth K (He.ga K "Profile") "_go_on" (He.fAd K ("Profile", some "_go_on"))
  m__moves : Meth K (He.ga K "Profile") "_moves" (He.fAd K ("Profile", some "_moves"))
  m__spot : Meth K (He.ga K "Profile") "_spot" (He.fAd K ("Profile", some "_spot"))
  m__has_come : Meth K (He.ga K "Profile") "_has_come" (He.fAd K ("Profile", some "_has_come"))
  m__call__ : Meth K (He.ga K "Profile") "__call__" (He.fAd K ("Profile", some "__call__"))
  f_call : PySem.W.fnIn K (He.fAd K ("Profile", some "__call__")) = true
/-- what a callee lets out goes on to the caller -/
theorem passUp {X : Cx} {E : XK} (hs : X.stack = X.env :: X.outer) (hf : X.env.frame = some X.env.locals) (hex : X.ex = []) {E₁ : Value → Shared → Prop}
    (hx : X.xe = fun e s' => wpAny (model X.prog X.w) X.A (leaving X.env e) (fun _ s'' => L2.CX X.prog X.w X.outer X.H_0 X.s_0 E e s'') E₁ s') : Passes (L2.CX X.prog X.w) X E := passes_call (takes_of hs hf hex hx) fun _ _ _ _ h => h
abbrev CPf (K : PySem.W.Frag) : Addr := He.ga K "Profile"
/-! ### a profile's fields -/
theorem lookup_mid {f : Str} {x : V} {r : List (Str × V)} : ∀ {l : List (Str × V)}, f ∉ l.map (·.1) → (l ++ (f, x) :: r).lookup f = some x
  | [], _ => by
    have hb : (f == f) = true := beq_iff_eq.mpr rfl
    simp only [List.nil_append, List.lookup, hb]
  | (g, y) :: l, h => by
    have hn : ¬ f = g := fun e => h (by rw [e]; exact List.mem_cons_self)
    have hb : (f == g) = false := beq_eq_false_iff_ne.mpr hn
    rw [List.cons_append]
    simp only [List.lookup, hb]
    exact lookup_mid fun m => h (List.mem_cons_of_mem _ m)
theorem lookup_out {f : Str} : ∀ {l : List (Str × V)}, f ∉ l.map (·.1) → l.lookup f = none
  | [], _ => rfl
  | (g, y) :: l, h => by
    have hn : ¬ f = g := fun e => h (by rw [e]; exact List.mem_cons_self)
    have hb : (f == g) = false := beq_eq_false_iff_ne.mpr hn
    simp only [List.lookup, hb]
    exact lookup_out fun m => h (List.mem_cons_of_mem _ m)
theorem putF_mid {f : Str} {v x : V} {r : List (Str × V)} : ∀ {l : List (Str × V)}, f ∉ l.map (·.1) → putF f v (l ++ (f, x) :: r) = l ++ (f, v) :: r
  | [], _ => by
    rw [List.nil_append, show putF f v ((f, x) :: r) = (if f = f then (f, v) :: r else (f, x) :: putF f v r) from rfl, if_pos rfl]
    rfl
  | (g, y) :: l, h => by
    have hn : ¬ g = f := fun e => h (by rw [e]; exact List.mem_cons_self)
    rw [List.cons_append, show putF f v ((g, y) :: (l ++ (f, x) :: r)) = (if g = f then (g, v) :: (l ++ (f, x) :: r) else (g, y) :: putF f v (l ++ (f, x) :: r)) from rfl, if_neg hn, putF_mid fun m => h (List.mem_cons_of_mem _ m)]
    rfl
theorem putF_end {f : Str} {v : V} : ∀ {l : List (Str × V)}, f ∉ l.map (·.1) → putF f v l = l ++ [(f, v)]
  | [], _ => rfl
  | (g, y) :: l, h => by
    have hn : ¬ g = f := fun e => h (by rw [e]; exact List.mem_cons_self)
    rw [show putF f v ((g, y) :: l) = (if g = f then (g, v) :: l else (g, y) :: putF f v l) from rfl, if_neg hn, putF_end fun m => h (List.mem_cons_of_mem _ m)]
    rfl
def pff (t : Int) (g p : Addr) (ph : Int) (M : Addr) (sv mk : V) : List (Str × V) := [("ticks", .int t), ("_program", .ref g), ("_sampler", .ref p), ("_phase", .int ph), ("_made", .ref M), ("_state", sv), ("_mark", mk)]
section
variable {t : Int} {g p : Addr} {ph : Int} {M : Addr} {sv mk : V}
theorem pff_ticks : (pff t g p ph M sv mk).lookup ("ticks" : Str) = some (.int t) := lookup_mid (l := []) (f := "ticks") (by decide +kernel)
theorem pff_program : (pff t g p ph M sv mk).lookup ("_program" : Str) = some (.ref g) := lookup_mid (l := [("ticks", .int t)]) (f := "_program") (by show ¬ ("_program" : Str) ∈ (["ticks"] : List Str); decide +kernel)
theorem pff_sampler : (pff t g p ph M sv mk).lookup ("_sampler" : Str) = some (.ref p) := lookup_mid (l := [("ticks", .int t), ("_program", .ref g)]) (f := "_sampler") (by show ¬ ("_sampler" : Str) ∈ (["ticks", "_program"] : List Str); decide +kernel)
theorem pff_phase : (pff t g p ph M sv mk).lookup ("_phase" : Str) = some (.int ph) := lookup_mid (l := [("ticks", .int t), ("_program", .ref g), ("_sampler", .ref p)]) (f := "_phase") (by show ¬ ("_phase" : Str) ∈ (["ticks", "_program", "_sampler"] : List Str); decide +kernel)
theorem pff_made : (pff t g p ph M sv mk).lookup ("_made" : Str) = some (.ref M) := lookup_mid (l := [("ticks", .int t), ("_program", .ref g), ("_sampler", .ref p), ("_phase", .int ph)]) (f := "_made") (by show ¬ ("_made" : Str) ∈ (["ticks", "_program", "_sampler", "_phase"] : List Str); decide +kernel)
theorem pff_state : (pff t g p ph M sv mk).lookup ("_state" : Str) = some sv := lookup_mid (l := [("ticks", .int t), ("_program", .ref g), ("_sampler", .ref p), ("_phase", .int ph), ("_made", .ref M)]) (f := "_state") (by show ¬ ("_state" : Str) ∈ (["ticks", "_program", "_sampler", "_phase", "_made"] : List Str); decide +kernel)
theorem pff_mark : (pff t g p ph M sv mk).lookup ("_mark" : Str) = some mk := lookup_mid (l := [("ticks", .int t), ("_program", .ref g), ("_sampler", .ref p), ("_phase", .int ph), ("_made", .ref M), ("_state", sv)]) (f := "_mark") (by show ¬ ("_mark" : Str) ∈ (["ticks", "_program", "_sampler", "_phase", "_made", "_state"] : List Str); decide +kernel)
theorem pff_out {f : Str} (h : ¬ f ∈ (["ticks", "_program", "_sampler", "_phase", "_made", "_state", "_mark"] : List Str) := by decide +kernel) : (pff t g p ph M sv mk).lookup f = none := lookup_out h
theorem pff_setT {t' : Int} : putF "ticks" (.int t') (pff t g p ph M sv mk) = pff t' g p ph M sv mk := putF_mid (l := []) (f := "ticks") (by decide +kernel)
theorem pff_setM {M' : Addr} : putF "_made" (.ref M') (pff t g p ph M sv mk) = pff t g p ph M' sv mk := putF_mid (l := [("ticks", .int t), ("_program", .ref g), ("_sampler", .ref p), ("_phase", .int ph)]) (f := "_made") (by show ¬ ("_made" : Str) ∈ (["ticks", "_program", "_sampler", "_phase"] : List Str); decide +kernel)
theorem pff_setA {s' : V} : putF "_state" s' (pff t g p ph M sv mk) = pff t g p ph M s' mk := putF_mid (l := [("ticks", .int t), ("_program", .ref g), ("_sampler", .ref p), ("_phase", .int ph), ("_made", .ref M)]) (f := "_state") (by show ¬ ("_state" : Str) ∈ (["ticks", "_program", "_sampler", "_phase", "_made"] : List Str); decide +kernel)
theorem pff_setK {k' : V} : putF "_mark" k' (pff t g p ph M sv mk) = pff t g p ph M sv k' := putF_mid (l := [("ticks", .int t), ("_program", .ref g), ("_sampler", .ref p), ("_phase", .int ph), ("_made", .ref M), ("_state", sv)]) (f := "_mark") (by show ¬ ("_mark" : Str) ∈ (["ticks", "_program", "_sampler", "_phase", "_made", "_state"] : List Str); decide +kernel)
theorem pff_len : (pff t g p ph M sv mk).length < 1000 := by show 7 < 1000; decide
theorem pff_all : putF "_mark" mk (putF "_state" sv (putF "_made" (.ref M) (putF "_phase" (.int ph) (putF "_sampler" (.ref p) (putF "_program" (.ref g) (putF "ticks" (.int t) [])))))) = pff t g p ph M sv mk := by
  rw [putF_end (f := "ticks") (l := []) (by decide +kernel), List.nil_append]
  rw [putF_end (f := "_program") (by show ¬ ("_program" : Str) ∈ (["ticks"] : List Str); decide +kernel)]
  rw [putF_end (f := "_sampler") (by show ¬ ("_sampler" : Str) ∈ (["ticks", "_program"] : List Str); decide +kernel)]
  rw [putF_end (f := "_phase") (by show ¬ ("_phase" : Str) ∈ (["ticks", "_program", "_sampler"] : List Str); decide +kernel)]
  rw [putF_end (f := "_made") (by show ¬ ("_made" : Str) ∈ (["ticks", "_program", "_sampler", "_phase"] : List Str); decide +kernel)]
  rw [putF_end (f := "_state") (by show ¬ ("_state" : Str) ∈ (["ticks", "_program", "_sampler", "_phase", "_made"] : List Str); decide +kernel)]
  rw [putF_end (f := "_mark") (by show ¬ ("_mark" : Str) ∈ (["ticks", "_program", "_sampler", "_phase", "_made", "_state"] : List Str); decide +kernel)]
  rfl
end
/-! ### choices, states, profiles -/
/-- a choice: the name of the place that is gone to, none for going on; whether a look comes due -/
abbrev Ch : Type := Option Str × Bool
def mvV : Option Str → V
  | none => .non
  | some z => .str z
def ChA (H : Hp) (r : Addr) (c : Ch) : Prop := H r = some (.tup [mvV c.1, .bl c.2])
theorem ChA.ext {H H' : Hp} {r : Addr} {c : Ch} (h : ChA H r c) (s : Same H H') : ChA H' r c := s _ _ h
/-- the list of choices at L -/
def ChsA (H : Hp) (L : Addr) (cs : List Ch) : Prop := ∃ rs : List Addr, H L = some (.lst (rs.map V.ref)) ∧ Paired (ChA H) rs cs
theorem ChsA.ext {H H' : Hp} {L : Addr} {cs : List Ch} (h : ChsA H L cs) (s : Same H H') : ChsA H' L cs := by
  obtain ⟨rs, h1, h2⟩ := h
  exact ⟨rs, s _ _ h1, paired_imp (fun _ _ q => q.ext s) h2⟩
/-- the tuple of a tick's state -/
def StA (H : Hp) (t : Addr) (k : Tk) : Prop := H t = some (.tup [.str k.z, .int k.sp, .int k.sl, .bl k.dn, .bl k.wt])
def StO (H : Hp) (v : V) : Option Tk → Prop
  | none => v = .non
  | some k => ∃ t, v = .ref t ∧ StA H t k
theorem StO.ext {H H' : Hp} {v : V} {o : Option Tk} (h : StO H v o) (s : Same H H') : StO H' v o := by
  cases o with
  | none => exact h
  | some k =>
    obtain ⟨t, e, h⟩ := h
    exact ⟨t, e, s _ _ h⟩
/-- at q a profile: its program, its sampler, its phase, the choices made, the state it is in, its mark -/
structure PfA (K : PySem.W.Frag) (H : Hp) (q g p : Addr) (sh : Nat) (cs : List Ch) (o : Option Tk) (mk : V) (dx M : Addr) (sv : V) : Prop where
  hq : H q = some (.ins (CPf K) dx (pff (cs.length : Int) g p (sh : Int) M sv mk))
  hM : ChsA H M cs
  hs : StO H sv o
theorem PfA.ext {K : PySem.W.Frag} {H H' : Hp} {q g p : Addr} {sh : Nat} {cs : List Ch} {o : Option Tk} {mk : V} {dx M : Addr} {sv : V} (h : PfA K H q g p sh cs o mk dx M sv) (s : Same H H') : PfA K H' q g p sh cs o mk dx M sv :=
  ⟨s _ _ h.hq, h.hM.ext s, h.hs.ext s⟩
theorem ChsA.keep {H H' : Hp} {q L : Addr} {cs : List Ch} {C dx : Addr} {fs : List (Str × V)} (h : ChsA H L cs) (hq : H q = some (.ins C dx fs)) (s : SameX q H H') : ChsA H' L cs := by
  obtain ⟨rs, h1, h2⟩ := h
  refine ⟨rs, s _ _ (ne_of h1 hq (by intro z; cases z)) h1, paired_imp (fun r c e => ?_) h2⟩
  have e : H r = some (.tup [mvV c.1, .bl c.2]) := e
  exact s _ _ (ne_of e hq (by intro z; cases z)) e
theorem StO.keep {H H' : Hp} {q : Addr} {v : V} {o : Option Tk} {C dx : Addr} {fs : List (Str × V)} (h : StO H v o) (hq : H q = some (.ins C dx fs)) (s : SameX q H H') : StO H' v o := by
  cases o with
  | none => exact h
  | some k =>
    obtain ⟨t, e, h⟩ := h
    have h : H t = some (.tup [.str k.z, .int k.sp, .int k.sl, .bl k.dn, .bl k.wt]) := h
    exact ⟨t, e, s _ _ (ne_of h hq (by intro z; cases z)) h⟩
/-- another profile moves on -/
theorem PfA.keep {K : PySem.W.Frag} {H H' : Hp} {q q' g p : Addr} {sh : Nat} {cs : List Ch} {o : Option Tk} {mk : V} {dx M : Addr} {sv : V} {C dx' : Addr} {fs : List (Str × V)} (h : PfA K H q g p sh cs o mk dx M sv) (hn : q ≠ q') (hq : H q' = some (.ins C dx' fs)) (s : SameX q' H H') : PfA K H' q g p sh cs o mk dx M sv :=
  ⟨s _ _ hn h.hq, h.hM.keep hq s, h.hs.keep hq s⟩
def flL (i sl : Int) (cm : Bool) : List Bool := if cm = true then [false] else if sl = i then [true] else [false, true]
theorem sc_look_flags : FnScope ["sampler", "spot", "came"] ["sampler", "spot", "came"] (defScope s_look_flags) := ⟨rfl, rfl, rfl, by decide +kernel, rfl, by decide +kernel, by decide +kernel⟩
-- slots: 0 sampler, 1 spot, 2 came
def spLF (K : PySem.W.Frag) : Sp := fun vs H Q _ => ∃ (p : Addr) (n i : Int) (f : V) (sl : Int) (cm : Bool), vs = [.ref p, .int sl, .bl cm] ∧ SaA (CS K) H p n i f ∧ ∀ H' a, Same H H' → H' a = some (.tup ((flL i sl cm).map V.bl)) → Q (.ref a) H'
theorem ok_look_flags {fd : FuncData} (F : FnD K ("look_flags", none) "look_flags" "look_flags" s_look_flags fd) (T : RTxt K mg) : OkF P w K mg base CX0 1 "look_flags" ["sampler", "spot", "came"] (spLF K) := by
  refine okd F (F.ok sc_look_flags (fun vs H Q E h => ?_) fun cdv A outer s H vs Q E hr h => ?_) fun _ _ _ _ _ _ us hl => match us, hl with | [_, _, _], _ => rfl
  · obtain ⟨p, n, i, f, sl, cm, rfl, _⟩ := h
    rfl
  · obtain ⟨p, n, i, f, sl, cm, rfl, hp, k⟩ := h
    obtain ⟨dx, hp⟩ := hp
    refine ⟨_, PSs.nox (pss_cons (ps_if (pt_val (pv 2)) (pss_one (ps_ret (pe_tup (pa_cons pe_bl pa_nil))))
  pss_nil)
  (pss_cons (ps_if (pt_cmpR op_eq (pv 1) (pe_fld (pv 0) rfl) (nomark _)) (pss_one (ps_ret (pe_tup (pa_cons pe_bl pa_nil))))
  pss_nil)
  (pss_one (ps_ret (pe_tup (pa_cons pe_bl (pa_cons pe_bl pa_nil))))))), ?_⟩
    refine ⟨_, rfl, cm, rfl, ite2 (fun hc => ?_) fun hc => ?_⟩
    · have e : flL i sl cm = [false] := if_pos hc
      rw [e] at k
      exact ⟨(by show 1 ≤ sizeLine; decide), fun a na => k _ a (same_new na) upd_same⟩
    · have e : flL i sl cm = if sl = i then [true] else [false, true] := if_neg hc
      rw [e] at k
      refine ⟨_, rfl, _, rfl, p, _, dx, _, _, rfl, hp, T.c_Sampler, T.sJ, saf_jitter .., rfl, _, rfl, ite2 (fun hj => ?_) fun hj => ?_⟩
      · rw [if_pos (V.int.inj (of_decide_eq_true hj))] at k
        exact ⟨(by show 1 ≤ sizeLine; decide), fun a na => k _ a (same_new na) upd_same⟩
      · rw [if_neg (fun z => hj (decide_eq_true (congrArg V.int z)))] at k
        exact ⟨(by show 2 ≤ sizeLine; decide), fun a na => k _ a (same_new na) upd_same⟩
theorem sc_pair_at : FnScope ["place", "spent", "slot", "done", "waits"] ["place", "spent", "slot", "done", "waits"] (defScope s_pair_at) := ⟨rfl, rfl, rfl, by decide +kernel, rfl, by decide +kernel, by decide +kernel⟩
-- slots: 0 place, 1 spent, 2 slot, 3 done, 4 waits
def spPA (K : PySem.W.Frag) : Sp := fun vs H Q _ => ∃ (a : Addr) (z : Str) (l m : Int) (b : Bool) (sp sl : Int) (dn wt : Bool), vs = [.ref a, .int sp, .int sl, .bl dn, .bl wt] ∧ PlA (CP K) H a z l m b ∧
  ∀ H' r t, Same H H' → H' r = some (.tup [.ref t, .bl (wt && b)]) → H' t = some (.tup [.str z, .int sp, .int sl, .bl dn, .bl (wt && !b)]) → Q (.ref r) H'
theorem ok_pair_at {fd : FuncData} (F : FnD K ("pair_at", none) "pair_at" "pair_at" s_pair_at fd) (T : RTxt K mg) : OkF P w K mg base CX0 1 "pair_at" ["place", "spent", "slot", "done", "waits"] (spPA K) := by
  refine okd F (F.ok sc_pair_at (fun vs H Q E h => ?_) fun cdv A outer s H vs Q E hr h => ?_) fun _ _ _ _ _ _ us hl => match us, hl with | [_, _, _, _, _], _ => rfl
  · obtain ⟨a, z, l, m, b, sp, sl, dn, wt, rfl, _⟩ := h
    rfl
  · obtain ⟨a, z, l, m, b, sp, sl, dn, wt, rfl, hp, k⟩ := h
    obtain ⟨dx, hp⟩ := hp
    refine ⟨_, PSs.nox (pss_one (ps_ret (pe_tup (pa_cons (pe_tup (pa_cons (pe_fld (pv 0) rfl) (pa_cons (pv 1) (pa_cons (pv 2) (pa_cons (pv 3) (pa_cons (pe_andB (pv 4) (pe_one (pe_not (pe_fld (pv 0) rfl)))) pa_nil)))))) (pa_cons (pe_andB (pv 4) (pe_one (pe_fld (pv 0) rfl))) pa_nil))))), ?_⟩
    refine ⟨_, rfl, a, _, dx, _, _, rfl, hp, T.c_Place, T.nN, plf_name .., _, rfl, _, rfl, _, rfl, _, rfl, wt, !b, (· = H), rfl, fun _ => ?_, fun _ => rfl, fun H1 e => ?_⟩
    · exact ⟨_, rfl, a, _, dx, _, _, rfl, hp, T.c_Place, T.nT, plf_let .., b, rfl, rfl, rfl⟩
    subst e
    refine ⟨(by show 5 ≤ sizeLine; decide), fun t nt => ?_⟩
    have s1 := same_new (o := .tup [.str z, .int sp, .int sl, .bl dn, .bl (wt && !b)]) nt
    refine ⟨_, rfl, wt, b, (· = upd H1 t (.tup [.str z, .int sp, .int sl, .bl dn, .bl (wt && !b)])), rfl, fun _ => ?_, fun _ => rfl, fun H2 e => ?_⟩
    · exact ⟨_, rfl, a, _, dx, _, _, rfl, s1 _ _ hp, T.c_Place, T.nT, plf_let .., rfl, rfl⟩
    subst e
    refine ⟨(by show 2 ≤ sizeLine; decide), fun r nr => ?_⟩
    exact k _ r t (s1.trans (same_new nr)) upd_same (same_new nr _ _ upd_same)
end
end K32

set_option Elab.async false
set_option linter.all false
set_option pp.deepTerms.threshold 14
set_option pp.maxSteps 2500
set_option maxRecDepth 100000
set_option maxHeartbeats 2000000
namespace K32
open PySem PySem.Spec PyProof.Rows L2 Vf
section
variable {P : Program} {w : World} {K : PySem.W.Frag} {mg : Str → Option Value} {base : Heap}
theorem room65 {k : Nat} {A : Around} (r : Room k A) : A.units + 65 < cLine := by have := r.un; omega
/-- the moves that are possible behind the state o -/
def mvs (ys : List PgE) (bg : Str) : Option Tk → List (Option Str)
  | none => [some bg]
  | some k => (if k.sp < (rowQ ys k.z).m then [none] else []) ++ (if (rowQ ys k.z).l ≤ k.sp then ((zsOf ys).filter fun z => decide (z ∈ (rowQ ys k.z).ns)).map some else [])
/-- did the look of the slot come due ahead of the tick at place sl -/
def hcB (i : Int) (sh : Nat) (sl : Int) : Option Tk → Bool
  | none => decide ((sh : Int) > i)
  | some k => decide (sl ≠ 0) && k.dn
/-- the choices of the tick at place sl -/
def chL (ys : List PgE) (bg : Str) (i : Int) (sh : Nat) (sl : Int) (o : Option Tk) : List Ch := (mvs ys bg o).flatMap fun mv => (flL i sl (hcB i sh sl o)).map fun d => (mv, d)
/-- the tick that a choice makes -/
def nxT (ys : List PgE) (bg : Str) (i : Int) (sh : Nat) (sl : Int) (o : Option Tk) (c : Ch) : Tk :=
  let z := match c.1, o with | some z, _ => z | none, some k => k.z | none, none => bg
  let sp : Int := match c.1, o with | none, some k => k.sp + 1 | _, _ => 1
  let wd := (match o with | some k => k.wt | none => false) || c.2
  ⟨z, sp, sl, hcB i sh sl o || c.2, wd && !(rowQ ys z).b, wd && (rowQ ys z).b⟩
theorem flL_len (i sl : Int) (cm : Bool) : (flL i sl cm).length ≤ 2 := by
  unfold flL
  split
  · decide
  · split <;> decide
theorem filter_le {α : Type} (f : α → Bool) (l : List α) : (l.filter f).length ≤ l.length := List.length_filter_le f l
theorem mvs_len {ys : List PgE} (h6 : ys.length ≤ 6) (bg : Str) (o : Option Tk) : (mvs ys bg o).length ≤ 7 := by
  cases o with
  | none => exact (by decide : 1 ≤ 7)
  | some k =>
    have hz : (zsOf ys).length = ys.length := List.length_map ..
    have hf := filter_le (fun z => decide (z ∈ (rowQ ys k.z).ns)) (zsOf ys)
    show List.length ((if k.sp < (rowQ ys k.z).m then [(none : Option Str)] else []) ++ (if (rowQ ys k.z).l ≤ k.sp then ((zsOf ys).filter fun z => decide (z ∈ (rowQ ys k.z).ns)).map some else [])) ≤ 7
    rw [List.length_append]
    have h1 : (if k.sp < (rowQ ys k.z).m then [(none : Option Str)] else []).length ≤ 1 := by split <;> decide
    have h2 : (if (rowQ ys k.z).l ≤ k.sp then ((zsOf ys).filter fun z => decide (z ∈ (rowQ ys k.z).ns)).map some else []).length ≤ 6 := by
      split
      · rw [List.length_map]
        omega
      · decide
    omega
def chD (c : Ch) : PyData := .tuple [match c.1 with | none => .none | some z => .str z, .bool c.2]
theorem ch_dp {K : PySem.W.Frag} {H : Hp} {r : Addr} {c : Ch} (h : ChA H r c) : Dp K H (.ref r) (chD c) := by
  obtain ⟨o, d⟩ := c
  have h : H r = some (.tup [mvV o, .bl d]) := h
  cases o with
  | none => exact .tup (SqT.of h) (.cons .non (.cons (.bl _) .nil))
  | some z => exact .tup (SqT.of h) (.cons (.str _) (.cons (.bl _) .nil))
theorem chs_dp {K : PySem.W.Frag} {H : Hp} : ∀ {rs : List Addr} {cs : List Ch}, Paired (ChA H) rs cs → DpAll K H (rs.map V.ref) (cs.map chD)
  | _, _, .nil => .nil
  | _, _, .cons r p => .cons (ch_dp r) (chs_dp p)
def ChS (c : Ch) : Prop := ∀ z, c.1 = some z → PyData.strOk z = true
theorem ch_lay (c : Ch) (h : ChS c) : PyData.canLay0 (chD c) = true ∧ PyData.depth (chD c) = 1 := by
  obtain ⟨o, d⟩ := c
  cases o with
  | none => exact ⟨by simp [chD, PyData.canLay0, PyData.canLayAll0], rfl⟩
  | some z => exact ⟨by simp [chD, PyData.canLay0, PyData.canLayAll0, h z rfl], rfl⟩
theorem chs_lay : ∀ cs : List Ch, (∀ c ∈ cs, ChS c) → PyData.canLayAll0 (cs.map chD) = true ∧ PyData.depthAll (cs.map chD) ≤ 1
  | [], _ => ⟨rfl, Nat.zero_le _⟩
  | c :: cs, h => by
    obtain ⟨h1, h2⟩ := chs_lay cs fun y hy => h y (List.mem_cons_of_mem _ hy)
    obtain ⟨h3, h4⟩ := ch_lay c (h c List.mem_cons_self)
    refine ⟨?_, ?_⟩
    · show (PyData.canLay0 (chD c) && PyData.canLayAll0 (cs.map chD)) = true
      rw [h3, h1]
      rfl
    · show max (PyData.depth (chD c)) (PyData.depthAll (cs.map chD)) ≤ 1
      rw [h4]
      omega
theorem ch_sh (c : Ch) (h : ChS c) : SeqAt.shaped (chD c) = true := by
  obtain ⟨h1, h2⟩ := ch_lay c h
  unfold SeqAt.shaped
  simp [h1, h2]
theorem chs_sh {cs : List Ch} (h : ∀ c ∈ cs, ChS c) : SeqAt.shaped (.list (cs.map chD)) = true := by
  obtain ⟨h1, h2⟩ := chs_lay cs h
  unfold SeqAt.shaped
  have e : PyData.depth (.list (cs.map chD)) = PyData.depthAll (cs.map chD) + 1 := rfl
  rw [e]
  simp [PyData.canLay0, h1]
  omega
theorem ch_eqv (a b : Ch) : PyData.eqv (chD a) (chD b) = decide (a = b) := by
  obtain ⟨o, d⟩ := a
  obtain ⟨o', d'⟩ := b
  rw [Bool.eq_iff_iff, decide_eq_true_iff]
  cases o <;> cases o' <;> cases d <;> cases d' <;> simp [chD, PyData.eqv, PyData.eqvAll]
theorem ch_any (cs : List Ch) (c : Ch) : ((cs.map chD).any fun z => PyData.eqv z (chD c)) = decide (c ∈ cs) := by
  induction cs with
  | nil => exact (decide_eq_false (by simp)).symm
  | cons a cs ih =>
    rw [List.map_cons, List.any_cons, ih, ch_eqv, Bool.eq_iff_iff, Bool.or_eq_true, decide_eq_true_iff, decide_eq_true_iff, decide_eq_true_iff, List.mem_cons]
    exact or_congr eq_comm Iff.rfl
theorem sc_BadChoice_init : FnScope ["self", "index"] ["self", "index"] (defScope s_BadChoice_init) := ⟨rfl, rfl, rfl, by decide +kernel, rfl, by decide +kernel, by decide +kernel⟩
-- slots: 0 self, 1 index
theorem ok_BadChoice_init {fd : FuncData} (F : FnD K ("BadChoice", some "__init__") "__init__" "BadChoice.__init__" s_BadChoice_init fd) : OkD P w K mg base CX0 1 ("BadChoice", some "__init__") ["self", "index"] [] (spExI K (He.ga K "BadChoice") "index") := by
  refine okd F (F.ok sc_BadChoice_init (fun vs H Q E h => ?_) fun cdv A outer s H vs Q E hr h => ⟨tOst K "index" (tVar 0) (tVar 1), PSs.nox ?_, run_exI h⟩) fun _ _ _ _ _ _ us hl => match us, hl with | [_, _], _ => rfl
  · obtain ⟨a, v, rfl, _⟩ := h
    rfl
  · exact pss_one (ps_ost (pv 0) (pv 1))
theorem sc_Profile_init : FnScope ["self", "program", "sampler", "phase"] ["self", "program", "sampler", "phase"] (defScope s_Profile_init) := ⟨rfl, rfl, rfl, by decide +kernel, rfl, by decide +kernel, by decide +kernel⟩
-- slots: 0 self, 1 program, 2 sampler, 3 phase
def spPfI (K : PySem.W.Frag) : Sp := fun vs H Q E => ∃ (q dx g p : Addr) (ph : V) (n i : Int) (f : V), vs = [.ref q, .ref g, .ref p, ph] ∧ H q = some (.ins (CPf K) dx []) ∧ SaA (CS K) H p n i f ∧ 1 ≤ n ∧ n ≤ 8 ∧ PhOk f n ∧ Any H ph ∧
  ((∃ sh : Nat, PhSh f ph n sh ∧ ∀ H' M, SameX q H H' → H M = none → PfA K H' q g p sh [] none .non dx M .non → Q .non H') ∨
   (¬ PhFit f n ph ∧ ∀ d, H d = none → E (.ref (He.ga K "BadPhase")) (some d) (upd H d (.xd [("phase", ph)]))))
theorem ok_Profile_init {fd : FuncData} (F : FunD K "__init__" "Profile.__init__" (defArgs s_Profile_init) (defBody s_Profile_init) (defScope s_Profile_init) [] [("phase", .non)] (He.fAd K ("Profile", some "__init__")) fd) (T : LvTxt K mg) (O_check_phase : OkF P w K mg base (L2.CX P w) 3 "check_phase" ["sampler", "phase"] (spChkPh K)) :
    FnOk P w K mg base (L2.CX P w) 4 (He.fAd K ("Profile", some "__init__")) fd ["self", "program", "sampler", "phase"] (spPfI K) := by
  refine F.ok sc_Profile_init (fun vs H Q E h => ?_) fun cdv A outer s H vs Q E hr h => ?_
  · obtain ⟨q, dx, g, p, ph, n, i, f, rfl, _⟩ := h
    rfl
  · obtain ⟨q, dx, g, p, ph, n, i, f, rfl, hq, hp, n1, n8, hf, ha, k⟩ := h
    refine ⟨_, (pss_cons (ps_expr (c_fn O_check_phase hr (by decide) T.g_check_phase (passUp rfl rfl rfl rfl) (pa_cons (pv 2) (pa_cons (pv 3) pa_nil))))
  (pss_cons (ps_fld (pv 0) pe_int rfl)
  (pss_cons (ps_fld (pv 0) (pv 1) rfl)
  (pss_cons (ps_fld (pv 0) (pv 2) rfl)
  (pss_cons (ps_fld (pv 0) (pe_ifExpB (pt_cmpR op_isN (pe_fld (pv 2) rfl) pe_non (nomark _)) (pv 3) (pe_fld (pv 2) rfl)) rfl)
  (pss_cons (ps_fld (pv 0) (pe_lst pa_nil) rfl)
  (pss_cons (ps_fld (pv 0) pe_non rfl)
  (pss_one (ps_fld (pv 0) pe_non rfl))))))))), ?_⟩
    obtain ⟨dp, hp'⟩ := id hp
    refine ⟨_, rfl, _, rfl, p, ph, n, i, f, rfl, hp, n1, n8, hf, ha, fun hfit => ?_, fun hno => ?_⟩
    rotate_left
    · rcases k with ⟨sh, hsh, _⟩ | ⟨_, k⟩
      · exact absurd hsh.fit hno
      · exact k
    rcases k with ⟨sh, hsh, k⟩ | ⟨hno, _⟩
    rotate_left
    · exact absurd hfit hno
    have npq : p ≠ q := ne_of hp' hq (by
      intro z
      have z2 := (HO.ins.inj z).2.2
      have := saf_phase n i f
      rw [z2] at this
      cases this)
    refine ⟨_, rfl, q, _, dx, [], rfl, hq, T.c_Profile, T.fT, (by show 0 < 1000; decide), ?_⟩
    refine ⟨_, rfl, _, rfl, q, _, dx, _, rfl, upd_same, T.c_Profile, T.fP, (by show 1 < 1000; decide), ?_⟩
    rw [upd_upd]
    refine ⟨_, rfl, _, rfl, q, _, dx, _, rfl, upd_same, T.c_Profile, T.fS, (by show 2 < 1000; decide), ?_⟩
    rw [upd_upd]
    have hp2 : ∀ o, (upd H q o) p = some (.ins (CS K) dp (saf n i f)) := fun o => by rw [upd_ne npq]; exact hp'
    refine ⟨_, rfl, p, _, dp, _, _, rfl, hp2 _, T.c_Sampler, T.sF, saf_phase .., rfl, _, rfl, .int (sh : Int), (· = upd H q (.ins (CPf K) dx (putF "_sampler" (.ref p) (putF "_program" (.ref g) (putF "ticks" (.int 0) []))))), fun hc => ?_, fun hc => ?_, fun H2 e => ?_⟩
    · have hc := of_decide_eq_true hc
      rcases hsh with ⟨_, rfl, _⟩ | ⟨rfl, _⟩
      · exact ⟨_, rfl, rfl, rfl⟩
      · cases hc
    · have hc := of_decide_eq_false hc
      rcases hsh with ⟨z, _⟩ | ⟨rfl, _⟩
      · exact absurd z hc
      · exact ⟨_, rfl, p, _, dp, _, _, rfl, hp2 _, T.c_Sampler, T.sF, saf_phase .., rfl, rfl⟩
    subst e
    refine ⟨_, rfl, q, _, dx, _, rfl, upd_same, T.c_Profile, T.fF, (by show 3 < 1000; decide), ?_⟩
    rw [upd_upd]
    refine ⟨(by show 0 ≤ sizeLine; decide), fun M nM => ?_⟩
    have nMq : M ≠ q := fun z => by rw [z, upd_same] at nM; cases nM
    have nM0 : H M = none := by rw [upd_ne nMq] at nM; exact nM
    refine ⟨_, rfl, q, _, dx, _, rfl, (by rw [upd_ne nMq.symm]; exact upd_same), T.c_Profile, T.fM, (by show 4 < 1000; decide), ?_⟩
    refine ⟨_, rfl, q, _, dx, _, rfl, upd_same, T.c_Profile, T.fA, (by show 5 < 1000; decide), ?_⟩
    rw [upd_upd]
    refine ⟨_, rfl, q, _, dx, _, rfl, upd_same, T.c_Profile, T.fK, (by show 6 < 1000; decide), ?_⟩
    rw [upd_upd, pff_all]
    refine k _ M (fun b o nb e => ?_) nM0 ⟨upd_same, ⟨[], ?_, .nil⟩, rfl⟩
    · rw [upd_ne nb, upd_ne (ne_of_none e nM0), upd_ne nb]
      exact e
    · rw [upd_ne nMq]
      exact upd_same
theorem O_Profile2k {fd : FuncData} (F : FunD K "__init__" "Profile.__init__" (defArgs s_Profile_init) (defBody s_Profile_init) (defScope s_Profile_init) [] [("phase", .non)] (He.fAd K ("Profile", some "__init__")) fd) (G : FnOk P w K mg base (L2.CX P w) 4 (He.fAd K ("Profile", some "__init__")) fd ["self", "program", "sampler", "phase"] (spPfI K)) :
    OkK P w K mg base (L2.CX P w) 4 ("Profile", some "__init__") ["self", "program", "sampler", "phase"] 3 ["phase"] (fun vs zs => vs ++ zs) (spPfI K) := by
  obtain ⟨mv, b⟩ := F.kbinds0 (ps := ["self", "program", "sampler", "phase"]) 3 ["phase"] [] (fun us _ ws => us ++ ws) (by decide) (fun _ h => nomatch h) (fun r1 _ r3 => r1.append r3)
    fun D doc pm an cdv ct us mv ws h1 h2 h3 => match us, mv, ws, h1, h2, h3 with | [_, _, _], [], [_], _, _, _ => rfl
  exact ⟨fd, _, G, b⟩
theorem O_Profile2 {fd : FuncData} (F : FunD K "__init__" "Profile.__init__" (defArgs s_Profile_init) (defBody s_Profile_init) (defScope s_Profile_init) [] [("phase", .non)] (He.fAd K ("Profile", some "__init__")) fd) (G : FnOk P w K mg base (L2.CX P w) 4 (He.fAd K ("Profile", some "__init__")) fd ["self", "program", "sampler", "phase"] (spPfI K)) :
    OkK P w K mg base (L2.CX P w) 4 ("Profile", some "__init__") ["self", "program", "sampler", "phase"] 3 [] (fun vs _ => vs ++ [.non]) (spPfI K) := by
  obtain ⟨mv, b⟩ := F.kbinds0 (ps := ["self", "program", "sampler", "phase"]) 3 [] [("phase", .non)] (fun us mv _ => us ++ mv) (by decide) (fun _ h => h) (fun r1 r2 _ => r1.append r2)
    fun D doc pm an cdv ct us mv ws h1 h2 h3 => match us, mv, ws, h1, h2, h3 with | [_, _, _], [_], [], _, _, _ => ⟨_, _, _, _, _, _, rfl, rfl, rfl⟩
  exact ⟨fd, _, G, b⟩
theorem sc_Profilespot : FnScope ["self"] ["self"] (defScope s_Profilespot) := ⟨rfl, rfl, rfl, by decide +kernel, rfl, by decide +kernel, by decide +kernel⟩
-- slots: 0 self
def spSpt (K : PySem.W.Frag) : Sp := fun vs H Q _ => ∃ (q g p : Addr) (sh : Nat) (cs : List Ch) (o : Option Tk) (mk : V) (dx M : Addr) (sv : V) (n : Nat) (i : Int) (f : V), vs = [.ref q] ∧ PfA K H q g p sh cs o mk dx M sv ∧ SaA (CS K) H p (n : Int) i f ∧ 1 ≤ n ∧ n ≤ 8 ∧ Q (.int (((sh + cs.length) % n : Nat) : Int)) H
theorem ok_Profile_spot {fd : FuncData} (F : FnD K ("Profile", some "_spot") "_spot" "Profile._spot" s_Profilespot fd) (T : LvTxt K mg) : OkM P w K mg base CX0 1 "Profile" "_spot" ["self"] (spSpt K) := by
  refine okd F (F.ok sc_Profilespot (fun vs H Q E h => ?_) fun cdv A outer s H vs Q E hr h => ?_) fun _ _ _ _ _ _ us hl => match us, hl with | [_], _ => rfl
  · obtain ⟨q, g, p, sh, cs, o, mk, dx, M, sv, n, i, f, rfl, _⟩ := h
    rfl
  · obtain ⟨q, g, p, sh, cs, o, mk, dx, M, sv, n, i, f, rfl, hq, ⟨dp, hp⟩, n1, n8, k⟩ := h
    refine ⟨_, PSs.nox (pss_one (ps_ret (pe_op op_mod (pe_op op_add (pe_fld (pv 0) rfl) (pe_fld (pv 0) rfl)) (pe_fld (pe_fld (pv 0) rfl) rfl)))), ?_⟩
    refine ⟨_, rfl, q, _, dx, _, _, rfl, hq.hq, T.c_Profile, T.fF, pff_phase, _, rfl, q, _, dx, _, _, rfl, hq.hq, T.c_Profile, T.fT, pff_ticks, _, _, rfl, rfl, _, rfl, q, _, dx, _, _, rfl, hq.hq, T.c_Profile, T.fS, pff_sampler, p, _, dp, _, _, rfl, hp, T.c_Sampler, T.sP, saf_period .., _, _, rfl, rfl, (by show (0 : Int) < n; omega), ?_⟩
    have e : ((sh : Int) + (cs.length : Int)) % (n : Int) = (((sh + cs.length) % n : Nat) : Int) := by rw [← Int.natCast_add, ← Int.natCast_emod]
    show Q (.int (((sh : Int) + (cs.length : Int)) % (n : Int))) H
    rw [e]
    exact k
theorem sc_Profilehas_come : FnScope ["self"] ["self"] (defScope s_Profilehas_come) := ⟨rfl, rfl, rfl, by decide +kernel, rfl, by decide +kernel, by decide +kernel⟩
-- slots: 0 self
def spHc (K : PySem.W.Frag) : Sp := fun vs H Q _ => ∃ (q g p : Addr) (sh : Nat) (cs : List Ch) (o : Option Tk) (mk : V) (dx M : Addr) (sv : V) (n : Nat) (i : Int) (f : V), vs = [.ref q] ∧ PfA K H q g p sh cs o mk dx M sv ∧ SaA (CS K) H p (n : Int) i f ∧ 1 ≤ n ∧ n ≤ 8 ∧ Q (.bl (hcB i sh (((sh + cs.length) % n : Nat) : Int) o)) H
theorem ok_Profile_has_come {fd : FuncData} (F : FnD K ("Profile", some "_has_come") "_has_come" "Profile._has_come" s_Profilehas_come fd) (T : LvTxt K mg) (PM : PMeth K) (O_Profile__spot : OkM P w K mg base CX0 1 "Profile" "_spot" ["self"] (spSpt K)) : OkM P w K mg base CX0 2 "Profile" "_has_come" ["self"] (spHc K) := by
  refine okd F (F.ok sc_Profilehas_come (fun vs H Q E h => ?_) fun cdv A outer s H vs Q E hr h => ?_) fun _ _ _ _ _ _ us hl => match us, hl with | [_], _ => rfl
  · obtain ⟨q, g, p, sh, cs, o, mk, dx, M, sv, n, i, f, rfl, _⟩ := h
    rfl
  · obtain ⟨q, g, p, sh, cs, o, mk, dx, M, sv, n, i, f, rfl, hq, hp, n1, n8, k⟩ := h
    refine ⟨_, PSs.nox (pss_cons (ps_if (pt_cmpR op_isN (pe_fld (pv 0) rfl) pe_non (nomark _)) (pss_one (ps_ret (pe_cmpR op_gt (pe_fld (pv 0) rfl) (pe_fld (pe_fld (pv 0) rfl) rfl) (nomark _))))
  pss_nil)
  (pss_one (ps_ret (pe_andB (pe_cmpR op_ne (c_me0 rfl (pv 0) T.c_Profile PM.m__spot O_Profile__spot hr (by decide) pass0) pe_int (nomark _)) (pe_one (pe_ix ix_tup (pe_fld (pv 0) rfl) pe_int (fun _ _ => rfl))))))), ?_⟩
    obtain ⟨dp, hp'⟩ := id hp
    refine ⟨_, rfl, q, _, dx, _, _, rfl, hq.hq, T.c_Profile, T.fA, pff_state, rfl, _, rfl, ?_⟩
    have hs := hq.hs
    cases o with
    | none =>
      obtain rfl := hs
      exact iteT ⟨_, rfl, q, _, dx, _, _, rfl, hq.hq, T.c_Profile, T.fF, pff_phase, _, rfl, q, _, dx, _, _, rfl, hq.hq, T.c_Profile, T.fS, pff_sampler, p, _, dp, _, _, rfl, hp', T.c_Sampler, T.sJ, saf_jitter .., _, _, rfl, rfl, k⟩
    | some kk =>
      obtain ⟨t, rfl, hst⟩ := hs
      refine iteF ⟨_, rfl, q, dx, _, rfl, hq.hq, pff_out, q, g, p, sh, cs, some kk, mk, dx, M, _, n, i, f, rfl, hq, hp, n1, n8, ?_⟩
      refine ⟨rfl, _, kk.dn, (· = H), rfl, fun _ => ?_, fun _ => rfl, fun H2 e => ?_⟩
      · exact ⟨_, rfl, q, _, dx, _, _, rfl, hq.hq, T.c_Profile, T.fA, pff_state, t, _, 3, _, rfl, rfl, SqT.of hst, atI_nat (j := 3) rfl, rfl, rfl⟩
      · subst e
        have e2 : (!decide (V.int (((sh + cs.length) % n : Nat) : Int) = V.int 0)) = decide ((((sh + cs.length) % n : Nat) : Int) ≠ 0) := by
          rw [Bool.eq_iff_iff]
          simp
        rw [e2]
        exact k
end
end K32

set_option Elab.async false
set_option linter.all false
set_option pp.deepTerms.threshold 14
set_option pp.maxSteps 2500
set_option maxRecDepth 100000
set_option maxHeartbeats 2000000
namespace K32
open PySem PySem.Spec PyProof.Rows L2 Vf
section
variable {P : Program} {w : World} {K : PySem.W.Frag} {mg : Str → Option Value} {base : Heap}
theorem op_in_seqP {X : Cx} {K : PySem.W.Frag} (hK : X.K = K) : OpR X (compareOp .In) (rIn K false) := hK ▸ op_in_seq
theorem nw2 : ¬ (HT.sIx 5 0 (none : Option Int) = 0 ∧ HT.sIx 5 5 (some 2) = 5) := by decide
theorem sc_Profilemoves : FnScope ["self", "name", "spent", "place", "moves", "ways", "after"] ["self"] (defScope s_Profilemoves) := ⟨rfl, rfl, rfl, by decide +kernel, rfl, by decide +kernel, by decide +kernel⟩
-- slots: 0 self, 1 name, 2 spent, 3 place, 4 moves, 5 ways, 6 after
def spMv (K : PySem.W.Frag) : Sp := fun vs H Q _ => ∃ (q g p : Addr) (sh : Nat) (cs : List Ch) (o : Option Tk) (mk : V) (dx M : Addr) (sv : V) (xs : List PgE) (st : Str) (dg tn dP dN : Addr), vs = [.ref q] ∧ PfA K H q g p sh cs o mk dx M sv ∧ PgA K H g xs st dg tn dP dN ∧ (∀ k, o = some k → k.z ∈ zsOf xs) ∧
  ∀ H' L, Same H H' → H L = none → H' L = some (.lst ((mvs xs st o).map mvV)) → Q (.ref L) H'
theorem ok_Profile_moves {fd : FuncData} (F : FnD K ("Profile", some "_moves") "_moves" "Profile._moves" s_Profilemoves fd) (T : LvTxt K mg) (MG : GMeth K) (O_getitem : OkM P w K mg base (L2.CX P w) 4 "Program" "__getitem__" ["self", "at"] (spGet K)) (O_nexts : OkG P w K mg base CX0 1 "Program" "nexts" (spNxT K)) : OkM P w K mg base CX0 6 "Profile" "_moves" ["self"] (spMv K) := by
  refine okd F (F.ok sc_Profilemoves (fun vs H Q E h => ?_) fun cdv A outer s H vs Q E hr h => ?_) fun _ _ _ _ _ _ us hl => match us, hl with | [_], _ => rfl
  · obtain ⟨q, g, p, sh, cs, o, mk, dx, M, sv, xs, st, dg, tn, dP, dN, rfl, _⟩ := h
    rfl
  · obtain ⟨q, g, p, sh, cs, o, mk, dx, M, sv, xs, st, dg, tn, dP, dN, rfl, hq, hg, hz, k⟩ := h
    refine ⟨_, PSs.nox (pss_cons (ps_if (pt_cmpR op_isN (pe_fld (pv 0) rfl) pe_non (nomark _)) (pss_one (ps_ret (pe_lst (pa_cons (pe_fld (pe_fld (pv 0) rfl) rfl) pa_nil))))
  pss_nil)
  (pss_cons (ps_asg (pe_slice sl_tup (pe_fld (pv 0) rfl) po_none (po_some pe_int)) (pg_tup rfl (pgs_cons (pg_name (i := 1) sc_Profilemoves.nd rfl (Or.inl rfl)) (pgs_cons (pg_name (i := 2) sc_Profilemoves.nd rfl (Or.inl rfl)) pgs_nil))))
  (pss_cons (ps_set (i := 3) sc_Profilemoves.nd rfl (Or.inl rfl) (pe_subO (pe_fld (pv 0) rfl) (pv 1) MG.m_getitem MG.f_getitem O_getitem hr (by decide) passL))
  (pss_cons (ps_set (i := 4) sc_Profilemoves.nd rfl (Or.inl rfl) (pe_weak (pe_ifExp (pt_cmpR op_lt (pv 2) (pe_fld (pv 3) rfl) (nomark _)) (pe_lst (pa_cons pe_non pa_nil)) (pe_lst pa_nil))))
  (C8.pss_cut (ps_if (pt_cmpR op_ge (pv 2) (pe_fld (pv 3) rfl) (nomark _)) (pss_cons (ps_set (i := 5) sc_Profilemoves.nd rfl (Or.inr rfl) (pe_dget (hu_of hr) (pe_propG (pe_fld (pv 0) rfl) T.c_Program O_nexts hr (by decide) rfl) (pv 1) (fun _ _ => rfl)))
  (pss_one (ps_expr (pe_bm PySem.F.plainAttrs_list PySem.F.slot_list_extend PySem.F.type_list_extend mt_extend (pv 4) (pa_cons (pe_lc (own := [("after", 6)]) (g := gName 6)  (by rfl) sc_Profilemoves.nd (pi_tup (pe_fld (pe_fld (pv 0) rfl) rfl)) (blkOk_by (N := ["self", "name", "spent", "place", "moves", "ways", "after"]) (sc := defScope s_Profilemoves) (by decide +kernel)) (fun _ _ _ _ _ => (pg_name (i := 6) sc_Profilemoves.nd rfl (Or.inl rfl))) (fun _ _ _ _ _ => (pts_one (pt_cmpR (op_in_seqP (K := K) rfl) (pv 6) (pv 5) rfl))) (fun _ _ _ _ _ => (pv 6))) pa_nil)))))
  pss_nil)
  (pss_one (ps_ret (pv 4)))))))), ?_⟩
    have hlz : (zsOf xs).length = xs.length := List.length_map ..
    refine ⟨_, rfl, q, _, dx, _, _, rfl, hq.hq, T.c_Profile, T.fA, pff_state, rfl, _, rfl, ?_⟩
    have hs := hq.hs
    cases o with
    | none =>
      obtain rfl := hs
      refine iteT ⟨_, rfl, q, _, dx, _, _, rfl, hq.hq, T.c_Profile, T.fP, pff_program, g, _, dg, _, _, rfl, hg.hg, T.c_Program, T.nB, pgf_start .., (by show 1 ≤ sizeLine; decide), fun L nL => ?_⟩
      exact k _ L (same_new nL) nL upd_same
    | some kk =>
      obtain ⟨t, rfl, hst⟩ := hs
      obtain ⟨iy, y, hy, hyz⟩ := row_of (hz kk rfl)
      have hrq : rowQ xs kk.z = y.2.2 := by rw [← hyz]; exact rowQ_row hg.nd hy
      refine iteF ⟨_, rfl, q, _, dx, _, _, rfl, hq.hq, T.c_Profile, T.fA, pff_state, 2, rfl, t, _, rfl, SqT.of hst, nw2, fun a na => ?_⟩
      have ecut : cutV [.str kk.z, .int kk.sp, .int kk.sl, .bl kk.dn, .bl kk.wt] none (some 2) = [.str kk.z, .int kk.sp] := rfl
      rw [ecut]
      have s1 := same_new (o := .tup [.str kk.z, .int kk.sp]) na
      refine ⟨a, _, rfl, SqT.of upd_same, rfl, _, _, rfl, _, _, rfl, rfl, ?_⟩
      have hq1 := hq.ext s1
      have hg1 := hg.ext s1
      generalize upd H a (.tup [.str kk.z, .int kk.sp]) = H1 at s1 hq1 hg1 ⊢
      obtain ⟨d1, e1⟩ := hg1.pl y (List.mem_of_getElem? hy)
      refine ⟨_, rfl, q, _, dx, _, _, rfl, hq1.hq, T.c_Profile, T.fP, pff_program, _, rfl, g, dg, _, rfl, hg1.hg, g, _, xs, st, dg, tn, dP, dN, rfl, hg1, .inl ⟨iy, y, hy, by rw [hyz], ?_⟩⟩
      refine ⟨fun v H' => ∃ L, v = .ref L ∧ Same H1 H' ∧ H1 L = none ∧ H' L = some (.lst ((if kk.sp < y.2.2.m then [(none : Option Str)] else []).map mvV)), ?_, ?_⟩
      · refine ⟨_, rfl, _, rfl, y.1, _, d1, _, _, rfl, e1, T.c_Place, T.nM, plf_most .., _, _, rfl, rfl, _, rfl, ite2 (fun hc => ?_) fun hc => ?_⟩
        · refine ⟨(by show 1 ≤ sizeLine; decide), fun L nL => ⟨L, rfl, same_new nL, nL, ?_⟩⟩
          rw [upd_same, if_pos (of_decide_eq_true hc)]
          rfl
        · refine ⟨(by show 0 ≤ sizeLine; decide), fun L nL => ⟨L, rfl, same_new nL, nL, ?_⟩⟩
          rw [upd_same, if_neg (of_decide_eq_false (Bool.eq_false_iff.mpr hc))]
          rfl
      rintro v H2 ⟨L, rfl, s12, nL, hL⟩
      have hq2 := hq1.ext s12
      have hg2 := hg1.ext s12
      have sg2 := s1.trans s12
      have nL0 := none_of s1 nL
      have e2 := s12 _ _ e1
      refine ⟨fun σ' H' => (∃ v5 v6 : Option V, σ' = [some (.ref q), some (.str kk.z), some (.int kk.sp), some (.ref y.1), some (.ref L), v5, v6]) ∧ Same H H' ∧ H' L = some (.lst ((mvs xs st (some kk)).map mvV)), ?_, ?_⟩
      rotate_left
      · rintro σ' H' ⟨⟨v5, v6, rfl⟩, s, hL⟩
        exact ⟨_, rfl, k _ L s nL0 hL⟩
      have em : mvs xs st (some kk) = (if kk.sp < y.2.2.m then [(none : Option Str)] else []) ++ (if y.2.2.l ≤ kk.sp then ((zsOf xs).filter fun z => decide (z ∈ y.2.2.ns)).map some else []) := by rw [← hrq]; rfl
      refine ⟨_, rfl, _, rfl, y.1, _, d1, _, _, rfl, e2, T.c_Place, T.nL, plf_least .., _, _, rfl, rfl, _, rfl, ite2 (fun hc => ?_) fun hc => ?_⟩
      rotate_left
      · refine ⟨⟨none, none, rfl⟩, sg2, ?_⟩
        rw [em, if_neg (of_decide_eq_false (Bool.eq_false_iff.mpr hc)), List.append_nil]
        exact hL
      have hc := of_decide_eq_true hc
      refine ⟨_, rfl, q, _, dx, _, _, rfl, hq2.hq, T.c_Profile, T.fP, pff_program, g, dg, _, rfl, hg2.hg, g, xs, st, dg, tn, dP, dN, rfl, hg2, fun H3 ND s23 nND hND => ?_⟩
      have sg3 := sg2.trans s23
      have hq3 := hq2.ext s23
      have hg3 := hg2.ext s23
      have hL3 := s23 _ _ hL
      have hw3 := (hg3.ns y (List.mem_of_getElem? hy)).1
      refine ⟨_, rfl, ND, _, rfl, dget_of hND (by rw [← hyz]; exact val_row (f := fun y => V.ref y.2.1) hg.nd hy), ?_⟩
      have flat : (y.2.2.ns.map V.str).all flatV = true := List.all_eq_true.mpr fun v hv => by
        obtain ⟨z, _, rfl⟩ := List.mem_map.mp hv
        rfl
      refine ⟨_, rfl, .inl ⟨rfl, _, SqL.of hL3⟩, _, rfl, q, _, dx, _, _, rfl, hq3.hq, T.c_Profile, T.fP, pff_program, g, _, dg, _, _, rfl, hg3.hg, T.c_Program, T.nA, pgf_names .., tn, rfl, ⟨_, SqT.of hg3.hn⟩, fun D nD => lc_it walk_tup (fun i H' => Same H3 H' ∧ H' D = some (.lst ((((zsOf xs).take i).filter fun z => decide (z ∈ y.2.2.ns)).map V.str))) ⟨same_new nD, upd_same⟩ (fun i H' _ h => SqT.ext (SqT.of hg3.hn) h.1) ?_ ?_⟩
      · rintro i x H4 H' hi ⟨s4, hD4⟩ ⟨rfl, hx⟩
        obtain ⟨u, hu, rfl⟩ := zsAt hx
        have huz : (zsOf xs)[i]? = some u.2.2.z := by
          unfold zsOf
          rw [List.getElem?_map, hu]
          rfl
        have htk : ((zsOf xs).take (i + 1)).filter (fun z => decide (z ∈ y.2.2.ns)) = ((zsOf xs).take i).filter (fun z => decide (z ∈ y.2.2.ns)) ++ if u.2.2.z ∈ y.2.2.ns then [u.2.2.z] else [] := by
          rw [List.take_add_one, huz, List.filter_append]
          congr 1
          show List.filter _ [u.2.2.z] = _
          rw [List.filter_cons]
          by_cases e : u.2.2.z ∈ y.2.2.ns
          · rw [if_pos e, if_pos (decide_eq_true e)]
            rfl
          · rw [if_neg e, if_neg (fun z => e (of_decide_eq_true z))]
            rfl
        refine ⟨rfl, _, rfl, _, rfl, y.2.1, _, rfl, .inr (SqT.of (s4 _ _ hw3)), rfl, flat, decide (u.2.2.z ∈ y.2.2.ns), ?_, ite2 (fun hc => ?_) fun hc => ?_⟩
        · rw [inV_str]
          rfl
        · have hc := of_decide_eq_true hc
          rw [if_pos hc] at htk
          refine ⟨_, rfl, _, hD4, ?_, same_app s4 (Same.refl _) nD, ?_⟩
          · rw [List.length_map]
            have h1 := filter_le (fun z => decide (z ∈ y.2.2.ns)) ((zsOf xs).take i)
            have h2 : ((zsOf xs).take i).length ≤ (zsOf xs).length := List.length_take_le' ..
            have h3 := hg.l6
            exact Nat.lt_of_le_of_lt (show _ ≤ 6 by omega) (by decide)
          · rw [upd_same, htk, List.map_append]
            rfl
        · have hc := of_decide_eq_false (Bool.eq_false_iff.mpr hc)
          rw [if_neg hc, List.append_nil] at htk
          rw [htk]
          exact ⟨s4, hD4⟩
      rintro H4 ⟨s34, hD⟩
      rw [List.length_map, List.take_length] at hD
      have hL4 := s34 _ _ hL3
      have nLD : L ≠ D := ne_of_none hL3 nD
      refine ⟨L, D, _, _, rfl, rfl, hL4, hD, ?_, ⟨_, _, rfl⟩, ?_, ?_⟩
      · have h1 := filter_le (fun z => decide (z ∈ y.2.2.ns)) (zsOf xs)
        have h3 := hg.l6
        have h4 : (if kk.sp < y.2.2.m then [(none : Option Str)] else []).length ≤ 1 := by split <;> decide
        rw [List.length_map, List.length_map]
        exact Nat.le_trans (show _ ≤ 7 by omega) (by decide)
      · exact same_app (sg3.trans s34) (Same.refl _) nL0
      · rw [upd_same, em, if_pos hc, List.map_append, List.map_map]
        rfl
end
end K32

set_option Elab.async false
set_option linter.all false
set_option pp.deepTerms.threshold 14
set_option pp.maxSteps 2500
set_option maxRecDepth 100000
set_option maxHeartbeats 2000000
namespace K32
open PySem PySem.Spec PyProof.Rows L2 Vf
section
variable {P : Program} {w : World} {K : PySem.W.Frag} {mg : Str → Option Value} {base : Heap}
theorem pi_listK {X : Cx} {K : PySem.W.Frag} {tg l : Expr} {tl : TE} (hK : X.K = K) (h : PE X l tl) : PI X tg l (iList K tl) := hK ▸ pi_list h
theorem pi_tupK {X : Cx} {K : PySem.W.Frag} {tg l : Expr} {tl : TE} (hK : X.K = K) (h : PE X l tl) : PI X tg l (iTup K tl) := hK ▸ pi_tup h
/-- the choices of a profile -/
def chA (xs : List PgE) (st : Str) (i : Int) (n sh : Nat) (cs : List Ch) (o : Option Tk) : List Ch := if cs.length = 2000 then [] else chL xs st i sh (((sh + cs.length) % n : Nat) : Int) o
theorem ChsA.len {H : Hp} {L : Addr} {cs : List Ch} (h : ChsA H L cs) : ∃ vs, H L = some (.lst vs) ∧ vs.length = cs.length := by
  obtain ⟨rs, h1, h2⟩ := h
  exact ⟨_, h1, by rw [List.length_map, paired_len h2]⟩
theorem ChsA.add {H H' : Hp} {L p : Addr} {cs : List Ch} {c : Ch} {vs : List V} (h : ChsA H L cs) (hv : H L = some (.lst vs)) (hp : ChA H p c) (e : H' = upd H L (.lst (vs ++ [.ref p]))) : ChsA H' L (cs ++ [c]) := by
  subst e
  obtain ⟨rs, h1, h2⟩ := h
  rw [hv] at h1
  cases h1
  have kp : ∀ {r : Addr} {c : Ch}, ChA H r c → ChA (upd H L (.lst (rs.map V.ref ++ [.ref p]))) r c := fun {r c} e => by
    have e : H r = some (.tup [mvV c.1, .bl c.2]) := e
    show upd H L _ r = _
    rw [upd_ne (ne_of e hv (by intro z; cases z))]
    exact e
  exact ⟨rs ++ [p], by rw [upd_same, List.map_append]; rfl, paired_snoc (kp hp) (paired_imp (fun r c q => kp q) h2)⟩
theorem flat_len2 {α β : Type} (f : α → List β) (b : Nat) (hf : ∀ a, (f a).length ≤ b) : ∀ l : List α, (l.flatMap f).length ≤ l.length * b
  | [] => Nat.zero_le _
  | a :: l => by
    rw [List.flatMap_cons, List.length_append, List.length_cons, Nat.succ_mul]
    have := flat_len2 f b hf l
    have := hf a
    omega
theorem chL_len {ys : List PgE} (h6 : ys.length ≤ 6) (bg : Str) (i : Int) (sh : Nat) (sl : Int) (o : Option Tk) : (chL ys bg i sh sl o).length ≤ 14 := by
  have h1 := mvs_len h6 bg o
  have h2 := flat_len2 (fun mv => (flL i sl (hcB i sh sl o)).map fun d => ((mv, d) : Ch)) 2 (fun a => by rw [List.length_map]; exact flL_len ..) (mvs ys bg o)
  unfold chL
  omega
theorem sc_Profile_choices : FnScope ["self", "flags", "move", "due"] ["self"] (defScope s_Profile_choices) := ⟨rfl, rfl, rfl, by decide +kernel, rfl, by decide +kernel, by decide +kernel⟩
-- slots: 0 self, 1 flags, 2 move, 3 due
def spChs (K : PySem.W.Frag) : Sp := fun vs H Q _ => ∃ (q g p : Addr) (sh : Nat) (cs : List Ch) (o : Option Tk) (mk : V) (dx M : Addr) (sv : V) (xs : List PgE) (st : Str) (dg tn dP dN : Addr) (n : Nat) (i : Int) (f : V), vs = [.ref q] ∧ PfA K H q g p sh cs o mk dx M sv ∧ PgA K H g xs st dg tn dP dN ∧ SaA (CS K) H p (n : Int) i f ∧ 1 ≤ n ∧ n ≤ 8 ∧ (∀ k, o = some k → k.z ∈ zsOf xs) ∧
  ∀ H' L, Same H H' → H L = none → ChsA H' L (chA xs st i n sh cs o) → Q (.ref L) H'
theorem ok_Profile_choices {fd : FuncData} (F : FnD K ("Profile", some "choices") "choices" "Profile.choices" s_Profile_choices fd) (T : LvTxt K mg) (PM : PMeth K) (O_look_flags : OkF P w K mg base CX0 1 "look_flags" ["sampler", "spot", "came"] (spLF K)) (O_Profile__spot : OkM P w K mg base CX0 1 "Profile" "_spot" ["self"] (spSpt K))
    (O_Profile__has_come : OkM P w K mg base CX0 2 "Profile" "_has_come" ["self"] (spHc K)) (O_Profile__moves : OkM P w K mg base CX0 6 "Profile" "_moves" ["self"] (spMv K)) : OkM P w K mg base CX0 7 "Profile" "choices" ["self"] (spChs K) := by
  refine okd F (F.ok sc_Profile_choices (fun vs H Q E h => ?_) fun cdv A outer s H vs Q E hr h => ?_) fun _ _ _ _ _ _ us hl => match us, hl with | [_], _ => rfl
  · obtain ⟨q, g, p, sh, cs, o, mk, dx, M, sv, xs, st, dg, tn, dP, dN, n, i, f, rfl, _⟩ := h
    rfl
  · obtain ⟨q, g, p, sh, cs, o, mk, dx, M, sv, xs, st, dg, tn, dP, dN, n, i, f, rfl, hq, hg, hp, n1, n8, hz, k⟩ := h
    refine ⟨_, PSs.nox (pss_cons (ps_if (pt_cmpR op_eq (pe_fld (pv 0) rfl) (c_gint T.i_MOST_RUN_TICKS) (nomark _)) (pss_one (ps_ret (pe_lst pa_nil)))
  pss_nil)
  (pss_cons (ps_set (i := 1) sc_Profile_choices.nd rfl (Or.inr rfl) (c_fn O_look_flags hr (by decide) T.g_look_flags pass0 (pa_cons (pe_fld (pv 0) rfl) (pa_cons (c_me0 rfl (pv 0) T.c_Profile PM.m__spot O_Profile__spot hr (by decide) pass0) (pa_cons (c_me0 rfl (pv 0) T.c_Profile PM.m__has_come O_Profile__has_come hr (by decide) pass0) pa_nil)))))
  (pss_one (ps_ret (pe_lc2 (own := [("move", 2), ("due", 3)]) (vs1 := [3]) (tt1 := tYes) (g := gName 2) (tt := tYes) (by rfl) sc_Profile_choices.nd (pi_list (c_me0 rfl (pv 0) T.c_Profile PM.m__moves O_Profile__moves hr (by decide) pass0)) (blkOk_by (N := ["self", "flags", "move", "due"]) (sc := defScope s_Profile_choices) (by decide +kernel)) (by decide) (fun _ _ _ _ _ => (pg_name (i := 2) sc_Profile_choices.nd rfl (Or.inl rfl))) (fun _ _ _ _ _ => pts_nil) (fun _ _ _ _ _ => (pi_tupK (K := K) rfl (pv 1))) (fun _ _ _ _ _ => (pg_name (i := 3) sc_Profile_choices.nd rfl (Or.inl rfl))) (fun _ _ _ _ _ => pts_nil) (fun _ _ _ _ _ => (pe_tup (pa_cons (pv 2) (pa_cons (pv 3) pa_nil))))))))), ?_⟩
    refine ⟨_, rfl, q, _, dx, _, _, rfl, hq.hq, T.c_Profile, T.fT, pff_ticks, rfl, _, rfl, ite2 (fun hc => ?_) fun hc => ?_⟩
    · have e : cs.length = 2000 := by
        have := V.int.inj (of_decide_eq_true hc)
        omega
      refine ⟨(by show 0 ≤ sizeLine; decide), fun L nL => k _ L (same_new nL) nL ?_⟩
      have e2 : chA xs st i n sh cs o = [] := if_pos e
      rw [e2]
      exact ⟨[], upd_same, .nil⟩
    have hne : ¬ cs.length = 2000 := fun e => hc (decide_eq_true (by rw [e]; rfl))
    have ea : chA xs st i n sh cs o = chL xs st i sh (((sh + cs.length) % n : Nat) : Int) o := if_neg hne
    rw [ea] at k
    generalize hsl : (((sh + cs.length) % n : Nat) : Int) = sl at k
    refine ⟨_, rfl, q, _, dx, _, _, rfl, hq.hq, T.c_Profile, T.fS, pff_sampler, _, rfl, q, dx, _, rfl, hq.hq, pff_out, q, g, p, sh, cs, o, mk, dx, M, sv, n, i, f, rfl, hq, hp, n1, n8, ?_⟩
    rw [hsl]
    refine ⟨_, rfl, q, dx, _, rfl, hq.hq, pff_out, q, g, p, sh, cs, o, mk, dx, M, sv, n, i, f, rfl, hq, hp, n1, n8, ?_⟩
    rw [hsl]
    refine ⟨p, _, i, f, sl, hcB i sh sl o, rfl, hp, fun H1 a s1 ha => ?_⟩
    have hq1 := hq.ext s1
    have hg1 := hg.ext s1
    refine ⟨_, rfl, q, dx, _, rfl, hq1.hq, pff_out, q, g, p, sh, cs, o, mk, dx, M, sv, xs, st, dg, tn, dP, dN, rfl, hq1, hg1, hz, fun H2 Lm s12 nLm hLm => ?_⟩
    have ha2 := s12 _ _ ha
    have s2 := s1.trans s12
    have hm7 := mvs_len hg.l6 st o
    generalize hms : mvs xs st o = ms at hLm hm7
    generalize hfl : flL i sl (hcB i sh sl o) = fs at ha2
    have hf2 : fs.length ≤ 2 := by rw [← hfl]; exact flL_len ..
    have ec : chL xs st i sh sl o = ms.flatMap fun mv => fs.map fun d => ((mv, d) : Ch) := by rw [← hms, ← hfl]; rfl
    rw [ec] at k
    refine ⟨Lm, rfl, ⟨_, SqL.of hLm⟩, fun D nD => lc2_it walk_list (fun j H' => Same H2 H' ∧ ChsA H' D ((ms.take j).flatMap fun mv => fs.map fun d => ((mv, d) : Ch))) ⟨same_new nD, [], upd_same, .nil⟩ (fun j H' _ h => SqL.of (h.1 _ _ hLm)) ?_ ?_⟩
    · rintro j x H5 H' hj ⟨s25, hD⟩ ⟨rfl, hx⟩
      rw [List.length_map] at hj
      have hmj : ms[j]? = some ms[j] := List.getElem?_eq_getElem hj
      generalize ms[j] = mv at hmj
      obtain rfl : x = mvV mv := by
        rw [List.getElem?_map, hmj] at hx
        exact (Option.some.inj hx).symm
      have enx : (ms.take (j + 1)).flatMap (fun mv => fs.map fun d => ((mv, d) : Ch)) = (ms.take j).flatMap (fun mv => fs.map fun d => ((mv, d) : Ch)) ++ fs.map fun d => ((mv, d) : Ch) := by
        rw [List.take_add_one, hmj, List.flatMap_append]
        show _ ++ ((fs.map fun d => ((mv, d) : Ch)) ++ []) = _
        rw [List.append_nil]
      have hle : ((ms.take j).flatMap fun mv => fs.map fun d => ((mv, d) : Ch)).length ≤ 14 := by
        have h2 := flat_len2 (fun mv => fs.map fun d => ((mv, d) : Ch)) 2 (fun a => by rw [List.length_map]; exact hf2) (ms.take j)
        have h3 : (ms.take j).length ≤ ms.length := List.length_take_le' ..
        omega
      refine ⟨rfl, _, rfl, a, rfl, ⟨_, SqT.of (s25 _ _ ha2)⟩, ?_⟩
      refine lc2_in walk_tup (fun t H' => Same H2 H' ∧ ChsA H' D ((ms.take j).flatMap (fun mv => fs.map fun d => ((mv, d) : Ch)) ++ (fs.take t).map fun d => ((mv, d) : Ch))) ⟨s25, by simpa using hD⟩ (fun t H' _ h => SqT.of (h.1 _ _ ha2)) ?_ ?_
      · rintro t x H6 H7 ht ⟨sg6, hD6⟩ ⟨rfl, hx⟩
        rw [List.length_map] at ht
        have hft : fs[t]? = some fs[t] := List.getElem?_eq_getElem ht
        generalize fs[t] = d at hft
        obtain rfl : x = .bl d := by
          rw [List.getElem?_map, hft] at hx
          exact (Option.some.inj hx).symm
        refine ⟨rfl, _, rfl, _, rfl, (by show 2 ≤ sizeLine; decide), fun r nr => ?_⟩
        have sr := same_new (o := .tup [mvV mv, .bl d]) nr
        have hD7 := hD6.ext sr
        obtain ⟨acc, hacc, hl⟩ := hD7.len
        refine ⟨acc, hacc, ?_, same_app (sg6.trans sr) (Same.refl _) nD, ?_⟩
        · rw [hl, List.length_append, List.length_map, List.length_take]
          exact Nat.lt_of_le_of_lt (show _ ≤ 16 by omega) (by decide)
        · rw [List.take_add_one, hft, List.map_append, ← List.append_assoc]
          exact hD7.add hacc upd_same rfl
      · rintro H6 ⟨sg6, hD6⟩
        rw [List.length_map, List.take_length] at hD6
        exact ⟨sg6, by rw [enx]; exact hD6⟩
    rintro H6 ⟨s26, hD⟩
    rw [List.length_map, List.take_length] at hD
    exact k _ D (s2.trans s26) (none_of s2 nD) hD
end
end K32

set_option Elab.async false
set_option linter.all false
set_option pp.deepTerms.threshold 14
set_option pp.maxSteps 2500
set_option maxRecDepth 100000
set_option maxHeartbeats 2000000
namespace K32
open PySem PySem.Spec PyProof.Rows L2 Vf
section
variable {P : Program} {w : World} {K : PySem.W.Frag} {mg : Str → Option Value} {base : Heap}
/-- x is no tuple -/
inductive NoTp (H : Hp) : V → Prop where
  | int (i : Int) : NoTp H (.int i)
  | str (z : Str) : NoTp H (.str z)
  | bl (b : Bool) : NoTp H (.bl b)
  | non : NoTp H .non
  | lst {a : Addr} {xs : List V} (h : H a = some (.lst xs)) : NoTp H (.ref a)
  | dic {a : Addr} {kvs : List (Key × V)} (h : H a = some (.dK kvs)) : NoTp H (.ref a)
theorem noTp_ty (K : PySem.W.Frag) {H : Hp} {x : V} (o : NoTp H x) : ∃ t, TyX K H x t ∧ PySem.W.kitOne K t (.type "tuple") = some false := by
  cases o with
  | int i => exact ⟨_, .base (.int _), kit_ty (by decide +kernel)⟩
  | str i => exact ⟨_, .base (.str _), kit_ty (by decide +kernel)⟩
  | bl i => exact ⟨_, .base (.bl _), kit_ty (by decide +kernel)⟩
  | non => exact ⟨_, .base .non, kit_ty (by decide +kernel)⟩
  | lst h => exact ⟨_, .base (.lst h), kit_ty (by decide +kernel)⟩
  | dic h => exact ⟨_, .base (.dK h), kit_ty (by decide +kernel)⟩
theorem NoTp.ext {H H' : Hp} {x : V} (o : NoTp H x) (s : Same H H') : NoTp H' x := by
  cases o with
  | int i => exact .int i
  | str i => exact .str i
  | bl i => exact .bl i
  | non => exact .non
  | lst h => exact .lst (s _ _ h)
  | dic h => exact .dic (s _ _ h)
/-- x is none of the choices cs -/
def NotCh (H : Hp) (x : V) (cs : List Ch) : Prop := NoTp H x ∨ ∃ r, x = .ref r ∧ ((∃ ts, H r = some (.tup ts) ∧ ts.length ≠ 2) ∨ (∃ a b, H r = some (.tup [a, b]) ∧ OddB H b) ∨ ∃ c, ChA H r c ∧ ChS c ∧ c ∉ cs)
theorem NotCh.ext {H H' : Hp} {x : V} {cs : List Ch} (o : NotCh H x cs) (s : Same H H') : NotCh H' x cs := by
  rcases o with o | ⟨r, e, ⟨ts, h, hl⟩ | ⟨a, b, h, o⟩ | ⟨c, h, hs, hn⟩⟩
  · exact .inl (o.ext s)
  · exact .inr ⟨r, e, .inl ⟨ts, s _ _ h, hl⟩⟩
  · exact .inr ⟨r, e, .inr (.inl ⟨a, b, s _ _ h, oddB_ext o s⟩)⟩
  · exact .inr ⟨r, e, .inr (.inr ⟨c, h.ext s, hs, hn⟩)⟩
theorem two_of {α : Type} {ts : List α} (h : ts.length = 2) : ∃ a b, ts = [a, b] := by
  match ts, h with
  | [a, b], _ => exact ⟨a, b, rfl⟩
theorem sc_is_one_of_choices : FnScope ["choice", "choices"] ["choice", "choices"] (defScope s_is_one_of_choices) := ⟨rfl, rfl, rfl, by decide +kernel, rfl, by decide +kernel, by decide +kernel⟩
-- slots: 0 choice, 1 choices
def spOneCh (K : PySem.W.Frag) : Sp := fun vs H Q _ => ∃ (x : V) (L : Addr) (cs : List Ch), vs = [x, .ref L] ∧ ChsA H L cs ∧ (∀ c ∈ cs, ChS c) ∧
  ((∃ r c, x = .ref r ∧ ChA H r c ∧ ChS c ∧ c ∈ cs ∧ Q (.bl true) H) ∨ (NotCh H x cs ∧ Q (.bl false) H))
theorem ok_is_one_of_choices {fd : FuncData} (F : FnD K ("is_one_of_choices", none) "is_one_of_choices" "is_one_of_choices" s_is_one_of_choices fd) (T : LvTxt K mg) (O_is_flag : OkF P w K mg base CX0 1 "is_flag" ["x"] spFlag) : OkF P w K mg base CX0 2 "is_one_of_choices" ["choice", "choices"] (spOneCh K) := by
  refine okd F (F.ok sc_is_one_of_choices (fun vs H Q E h => ?_) fun cdv A outer s H vs Q E hr h => ?_) fun _ _ _ _ _ _ us hl => match us, hl with | [_, _], _ => rfl
  · obtain ⟨x, L, cs, rfl, _⟩ := h
    rfl
  · obtain ⟨x, L, cs, rfl, hL, hcs, h⟩ := h
    refine ⟨_, PSs.nox (pss_one (ps_ret (pe_and (pe_callB (id := "isinstance") call_isi (by rfl) T.z_isinstance (by decide +kernel) (pa_cons (pv 0) (pa_cons (pe_ty (n := "tuple") T.z_tuple (by decide +kernel)) pa_nil))) (pe_and (pe_cmpR op_eq (pe_callB (id := "len") call_len_seq (by rfl) T.z_len (by decide +kernel) (pa_cons (pv 0) pa_nil)) pe_int (nomark _)) (pe_and (c_fn O_is_flag hr (by decide) T.g_is_flag pass0 (pa_cons (pe_ix ix_tup (pv 0) pe_int (fun _ _ => rfl)) pa_nil)) (pe_one (pe_cmpR (op_inD (room65 hr)) (pv 0) (pv 1) rfl))))))), ?_⟩
    rcases h with ⟨r, c, rfl, hr, hs, hc, k⟩ | ⟨o | ⟨r, rfl, ⟨ts, hr, hl⟩ | ⟨a, b, hr, o⟩ | ⟨c, hr, hs, hn⟩⟩, k⟩
    · have hr' : H r = some (.tup [mvV c.1, .bl c.2]) := hr
      refine ⟨_, rfl, .ref r, .ty "tuple", .type "tuple", .type "tuple", true, rfl, .ty _, .base (.tup hr'), kit_ty (by decide +kernel), true, rfl, iteT ⟨_, rfl, r, _, rfl, .inr (SqT.of hr'), rfl, true, rfl, iteT ?_⟩⟩
      refine ⟨_, rfl, r, _, 1, .bl c.2, rfl, rfl, SqT.of hr', atI1, _, rfl, .inl ⟨c.2, rfl, true, rfl, iteT ?_⟩⟩
      obtain ⟨rs, h1, h2⟩ := hL
      refine ⟨_, rfl, _, rfl, chD c, cs.map chD, ch_dp hr, .lst (SqL.of h1) (chs_dp h2), ch_sh c hs, chs_sh hcs, ?_⟩
      rw [ch_any, decide_eq_true hc]
      exact k
    · obtain ⟨t, ht, hk⟩ := noTp_ty K o
      exact ⟨_, rfl, x, .ty "tuple", t, .type "tuple", false, rfl, .ty _, ht, hk, false, rfl, iteF k⟩
    · exact ⟨_, rfl, .ref r, .ty "tuple", .type "tuple", .type "tuple", true, rfl, .ty _, .base (.tup hr), kit_ty (by decide +kernel), true, rfl, iteT ⟨_, rfl, r, _, rfl, .inr (SqT.of hr), rfl, false, congrArg V.bl (decide_eq_false fun z => hl (by have := V.int.inj z; omega)), iteF k⟩⟩
    · refine ⟨_, rfl, .ref r, .ty "tuple", .type "tuple", .type "tuple", true, rfl, .ty _, .base (.tup hr), kit_ty (by decide +kernel), true, rfl, iteT ⟨_, rfl, r, _, rfl, .inr (SqT.of hr), rfl, true, rfl, iteT ?_⟩⟩
      exact ⟨_, rfl, r, _, 1, b, rfl, rfl, SqT.of hr, atI1, _, rfl, .inr ⟨o, false, rfl, iteF k⟩⟩
    · have hr' : H r = some (.tup [mvV c.1, .bl c.2]) := hr
      refine ⟨_, rfl, .ref r, .ty "tuple", .type "tuple", .type "tuple", true, rfl, .ty _, .base (.tup hr'), kit_ty (by decide +kernel), true, rfl, iteT ⟨_, rfl, r, _, rfl, .inr (SqT.of hr'), rfl, true, rfl, iteT ?_⟩⟩
      refine ⟨_, rfl, r, _, 1, .bl c.2, rfl, rfl, SqT.of hr', atI1, _, rfl, .inl ⟨c.2, rfl, true, rfl, iteT ?_⟩⟩
      obtain ⟨rs, h1, h2⟩ := hL
      refine ⟨_, rfl, _, rfl, chD c, cs.map chD, ch_dp hr, .lst (SqL.of h1) (chs_dp h2), ch_sh c hs, chs_sh hcs, ?_⟩
      rw [ch_any, decide_eq_false hn]
      exact k
end
end K32

set_option Elab.async false
set_option linter.all false
set_option pp.deepTerms.threshold 14
set_option pp.maxSteps 2500
set_option maxRecDepth 100000
set_option maxHeartbeats 2000000
namespace K32
open PySem PySem.Spec PyProof.Rows L2 Vf
section
variable {P : Program} {w : World} {K : PySem.W.Frag} {mg : Str → Option Value} {base : Heap}
theorem mv_z {xs : List PgE} {st : Str} {o : Option Tk} (hst : st ∈ zsOf xs) {mv : Option Str} (h : mv ∈ mvs xs st o) : (∀ z, mv = some z → z ∈ zsOf xs) ∧ (mv = none → ∃ k, o = some k) := by
  cases o with
  | none =>
    obtain rfl : mv = some st := List.mem_singleton.mp h
    exact ⟨fun z e => Option.some.inj e ▸ hst, fun e => nomatch e⟩
  | some k =>
    refine ⟨fun z e => ?_, fun _ => ⟨k, rfl⟩⟩
    subst e
    rcases List.mem_append.mp h with h | h
    · split at h
      · have := List.mem_singleton.mp h
        cases this
      · cases h
    · split at h
      · obtain ⟨u, hu, e⟩ := List.mem_map.mp h
        cases e
        exact (List.mem_filter.mp hu).1
      · cases h
theorem chL_mem {xs : List PgE} {st : Str} {i : Int} {sh : Nat} {sl : Int} {o : Option Tk} {c : Ch} (h : c ∈ chL xs st i sh sl o) : c.1 ∈ mvs xs st o ∧ c.2 ∈ flL i sl (hcB i sh sl o) := by
  obtain ⟨mv, hm, h⟩ := List.mem_flatMap.mp h
  obtain ⟨d, hd, rfl⟩ := List.mem_map.mp h
  exact ⟨hm, hd⟩
theorem chA_mem {xs : List PgE} {st : Str} {i : Int} {n sh : Nat} {cs : List Ch} {o : Option Tk} {c : Ch} (h : c ∈ chA xs st i n sh cs o) : cs.length ≠ 2000 ∧ c ∈ chL xs st i sh (((sh + cs.length) % n : Nat) : Int) o := by
  unfold chA at h
  split at h
  · cases h
  · rename_i e
    exact ⟨e, h⟩
theorem chA_S {xs : List PgE} {st : Str} {i : Int} {n sh : Nat} {cs : List Ch} {o : Option Tk} (hst : st ∈ zsOf xs) (nm : ∀ z ∈ zsOf xs, nmB z = true) : ∀ c ∈ chA xs st i n sh cs o, ChS c := fun c h z e => nm_ok (nm z ((mv_z hst (chL_mem (chA_mem h).2).1).1 z e))
def wtO : Option Tk → Bool
  | some k => k.wt
  | none => false
theorem nxT_eq (ys : List PgE) (bg : Str) (i : Int) (sh : Nat) (sl : Int) (o : Option Tk) (c : Ch) : (nxT ys bg i sh sl o c).sl = sl ∧ (nxT ys bg i sh sl o c).dn = (hcB i sh sl o || c.2) ∧ (nxT ys bg i sh sl o c).wt = ((wtO o || c.2) && !(rowQ ys (nxT ys bg i sh sl o c).z).b) ∧ (nxT ys bg i sh sl o c).nt = ((wtO o || c.2) && (rowQ ys (nxT ys bg i sh sl o c).z).b) := by
  cases o <;> exact ⟨rfl, rfl, rfl, rfl⟩
theorem ChsA.snoc {H H' : Hp} {q C dx M M' r : Addr} {fs : List (Str × V)} {cs : List Ch} {c : Ch} {vs : List V} (h : ChsA H M cs) (hv : H M = some (.lst vs)) (hq : H q = some (.ins C dx fs)) (x : SameX q H H') (hr : ChA H r c) (hM : H' M' = some (.lst (vs ++ [.ref r]))) : ChsA H' M' (cs ++ [c]) := by
  obtain ⟨rs, h1, h2⟩ := h
  rw [hv] at h1
  cases h1
  have kp : ∀ {r : Addr} {c : Ch}, ChA H r c → ChA H' r c := fun {r c} e => by
    have e : H r = some (.tup [mvV c.1, .bl c.2]) := e
    exact x _ _ (ne_of e hq (by intro z; cases z)) e
  exact ⟨rs ++ [r], by rw [hM, List.map_append]; rfl, paired_snoc (kp hr) (paired_imp (fun r c e => kp e) h2)⟩
theorem sc_Profilego_on : FnScope ["self", "choice", "move", "due", "waits", "name", "spent", "place", "state", "noted"] ["self", "choice"] (defScope s_Profilego_on) := ⟨rfl, rfl, rfl, by decide +kernel, rfl, by decide +kernel, by decide +kernel⟩
-- slots: 0 self, 1 choice, 2 move, 3 due, 4 waits, 5 name, 6 spent, 7 place, 8 state, 9 noted
/-- what a choice does to the profile at q -/
def spGo (K : PySem.W.Frag) : Sp := fun vs H Q E => ∃ (q g p : Addr) (sh : Nat) (cs : List Ch) (o : Option Tk) (mk : V) (dx M : Addr) (sv : V) (xs : List PgE) (st : Str) (dg tn dP dN : Addr) (n : Nat) (i : Int) (f : V) (x : V), vs = [.ref q, x] ∧ PfA K H q g p sh cs o mk dx M sv ∧ PgA K H g xs st dg tn dP dN ∧ SaA (CS K) H p (n : Int) i f ∧ 1 ≤ n ∧ n ≤ 8 ∧ (∀ k, o = some k → k.z ∈ zsOf xs) ∧ st ∈ zsOf xs ∧ cs.length ≤ 2000 ∧
  ((∃ r c, x = .ref r ∧ ChA H r c ∧ c ∈ chA xs st i n sh cs o ∧ ∀ H' M' sv', SameX q H H' → H M' = none → PfA K H' q g p sh (cs ++ [c]) (some (nxT xs st i sh (((sh + cs.length) % n : Nat) : Int) o c)) mk dx M' sv' → Q (if (nxT xs st i sh (((sh + cs.length) % n : Nat) : Int) o c).nt = true then .str (nxT xs st i sh (((sh + cs.length) % n : Nat) : Int) o c).z else .non) H') ∨
   (NotCh H x (chA xs st i n sh cs o) ∧ ∀ H1 d, Same H H1 → H1 d = none → E (.ref (He.ga K "BadChoice")) (some d) (upd H1 d (.xd [("index", .int (cs.length : Int))]))))
theorem ok_Profile_go_on {fd : FuncData} (F : FnD K ("Profile", some "_go_on") "_go_on" "Profile._go_on" s_Profilego_on fd) (T : LvTxt K mg) (PM : PMeth K) (MG : GMeth K) (O_getitem : OkM P w K mg base (L2.CX P w) 4 "Program" "__getitem__" ["self", "at"] (spGet K)) (O_is_one_of_choices : OkF P w K mg base CX0 2 "is_one_of_choices" ["choice", "choices"] (spOneCh K)) (O_pair_at : OkF P w K mg base CX0 1 "pair_at" ["place", "spent", "slot", "done", "waits"] (spPA K))
    (O_Profile__spot : OkM P w K mg base CX0 1 "Profile" "_spot" ["self"] (spSpt K)) (O_Profile__has_come : OkM P w K mg base CX0 2 "Profile" "_has_come" ["self"] (spHc K)) (O_Profile_choices : OkM P w K mg base CX0 7 "Profile" "choices" ["self"] (spChs K)) (O_BadChoice_init : OkD P w K mg base CX0 1 ("BadChoice", some "__init__") ["self", "index"] [] (spExI K (He.ga K "BadChoice") "index")) : OkM P w K mg base (L2.CX P w) 8 "Profile" "_go_on" ["self", "choice"] (spGo K) := by
  refine okd F (F.ok sc_Profilego_on (fun vs H Q E h => ?_) fun cdv A outer s H vs Q E hr h => ?_) fun _ _ _ _ _ _ us hl => match us, hl with | [_, _], _ => rfl
  · obtain ⟨q, g, p, sh, cs, o, mk, dx, M, sv, xs, st, dg, tn, dP, dN, n, i, f, x, rfl, _⟩ := h
    rfl
  · obtain ⟨q, g, p, sh, cs, o, mk, dx, M, sv, xs, st, dg, tn, dP, dN, n, i, f, x, rfl, hq, hg, hp, n1, n8, hz, hst, hcs, k⟩ := h
    refine ⟨_, (pss_cons (ps_if (pt_not (pt_val (c_fn O_is_one_of_choices hr (by decide) T.g_is_one_of_choices pass0 (pa_cons (pv 1) (pa_cons (c_me0 rfl (pv 0) T.c_Profile PM.m_choices O_Profile_choices hr (by decide) pass0) pa_nil))))) (pss_one (c_raise T.x_BadChoice O_BadChoice_init hr (by decide) T.g_BadChoice (takes_of rfl rfl rfl rfl) (pa_cons (pe_fld (pv 0) rfl) pa_nil)))
  pss_nil)
  (pss_cons (ps_asg (pv 1) (pg_tup rfl (pgs_cons (pg_name (i := 2) sc_Profilego_on.nd rfl (Or.inl rfl)) (pgs_cons (pg_name (i := 3) sc_Profilego_on.nd rfl (Or.inl rfl)) pgs_nil))))
  (pss_cons (ps_set (i := 4) sc_Profilego_on.nd rfl (Or.inl rfl) (pe_andB (pe_cmpR op_notN (pe_fld (pv 0) rfl) pe_non (nomark _)) (pe_one (pe_ix ix_tup (pe_fld (pv 0) rfl) pe_int (fun _ _ => rfl)))))
  (pss_cons (ps_asg (pe_weak (pe_ifExp (pt_cmpR op_notN (pv 2) pe_non (nomark _)) (pe_tup (pa_cons (pv 2) (pa_cons pe_int pa_nil))) (pe_tup (pa_cons (pe_ix ix_tup (pe_fld (pv 0) rfl) pe_int (fun _ _ => rfl)) (pa_cons (pe_op op_add (pe_ix ix_tup (pe_fld (pv 0) rfl) pe_int (fun _ _ => rfl)) pe_int) pa_nil))))) (pg_tup rfl (pgs_cons (pg_name (i := 5) sc_Profilego_on.nd rfl (Or.inl rfl)) (pgs_cons (pg_name (i := 6) sc_Profilego_on.nd rfl (Or.inl rfl)) pgs_nil))))
  (pss_cons (ps_set (i := 7) sc_Profilego_on.nd rfl (Or.inl rfl) (pe_subO (pe_fld (pv 0) rfl) (pv 5) MG.m_getitem MG.f_getitem O_getitem hr (by decide) passL))
  (pss_cons (ps_asg (c_fn O_pair_at hr (by decide) T.g_pair_at pass0 (pa_cons (pv 7) (pa_cons (pv 6) (pa_cons (c_me0 rfl (pv 0) T.c_Profile PM.m__spot O_Profile__spot hr (by decide) pass0) (pa_cons (pe_orB (c_me0 rfl (pv 0) T.c_Profile PM.m__has_come O_Profile__has_come hr (by decide) pass0) (pe_one (pv 3))) (pa_cons (pe_orB (pv 4) (pe_one (pv 3))) pa_nil)))))) (pg_tup rfl (pgs_cons (pg_name (i := 8) sc_Profilego_on.nd rfl (Or.inl rfl)) (pgs_cons (pg_name (i := 9) sc_Profilego_on.nd rfl (Or.inl rfl)) pgs_nil))))
  (pss_cons (ps_fld (pv 0) (pv 8) rfl)
  (pss_cons (ps_fld (pv 0) (pe_op op_cat (pe_fld (pv 0) rfl) (pe_lst (pa_cons (pv 1) pa_nil))) rfl)
  (pss_cons (ps_fld (pv 0) (pe_op op_add (pe_fld (pv 0) rfl) pe_int) rfl)
  (pss_one (ps_ret (pe_weak (pe_ifExp (pt_val (pv 9)) (pv 5) pe_non))))))))))))), ?_⟩
    refine ⟨_, rfl, _, rfl, q, dx, _, rfl, hq.hq, pff_out, q, g, p, sh, cs, o, mk, dx, M, sv, xs, st, dg, tn, dP, dN, n, i, f, rfl, hq, hg, hp, n1, n8, hz, fun H1 L s1 nL hL => ?_⟩
    have hq1 := hq.ext s1
    have hS : ∀ c ∈ chA xs st i n sh cs o, ChS c := chA_S hst hg.nm
    refine ⟨x, L, _, rfl, hL, hS, ?_⟩
    rcases k with ⟨r, c, rfl, hr, hc, k⟩ | ⟨hno, k⟩
    rotate_left
    · refine .inr ⟨hno.ext s1, false, rfl, iteT ?_⟩
      exact ⟨_, rfl, q, _, dx, _, _, rfl, hq1.hq, T.c_Profile, T.fT, pff_ticks, _, rfl, fun d hd => k H1 d s1 hd⟩
    refine .inl ⟨r, c, rfl, hr.ext s1, hS c hc, hc, true, rfl, iteF ?_⟩
    obtain ⟨hne, hcl⟩ := chA_mem hc
    obtain ⟨hmv, hfl⟩ := chL_mem hcl
    obtain ⟨hmz, hmn⟩ := mv_z hst hmv
    generalize hsl : (((sh + cs.length) % n : Nat) : Int) = sl at k
    have hr1 : H1 r = some (.tup [mvV c.1, .bl c.2]) := hr.ext s1
    refine ⟨_, rfl, r, _, rfl, SqT.of hr1, rfl, _, _, rfl, _, _, rfl, rfl, ?_⟩
    -- does one wait
    have hs1 := hq1.hs
    refine ⟨_, rfl, q, _, dx, _, _, rfl, hq1.hq, T.c_Profile, T.fA, pff_state, rfl, _, wtO o, (· = H1), rfl, fun hc => ?_, fun hc => ?_, fun H2 e => ?_⟩
    · cases o with
      | none =>
        obtain rfl := hs1
        cases hc
      | some kk =>
        obtain ⟨t, rfl, ht⟩ := hs1
        exact ⟨_, rfl, q, _, dx, _, _, rfl, hq1.hq, T.c_Profile, T.fA, pff_state, t, _, 4, _, rfl, rfl, SqT.of ht, atI_nat (j := 4) rfl, rfl, rfl⟩
    · rfl
    subst e
    have ew : (!decide (sv = V.non) && wtO o) = wtO o := by
      cases o with
      | none => exact Bool.and_false _
      | some kk =>
        obtain ⟨t, rfl, _⟩ := hs1
        rfl
    rw [ew]
    generalize hk : nxT xs st i sh sl o c = kn at k
    obtain ⟨ek1, ek2, ek3, ek4⟩ := nxT_eq xs st i sh sl o c
    rw [hk] at ek1 ek2 ek3 ek4
    have hknz : kn.z ∈ zsOf xs := by
      rw [← hk]
      obtain ⟨mv, d⟩ := c
      cases mv with
      | some z => cases o <;> exact hmz z rfl
      | none =>
        obtain ⟨kk, rfl⟩ := hmn rfl
        exact hz kk rfl
    refine ⟨fun v H' => ∃ t, v = .ref t ∧ Same H2 H' ∧ H' t = some (.tup [.str kn.z, .int kn.sp]), ?_, ?_⟩
    · obtain ⟨mv, d⟩ := c
      cases mv with
      | some z =>
        have e1 : kn.z = z ∧ kn.sp = 1 := by rw [← hk]; cases o <;> exact ⟨rfl, rfl⟩
        rw [e1.1, e1.2]
        exact ⟨_, rfl, rfl, _, rfl, iteT ⟨_, rfl, (by show 2 ≤ sizeLine; decide), fun t nt => ⟨t, rfl, same_new nt, upd_same⟩⟩⟩
      | none =>
        obtain ⟨kk, rfl⟩ := hmn rfl
        obtain ⟨t, rfl, ht⟩ := hs1
        have e1 : kn.z = kk.z ∧ kn.sp = kk.sp + 1 := by rw [← hk]; exact ⟨rfl, rfl⟩
        rw [e1.1, e1.2]
        exact ⟨_, rfl, rfl, _, rfl, iteF ⟨_, rfl, q, _, dx, _, _, rfl, hq1.hq, T.c_Profile, T.fA, pff_state, t, _, 0, _, rfl, rfl, SqT.of ht, atI0, _, rfl, q, _, dx, _, _, rfl, hq1.hq, T.c_Profile, T.fA, pff_state, t, _, 1, _, rfl, rfl, SqT.of ht, atI1, _, _, rfl, rfl, (by show 2 ≤ sizeLine; decide), fun t nt => ⟨t, rfl, same_new nt, upd_same⟩⟩⟩
    rintro v H3 ⟨t, rfl, s23, ht3⟩
    have sg3 := s1.trans s23
    have hq3 := hq.ext sg3
    have hg3 := hg.ext sg3
    have hp3 := hp.ext sg3
    obtain ⟨iy, y, hy, hyz⟩ := row_of hknz
    have hrq : rowQ xs kn.z = y.2.2 := by rw [← hyz]; exact rowQ_row hg.nd hy
    rw [hrq] at ek3 ek4
    refine ⟨t, _, rfl, SqT.of ht3, rfl, _, _, rfl, _, _, rfl, rfl, ?_⟩
    refine ⟨_, rfl, q, _, dx, _, _, rfl, hq3.hq, T.c_Profile, T.fP, pff_program, _, rfl, g, dg, _, rfl, hg3.hg, g, _, xs, st, dg, tn, dP, dN, rfl, hg3, .inl ⟨iy, y, hy, by rw [hyz], ?_⟩⟩
    refine ⟨_, rfl, _, rfl, _, rfl, q, dx, _, rfl, hq3.hq, pff_out, q, g, p, sh, cs, o, mk, dx, M, sv, n, i, f, rfl, hq3, hp3, n1, n8, ?_⟩
    rw [hsl]
    refine ⟨_, rfl, q, dx, _, rfl, hq3.hq, pff_out, q, g, p, sh, cs, o, mk, dx, M, sv, n, i, f, rfl, hq3, hp3, n1, n8, ?_⟩
    rw [hsl]
    refine ⟨hcB i sh sl o, c.2, (· = H3), rfl, fun _ => ⟨_, rfl, rfl, rfl⟩, fun _ => rfl, fun H4 e => ?_⟩
    subst e
    refine ⟨_, rfl, wtO o, c.2, (· = H4), rfl, fun _ => ⟨_, rfl, rfl, rfl⟩, fun _ => rfl, fun H5 e => ?_⟩
    subst e
    refine ⟨y.1, y.2.2.z, y.2.2.l, y.2.2.m, y.2.2.b, kn.sp, sl, _, _, rfl, hg3.pl y (List.mem_of_getElem? hy), fun H6 r2 t2 s56 hr2 ht2 => ?_⟩
    rw [hyz, ← ek3, ← ek2, ← ek1] at ht2
    rw [← ek4] at hr2
    refine ⟨r2, _, rfl, SqT.of hr2, rfl, _, _, rfl, _, _, rfl, rfl, ?_⟩
    have sg6 := sg3.trans s56
    have hq6 := hq.ext sg6
    have hr6 := hr.ext sg6
    have hM6 := hq6.hM
    obtain ⟨vs, hvs, hvl⟩ := hM6.len
    have nMq : M ≠ q := ne_of hvs hq6.hq (by intro z; cases z)
    refine ⟨_, rfl, _, rfl, q, _, dx, _, rfl, hq6.hq, T.c_Profile, T.fA, pff_len, ?_⟩
    rw [pff_setA]
    have x67 : SameX q H6 (upd H6 q (.ins (CPf K) dx (pff (cs.length : Int) g p (sh : Int) M (.ref t2) mk))) := SameX.upd
    have hq7 : (upd H6 q (.ins (CPf K) dx (pff (cs.length : Int) g p (sh : Int) M (.ref t2) mk))) q = some (.ins (CPf K) dx (pff (cs.length : Int) g p (sh : Int) M (.ref t2) mk)) := upd_same
    generalize upd H6 q (.ins (CPf K) dx (pff (cs.length : Int) g p (sh : Int) M (.ref t2) mk)) = H7 at x67 hq7 ⊢
    refine ⟨_, rfl, q, _, dx, _, _, rfl, hq7, T.c_Profile, T.fM, pff_made, _, rfl, (by show 1 ≤ sizeLine; decide), fun D nD => ?_⟩
    have sD := same_new (o := .lst [V.ref r]) nD
    refine ⟨M, D, vs, _, rfl, rfl, sD _ _ (x67 _ _ nMq hvs), upd_same, ?_, fun M' nM' => ?_⟩
    · rw [hvl]
      exact Nat.le_trans (show _ ≤ 2001 by show cs.length + 1 ≤ 2001; omega) (by decide)
    have nM7 : H7 M' = none := none_of sD nM'
    have nMq0 : M' ≠ q := fun z => by rw [z, hq7] at nM7; cases nM7
    have nM0 : H M' = none := none_of sg6 (by
      cases e : H6 M' with
      | none => rfl
      | some o =>
        have := x67 _ _ nMq0 e
        rw [nM7] at this
        cases this)
    have sM := sD.trans (same_new (o := .lst (vs ++ [.ref r])) nM')
    have hM' : (upd (upd H7 D (.lst [V.ref r])) M' (.lst (vs ++ [.ref r]))) M' = some (.lst (vs ++ [.ref r])) := upd_same
    have hq8 := sM _ _ hq7
    generalize upd (upd H7 D (.lst [V.ref r])) M' (.lst (vs ++ [.ref r])) = H8 at sM hM' hq8 ⊢
    have nMq' : M' ≠ q := ne_of hM' hq8 (by intro z; cases z)
    refine ⟨_, rfl, q, _, dx, _, rfl, hq8, T.c_Profile, T.fM, pff_len, ?_⟩
    rw [pff_setM]
    refine ⟨_, rfl, q, _, dx, _, _, rfl, upd_same, T.c_Profile, T.fT, pff_ticks, _, _, rfl, rfl, _, rfl, q, _, dx, _, rfl, upd_same, T.c_Profile, T.fT, pff_len, ?_⟩
    rw [upd_upd, pff_setT]
    have x69 : SameX q H6 (upd H8 q (.ins (CPf K) dx (pff ((cs.length : Int) + 1) g p (sh : Int) M' (.ref t2) mk))) := (x67.trans (same_x sM)).trans SameX.upd
    have hq9 : (upd H8 q (.ins (CPf K) dx (pff ((cs.length : Int) + 1) g p (sh : Int) M' (.ref t2) mk))) q = some (.ins (CPf K) dx (pff ((cs ++ [c]).length : Int) g p (sh : Int) M' (.ref t2) mk)) := by
      rw [upd_same, List.length_append]
      rfl
    have hM9 : (upd H8 q (.ins (CPf K) dx (pff ((cs.length : Int) + 1) g p (sh : Int) M' (.ref t2) mk))) M' = some (.lst (vs ++ [.ref r])) := by rw [upd_ne nMq']; exact hM'
    generalize upd H8 q (.ins (CPf K) dx (pff ((cs.length : Int) + 1) g p (sh : Int) M' (.ref t2) mk)) = H9 at x69 hq9 hM9 ⊢
    have ht9 : H9 t2 = some (.tup [.str kn.z, .int kn.sp, .int kn.sl, .bl kn.dn, .bl kn.wt]) := x69 _ _ (ne_of ht2 hq6.hq (by intro z; cases z)) ht2
    have fin := k H9 M' (.ref t2) ((same_x sg6).trans x69) nM0 ⟨hq9, hM6.snoc hvs hq6.hq x69 hr6 hM9, t2, rfl, ht9⟩
    refine ⟨fun v H' => v = (if kn.nt = true then .str kn.z else .non) ∧ H' = H9, ?_, ?_⟩
    · refine ⟨_, rfl, _, rfl, ite2 (fun hc => ?_) fun hc => ?_⟩
      · rw [if_pos hc]
        exact ⟨_, rfl, rfl, rfl⟩
      · rw [if_neg hc]
        exact ⟨rfl, rfl⟩
    · rintro v H' ⟨rfl, rfl⟩
      exact fin
end
end K32

set_option Elab.async false
set_option linter.all false
set_option pp.deepTerms.threshold 14
set_option pp.maxSteps 2500
set_option maxRecDepth 100000
set_option maxHeartbeats 2000000
namespace K32
open PySem PySem.Spec PyProof.Rows L2 Vf
section
variable {P : Program} {w : World} {K : PySem.W.Frag} {mg : Str → Option Value} {base : Heap}
theorem sc_Profile_call : FnScope ["self", "choice"] ["self", "choice"] (defScope s_Profile_call) := ⟨rfl, rfl, rfl, by decide +kernel, rfl, by decide +kernel, by decide +kernel⟩
-- slots: 0 self, 1 choice
theorem ok_Profile_call {fd : FuncData} (F : FnD K ("Profile", some "__call__") "__call__" "Profile.__call__" s_Profile_call fd) (T : LvTxt K mg) (PM : PMeth K) (O_Profile__go_on : OkM P w K mg base (L2.CX P w) 8 "Profile" "_go_on" ["self", "choice"] (spGo K)) : OkM P w K mg base (L2.CX P w) 9 "Profile" "__call__" ["self", "choice"] (spGo K) := by
  refine okd F (F.ok sc_Profile_call (fun vs H Q E h => ?_) fun cdv A outer s H vs Q E hr h => ?_) fun _ _ _ _ _ _ us hl => match us, hl with | [_, _], _ => rfl
  · obtain ⟨q, g, p, sh, cs, o, mk, dx, M, sv, xs, st, dg, tn, dP, dN, n, i, f, x, rfl, _⟩ := h
    rfl
  · have h' := h
    obtain ⟨q, g, p, sh, cs, o, mk, dx, M, sv, xs, st, dg, tn, dP, dN, n, i, f, x, rfl, hq, _⟩ := h'
    refine ⟨_, (pss_one (ps_ret (c_me rfl (pv 0) T.c_Profile PM.m__go_on O_Profile__go_on hr (by decide) (passUp rfl rfl rfl rfl) (pa_cons (pv 1) pa_nil)))), ?_⟩
    exact ⟨_, rfl, q, dx, _, rfl, hq.hq, pff_out, _, rfl, h⟩
/-! ### stays and looks of the choices made -/
def smStep (S : List (Str × Int)) (c : Ch) : List (Str × Int) := match c.1 with
  | some z => S ++ [(z, 1)]
  | none => match S.getLast? with
    | some l => S.dropLast ++ [(l.1, l.2 + 1)]
    | none => S
def smL (cs : List Ch) : List (Str × Int) := cs.foldl smStep []
theorem smL_snoc (cs : List Ch) (c : Ch) : smL (cs ++ [c]) = smStep (smL cs) c := by
  unfold smL
  rw [List.foldl_append]
  rfl
theorem smL_take {cs : List Ch} {j : Nat} {c : Ch} (h : cs[j]? = some c) : smL (cs.take (j + 1)) = smStep (smL (cs.take j)) c := by
  rw [List.take_add_one, h]
  exact smL_snoc _ _
theorem smStep_ne {S : List (Str × Int)} {c : Ch} (h : S ≠ [] ∨ c.1 ≠ none) : smStep S c ≠ [] := by
  unfold smStep
  split
  · exact fun e => by simp at e
  · split
    · exact fun e => by simp at e
    · rcases h with h | h
      · exact h
      · exact absurd (by assumption) h
theorem smStep_len (S : List (Str × Int)) (c : Ch) : (smStep S c).length ≤ S.length + 1 := by
  unfold smStep
  split
  · rw [List.length_append]
    exact Nat.le_refl _
  · split
    · rw [List.length_append, List.length_dropLast]
      show S.length - 1 + 1 ≤ _
      omega
    · exact Nat.le_succ _
theorem smL_inv {cs : List Ch} (h0 : ∀ c, cs[0]? = some c → c.1 ≠ none) : ∀ j, j ≤ cs.length → (smL (cs.take j)).length ≤ j ∧ (j = 0 ∨ smL (cs.take j) ≠ []) := by
  intro j
  induction j with
  | zero => intro _; exact ⟨Nat.le_refl _, .inl rfl⟩
  | succ j ih =>
    intro h
    obtain ⟨h1, h2⟩ := ih (by omega)
    have hc : cs[j]? = some cs[j] := List.getElem?_eq_getElem (by omega)
    rw [smL_take hc]
    refine ⟨Nat.le_trans (smStep_len _ _) (by omega), .inr (smStep_ne ?_)⟩
    rcases h2 with rfl | h2
    · exact .inr (h0 _ hc)
    · exact .inl h2
theorem paired_last {α β : Type} {R : α → β → Prop} : ∀ {xs : List α} {ys : List β} {y : β}, Paired R xs (ys ++ [y]) → ∃ xs' x, xs = xs' ++ [x] ∧ R x y
  | _, [], _, .cons r .nil => ⟨[], _, rfl, r⟩
  | _, _ :: ys, _, .cons r p => by
    obtain ⟨xs', x, e, h⟩ := paired_last p
    exact ⟨_ :: xs', x, by rw [e]; rfl, h⟩
theorem atI_m1 {α : Type} {x : α} {xs : List α} : atI (xs ++ [x]) (-1) = some x := by
  unfold atI
  rw [ixN_m1 (by rw [List.length_append]; exact Nat.le_add_left _ _)]
  show (xs ++ [x])[(xs ++ [x]).length - 1]? = some x
  rw [List.length_append]
  simp
theorem sc_stays_made : FnScope ["made", "stays", "move", "_", "name", "many"] ["made"] (defScope s_stays_made) := ⟨rfl, rfl, rfl, by decide +kernel, rfl, by decide +kernel, by decide +kernel⟩
-- slots: 0 made, 1 stays, 2 move, 3 _, 4 name, 5 many
def spSM : Sp := fun vs H Q _ => ∃ (M : Addr) (cs : List Ch), vs = [.ref M] ∧ ChsA H M cs ∧ cs.length ≤ 2000 ∧ (∀ c, cs[0]? = some c → c.1 ≠ none) ∧ ∀ H' S, Same H H' → H S = none → StsA H' S (smL cs) → Q (.ref S) H'
theorem ok_stays_made {fd : FuncData} (F : FnD K ("stays_made", none) "stays_made" "stays_made" s_stays_made fd) (T : LvTxt K mg) : OkF P w K mg base CX0 1 "stays_made" ["made"] spSM := by
  refine okd F (F.ok sc_stays_made (fun vs H Q E h => ?_) fun cdv A outer s H vs Q E hr h => ?_) fun _ _ _ _ _ _ us hl => match us, hl with | [_], _ => rfl
  · obtain ⟨M, cs, rfl, _⟩ := h
    rfl
  · obtain ⟨M, cs, rfl, hM, hl, h0, k⟩ := h
    refine ⟨_, PSs.nox (pss_cons (ps_set (i := 1) sc_stays_made.nd rfl (Or.inl rfl) (pe_lst pa_nil))
  (pss_cons (ps_for PassesOwn.never rfl (pi_list (pv 0)) (pg_tup rfl (pgs_cons (pg_name (i := 2) sc_stays_made.nd rfl (Or.inl rfl)) (pgs_cons (pg_name (i := 3) sc_stays_made.nd rfl (Or.inl rfl)) pgs_nil)))
  (pss_one (ps_if (pt_cmpR op_isN (pv 2) pe_non (nomark _)) (pss_cons (ps_asg (pe_ix ix_list (pv 1) (pe_un un_neg pe_int) (fun _ _ => rfl)) (pg_tup rfl (pgs_cons (pg_name (i := 4) sc_stays_made.nd rfl (Or.inl rfl)) (pgs_cons (pg_name (i := 5) sc_stays_made.nd rfl (Or.inl rfl)) pgs_nil))))
  (pss_one (ps_asg (pe_tup (pa_cons (pv 4) (pa_cons (pe_op op_add (pv 5) pe_int) pa_nil))) (pg_sub (pv 1) (pe_un un_neg pe_int) set_list))))
  (pss_one (ps_expr (pe_bm PySem.F.plainAttrs_list PySem.F.slot_list_append PySem.F.type_list_append mt_append (pv 1) (pa_cons (pe_tup (pa_cons (pv 2) (pa_cons pe_int pa_nil))) pa_nil)))))))
  (pss_one (ps_ret (pv 1))))), ?_⟩
    refine ⟨(by show 0 ≤ sizeLine; decide), fun S nS => ?_⟩
    have s1 := same_new (o := .lst []) nS
    have hS1 : StsA (upd H S (.lst [])) S (smL (cs.take 0)) := ⟨[], upd_same, .nil⟩
    generalize upd H S (.lst []) = H1 at s1 hS1 ⊢
    obtain ⟨rs, hrs, hps⟩ := id hM
    have hrl : rs.length = cs.length := paired_len hps
    refine ⟨_, rfl, M, rfl, ⟨_, SqL.of (s1 _ _ hrs)⟩, for_it walk_list (fun j σ H' => Same H H' ∧ StsA H' S (smL (cs.take j)) ∧ ∃ v2 v3 v4 v5 : Option V, σ = [some (.ref M), some (.ref S), v2, v3, v4, v5]) ⟨s1, hS1, none, none, none, none, rfl⟩ (fun j σ H' _ h => SqL.of (h.1 _ _ hrs)) ?_ ?_⟩
    · clear hS1 s1 H1
      rintro j x σ H3 H' hj ⟨sg, hS, v2, v3, v4, v5, rfl⟩ ⟨rfl, hx⟩
      rw [List.length_map] at hj
      have hrj : rs[j]? = some rs[j] := List.getElem?_eq_getElem hj
      generalize rs[j] = r at hrj
      obtain rfl : x = .ref r := by
        rw [List.getElem?_map, hrj] at hx
        exact (Option.some.inj hx).symm
      obtain ⟨⟨mv, d⟩, hc, hr0⟩ := paired_at hps hrj
      have hr2 : _ = some (HO.tup [mvV mv, .bl d]) := sg _ _ hr0
      obtain ⟨hln, hne⟩ := smL_inv h0 j (by omega)
      obtain ⟨vs, hv, hvl⟩ := hS.len
      have hvs : vs.length ≤ 2000 := by omega
      rw [smL_take hc]
      refine ⟨r, _, rfl, SqT.of hr2, rfl, _, _, rfl, _, _, rfl, rfl, ?_⟩
      cases mv with
      | some z =>
        refine ⟨_, rfl, rfl, _, rfl, iteF ?_⟩
        refine ⟨_, rfl, .inl ⟨rfl, _, SqL.of hv⟩, _, rfl, (by show 2 ≤ sizeLine; decide), fun a na => ?_⟩
        have sa := same_new (o := .tup [.str z, .int 1]) na
        refine ⟨S, vs, _, rfl, rfl, sa _ _ hv, Nat.lt_of_le_of_lt hvs (by decide), same_app (sg.trans sa) (Same.refl _) nS, ?_, _, _, _, _, rfl⟩
        exact (hS.ext sa).add (sa _ _ hv) upd_same
      | none =>
        have hne : smL (cs.take j) ≠ [] := by
          rcases hne with rfl | h
          · exact absurd rfl (h0 _ hc)
          · exact h
        obtain ⟨S', l, hSl⟩ : ∃ S' l, smL (cs.take j) = S' ++ [l] := ⟨_, _, (List.dropLast_concat_getLast hne).symm⟩
        rw [hSl] at hS hvl ⊢
        have hS' := hS
        obtain ⟨us, hu, hp⟩ := hS'
        obtain ⟨us', u, rfl, hu2⟩ := paired_last hp
        rw [hv] at hu
        cases hu
        have hu2 : _ = some (HO.tup [.str l.1, .int l.2]) := hu2
        have hv0 := hv
        rw [List.map_append] at hv
        refine ⟨_, rfl, rfl, _, rfl, iteT ?_⟩
        refine ⟨_, rfl, 1, rfl, S, _, -1, .ref u, rfl, rfl, SqL.of hv, atI_m1, u, _, rfl, SqT.of hu2, rfl, _, _, rfl, _, _, rfl, rfl, ?_⟩
        refine ⟨_, rfl, _, rfl, _, _, rfl, rfl, (by show 2 ≤ sizeLine; decide), fun a na => ?_⟩
        have sa := same_new (o := .tup [.str l.1, .int (l.2 + 1)]) na
        have hvn : 1 ≤ ((us' ++ [u]).map V.ref).length := by
          rw [hvl, List.length_append]
          exact Nat.le_add_left _ _
        refine ⟨_, rfl, 1, rfl, S, _, -1, _, rfl, rfl, sa _ _ hv0, ixN_m1 hvn, same_app (sg.trans sa) (Same.refl _) nS, ?_, _, _, _, _, rfl⟩
        have e : smStep (S' ++ [l]) (none, d) = (S' ++ [l]).dropLast ++ [(l.1, l.2 + 1)] := by
          unfold smStep
          simp only [List.getLast?_concat]
        rw [e]
        exact (hS.ext sa).last (sa _ _ hv0) (fun z => by simp at z) upd_same
    · rintro σ H' ⟨sg, hS, v2, v3, v4, v5, rfl⟩
      rw [List.length_map, hrl, List.take_length] at hS
      exact ⟨_, rfl, k H' S sg nS hS⟩
def lmStep (n sh : Nat) (S : List (Option Int) × Nat) (c : Ch) : List (Option Int) × Nat :=
  let l1 := if (decide (S.2 = 0) || decide ((sh + S.2) % n = 0)) = true then S.1 ++ [none] else S.1
  (if c.2 = true then l1.dropLast ++ [some (((sh + S.2) % n : Nat) : Int)] else l1, S.2 + 1)
def lmR (n sh : Nat) (cs : List Ch) : List (Option Int) × Nat := cs.foldl (lmStep n sh) ([], 0)
def lmL (n sh : Nat) (cs : List Ch) : List (Option Int) := (lmR n sh cs).1
theorem lmR_take (n sh : Nat) {cs : List Ch} {j : Nat} {c : Ch} (h : cs[j]? = some c) : lmR n sh (cs.take (j + 1)) = lmStep n sh (lmR n sh (cs.take j)) c := by
  rw [List.take_add_one, h]
  unfold lmR
  rw [List.foldl_append]
  rfl
theorem lmR_inv (n sh : Nat) (cs : List Ch) : ∀ j, j ≤ cs.length → (lmR n sh (cs.take j)).2 = j ∧ (lmR n sh (cs.take j)).1.length ≤ j ∧ (j = 0 ∨ (lmR n sh (cs.take j)).1 ≠ []) := by
  intro j
  induction j with
  | zero => intro _; exact ⟨rfl, Nat.le_refl _, .inl rfl⟩
  | succ j ih =>
    intro h
    obtain ⟨h1, h2, h3⟩ := ih (by omega)
    obtain ⟨c, hc⟩ : ∃ c, cs[j]? = some c := ⟨_, List.getElem?_eq_getElem (show j < cs.length by omega)⟩
    rw [lmR_take n sh hc]
    clear hc ih h
    generalize lmR n sh (cs.take j) = S at h1 h2 h3 ⊢
    obtain ⟨l, j'⟩ := S
    replace h1 : j' = j := h1
    subst h1
    replace h2 : l.length ≤ j' := h2
    replace h3 : j' = 0 ∨ l ≠ [] := h3
    have h4 : (if (decide (j' = 0) || decide ((sh + j') % n = 0)) = true then l ++ [none] else l).length ≤ j' + 1 ∧ (if (decide (j' = 0) || decide ((sh + j') % n = 0)) = true then l ++ [none] else l) ≠ [] := by
      split
      · rw [List.length_append]
        exact ⟨by show l.length + 1 ≤ _; omega, fun e => by simp at e⟩
      · rename_i hc
        refine ⟨by omega, ?_⟩
        rcases h3 with h3 | h3
        · rw [decide_eq_true h3, Bool.true_or] at hc
          exact absurd rfl hc
        · exact h3
    unfold lmStep
    simp only
    generalize (if (decide (j' = 0) || decide ((sh + j') % n = 0)) = true then l ++ [none] else l) = l1 at h4 ⊢
    refine ⟨trivial, ?_, .inr ?_⟩
    · split
      · rw [List.length_append, List.length_dropLast]
        have : l1.length ≠ 0 := fun e => h4.2 (List.length_eq_zero_iff.mp e)
        show l1.length - 1 + 1 ≤ _
        omega
      · exact h4.1
    · split
      · exact fun e => by simp at e
      · exact h4.2
theorem sc_looks_made : FnScope ["made", "phase", "period", "looks", "tick", "_", "due", "spot"] ["made", "phase", "period"] (defScope s_looks_made) := ⟨rfl, rfl, rfl, by decide +kernel, rfl, by decide +kernel, by decide +kernel⟩
-- slots: 0 made, 1 phase, 2 period, 3 looks, 4 tick, 5 _, 6 due, 7 spot
def spLM : Sp := fun vs H Q _ => ∃ (M : Addr) (cs : List Ch) (sh n : Nat), vs = [.ref M, .int (sh : Int), .int (n : Int)] ∧ ChsA H M cs ∧ cs.length ≤ 2000 ∧ 1 ≤ n ∧ n ≤ 8 ∧ ∀ H' L, Same H H' → H L = none → H' L = some (.lst ((lmL n sh cs).map lkV)) → Q (.ref L) H'
theorem ok_looks_made {fd : FuncData} (F : FnD K ("looks_made", none) "looks_made" "looks_made" s_looks_made fd) (T : LvTxt K mg) : OkF P w K mg base CX0 1 "looks_made" ["made", "phase", "period"] spLM := by
  refine okd F (F.ok sc_looks_made (fun vs H Q E h => ?_) fun cdv A outer s H vs Q E hr h => ?_) fun _ _ _ _ _ _ us hl => match us, hl with | [_, _, _], _ => rfl
  · obtain ⟨M, cs, sh, n, rfl, _⟩ := h
    rfl
  · obtain ⟨M, cs, sh, n, rfl, hM, hl, n1, n8, k⟩ := h
    refine ⟨_, PSs.nox (pss_cons (ps_set (i := 3) sc_looks_made.nd rfl (Or.inl rfl) (pe_lst pa_nil))
  (pss_cons (ps_for PassesOwn.never rfl (pi_enum (by rfl) T.z_enumerate (pa_cons (pv 0) pa_nil)) (pg_tup rfl (pgs_cons (pg_name (i := 4) sc_looks_made.nd rfl (Or.inl rfl)) (pgs_cons (pg_tup rfl (pgs_cons (pg_name (i := 5) sc_looks_made.nd rfl (Or.inl rfl)) (pgs_cons (pg_name (i := 6) sc_looks_made.nd rfl (Or.inl rfl)) pgs_nil))) pgs_nil)))
  (pss_cons (ps_set (i := 7) sc_looks_made.nd rfl (Or.inl rfl) (pe_op op_mod (pe_op op_add (pv 1) (pv 4)) (pv 2)))
  (C8.pss_cut (ps_if (PW.pt (pw_orB (pt_cmpR op_eq (pv 4) pe_int (nomark _)) (pw_or1 (pt_cmpR op_eq (pv 7) pe_int (nomark _))))) (pss_one (ps_expr (pe_bm PySem.F.plainAttrs_list PySem.F.slot_list_append PySem.F.type_list_append mt_append (pv 3) (pa_cons pe_non pa_nil))))
  pss_nil)
  (pss_one (ps_if (pt_val (pv 6)) (pss_one (ps_asg (pv 7) (pg_sub (pv 3) (pe_un un_neg pe_int) set_list)))
  pss_nil)))))
  (pss_one (ps_ret (pv 3))))), ?_⟩
    refine ⟨(by show 0 ≤ sizeLine; decide), fun L nL => ?_⟩
    have s1 := same_new (o := .lst []) nL
    have hL1 : (upd H L (.lst [])) L = some (.lst ((lmR n sh (cs.take 0)).1.map lkV)) := upd_same
    generalize upd H L (.lst []) = H1 at s1 hL1 ⊢
    obtain ⟨rs, hrs, hps⟩ := id hM
    have hrl : rs.length = cs.length := paired_len hps
    refine ⟨_, rfl, M, _, rfl, SqL.of (s1 _ _ hrs), for_it walk_enum (fun j σ H' => Same H H' ∧ H' L = some (.lst ((lmR n sh (cs.take j)).1.map lkV)) ∧ ∃ v4 v5 v6 v7 : Option V, σ = [some (.ref M), some (.int (sh : Int)), some (.int (n : Int)), some (.ref L), v4, v5, v6, v7]) ⟨s1, hL1, none, none, none, none, rfl⟩ (fun j σ H' _ h => SqL.of (h.1 _ _ hrs)) ?_ ?_⟩
    · clear hL1 s1 H1
      rintro j x σ H3 H2 hj ⟨sg, hL, v4, v5, v6, v7, rfl⟩ hy
      obtain ⟨T', x', y', rfl, nT', rfl, hx', hz'⟩ := hy
      cases (Option.some.inj hx')
      replace hz' : (rs.map V.ref)[j]? = some y' := hz'
      rw [List.length_map] at hj
      have hrj : rs[j]? = some rs[j] := List.getElem?_eq_getElem hj
      generalize rs[j] = r at hrj
      obtain rfl : y' = .ref r := by
        rw [List.getElem?_map, hrj] at hz'
        exact (Option.some.inj hz').symm
      have sT0 := same_new (o := .tup [.int (j : Nat), .ref r]) nT'
      have sT := sg.trans sT0
      have hLT := sT0 _ _ hL
      obtain ⟨⟨mv, d⟩, hc, hr0⟩ := paired_at hps hrj
      have hr2 : _ = some (HO.tup [mvV mv, .bl d]) := sT _ _ hr0
      refine ⟨T', _, rfl, SqT.of upd_same, rfl, _, _, rfl, _, _, rfl, r, _, rfl, SqT.of hr2, rfl, _, _, rfl, _, _, rfl, rfl, rfl, ?_⟩
      generalize upd H3 T' (.tup [.int (j : Nat), .ref r]) = H4 at sT hLT hr2 ⊢
      clear hL sg sT0 nT' hr0 hx' hz'
      have ea : ((sh : Int) + (j : Int)) % (n : Int) = (((sh + j) % n : Nat) : Int) := by rw [← Int.natCast_add, ← Int.natCast_emod]
      refine ⟨_, rfl, _, rfl, _, _, rfl, rfl, _, rfl, _, _, rfl, rfl, (by show (0 : Int) < n; omega), ?_⟩
      show C8.tCut _ _ _ [some (.ref M), some (.int (sh : Int)), some (.int (n : Int)), some (.ref L), some (.int (j : Int)), some (mvV mv), some (.bl d), some (.int (((sh : Int) + (j : Int)) % (n : Int)))] H4
      rw [ea]
      have hup := lmR_take n sh hc
      obtain ⟨hjj, hll, hln⟩ := lmR_inv n sh cs j (by omega)
      rw [hup]
      generalize lmR n sh (cs.take j) = S at hLT hjj hll hln ⊢
      obtain ⟨l, j'⟩ := S
      replace hjj : j' = j := hjj
      subst hjj
      replace hLT : H4 L = some (.lst (l.map lkV)) := hLT
      replace hll : l.length ≤ j' := hll
      replace hln : j' = 0 ∨ l ≠ [] := hln
      refine ⟨fun σ' H'' => Same H H'' ∧ H'' L = some (.lst ((if (decide (j' = 0) || decide ((sh + j') % n = 0)) = true then l ++ [none] else l).map lkV)) ∧ σ' = [some (.ref M), some (.int (sh : Int)), some (.int (n : Int)), some (.ref L), some (.int (j' : Int)), some (mvV mv), some (.bl d), some (.int (((sh + j') % n : Nat) : Int))], ?_, ?_⟩
      · refine ⟨_, rfl, rfl, _, rfl, decide ((sh + j') % n = 0), (· = H4), fun _ => ⟨_, rfl, rfl, _, rfl, ?_, rfl⟩, fun _ => rfl, fun H5 e => ?_⟩
        · exact decide_eq_decide.mpr ⟨fun e => by have := V.int.inj e; omega, fun e => by rw [e]; rfl⟩
        subst e
        have ed : decide (V.int (j' : Int) = V.int 0) = decide (j' = 0) := decide_eq_decide.mpr ⟨fun e => by have := V.int.inj e; omega, fun e => by rw [e]; rfl⟩
        rw [ed]
        refine ite_one (fun hc => ?_) fun hc => ?_
        · rw [if_pos hc]
          refine ⟨_, rfl, .inl ⟨rfl, _, SqL.of hLT⟩, L, _, _, rfl, rfl, hLT, ?_, same_app sT (Same.refl _) nL, ?_, rfl⟩
          · rw [List.length_map]
            exact Nat.lt_of_le_of_lt (show l.length ≤ 2000 by omega) (by decide)
          · rw [upd_same, List.map_append]
            rfl
        · rw [if_neg (by rw [hc]; decide)]
          exact ⟨sT, hLT, rfl⟩
      have hn1 : (if (decide (j' = 0) || decide ((sh + j') % n = 0)) = true then l ++ [none] else l) ≠ [] := by
        split
        · exact fun e => by simp at e
        · rename_i hc
          rcases hln with h | h
          · rw [decide_eq_true h, Bool.true_or] at hc
            exact absurd rfl hc
          · exact h
      rintro σ' H5 ⟨sg5, hL5, rfl⟩
      have e1 : (lmStep n sh (l, j') (mv, d)).1 = if d = true then (if (decide (j' = 0) || decide ((sh + j') % n = 0)) = true then l ++ [none] else l).dropLast ++ [some (((sh + j') % n : Nat) : Int)] else (if (decide (j' = 0) || decide ((sh + j') % n = 0)) = true then l ++ [none] else l) := rfl
      rw [e1]
      generalize (if (decide (j' = 0) || decide ((sh + j') % n = 0)) = true then l ++ [none] else l) = l1 at hL5 hn1 ⊢
      refine ⟨_, rfl, d, rfl, ite_one (fun hc => ?_) fun hc => ?_⟩
      · rw [if_pos hc]
        refine ⟨_, rfl, _, rfl, 1, rfl, L, _, -1, _, rfl, rfl, hL5, ixN_m1 ?_, same_app sg5 (Same.refl _) nL, ?_, _, _, _, _, rfl⟩
        · rw [List.length_map]
          exact Nat.one_le_iff_ne_zero.mpr fun e => hn1 (List.length_eq_zero_iff.mp e)
        · rw [upd_same, lk_last hn1]
      · rw [if_neg (by rw [hc]; decide)]
        exact ⟨sg5, hL5, _, _, _, _, rfl⟩
    · rintro σ H' ⟨sg, hL, v4, v5, v6, v7, rfl⟩
      rw [List.length_map, hrl, List.take_length] at hL
      exact ⟨_, rfl, k H' L sg nL hL⟩
end
end K32

set_option Elab.async false
set_option linter.all false
set_option pp.deepTerms.threshold 14
set_option pp.maxSteps 2500
set_option maxRecDepth 100000
set_option maxHeartbeats 2000000
namespace K32
open PySem PySem.Spec PyProof.Rows L2 Vf
section
variable {P : Program} {w : World} {K : PySem.W.Frag} {mg : Str → Option Value} {base : Heap}
theorem sc_Profile_record : FnScope ["self", "names", "name", "many", "_", "due"] ["self"] (defScope s_Profile_record) := ⟨rfl, rfl, rfl, by decide +kernel, rfl, by decide +kernel, by decide +kernel⟩
-- slots: 0 self, 1 names, 2 name, 3 many, 4 _, 5 due
def spRecd (K : PySem.W.Frag) : Sp := fun vs H Q _ => ∃ (q g p : Addr) (sh : Nat) (cs : List Ch) (o : Option Tk) (mk : V) (dx M : Addr) (sv : V) (xs : List PgE) (st : Str) (dg tn dP dN : Addr), vs = [.ref q] ∧ PfA K H q g p sh cs o mk dx M sv ∧ PgA K H g xs st dg tn dP dN ∧ cs.length ≤ 2000 ∧ (∀ c, cs[0]? = some c → c.1 ≠ none) ∧ (∀ p ∈ smL cs, p.1 ∈ zsOf xs ∧ 1 ≤ p.2) ∧ (namesL (smL cs)).length = cs.length ∧
  ∀ H' r dr ti no, Same H H' → RecA K H' r xs ((namesL (smL cs)).zip (cs.map (·.2))) dr ti no → H ti = none → H no = none → Q (.ref r) H'
theorem ok_Profile_record {fd : FuncData} (F : FnD K ("Profile", some "record") "record" "Profile.record" s_Profile_record fd) (T : LvTxt K mg) (O_stays_made : OkF P w K mg base CX0 1 "stays_made" ["made"] spSM) (O_record_of : OkF P w K mg base CX0 6 "record_of" ["program", "names", "dues"] (spRecOf K)) : OkM P w K mg base CX0 7 "Profile" "record" ["self"] (spRecd K) := by
  refine okd F (F.ok sc_Profile_record (fun vs H Q E h => ?_) fun cdv A outer s H vs Q E hr h => ?_) fun _ _ _ _ _ _ us hl => match us, hl with | [_], _ => rfl
  · obtain ⟨q, g, p, sh, cs, o, mk, dx, M, sv, xs, st, dg, tn, dP, dN, rfl, _⟩ := h
    rfl
  · obtain ⟨q, g, p, sh, cs, o, mk, dx, M, sv, xs, st, dg, tn, dP, dN, rfl, hq, hg, hcs, h0, hsz, hnl, k⟩ := h
    refine ⟨_, PSs.nox (pss_cons (ps_setLc2 (i := 1) (own := [("name", 2), ("many", 3), ("_", 4)]) (vs1 := [4]) (tt1 := tYes)  (tt := tYes) (by rfl) sc_Profile_record.nd rfl rfl (sw_true rfl rfl rfl (by decide +kernel)) (pi_list (c_fn O_stays_made hr (by decide) T.g_stays_made pass0 (pa_cons (pe_fld (pv 0) rfl) pa_nil))) (blkOk_by (N := ["self", "names", "name", "many", "_", "due"]) (sc := defScope s_Profile_record) (by decide +kernel)) (by decide) (fun _ _ _ _ _ => (pg_tupK (K := K) rfl 2 rfl (pgs_cons (pg_name (i := 2) sc_Profile_record.nd rfl (Or.inl rfl)) (pgs_cons (pg_name (i := 3) sc_Profile_record.nd rfl (Or.inl rfl)) pgs_nil)))) (fun _ _ _ _ _ => pts_nil) (fun _ _ _ _ _ => (pi_range1 rfl T.z_range (pa_cons (pv 3) pa_nil))) (fun _ _ _ _ _ => (pg_name (i := 4) sc_Profile_record.nd rfl (Or.inl rfl))) (fun _ _ _ _ _ => pts_nil) (fun _ _ _ _ _ => (pv 2)))
  (pss_one (ps_ret (c_fn O_record_of hr (by decide) T.g_record_of pass0 (pa_cons (pe_fld (pv 0) rfl) (pa_cons (pv 1) (pa_cons (pe_lc (own := [("_", 4), ("due", 5)])  (tt := tYes) (by rfl) sc_Profile_record.nd (pi_list (pe_fld (pv 0) rfl)) (blkOk_by (N := ["self", "names", "name", "many", "_", "due"]) (sc := defScope s_Profile_record) (by decide +kernel)) (fun _ _ _ _ _ => (pg_tupK (K := K) rfl 2 rfl (pgs_cons (pg_name (i := 4) sc_Profile_record.nd rfl (Or.inl rfl)) (pgs_cons (pg_name (i := 5) sc_Profile_record.nd rfl (Or.inl rfl)) pgs_nil)))) (fun _ _ _ _ _ => pts_nil) (fun _ _ _ _ _ => (pv 5))) pa_nil))))))), ?_⟩
    refine ⟨_, rfl, q, _, dx, _, _, rfl, hq.hq, T.c_Profile, T.fM, pff_made, M, cs, rfl, hq.hM, hcs, h0, fun H4 S s4 nS hS => ?_⟩
    generalize hsts : smL cs = sts at hsz hnl hS k
    obtain ⟨rs, hrs, hps⟩ := id hS
    have hrl : rs.length = sts.length := paired_len hps
    have htk : ∀ j, (namesL (sts.take j)).length ≤ (namesL sts).length := fun j => by
      have e : namesL sts = namesL (sts.take j) ++ namesL (sts.drop j) := by
        unfold namesL
        rw [← List.flatMap_append, List.take_append_drop]
      rw [e, List.length_append]
      exact Nat.le_add_right _ _
    have hq1000 : ∀ q ∈ sts, q.2 ≤ 2000 := fun p hp => by
      have h1 := namesL_len (sts := sts) fun p hp => by have := (hsz p hp).2; omega
      have h2 : p.2 ≤ totL sts := by
        have : ∀ (l : List (Str × Int)), (∀ q ∈ l, 0 ≤ q.2) → 0 ≤ totL l ∧ ∀ q ∈ l, q.2 ≤ totL l := fun l => by
          induction l with
          | nil => intro _; exact ⟨Int.le_refl _, fun _ h => nomatch h⟩
          | cons a l ih =>
            intro h
            have h1 := h a List.mem_cons_self
            obtain ⟨h2, h3⟩ := ih fun q hq => h q (List.mem_cons_of_mem _ hq)
            have e : totL (a :: l) = a.2 + totL l := by
              unfold totL
              rw [List.map_cons, List.sum_cons]
            rw [e]
            refine ⟨by omega, fun q hq => ?_⟩
            rcases List.mem_cons.mp hq with rfl | hq
            · omega
            · have := h3 q hq
              omega
        exact (this sts fun q hq => by have := (hsz q hq).2; omega).2 p hp
      omega
    refine ⟨S, rfl, ⟨_, SqL.of hrs⟩, fun N nN => lc2_it walk_list (fun j H' => Same H4 H' ∧ H' N = some (.lst ((namesL (sts.take j)).map V.str))) ⟨same_new nN, upd_same⟩ (fun j H' _ h => SqL.of (h.1 _ _ hrs)) ?_ ?_⟩
    · rintro j x H5 H' hj ⟨sg, hN⟩ ⟨rfl, hx⟩
      rw [List.length_map] at hj
      have hrj : rs[j]? = some rs[j] := List.getElem?_eq_getElem hj
      generalize rs[j] = r at hrj
      obtain rfl : x = .ref r := by
        rw [List.getElem?_map, hrj] at hx
        exact (Option.some.inj hx).symm
      obtain ⟨⟨z, q⟩, hqq, hr'⟩ := paired_at hps hrj
      have hq1 := (hsz _ (List.mem_of_getElem? hqq)).2
      have hq2 := hq1000 _ (List.mem_of_getElem? hqq)
      replace hq1 : 1 ≤ q := hq1
      replace hq2 : q ≤ 2000 := hq2
      have enx : namesL (sts.take (j + 1)) = namesL (sts.take j) ++ List.replicate q.toNat z := by
        unfold namesL
        rw [List.take_add_one, hqq, List.flatMap_append]
        show _ ++ (List.replicate q.toNat z ++ []) = _
        rw [List.append_nil]
      have hle := htk (j + 1)
      rw [enx, List.length_append, List.length_replicate] at hle
      refine ⟨r, _, rfl, SqT.of (sg _ _ hr'), rfl, _, _, rfl, _, _, rfl, rfl, rfl, _, rfl, q, rfl, by omega, by omega, ?_⟩
      refine lc2_in (walk_range (lo := 0) (n := q.toNat)) (fun t H' => Same H4 H' ∧ H' N = some (.lst ((namesL (sts.take j) ++ List.replicate t z).map V.str))) ⟨sg, by rw [hN]; simp⟩ (fun _ _ _ _ => trivial) ?_ ?_
      · rintro t x H6 H7 ht ⟨sg6, hN6⟩ ⟨rfl, rfl⟩
        refine ⟨rfl, _, rfl, _, hN6, ?_, same_app sg6 (Same.refl _) nN, ?_⟩
        · rw [List.length_map, List.length_append, List.length_replicate]
          exact Nat.lt_of_lt_of_le (show _ < 2001 by omega) (by decide)
        · rw [upd_same, List.replicate_succ']
          simp
      · rintro H6 ⟨sg6, hN6⟩
        exact ⟨sg6, by rw [enx]; exact hN6⟩
    rintro H5 ⟨s45, hN⟩
    rw [List.length_map, hrl, List.take_length] at hN
    have s5 := s4.trans s45
    have hq5 := hq.ext s5
    have hg5 := hg.ext s5
    obtain ⟨us, hus, hup⟩ := hq5.hM
    have hul : us.length = cs.length := paired_len hup
    refine ⟨_, rfl, q, _, dx, _, _, rfl, hq5.hq, T.c_Profile, T.fP, pff_program, _, rfl, _, rfl, q, _, dx, _, _, rfl, hq5.hq, T.c_Profile, T.fM, pff_made, M, rfl, ⟨_, SqL.of hus⟩, fun D nD => lc_it walk_list (fun j H' => Same H5 H' ∧ H' D = some (.lst (((cs.map (·.2)).take j).map V.bl))) ⟨same_new nD, upd_same⟩ (fun j H' _ h => SqL.of (h.1 _ _ hus)) ?_ ?_⟩
    · rintro j x H6 H' hj ⟨sg, hD⟩ ⟨rfl, hx⟩
      rw [List.length_map] at hj
      have hrj : us[j]? = some us[j] := List.getElem?_eq_getElem hj
      generalize us[j] = r at hrj
      obtain rfl : x = .ref r := by
        rw [List.getElem?_map, hrj] at hx
        exact (Option.some.inj hx).symm
      obtain ⟨⟨mv, d⟩, hc, hr0⟩ := paired_at hup hrj
      have hr2 : _ = some (HO.tup [mvV mv, .bl d]) := sg _ _ hr0
      refine ⟨r, _, rfl, SqT.of hr2, rfl, _, _, rfl, _, _, rfl, rfl, rfl, _, rfl, _, hD, ?_, same_app sg (Same.refl _) nD, ?_⟩
      · rw [List.length_map, List.length_take, List.length_map]
        exact Nat.lt_of_le_of_lt (show _ ≤ 2000 by omega) (by decide)
      · rw [upd_same, List.take_add_one, List.map_append, List.getElem?_map, hc]
        rfl
    rintro H6 ⟨s56, hD⟩
    rw [List.length_map, hul, List.take_of_length_le (by rw [List.length_map]; exact Nat.le_refl _)] at hD
    have s6 := s5.trans s56
    have hl1 : ((namesL sts).zip (cs.map (·.2))).map (·.1) = namesL sts := List.map_fst_zip (by rw [List.length_map, hnl]; exact Nat.le_refl _)
    have hl2 : ((namesL sts).zip (cs.map (·.2))).map (·.2) = cs.map (·.2) := List.map_snd_zip (by rw [List.length_map, hnl]; exact Nat.le_refl _)
    refine ⟨g, N, D, xs, st, dg, tn, dP, dN, (namesL sts).zip (cs.map (·.2)), rfl, hg.ext s6, SqL.of (by rw [hl1]; exact s56 _ _ hN), SqL.of (by rw [hl2]; exact hD), ?_, fun p hp => ?_, fun H' r dr ti no s' hrec f1 f2 => k H' r dr ti no (s6.trans s') hrec (none_of s6 f1) (none_of s6 f2)⟩
    · rw [List.length_zip, List.length_map]
      omega
    · have hm : p.1 ∈ ((namesL sts).zip (cs.map (·.2))).map (·.1) := List.mem_map_of_mem hp
      rw [hl1] at hm
      obtain ⟨p', hp', e⟩ := namesL_mem hm
      rw [← e]
      exact (hsz p' hp').1
end
end K32

set_option Elab.async false
set_option linter.all false
set_option pp.deepTerms.threshold 14
set_option pp.maxSteps 2500
set_option maxRecDepth 100000
set_option maxHeartbeats 2000000
namespace K32
open PySem PySem.Spec PyProof.Rows L2 Vf
section
variable {P : Program} {w : World} {K : PySem.W.Frag} {mg : Str → Option Value} {base : Heap}
/-! ### a walk and the choices that make it -/
theorem rowQ_snd (z : Str) : ∀ (xs : List PgE), rowQ xs z = (match (xs.map (·.2)).find? (fun q : Addr × Rw => q.2.z == z) with | some q => q.2 | none => ⟨"", 0, 0, false, []⟩)
  | [] => rfl
  | x :: xs => by
    have ih := rowQ_snd z xs
    unfold rowQ at ih ⊢
    rw [List.map_cons, List.find?_cons, List.find?_cons]
    cases h : x.2.2.z == z with
    | true => rfl
    | false => exact ih
theorem rowQ_beside {xs ys : List PgE} (h : Beside xs ys) : rowQ xs = rowQ ys := by
  funext z
  rw [rowQ_snd, rowQ_snd, h]
theorem mvs_beside {xs ys : List PgE} (h : Beside xs ys) : mvs xs = mvs ys := by
  funext bg o
  cases o with
  | none => rfl
  | some k =>
    unfold mvs
    rw [rowQ_beside h, h.zs]
theorem chL_beside {xs ys : List PgE} (h : Beside xs ys) : chL xs = chL ys := by
  funext bg i sh sl o
  unfold chL
  rw [mvs_beside h]
theorem chA_beside {xs ys : List PgE} (h : Beside xs ys) : chA xs = chA ys := by
  funext st i n sh cs o
  unfold chA
  rw [chL_beside h]
theorem nxT_beside {xs ys : List PgE} (h : Beside xs ys) : nxT xs = nxT ys := by
  funext bg i sh sl o c
  unfold nxT
  rw [rowQ_beside h]
theorem tkOff_fl (i sl : Int) (bf d : Bool) : d ∈ flL i sl bf ↔ tkOff i sl bf d = false := by
  unfold flL tkOff
  by_cases e : sl = i
  · cases bf <;> cases d <;> simp [e]
  · cases bf <;> cases d <;> simp [e]
theorem tkL_fl (r : Rw) (i sp sl : Int) (bf wd : Bool) : tkL r i sp sl bf wd = (flL i sl bf).map fun d => ⟨r.z, sp, sl, bf || d, (wd || d) && !r.b, (wd || d) && r.b⟩ := by
  unfold tkL tkOne tkOff flL
  by_cases e : sl = i
  · cases bf <;> simp [e]
  · cases bf <;> simp [e]
/-- the state ahead of the j-th tick -/
def prv (ws : List Tk) : Nat → Option Tk
  | 0 => none
  | j + 1 => ws[j]?
structure PW (ys : List PgE) (bg : Str) (n i sh : Nat) (cs : List Ch) (ws : List Tk) : Prop where
  len : cs.length = ws.length
  st : ∀ (j : Nat) (c : Ch) (k : Tk), cs[j]? = some c → ws[j]? = some k → c ∈ chL ys bg (i : Int) sh (((sh + j) % n : Nat) : Int) (prv ws j) ∧ k = nxT ys bg (i : Int) sh (((sh + j) % n : Nat) : Int) (prv ws j) c
theorem prv_last (ws : List Tk) : prv ws ws.length = ws.getLast? := by
  cases h : ws.length with
  | zero =>
    rw [List.length_eq_zero_iff.mp h]
    rfl
  | succ j =>
    show ws[j]? = _
    rw [List.getLast?_eq_getElem?, h]
    rfl
theorem prv_app {ws us : List Tk} : ∀ {j : Nat}, j ≤ ws.length → prv (ws ++ us) j = prv ws j
  | 0, _ => rfl
  | j + 1, h => List.getElem?_append_left (by omega)
theorem PW.nil (ys : List PgE) (bg : Str) (n i sh : Nat) : PW ys bg n i sh [] [] := ⟨rfl, fun _ _ _ h => nomatch h⟩
theorem PW.snoc {ys : List PgE} {bg : Str} {n i sh : Nat} {cs : List Ch} {ws : List Tk} {c : Ch} {k : Tk} (h : PW ys bg n i sh cs ws) (hc : c ∈ chL ys bg (i : Int) sh (((sh + cs.length) % n : Nat) : Int) ws.getLast?) (hk : k = nxT ys bg (i : Int) sh (((sh + cs.length) % n : Nat) : Int) ws.getLast? c) : PW ys bg n i sh (cs ++ [c]) (ws ++ [k]) := by
  have hl := h.len
  refine ⟨by rw [List.length_append, List.length_append, hl]; rfl, fun j c' k' hc' hk' => ?_⟩
  by_cases hj : j < cs.length
  · rw [List.getElem?_append_left hj] at hc'
    rw [List.getElem?_append_left (by omega)] at hk'
    rw [prv_app (by omega)]
    exact h.st j c' k' hc' hk'
  · have hjl := (List.getElem?_eq_some_iff.mp hc').1
    rw [List.length_append] at hjl
    obtain rfl : j = cs.length := by
      have : j < cs.length + 1 := hjl
      omega
    rw [List.getElem?_append_right (Nat.le_refl _), Nat.sub_self] at hc'
    rw [List.getElem?_append_right (by omega), hl, Nat.sub_self] at hk'
    cases hc'
    cases hk'
    rw [prv_app (by omega), hl, prv_last, ← hl]
    exact ⟨hc, hk⟩
theorem PW.sl {ys : List PgE} {bg : Str} {n i sh : Nat} {cs : List Ch} {ws : List Tk} (h : PW ys bg n i sh cs ws) {j : Nat} {k : Tk} (hk : ws[j]? = some k) : ∃ c, cs[j]? = some c ∧ c ∈ chL ys bg (i : Int) sh (((sh + j) % n : Nat) : Int) (prv ws j) ∧ k = nxT ys bg (i : Int) sh (((sh + j) % n : Nat) : Int) (prv ws j) c ∧ k.sl = (((sh + j) % n : Nat) : Int) := by
  have hj := (List.getElem?_eq_some_iff.mp hk).1
  have hc : cs[j]? = some (cs[j]'(by rw [h.len]; exact hj)) := List.getElem?_eq_getElem _
  obtain ⟨h1, h2⟩ := h.st j _ k hc hk
  exact ⟨_, hc, h1, h2, by rw [h2]; exact (nxT_eq ..).1⟩
theorem nxT_none {ys : List PgE} {bg : Str} {i : Int} {sh : Nat} {sl : Int} {c : Ch} (hz : (rowQ ys bg).z = bg) (h : c ∈ chL ys bg i sh sl none) : nxT ys bg i sh sl none c ∈ tkL (rowQ ys bg) i 1 sl (decide ((sh : Int) > i)) false := by
  obtain ⟨h1, h2⟩ := chL_mem h
  obtain ⟨mv, d⟩ := c
  obtain rfl : mv = some bg := List.mem_singleton.mp h1
  rw [tkL_fl]
  refine List.mem_map.mpr ⟨d, h2, ?_⟩
  rw [hz]
  rfl
theorem nxT_some {ys : List PgE} {bg : Str} {i : Int} {sh : Nat} {sl : Int} {a : Tk} {c : Ch} (hok : RowsOk ys) (ha : a.z ∈ zsOf ys) (h : c ∈ chL ys bg i sh sl (some a)) :
    (c.1 = none ∧ a.sp < (rowQ ys a.z).m ∧ nxT ys bg i sh sl (some a) c ∈ tkL (rowQ ys a.z) i (a.sp + 1) sl (decide (sl ≠ 0) && a.dn) a.wt) ∨ (∃ z, c.1 = some z ∧ (rowQ ys a.z).l ≤ a.sp ∧ z ∈ (rowQ ys a.z).ns ∧ z ∈ zsOf ys ∧ nxT ys bg i sh sl (some a) c ∈ tkL (rowQ ys z) i 1 sl (decide (sl ≠ 0) && a.dn) a.wt) := by
  obtain ⟨h1, h2⟩ := chL_mem h
  obtain ⟨mv, d⟩ := c
  rcases List.mem_append.mp h1 with h1 | h1
  · split at h1
    · rename_i hm
      obtain rfl : mv = none := List.mem_singleton.mp h1
      refine .inl ⟨rfl, hm, ?_⟩
      rw [tkL_fl]
      refine List.mem_map.mpr ⟨d, h2, ?_⟩
      rw [rowQ_z hok.nd ha]
      rfl
    · cases h1
  · split at h1
    · rename_i hm
      obtain ⟨z, hz, rfl⟩ := List.mem_map.mp h1
      obtain ⟨hz, hn⟩ := List.mem_filter.mp hz
      refine .inr ⟨z, rfl, hm, of_decide_eq_true hn, hz, ?_⟩
      rw [tkL_fl]
      refine List.mem_map.mpr ⟨d, h2, ?_⟩
      rw [rowQ_z hok.nd hz]
      rfl
    · cases h1
theorem PW.z {ys : List PgE} {bg : Str} {n i sh : Nat} {cs : List Ch} {ws : List Tk} (h : PW ys bg n i sh cs ws) (hok : RowsOk ys) (hz : bg ∈ zsOf ys) : ∀ (j : Nat) (k : Tk), ws[j]? = some k → k.z ∈ zsOf ys ∧ 1 ≤ k.sp := by
  intro j
  induction j with
  | zero =>
    intro k hk
    obtain ⟨c, _, hc, rfl, _⟩ := h.sl hk
    obtain ⟨h1, h2⟩ := chL_mem hc
    obtain ⟨mv, d⟩ := c
    obtain rfl : mv = some bg := List.mem_singleton.mp h1
    exact ⟨hz, Int.le_refl _⟩
  | succ j ih =>
    intro k hk
    have hj := (List.getElem?_eq_some_iff.mp hk).1
    obtain ⟨a, ha⟩ : ∃ a, ws[j]? = some a := ⟨_, List.getElem?_eq_getElem (by omega)⟩
    obtain ⟨c, _, hc, hk2, _⟩ := h.sl hk
    have ep : prv ws (j + 1) = some a := ha
    rw [ep] at hc hk2
    obtain ⟨i1, i2⟩ := ih a ha
    obtain ⟨mv, d⟩ := c
    rcases nxT_some hok i1 hc with ⟨e, _, _⟩ | ⟨z, e, _, _, hzz, _⟩
    · obtain rfl : mv = none := e
      rw [hk2]
      exact ⟨i1, by show 1 ≤ a.sp + 1; omega⟩
    · obtain rfl : mv = some z := e
      rw [hk2]
      exact ⟨hzz, Int.le_refl _⟩
theorem PW.road {ys : List PgE} {bg : Str} {n i sh : Nat} {cs : List Ch} {ws : List Tk} (h : PW ys bg n i sh cs ws) (hok : RowsOk ys) (hz : bg ∈ zsOf ys) (n1 : 1 ≤ n) (hsh : sh ≤ n - 1) : RoadOk ys bg (n : Int) (i : Int) (.int (sh : Int)) ws := by
  refine ⟨fun k hk => ?_, fun j a b ha hb => ?_⟩
  · obtain ⟨c, _, hc, hk2, _⟩ := h.sl hk
    have := nxT_none (rowQ_z hok.nd hz) hc
    have e : nxT ys bg (i : Int) sh (((sh + 0) % n : Nat) : Int) none c = k := hk2.symm
    rw [e, Nat.add_zero, Nat.mod_eq_of_lt (by omega)] at this
    exact List.mem_flatMap.mpr ⟨(sh : Int), List.mem_singleton.mpr rfl, this⟩
  · obtain ⟨c, _, hc, hk2, _⟩ := h.sl hb
    have ep : prv ws (j + 1) = some a := ha
    rw [ep] at hc hk2
    obtain ⟨_, _, _, _, hsl⟩ := h.sl ha
    have esl : (((sh + (j + 1)) % n : Nat) : Int) = (a.sl + 1) % (n : Int) := by
      rw [hsl, Int.natCast_emod, Int.natCast_emod, Int.emod_add_emod, show ((sh + (j + 1) : Nat) : Int) = ((sh + j : Nat) : Int) + 1 from by omega]
    have ebf : (decide ((((sh + (j + 1)) % n : Nat) : Int) ≠ 0) && a.dn) = (a.dn && decide ((a.sl + 1) % (n : Int) > 0)) := by
      rw [← esl, Bool.and_comm]
      congr 1
      exact decide_eq_decide.mpr ⟨fun e => by omega, fun e => by omega⟩
    have key := nxT_some hok (h.z hok hz j a ha).1 hc
    rw [ebf, ← hk2, esl] at key
    unfold afterL
    rcases key with ⟨_, hm, hk⟩ | ⟨z, _, hl, hn, _, hk⟩
    · exact List.mem_append_left _ (by rw [if_pos hm]; exact hk)
    · exact List.mem_append_right _ (by rw [if_pos hl]; exact List.mem_flatMap.mpr ⟨z, hn, hk⟩)
theorem PW.walk {ys : List PgE} {bg : Str} {n i sh : Nat} {cs : List Ch} {ws : List Tk} (h : PW ys bg n i sh cs ws) (hok : RowsOk ys) (hz : bg ∈ zsOf ys) (n1 : 1 ≤ n) (i1 : i ≤ n - 1) (hsh : sh ≤ n - 1) (hne : ws ≠ []) : WalkOk ys bg n i sh ws := by
  obtain ⟨sh', h1, h2, h3⟩ := road_walk hok hz n1 i1 (f := .int (sh : Int)) (.inr ⟨(sh : Int), rfl, by omega, by omega⟩) hne (h.road hok hz n1 hsh)
  rcases h2 with h2 | h2
  · cases h2
  · have : sh = sh' := by have := V.int.inj h2; omega
    rw [this]
    exact h3
/-- the stays -/
theorem PW.stays {ys : List PgE} {bg : Str} {n i sh : Nat} {cs : List Ch} {ws : List Tk} (h : PW ys bg n i sh cs ws) (hok : RowsOk ys) (hz : bg ∈ zsOf ys) (n1 : 1 ≤ n) (i1 : i ≤ n - 1) (hsh : sh ≤ n - 1) : smL cs = staysL ws := by
  have key : ∀ j, j ≤ ws.length → smL (cs.take j) = staysL (ws.take j) := by
    intro j
    induction j with
    | zero => intro _; rfl
    | succ j ih =>
      intro hj
      obtain ⟨k, hk⟩ : ∃ k, ws[j]? = some k := ⟨_, List.getElem?_eq_getElem (by omega)⟩
      obtain ⟨c, hc, hcl, hk2, _⟩ := h.sl hk
      rw [smL_take hc, ih (by omega), List.take_add_one, hk]
      show _ = staysL (ws.take j ++ [k])
      rw [staysL_snoc]
      cases j with
      | zero =>
        obtain ⟨h1, h2⟩ := chL_mem hcl
        obtain ⟨mv, d⟩ := c
        obtain rfl : mv = some bg := List.mem_singleton.mp h1
        rw [hk2]
        rfl
      | succ j =>
        obtain ⟨a, ha⟩ : ∃ a, ws[j]? = some a := ⟨_, List.getElem?_eq_getElem (by omega)⟩
        have ep : prv ws (j + 1) = some a := ha
        rw [ep] at hcl hk2
        have hW := h.walk hok hz n1 i1 hsh (fun e => by rw [e] at ha; cases ha)
        obtain ⟨S, hS, _⟩ := walk_stays hok hW j a ha
        rw [hS]
        obtain ⟨i1, i2⟩ := h.z hok hz j a ha
        obtain ⟨mv, d⟩ := c
        cases mv with
        | some z =>
          have e1 : k.z = z ∧ k.sp = 1 := by rw [hk2]; exact ⟨rfl, rfl⟩
          unfold smStep stStep
          rw [if_pos e1.2, e1.1]
        | none =>
          have e1 : k.z = a.z ∧ k.sp = a.sp + 1 := by rw [hk2]; exact ⟨rfl, rfl⟩
          unfold smStep stStep
          rw [if_neg (by omega), e1.1, e1.2]
          simp only [List.getLast?_concat]
  have := key ws.length (Nat.le_refl _)
  rwa [← h.len, List.take_length, h.len, List.take_length] at this
theorem PW.first {ys : List PgE} {bg : Str} {n i sh : Nat} {cs : List Ch} {ws : List Tk} (h : PW ys bg n i sh cs ws) : ∀ c, cs[0]? = some c → c.1 ≠ none := by
  intro c hc
  have hj := (List.getElem?_eq_some_iff.mp hc).1
  obtain ⟨k, hk⟩ : ∃ k, ws[0]? = some k := ⟨_, List.getElem?_eq_getElem (by rw [← h.len]; exact hj)⟩
  obtain ⟨h1, _⟩ := h.st 0 c k hc hk
  rw [List.mem_singleton.mp (chL_mem h1).1]
  exact fun e => nomatch e
theorem PW.sts {ys : List PgE} {bg : Str} {n i sh : Nat} {cs : List Ch} {ws : List Tk} (h : PW ys bg n i sh cs ws) (hok : RowsOk ys) (hz : bg ∈ zsOf ys) (n1 : 1 ≤ n) (i1 : i ≤ n - 1) (hsh : sh ≤ n - 1) : (∀ p ∈ smL cs, p.1 ∈ zsOf ys ∧ 1 ≤ p.2) ∧ (namesL (smL cs)).length = cs.length := by
  rw [h.stays hok hz n1 i1 hsh, h.len]
  by_cases hne : ws = []
  · subst hne
    exact ⟨fun _ h => (nomatch h), rfl⟩
  · obtain ⟨h1, h2⟩ := walk_sts hok (h.walk hok hz n1 i1 hsh hne)
    refine ⟨fun p hp => ?_, by rw [h2, List.length_map]⟩
    obtain ⟨j, hj⟩ := List.mem_iff_getElem?.mp hp
    exact ⟨(h1.hs j p hj).1, (h1.hs j p hj).2.1⟩
/-- the looks -/
theorem PW.looks {ys : List PgE} {bg : Str} {n i sh : Nat} {cs : List Ch} {ws : List Tk} (h : PW ys bg n i sh cs ws) (hsh : sh ≤ n - 1) (n1 : 1 ≤ n) : lmL n sh cs = looksL (i : Int) ws := by
  have key : ∀ j, j ≤ ws.length → (lmR n sh (cs.take j)).1 = (lkRun (i : Int) (ws.take j)).l ∧ (∀ a, prv ws j = some a → (lkRun (i : Int) (ws.take j)).b = a.dn) := by
    intro j
    induction j with
    | zero => intro _; exact ⟨rfl, fun _ h => nomatch h⟩
    | succ j ih =>
      intro hj
      obtain ⟨k, hk⟩ : ∃ k, ws[j]? = some k := ⟨_, List.getElem?_eq_getElem (by omega)⟩
      obtain ⟨c, hc, hcl, hk2, hsl⟩ := h.sl hk
      obtain ⟨ih1, ih2⟩ := ih (by omega)
      rw [lmR_take n sh hc, lkRun_take _ hk]
      refine ⟨?_, fun a ha => ?_⟩
      rotate_left
      · have : prv ws (j + 1) = some k := hk
        rw [this] at ha
        cases ha
        rfl
      have hj1 := (lmR_inv n sh cs j (by rw [h.len]; omega)).1
      have hj2 := lkRun_j (i : Int) ws j (by omega)
      obtain ⟨_, hfl⟩ := chL_mem hcl
      have hdn : k.dn = (hcB (i : Int) sh (((sh + j) % n : Nat) : Int) (prv ws j) || c.2) := by rw [hk2]; exact (nxT_eq ..).2.1
      have hcd : hcB (i : Int) sh (((sh + j) % n : Nat) : Int) (prv ws j) = true → c.2 = false := fun e => by
        unfold flL at hfl
        rw [if_pos e] at hfl
        exact List.mem_singleton.mp hfl
      have hb : ∀ b2 : Bool, b2 = hcB (i : Int) sh (((sh + j) % n : Nat) : Int) (prv ws j) → (k.dn && !b2) = c.2 := fun b2 e => by
        rw [e, hdn]
        cases hh : hcB (i : Int) sh (((sh + j) % n : Nat) : Int) (prv ws j) with
        | true => rw [hcd hh]; rfl
        | false => cases c.2 <;> rfl
      generalize lmR n sh (cs.take j) = S at ih1 hj1 ⊢
      generalize lkRun (i : Int) (ws.take j) = S' at ih1 ih2 hj2 ⊢
      obtain ⟨l, j'⟩ := S
      obtain ⟨l', b, j''⟩ := S'
      replace ih1 : l = l' := ih1
      replace hj1 : j' = j := hj1
      replace hj2 : j'' = j := hj2
      subst ih1 hj1
      subst hj2
      replace ih2 : ∀ a, prv ws j'' = some a → b = a.dn := ih2
      unfold lmStep lkStep
      simp only
      have e0 : decide (k.sl = 0) = decide ((sh + j'') % n = 0) := decide_eq_decide.mpr ⟨fun e => by omega, fun e => by omega⟩
      rw [e0, hsl]
      have hb2 : (if (decide (0 < j'') && decide ((sh + j'') % n = 0)) = true then false else (if decide (j'' = 0) = true then decide ((((sh + j'') % n : Nat) : Int) > (i : Int)) else b)) = hcB (i : Int) sh (((sh + j'') % n : Nat) : Int) (prv ws j'') := by
        cases j'' with
        | zero =>
          rw [Nat.add_zero, Nat.mod_eq_of_lt (by omega)]
          rfl
        | succ j =>
          obtain ⟨a, ha⟩ : ∃ a, ws[j]? = some a := ⟨_, List.getElem?_eq_getElem (by omega)⟩
          have ep : prv ws (j + 1) = some a := ha
          rw [ep, ih2 a ep]
          show _ = (decide ((((sh + (j + 1)) % n : Nat) : Int) ≠ 0) && a.dn)
          by_cases e : (sh + (j + 1)) % n = 0
          · rw [e]; simp
          · rw [decide_eq_false e, decide_eq_true (show (((sh + (j + 1)) % n : Nat) : Int) ≠ 0 by omega), Bool.and_false, if_neg (by decide), if_neg (by simp)]
            rfl
      rw [hb _ hb2]
  have := (key ws.length (Nat.le_refl _)).1
  rw [← h.len, List.take_length, h.len, List.take_length] at this
  exact this
end
end K32

set_option Elab.async false
set_option linter.all false
set_option pp.deepTerms.threshold 14
set_option pp.maxSteps 2500
set_option maxRecDepth 100000
set_option maxHeartbeats 2000000
namespace K32
open PySem PySem.Spec PyProof.Rows L2 Vf
section
variable {P : Program} {w : World} {K : PySem.W.Frag} {mg : Str → Option Value} {base : Heap}
theorem getD_of {α : Type} {l : List α} {i : Nat} {x y : α} (h : l[i]? = some x) : l.getD i y = x := by
  rw [List.getD_eq_getElem?_getD, h]
  rfl
theorem PW.due {ys : List PgE} {bg : Str} {n i sh : Nat} {cs : List Ch} {ws : List Tk} (h : PW ys bg n i sh cs ws) (hok : RowsOk ys) (hz : bg ∈ zsOf ys) (n1 : 1 ≤ n) (i1 : i ≤ n - 1) (hsh : sh ≤ n - 1) : ∀ t c, cs[t]? = some c → dueAt (looksL (i : Int) ws) n (sh + t) = c.2 := by
  have key : ∀ j, j ≤ ws.length → ∀ t c, t < j → cs[t]? = some c → dueAt (lkRun (i : Int) (ws.take j)).l n (sh + t) = c.2 := by
    intro j
    induction j with
    | zero => intro _ t c ht; exact absurd ht (Nat.not_lt_zero _)
    | succ j ih =>
      intro hj t c ht hct
      obtain ⟨k, hk⟩ : ∃ k, ws[j]? = some k := ⟨_, List.getElem?_eq_getElem (by omega)⟩
      obtain ⟨cj, hcj, hcl, hk2, hsl⟩ := h.sl hk
      have ih := ih (by omega)
      rw [lkRun_take _ hk]
      obtain ⟨_, hfl⟩ := chL_mem hcl
      have hdn : k.dn = (hcB (i : Int) sh (((sh + j) % n : Nat) : Int) (prv ws j) || cj.2) := by rw [hk2]; exact (nxT_eq ..).2.1
      have hcd : hcB (i : Int) sh (((sh + j) % n : Nat) : Int) (prv ws j) = true → cj.2 = false := fun e => by
        unfold flL at hfl
        rw [if_pos e] at hfl
        exact List.mem_singleton.mp hfl
      cases j with
      | zero =>
        obtain rfl : t = 0 := by omega
        rw [hcj] at hct
        cases hct
        have e0 : (sh + 0) / n = 0 := Nat.div_eq_of_lt (by omega)
        have em : (sh + 0) % n = sh := Nat.mod_eq_of_lt (by omega)
        rw [em] at hsl hdn hcd
        have est : lkStep (i : Int) (lkRun (i : Int) (ws.take 0)) k = ⟨if (k.dn && !decide (k.sl > (i : Int))) = true then [some k.sl] else [none], k.dn, 1⟩ := by
          show lkStep (i : Int) ⟨[], false, 0⟩ k = _
          unfold lkStep
          simp
        rw [est]
        have ec : (k.dn && !decide (k.sl > (i : Int))) = c.2 := by
          rw [hsl, hdn]
          have e2 : hcB (i : Int) sh (sh : Int) (prv ws 0) = decide ((sh : Int) > (i : Int)) := rfl
          rw [e2] at hcd ⊢
          cases hh : decide ((sh : Int) > (i : Int)) with
          | true => rw [hcd hh]; rfl
          | false => cases c.2 <;> rfl
        rw [ec]
        unfold dueAt
        rw [e0, em]
        cases hc2 : c.2 with
        | true =>
          show decide (some k.sl = some ((sh : Nat) : Int)) = true
          rw [hsl]
          exact decide_eq_true rfl
        | false => exact decide_eq_false (fun e => nomatch e)
      | succ j =>
        obtain ⟨a, ha⟩ : ∃ a, ws[j]? = some a := ⟨_, List.getElem?_eq_getElem (by omega)⟩
        have hW := h.walk hok hz n1 i1 hsh (fun e => by rw [e] at ha; cases ha)
        have I := walk_looks n1 i1 hsh hW j a ha
        obtain ⟨_, _, _, _, hasl⟩ := h.sl ha
        have ep : prv ws (j + 1) = some a := ha
        rw [ep] at hdn hcd
        have eh : hcB (i : Int) sh (((sh + (j + 1)) % n : Nat) : Int) (some a) = (decide ((((sh + (j + 1)) % n : Nat) : Int) ≠ 0) && a.dn) := rfl
        rw [eh, ← hsl] at hdn hcd
        rw [lk_step I.b (by have := I.jj; omega)]
        have hlen := I.len
        have hIn := I.no
        have hIy := I.yes
        generalize lkRun (i : Int) (ws.take (j + 1)) = S at hlen hIn hIy ih ⊢
        obtain ⟨l, b, jj⟩ := S
        replace hlen : l.length = (sh + j) / n + 1 := hlen
        replace hIn : a.dn = false → l[(sh + j) / n]? = some none := hIn
        replace hIy : a.dn = true → (l[(sh + j) / n]? = some none ∧ (sh + j) / n = 0 ∧ sh > i) ∨ ∃ q : Int, l[(sh + j) / n]? = some (some q) ∧ (if (sh + j) / n = 0 then (sh : Int) else 0) ≤ q ∧ q ≤ a.sl ∧ q ≤ i := hIy
        replace ih : ∀ t c, t < j + 1 → cs[t]? = some c → dueAt l n (sh + t) = c.2 := ih
        have hdv : ∀ t, t < j + 1 → (sh + t) / n ≤ (sh + j) / n := fun t ht => Nat.div_le_div_right (by omega)
        show dueAt (if k.sl = 0 then (⟨if k.dn = true then l ++ [some k.sl] else l ++ [none], k.dn, jj + 1⟩ : LkS) else ⟨if (k.dn && !a.dn) = true then l.dropLast ++ [some k.sl] else l, k.dn, jj + 1⟩).l n (sh + t) = c.2
        rw [show sh + (j + 1) = sh + j + 1 from rfl] at hsl
        rcases div_step (n := n) (m := sh + j) n1 with ⟨d1, d2, d3⟩ | ⟨d1, d2, d3⟩
        · rw [d3] at hsl
          have hk0 : ¬ k.sl = 0 := by omega
          rw [if_neg hk0]
          rw [decide_eq_true hk0, Bool.true_and] at hdn hcd
          show dueAt (if (k.dn && !a.dn) = true then l.dropLast ++ [some k.sl] else l) n (sh + t) = c.2
          by_cases hc : (k.dn && !a.dn) = true
          · rw [if_pos hc]
            obtain ⟨c1, c2⟩ := Bool.and_eq_true_iff.mp hc
            have c2 : a.dn = false := by simpa using c2
            have hlast : (l.dropLast ++ [some k.sl])[(sh + j) / n]? = some (some k.sl) := by
              have e2 : l.dropLast.length = (sh + j) / n := by rw [List.length_dropLast, hlen, Nat.add_sub_cancel]
              rw [List.getElem?_append_right (by rw [e2]; exact Nat.le_refl _), e2, Nat.sub_self]
              rfl
            by_cases htj : t < j + 1
            · rw [← ih t c htj hct]
              by_cases hd : (sh + t) / n < (sh + j) / n
              · unfold dueAt
                rw [List.getD_eq_getElem?_getD, List.getD_eq_getElem?_getD, List.getElem?_append_left (by rw [List.length_dropLast, hlen, Nat.add_sub_cancel]; exact hd), List.getElem?_dropLast, if_pos (by rw [hlen, Nat.add_sub_cancel]; exact hd)]
              · have hd : (sh + t) / n = (sh + j) / n := Nat.le_antisymm (hdv t htj) (Nat.not_lt.mp hd)
                unfold dueAt
                rw [hd, getD_of hlast, getD_of (hIn c2), hsl]
                have e9 : decide ((none : Option Int) = some (((sh + t) % n : Nat) : Int)) = false := decide_eq_false (fun e => nomatch e)
                rw [e9]
                refine decide_eq_false fun e => ?_
                have e := Option.some.inj e
                have m1 := Nat.div_add_mod (sh + t) n
                have m2 := Nat.div_add_mod (sh + j) n
                rw [hd] at m1
                omega
            · obtain rfl : t = j + 1 := by omega
              rw [hcj] at hct
              cases hct
              unfold dueAt
              rw [show sh + (j + 1) = sh + j + 1 from rfl, d2, d3, getD_of hlast, hsl, decide_eq_true rfl]
              rw [c2, Bool.false_or] at hdn
              rw [← hdn, c1]
          · rw [if_neg hc]
            by_cases htj : t < j + 1
            · exact ih t c htj hct
            · obtain rfl : t = j + 1 := by omega
              rw [hcj] at hct
              cases hct
              have ec : c.2 = false := by
                cases had : a.dn with
                | true => exact hcd had
                | false =>
                  rw [had, Bool.false_or] at hdn
                  rw [had, hdn] at hc
                  cases hcc : c.2 with
                  | false => rfl
                  | true => rw [hcc] at hc; exact absurd rfl hc
              rw [ec]
              unfold dueAt
              rw [show sh + (j + 1) = sh + j + 1 from rfl, d2, d3]
              refine decide_eq_false fun e => ?_
              cases had : a.dn with
              | false =>
                rw [getD_of (hIn had)] at e
                cases e
              | true =>
                rcases hIy had with ⟨g1, _⟩ | ⟨q, q1, _, q3, _⟩
                · rw [getD_of g1] at e
                  cases e
                · rw [getD_of q1] at e
                  have e := Option.some.inj e
                  omega
        · rw [d3] at hsl
          have hk0 : k.sl = 0 := hsl
          rw [if_pos hk0]
          rw [decide_eq_false (fun z => z hk0), Bool.false_and, Bool.false_or] at hdn
          show dueAt (if k.dn = true then l ++ [some k.sl] else l ++ [none]) n (sh + t) = c.2
          have ex : (if k.dn = true then l ++ [some k.sl] else l ++ [none]) = l ++ [if k.dn = true then some k.sl else none] := by split <;> rfl
          rw [ex]
          by_cases htj : t < j + 1
          · rw [← ih t c htj hct]
            unfold dueAt
            rw [List.getD_eq_getElem?_getD, List.getD_eq_getElem?_getD, List.getElem?_append_left (by rw [hlen]; exact Nat.lt_succ_of_le (hdv t htj))]
          · obtain rfl : t = j + 1 := by omega
            rw [hcj] at hct
            cases hct
            unfold dueAt
            have hat : (l ++ [if k.dn = true then some k.sl else none])[(sh + j) / n + 1]? = some (if k.dn = true then some k.sl else none) := by
              rw [List.getElem?_append_right (by rw [hlen]; exact Nat.le_refl _), hlen, Nat.sub_self]
              rfl
            rw [show sh + (j + 1) = sh + j + 1 from rfl, d2, d3, getD_of hat, ← hdn, hk0]
            cases k.dn with
            | true => exact decide_eq_true rfl
            | false => exact decide_eq_false (fun e => nomatch e)
  intro t c hct
  have ht := (List.getElem?_eq_some_iff.mp hct).1
  have := key ws.length (Nat.le_refl _) t c (by rw [← h.len]; exact ht) hct
  rwa [List.take_length] at this
/-- the record of the choices is the record of the run -/
theorem PW.recL {ys : List PgE} {bg : Str} {n i sh : Nat} {cs : List Ch} {ws : List Tk} (h : PW ys bg n i sh cs ws) (hok : RowsOk ys) (hz : bg ∈ zsOf ys) (n1 : 1 ≤ n) (i1 : i ≤ n - 1) (hsh : sh ≤ n - 1) : (namesL (smL cs)).zip (cs.map (·.2)) = runL (staysL ws) (looksL (i : Int) ws) n sh := by
  have hl := (h.sts hok hz n1 i1 hsh).2
  rw [h.stays hok hz n1 i1 hsh] at hl ⊢
  unfold runL
  congr 1
  refine List.ext_getElem? fun t => ?_
  rw [List.getElem?_map, List.getElem?_map, hl]
  by_cases ht : t < cs.length
  · obtain ⟨c, hc⟩ : ∃ c, cs[t]? = some c := ⟨_, List.getElem?_eq_getElem ht⟩
    rw [List.getElem?_range ht, hc]
    exact congrArg some (h.due hok hz n1 i1 hsh t c hc).symm
  · rw [List.getElem?_eq_none (by omega), List.getElem?_eq_none (by rw [List.length_range]; omega)]
    rfl
end
end K32

set_option Elab.async false
set_option linter.all false
set_option pp.deepTerms.threshold 14
set_option pp.maxSteps 2500
set_option maxRecDepth 100000
set_option maxHeartbeats 2000000
namespace K32
open PySem PySem.Spec PyProof.Rows L2 Vf
section
variable {P : Program} {w : World} {K : PySem.W.Frag} {mg : Str → Option Value} {base : Heap}
/-- l != [] -/
def rNeNil (K : PySem.W.Frag) : R2 := fun x y H Q => ∃ (a b : Addr) (xs : List V), x = .ref a ∧ y = .ref b ∧ SqL K H a xs ∧ SqL K H b [] ∧ Q (.bl (!xs.isEmpty)) H
theorem op_neNil {X : Cx} (hu : X.A.units + 64 < cLine) : OpR X (compareOp .NotEq) (rNeNil X.K) := by
  intro pins s σ H x y v u Q I rx ry h
  obtain ⟨a, b, xs, rfl, rfl, ha, hb, q⟩ := h
  cases xs with
  | nil => exact op_ne0 hu _ _ _ _ _ _ _ _ _ I rx ry ⟨a, b, [], [], rfl, rfl, .inr ⟨ha, hb⟩, .nil, q⟩
  | cons x xs =>
    cases rx
    cases ry
    obtain ⟨us, r1, p1, _⟩ := I.list ha
    obtain ⟨ws, r2, p2, _⟩ := I.list hb
    have hs : (us.toArray.size != ws.toArray.size) = true := by
      rw [List.size_toArray, List.size_toArray, ← r1.length, ← r2.length]
      simp
    exact SeqAt.RcNeAt.lists_lengths p1.isList p2.isList hs (by omega) _ _ _ _ ⟨.bl true, H, I, rfl, q⟩
/-! ### the options of the law -/
def OpA (H : Hp) (r : Addr) (o : Ch × Tk) : Prop := ∃ c t, H r = some (.lst [.ref c, .ref t, .bl o.2.nt]) ∧ ChA H c o.1 ∧ StA H t o.2
theorem OpA.ext {H H' : Hp} {r : Addr} {o : Ch × Tk} (h : OpA H r o) (s : Same H H') : OpA H' r o := by
  obtain ⟨c, t, h1, h2, h3⟩ := h
  exact ⟨c, t, s _ _ h1, s _ _ h2, s _ _ h3⟩
def OpsA (H : Hp) (L : Addr) (os : List (Ch × Tk)) : Prop := ∃ rs : List Addr, H L = some (.lst (rs.map V.ref)) ∧ L ∉ rs ∧ Paired (OpA H) rs os
theorem OpsA.ext {H H' : Hp} {L : Addr} {os : List (Ch × Tk)} (h : OpsA H L os) (s : Same H H') : OpsA H' L os := by
  obtain ⟨rs, h1, h2, h3⟩ := h
  exact ⟨rs, s _ _ h1, h2, paired_imp (fun _ _ q => q.ext s) h3⟩
theorem OpsA.len {H : Hp} {L : Addr} {os : List (Ch × Tk)} (h : OpsA H L os) : ∃ vs, H L = some (.lst vs) ∧ vs.length = os.length := by
  obtain ⟨rs, h1, _, h2⟩ := h
  exact ⟨_, h1, by rw [List.length_map, paired_len h2]⟩
theorem paired_memL {α β : Type} {R : α → β → Prop} : ∀ {xs : List α} {ys : List β}, Paired R xs ys → ∀ x ∈ xs, ∃ y, R x y
  | _, _, .nil, _, h => nomatch h
  | _, _, .cons r p, x, h => by
    rcases List.mem_cons.mp h with rfl | h
    · exact ⟨_, r⟩
    · exact paired_memL p x h
theorem paired_with {α β : Type} {R S : α → β → Prop} {F : α → Prop} : ∀ {xs : List α} {ys : List β}, Paired R xs ys → (∀ x ∈ xs, F x) → (∀ x y, F x → R x y → S x y) → Paired S xs ys
  | _, _, .nil, _, _ => .nil
  | _, _, .cons r p, h, k => .cons (k _ _ (h _ List.mem_cons_self) r) (paired_with p (fun x hx => h x (List.mem_cons_of_mem _ hx)) k)
theorem OpsA.add {H H' : Hp} {L p : Addr} {os : List (Ch × Tk)} {o : Ch × Tk} {vs : List V} (h : OpsA H L os) (hv : H L = some (.lst vs)) (hp : OpA H p o) (n : L ≠ p) (e : H' = upd H L (.lst (vs ++ [.ref p]))) : OpsA H' L (os ++ [o]) := by
  subst e
  obtain ⟨rs, h1, h2, h3⟩ := h
  rw [hv] at h1
  cases h1
  have kp : ∀ (r : Addr) (o : Ch × Tk), L ≠ r → OpA H r o → OpA (upd H L (.lst (rs.map V.ref ++ [.ref p]))) r o := fun r o nr ⟨c, t, e1, e2, e3⟩ => by
    have e2 : H c = some (.tup [mvV o.1.1, .bl o.1.2]) := e2
    have e3 : H t = some (.tup [.str o.2.z, .int o.2.sp, .int o.2.sl, .bl o.2.dn, .bl o.2.wt]) := e3
    refine ⟨c, t, ?_, ?_, ?_⟩
    · rw [upd_ne nr.symm]
      exact e1
    · show upd H L _ c = _
      rw [upd_ne (ne_of e2 hv (by intro z; cases z))]
      exact e2
    · show upd H L _ t = _
      rw [upd_ne (ne_of e3 hv (by intro z; cases z))]
      exact e3
  refine ⟨rs ++ [p], by rw [upd_same, List.map_append]; rfl, fun m => ?_, paired_snoc (kp _ _ n hp) (paired_with h3 (F := fun r => L ≠ r) (fun r hr e => h2 (e ▸ hr)) (fun r o => kp r o))⟩
  rcases List.mem_append.mp m with m | m
  · exact h2 m
  · exact n (List.mem_singleton.mp m)
/-- the options that go to one place -/
def grpL (r : Rw) (i sp sl : Int) (bf wd : Bool) (mv : Option Str) : List (Ch × Tk) := (tkL r i sp sl bf wd).map fun k => ((mv, k.dn && !bf), k)
def opL (ys : List PgE) (bg : Str) (i : Int) (sh : Nat) (sl : Int) (o : Option Tk) : List (Ch × Tk) := (chL ys bg i sh sl o).map fun c => (c, nxT ys bg i sh sl o c)
theorem grp_fl {r : Rw} {i sp sl : Int} {bf wd : Bool} {mv : Option Str} : grpL r i sp sl bf wd mv = (flL i sl bf).map fun d => ((mv, d), ⟨r.z, sp, sl, bf || d, (wd || d) && !r.b, (wd || d) && r.b⟩) := by
  unfold grpL
  rw [tkL_fl, List.map_map]
  refine List.map_congr_left fun d hd => ?_
  have e : ((bf || d) && !bf) = d := by
    cases bf with
    | true =>
      unfold flL at hd
      rw [if_pos rfl] at hd
      rw [List.mem_singleton.mp hd]
      rfl
    | false => cases d <;> rfl
  show ((mv, (bf || d) && !bf), _) = _
  rw [e]
theorem opL_none {ys : List PgE} {bg : Str} (hz : (rowQ ys bg).z = bg) (i : Int) (sh : Nat) (sl : Int) : opL ys bg i sh sl none = grpL (rowQ ys bg) i 1 sl (decide ((sh : Int) > i)) false (some bg) := by
  rw [grp_fl]
  unfold opL chL
  show List.map _ ((flL i sl (decide ((sh : Int) > i))).map (fun d => ((some bg, d) : Ch)) ++ []) = _
  rw [List.append_nil, List.map_map]
  refine List.map_congr_left fun d _ => ?_
  rw [hz]
  rfl
theorem opL_some {ys : List PgE} {bg : Str} {i : Int} {sh : Nat} {sl : Int} {a : Tk} (hok : RowsOk ys) (ha : a.z ∈ zsOf ys) : opL ys bg i sh sl (some a) =
    (if a.sp < (rowQ ys a.z).m then grpL (rowQ ys a.z) i (a.sp + 1) sl (decide (sl ≠ 0) && a.dn) a.wt none else []) ++ (if (rowQ ys a.z).l ≤ a.sp then ((zsOf ys).filter fun z => decide (z ∈ (rowQ ys a.z).ns)).flatMap fun z => grpL (rowQ ys z) i 1 sl (decide (sl ≠ 0) && a.dn) a.wt (some z) else []) := by
  unfold opL chL
  show List.map _ (List.flatMap _ ((if a.sp < (rowQ ys a.z).m then [(none : Option Str)] else []) ++ (if (rowQ ys a.z).l ≤ a.sp then ((zsOf ys).filter fun z => decide (z ∈ (rowQ ys a.z).ns)).map some else []))) = _
  rw [List.flatMap_append, List.map_append]
  congr 1
  · split
    · rw [grp_fl]
      show List.map _ ((flL i sl (decide (sl ≠ 0) && a.dn)).map (fun d => ((none, d) : Ch)) ++ []) = _
      rw [List.append_nil, List.map_map]
      refine List.map_congr_left fun d _ => ?_
      rw [rowQ_z hok.nd ha]
      rfl
    · rfl
  · split
    · rw [List.flatMap_map, List.map_flatMap]
      have : ∀ l : List Str, (∀ z ∈ l, z ∈ zsOf ys) → l.flatMap (fun b => List.map (fun c => (c, nxT ys bg i sh sl (some a) c)) (List.map (fun d => ((some b, d) : Ch)) (flL i sl (hcB i sh sl (some a))))) = l.flatMap fun z => grpL (rowQ ys z) i 1 sl (decide (sl ≠ 0) && a.dn) a.wt (some z) := fun l => by
        induction l with
        | nil => intro _; rfl
        | cons z l ih =>
          intro h
          rw [List.flatMap_cons, List.flatMap_cons, ih fun w hw => h w (List.mem_cons_of_mem _ hw)]
          congr 1
          rw [grp_fl, List.map_map]
          refine List.map_congr_left fun d _ => ?_
          rw [rowQ_z hok.nd (h z List.mem_cons_self)]
          rfl
      exact this _ fun z hz => (List.mem_filter.mp hz).1
    · rfl
end
end K32

set_option Elab.async false
set_option linter.all false
set_option pp.deepTerms.threshold 14
set_option pp.maxSteps 2500
set_option maxRecDepth 100000
set_option maxHeartbeats 2000000
namespace K32
open PySem PySem.Spec PyProof.Rows L2 Vf
section
variable {P : Program} {w : World} {K : PySem.W.Frag} {mg : Str → Option Value} {base : Heap}
theorem same_x2 {H H1 H2 : Hp} {d : Addr} (s : Same H H1) (x : SameX d H1 H2) (n : H d = none) : Same H H2 := fun b o e => x b o (ne_of_none e n) (s b o e)
theorem sc_law_options : FnScope ["_law_rows_here", "_law_spec_here", "_law_begin", "_law_state", "_law_slot", "_law_before", "_law_pairs", "_law_pair", "_law_row_here", "_law_out", "_law_other"] ["_law_rows_here", "_law_spec_here", "_law_begin", "_law_state", "_law_slot"] (defScope s_law_options) := ⟨rfl, rfl, rfl, by decide +kernel, rfl, by decide +kernel, by decide +kernel⟩
-- slots: 0 _law_rows_here, 1 _law_spec_here, 2 _law_begin, 3 _law_state, 4 _law_slot, 5 _law_before, 6 _law_pairs, 7 _law_pair, 8 _law_row_here, 9 _law_out, 10 _law_other
def spOpt : Sp := fun vs H Q _ => ∃ (R s : Addr) (ys : List PgE) (bg : Str) (v : V) (o : Option Tk) (n i sl : Int) (f : V) (sh : Nat), vs = [.ref R, .ref s, .str bg, v, .int sl] ∧ RowsA H R ys ∧ RowsOk ys ∧ bg ∈ zsOf ys ∧ SpA H s n i f ∧ StO H v o ∧ (∀ k, o = some k → k.z ∈ zsOf ys) ∧ (o = none → sl = (sh : Int)) ∧ 0 ≤ sl ∧
  ∀ H' L, Same H H' → H L = none → OpsA H' L (opL ys bg i sh sl o) → Q (.ref L) H'
theorem grp_len (r : Rw) (i sp sl : Int) (bf wd : Bool) (mv : Option Str) : (grpL r i sp sl bf wd mv).length ≤ 2 := by
  unfold grpL
  rw [List.length_map]
  exact tkL_len ..
set_option maxHeartbeats 8000000 in
theorem ok_law_options {fd : FuncData} (F : FnD K ("_law_options", none) "_law_options" "_law_options" s_law_options fd) (T : Txt K mg) (O_law_row : OkF P w K mg base CX0 1 "_law_row" ["_law_rows_here", "_law_word"] spRow) (O_law_ticks : OkF P w K mg base CX0 1 "_law_ticks" ["_law_row_here", "_law_spec_here", "_law_spent", "_law_slot", "_law_before", "_law_waited"] spTks) : OkF P w K mg base CX0 2 "_law_options" ["_law_rows_here", "_law_spec_here", "_law_begin", "_law_state", "_law_slot"] spOpt := by
  refine okd F (F.ok sc_law_options (fun vs H Q E h => ?_) fun cdv A outer s H vs Q E hr h => ?_) fun _ _ _ _ _ _ us hl => match us, hl with | [_, _, _, _, _], _ => rfl
  · obtain ⟨R, s, ys, bg, v, o, n, i, sl, f, sh, rfl, _⟩ := h
    rfl
  · obtain ⟨R, s, ys, bg, v, o, n, i, sl, f, sh, rfl, hR, hok, hz, hs, ho, hoz, hosl, hsl0, k⟩ := h
    refine ⟨_, PSs.nox (pss_cons (ps_if (pt_cmpR op_isN (pv 3) pe_non (nomark _)) (pss_cons (ps_set (i := 5) sc_law_options.nd rfl (Or.inr rfl) (pe_cmpR op_gt (pv 4) (pe_ix ix_list (pv 1) pe_int (fun _ _ => rfl)) (nomark _)))
  (pss_cons (ps_set (i := 6) sc_law_options.nd rfl (Or.inl rfl) (c_fn O_law_ticks hr (by decide) T.g_law_ticks pass0 (pa_cons (c_fn O_law_row hr (by decide) T.g_law_row pass0 (pa_cons (pv 0) (pa_cons (pv 2) pa_nil))) (pa_cons (pv 1) (pa_cons pe_int (pa_cons (pv 4) (pa_cons (pv 5) (pa_cons pe_bl pa_nil))))))))
  (pss_one (ps_ret (pe_lc (own := [("_law_pair", 7)]) (g := gName 7) (tt := tYes) (by rfl) sc_law_options.nd (pi_list (pv 6)) (blkOk_by (N := ["_law_rows_here", "_law_spec_here", "_law_begin", "_law_state", "_law_slot", "_law_before", "_law_pairs", "_law_pair", "_law_row_here", "_law_out", "_law_other"]) (sc := defScope s_law_options) (by decide +kernel)) (fun _ _ _ _ _ => (pg_name (i := 7) sc_law_options.nd rfl (Or.inl rfl))) (fun _ _ _ _ _ => pts_nil) (fun _ _ _ _ _ => (pe_lst (pa_cons (pe_tup (pa_cons (pv 2) (pa_cons (pe_andB (pe_ix (ix_tupK (K := K) rfl) (pe_ix (ix_tupK (K := K) rfl) (pv 7) pe_int (fun _ _ => rfl)) pe_int (fun _ _ => rfl)) (pe_one (pe_not (pv 5)))) pa_nil))) (pa_cons (pe_ix (ix_tupK (K := K) rfl) (pv 7) pe_int (fun _ _ => rfl)) (pa_cons (pe_ix (ix_tupK (K := K) rfl) (pv 7) pe_int (fun _ _ => rfl)) pa_nil))))))))))
  pss_nil)
  (pss_cons (ps_set (i := 8) sc_law_options.nd rfl (Or.inl rfl) (c_fn O_law_row hr (by decide) T.g_law_row pass0 (pa_cons (pv 0) (pa_cons (pe_ix ix_tup (pv 3) pe_int (fun _ _ => rfl)) pa_nil))))
  (pss_cons (ps_set (i := 5) sc_law_options.nd rfl (Or.inr rfl) (pe_andB (pe_ix ix_tup (pv 3) pe_int (fun _ _ => rfl)) (pe_one (pe_cmpR op_gt (pv 4) pe_int (nomark _)))))
  (pss_cons (ps_set (i := 9) sc_law_options.nd rfl (Or.inl rfl) (pe_lst pa_nil))
  (C8.pss_cut (ps_if (pt_cmpR op_lt (pe_ix ix_tup (pv 3) pe_int (fun _ _ => rfl)) (pe_ix ix_list (pv 8) pe_int (fun _ _ => rfl)) (nomark _)) (pss_one (ps_for PassesOwn.never rfl (pi_list (c_fn O_law_ticks hr (by decide) T.g_law_ticks pass0 (pa_cons (pv 8) (pa_cons (pv 1) (pa_cons (pe_op op_add (pe_ix ix_tup (pv 3) pe_int (fun _ _ => rfl)) pe_int) (pa_cons (pv 4) (pa_cons (pv 5) (pa_cons (pe_ix ix_tup (pv 3) pe_int (fun _ _ => rfl)) pa_nil)))))))) (pg_name (i := 7) sc_law_options.nd rfl (Or.inl rfl))
  (pss_one (ps_expr (pe_bm PySem.F.plainAttrs_list PySem.F.slot_list_append PySem.F.type_list_append mt_append (pv 9) (pa_cons (pe_lst (pa_cons (pe_tup (pa_cons pe_non (pa_cons (pe_andB (pe_ix ix_tup (pe_ix ix_tup (pv 7) pe_int (fun _ _ => rfl)) pe_int (fun _ _ => rfl)) (pe_one (pe_not (pv 5)))) pa_nil))) (pa_cons (pe_ix ix_tup (pv 7) pe_int (fun _ _ => rfl)) (pa_cons (pe_ix ix_tup (pv 7) pe_int (fun _ _ => rfl)) pa_nil)))) pa_nil))))))
  pss_nil)
  (C8.pss_cut (ps_if (pt_cmpR op_ge (pe_ix ix_tup (pv 3) pe_int (fun _ _ => rfl)) (pe_ix ix_list (pv 8) pe_int (fun _ _ => rfl)) (nomark _)) (pss_one (ps_for PassesOwn.never rfl (pi_list (pv 0)) (pg_name (i := 10) sc_law_options.nd rfl (Or.inl rfl))
  (pss_one (ps_if (pt_cmpR op_in_seq (pe_ix ix_list (pv 10) pe_int (fun _ _ => rfl)) (pe_ix ix_list (pv 8) pe_int (fun _ _ => rfl)) rfl) (pss_one (ps_for PassesOwn.never rfl (pi_list (c_fn O_law_ticks hr (by decide) T.g_law_ticks pass0 (pa_cons (pv 10) (pa_cons (pv 1) (pa_cons pe_int (pa_cons (pv 4) (pa_cons (pv 5) (pa_cons (pe_ix ix_tup (pv 3) pe_int (fun _ _ => rfl)) pa_nil)))))))) (pg_name (i := 7) sc_law_options.nd rfl (Or.inl rfl))
  (pss_one (ps_expr (pe_bm PySem.F.plainAttrs_list PySem.F.slot_list_append PySem.F.type_list_append mt_append (pv 9) (pa_cons (pe_lst (pa_cons (pe_tup (pa_cons (pe_ix ix_list (pv 10) pe_int (fun _ _ => rfl)) (pa_cons (pe_andB (pe_ix ix_tup (pe_ix ix_tup (pv 7) pe_int (fun _ _ => rfl)) pe_int (fun _ _ => rfl)) (pe_one (pe_not (pv 5)))) pa_nil))) (pa_cons (pe_ix ix_tup (pv 7) pe_int (fun _ _ => rfl)) (pa_cons (pe_ix ix_tup (pv 7) pe_int (fun _ _ => rfl)) pa_nil)))) pa_nil))))))
  pss_nil))))
  pss_nil)
  (pss_one (ps_ret (pv 9))))))))), ?_⟩
    have n1 := hs.n1
    have n8 := hs.n8
    refine ⟨_, rfl, rfl, _, rfl, ?_⟩
    cases o with
    | none =>
      obtain rfl := ho
      obtain rfl := hosl rfl
      rw [opL_none (rowQ_z hok.nd hz)] at k
      refine iteT ?_
      refine ⟨_, rfl, _, rfl, s, _, 1, .int i, rfl, rfl, SqL.of hs.hs, atI1, (sh : Int), i, rfl, rfl, ?_⟩
      refine ⟨_, rfl, _, rfl, R, ys, bg, rfl, hR, hok.nd, hz, fun iy y hy hyz => ?_⟩
      have hym := List.mem_of_getElem? hy
      have hyr : rowQ ys bg = y.2.2 := by rw [← hyz]; exact rowQ_row hok.nd hy
      rw [hyr] at k
      have hya := (hR.row y hym).1
      refine ⟨_, rfl, _, rfl, _, rfl, y.1, s, y.2.1, y.2.2, n, i, 1, (sh : Int), f, decide ((sh : Int) > i), false, rfl, hya, hs.hs, fun H1 M s1 nM hM => ?_⟩
      generalize hbf : decide ((sh : Int) > i) = bf at k hM ⊢
      obtain ⟨rs, hrs, hps⟩ := id hM
      have hrl := paired_len hps
      have htl := tkL_len y.2.2 i 1 (sh : Int) bf false
      refine ⟨_, rfl, M, rfl, ⟨_, SqL.of hrs⟩, fun D nD => lc_it walk_list (fun j H' => Same H1 H' ∧ OpsA H' D (((tkL y.2.2 i 1 (sh : Int) bf false).take j).map fun k => ((some bg, k.dn && !bf), k))) ⟨same_new nD, [], upd_same, List.not_mem_nil, .nil⟩ (fun j H' _ h => SqL.of (h.1 _ _ hrs)) ?_ ?_⟩
      · rintro j x H5 H' hj ⟨sg, hD⟩ ⟨rfl, hx⟩
        rw [List.length_map] at hj
        have hrj : rs[j]? = some rs[j] := List.getElem?_eq_getElem hj
        generalize rs[j] = r at hrj
        obtain rfl : x = .ref r := by
          rw [List.getElem?_map, hrj] at hx
          exact (Option.some.inj hx).symm
        obtain ⟨kk, hk, t, hr1, ht1⟩ := paired_at hps hrj
        have hr2 := sg _ _ hr1
        have ht2 := sg _ _ ht1
        refine ⟨rfl, _, rfl, _, rfl, r, _, 0, .ref t, rfl, rfl, SqT.of hr2, atI0, t, _, 3, .bl kk.dn, rfl, rfl, SqT.of ht2, atI_nat (j := 3) rfl, kk.dn, !bf, (· = _), rfl, fun _ => ⟨_, rfl, bf, congrArg V.bl hbf, rfl, rfl⟩, fun _ => rfl, fun H6 e => ?_⟩
        subst e
        refine ⟨(by show 2 ≤ sizeLine; decide), fun c nc => ?_⟩
        have sc := same_new (o := .tup [.str bg, .bl (kk.dn && !bf)]) nc
        refine ⟨_, rfl, r, _, 0, .ref t, rfl, rfl, SqT.of (sc _ _ hr2), atI0, _, rfl, r, _, 1, .bl kk.nt, rfl, rfl, SqT.of (sc _ _ hr2), atI1, (by show 3 ≤ sizeLine; decide), fun p np => ?_⟩
        have sp := same_new (o := .lst [.ref c, .ref t, .bl kk.nt]) np
        have hD2 := (hD.ext sc).ext sp
        obtain ⟨acc, hacc, hal⟩ := hD2.len
        have nDp : D ≠ p := by
          obtain ⟨us, hu, _⟩ := hD.ext sc
          exact ne_of_none hu np
        refine ⟨acc, hacc, ?_, same_app (sg.trans (sc.trans sp)) (Same.refl _) nD, ?_⟩
        · rw [hal, List.length_map, List.length_take]
          exact Nat.lt_of_le_of_lt (show _ ≤ 2 by omega) (by decide)
        · rw [List.take_add_one, hk, List.map_append]
          exact hD2.add hacc ⟨c, t, upd_same, sp _ _ upd_same, sp _ _ (sc _ _ ht2)⟩ nDp rfl
      · rintro H5 ⟨sg, hD⟩
        rw [List.length_map, hrl, List.take_length] at hD
        exact k _ D (s1.trans sg) (none_of s1 nD) hD
    | some kk =>
      obtain ⟨t0, rfl, ht0⟩ := ho
      have hkz := hoz kk rfl
      rw [opL_some hok hkz] at k
      have hT0 : ∀ {H' : Hp}, Same H H' → SqT K H' t0 [.str kk.z, .int kk.sp, .int kk.sl, .bl kk.dn, .bl kk.wt] := fun e => SqT.of (e _ _ ht0)
      refine iteF ?_
      refine ⟨_, rfl, _, rfl, t0, _, 0, .str kk.z, rfl, rfl, hT0 (Same.refl _), atI0, R, ys, kk.z, rfl, hR, hok.nd, hkz, fun iy y hy hyz => ?_⟩
      have hym := List.mem_of_getElem? hy
      have hyr : rowQ ys kk.z = y.2.2 := by rw [← hyz]; exact rowQ_row hok.nd hy
      rw [hyr] at k
      have hya := (hR.row y hym).1
      have hyn := (hR.row y hym).2
      refine ⟨_, rfl, t0, _, 3, .bl kk.dn, rfl, rfl, hT0 (Same.refl _), atI_nat (j := 3) rfl, kk.dn, decide (sl > 0), (· = H), rfl, fun _ => ⟨_, rfl, _, _, rfl, rfl, rfl, rfl⟩, fun _ => rfl, fun H0 e => ?_⟩
      subst e
      have ebf : (decide (sl ≠ 0) && kk.dn) = (kk.dn && decide (sl > 0)) := by
        rw [Bool.and_comm]
        congr 1
        exact decide_eq_decide.mpr ⟨fun e => by omega, fun e => by omega⟩
      rw [ebf] at k
      generalize (kk.dn && decide (sl > 0)) = bf at k ⊢
      refine ⟨(by show 0 ≤ sizeLine; decide), fun D nD => ?_⟩
      have s1 := same_new (o := .lst []) nD
      have hD1 : OpsA (upd H0 D (.lst [])) D [] := ⟨[], upd_same, List.not_mem_nil, .nil⟩
      generalize upd H0 D (.lst []) = H1 at s1 hD1 ⊢
      refine ⟨fun σ' H' => Same H0 H' ∧ OpsA H' D (if kk.sp < y.2.2.m then grpL y.2.2 i (kk.sp + 1) sl bf kk.wt none else []) ∧ ∃ v7 : Option V, σ' = [some (.ref R), some (.ref s), some (.str bg), some (.ref t0), some (.int sl), some (.bl bf), none, v7, some (.ref y.1), some (.ref D), none], ?_, ?_⟩
      · refine ⟨_, rfl, t0, _, 1, .int kk.sp, rfl, rfl, hT0 s1, atI1, _, rfl, y.1, _, 2, .int y.2.2.m, rfl, rfl, SqL.of (s1 _ _ hya), atI_nat (j := 2) rfl, kk.sp, y.2.2.m, rfl, rfl, _, rfl, ite2 (fun hc => ?_) fun hc => ?_⟩
        · have hc := of_decide_eq_true hc
          rw [if_pos hc]
          refine ⟨_, rfl, _, rfl, _, rfl, t0, _, 1, .int kk.sp, rfl, rfl, hT0 s1, atI1, _, _, rfl, rfl, _, rfl, _, rfl, _, rfl, t0, _, 4, .bl kk.wt, rfl, rfl, hT0 s1, atI_nat (j := 4) rfl, y.1, s, y.2.1, y.2.2, n, i, kk.sp + 1, sl, f, bf, kk.wt, rfl, s1 _ _ hya, s1 _ _ hs.hs, fun H4 M s4 nM hM => ?_⟩
          obtain ⟨rs, hrs, hps⟩ := id hM
          have hrl := paired_len hps
          have htl := tkL_len y.2.2 i (kk.sp + 1) sl bf kk.wt
          have nDM : D ≠ M := by
            obtain ⟨us, hu, _⟩ := hD1
            exact ne_of_none hu nM
          refine ⟨M, rfl, ⟨_, SqL.of hrs⟩, for_it walk_list (fun j σ H' => SameX D H4 H' ∧ OpsA H' D (((tkL y.2.2 i (kk.sp + 1) sl bf kk.wt).take j).map fun k => ((none, k.dn && !bf), k)) ∧ ∃ v7 : Option V, σ = [some (.ref R), some (.ref s), some (.str bg), some (.ref t0), some (.int sl), some (.bl bf), none, v7, some (.ref y.1), some (.ref D), none]) ⟨fun _ _ _ h => h, hD1.ext s4, none, rfl⟩ (fun j σ H' _ h => SqL.of (h.1 _ _ nDM.symm hrs)) ?_ ?_⟩
          · rintro j x σ H5 H' hj ⟨sx, hD, v7, rfl⟩ ⟨rfl, hx⟩
            rw [List.length_map] at hj
            have hrj : rs[j]? = some rs[j] := List.getElem?_eq_getElem hj
            generalize rs[j] = r at hrj
            obtain rfl : x = .ref r := by
              rw [List.getElem?_map, hrj] at hx
              exact (Option.some.inj hx).symm
            obtain ⟨ke, hk, t, hr1, ht1⟩ := paired_at hps hrj
            obtain ⟨usD, huD, _⟩ := hD1.ext s4
            have hr2 := sx _ _ (ne_of hr1 huD (by intro z; cases z)) hr1
            have ht2 := sx _ _ (ne_of ht1 huD (by intro z; cases z)) ht1
            obtain ⟨vs, hv, hvl⟩ := hD.len
            refine ⟨_, rfl, .inl ⟨rfl, _, SqL.of hv⟩, _, rfl, r, _, 0, .ref t, rfl, rfl, SqT.of hr2, atI0, t, _, 3, .bl ke.dn, rfl, rfl, SqT.of ht2, atI_nat (j := 3) rfl, ke.dn, !bf, (· = _), rfl, fun _ => ⟨_, rfl, bf, rfl, rfl, rfl⟩, fun _ => rfl, fun H6 e => ?_⟩
            subst e
            refine ⟨(by show 2 ≤ sizeLine; decide), fun c nc => ?_⟩
            have sc := same_new (o := .tup [.non, .bl (ke.dn && !bf)]) nc
            refine ⟨_, rfl, r, _, 0, .ref t, rfl, rfl, SqT.of (sc _ _ hr2), atI0, _, rfl, r, _, 1, .bl ke.nt, rfl, rfl, SqT.of (sc _ _ hr2), atI1, (by show 3 ≤ sizeLine; decide), fun p np => ?_⟩
            have sp := same_new (o := .lst [.ref c, .ref t, .bl ke.nt]) np
            have hv2 := sp _ _ (sc _ _ hv)
            have nDp : D ≠ p := ne_of_none (sc _ _ hv) np
            refine ⟨D, vs, _, rfl, rfl, hv2, ?_, (sx.trans (same_x (sc.trans sp))).trans SameX.upd, ?_, _, rfl⟩
            · rw [hvl, List.length_map, List.length_take]
              exact Nat.lt_of_le_of_lt (show _ ≤ 2 by omega) (by decide)
            · rw [List.take_add_one, hk, List.map_append]
              exact ((hD.ext sc).ext sp).add hv2 ⟨c, t, upd_same, sp _ _ upd_same, sp _ _ (sc _ _ ht2)⟩ nDp rfl
          · rintro σ H5 ⟨sx, hD, v7, rfl⟩
            rw [List.length_map, hrl, List.take_length] at hD
            exact ⟨same_x2 (s1.trans s4) sx nD, hD, _, rfl⟩
        · have hc := of_decide_eq_false (Bool.eq_false_iff.mpr hc)
          rw [if_neg hc]
          exact ⟨s1, hD1, none, rfl⟩
      rintro σ' H2 ⟨s2, hD2, v7, rfl⟩
      have hal : (if kk.sp < y.2.2.m then grpL y.2.2 i (kk.sp + 1) sl bf kk.wt none else []).length ≤ 2 := by
        split
        · exact grp_len ..
        · exact Nat.zero_le _
      generalize (if kk.sp < y.2.2.m then grpL y.2.2 i (kk.sp + 1) sl bf kk.wt none else []) = as at hD2 hal k
      clear hD1 s1
      refine ⟨fun σ' H' => Same H0 H' ∧ OpsA H' D (as ++ (if y.2.2.l ≤ kk.sp then ((zsOf ys).filter fun z => decide (z ∈ y.2.2.ns)).flatMap fun z => grpL (rowQ ys z) i 1 sl bf kk.wt (some z) else [])) ∧ ∃ v7 v10 : Option V, σ' = [some (.ref R), some (.ref s), some (.str bg), some (.ref t0), some (.int sl), some (.bl bf), none, v7, some (.ref y.1), some (.ref D), v10], ?_, ?_⟩
      rotate_left
      · rintro σ' H3 ⟨s3, hD3, v7, v10, rfl⟩
        exact ⟨_, rfl, k H3 D s3 nD hD3⟩
      refine ⟨_, rfl, t0, _, 1, .int kk.sp, rfl, rfl, hT0 s2, atI1, _, rfl, y.1, _, 1, .int y.2.2.l, rfl, rfl, SqL.of (s2 _ _ hya), atI1, kk.sp, y.2.2.l, rfl, rfl, _, rfl, ite2 (fun hc => ?_) fun hc => ?_⟩
      rotate_left
      · have hc := of_decide_eq_false (Bool.eq_false_iff.mpr hc)
        rw [if_neg hc, List.append_nil]
        exact ⟨s2, hD2, _, none, rfl⟩
      have hc := of_decide_eq_true hc
      have hc : y.2.2.l ≤ kk.sp := hc
      rw [if_pos hc]
      have flat : (y.2.2.ns.map V.str).all flatV = true := List.all_eq_true.mpr fun v hv => by
        obtain ⟨z, _, rfl⟩ := List.mem_map.mp hv
        rfl
      have hl6 := hok.l6
      refine ⟨_, rfl, R, rfl, ⟨_, SqL.of (s2 _ _ hR.hR)⟩, for_it walk_list (fun j σ H' => Same H0 H' ∧ OpsA H' D (as ++ (((zsOf ys).take j).filter fun z => decide (z ∈ y.2.2.ns)).flatMap fun z => grpL (rowQ ys z) i 1 sl bf kk.wt (some z)) ∧ ∃ v7 v10 : Option V, σ = [some (.ref R), some (.ref s), some (.str bg), some (.ref t0), some (.int sl), some (.bl bf), none, v7, some (.ref y.1), some (.ref D), v10]) ⟨s2, (by rw [List.take_zero]; show OpsA H2 D (as ++ []); rw [List.append_nil]; exact hD2), _, none, rfl⟩ (fun j σ H' _ h => SqL.of (h.1 _ _ hR.hR)) ?_ ?_⟩
      · clear hD2 s2
        rintro j x σ H5 H' hj ⟨s5, hD, v7, v10, rfl⟩ ⟨rfl, hx⟩
        obtain ⟨u, hu, rfl⟩ := getE hx
        have huz : (zsOf ys)[j]? = some u.2.2.z := by
          unfold zsOf
          rw [List.getElem?_map, hu]
          rfl
        have hum := List.mem_of_getElem? hu
        have hua := (hR.row u hum).1
        have hur : rowQ ys u.2.2.z = u.2.2 := rowQ_row hok.nd hu
        have htk : (((zsOf ys).take (j + 1)).filter fun z => decide (z ∈ y.2.2.ns)) = (((zsOf ys).take j).filter fun z => decide (z ∈ y.2.2.ns)) ++ if u.2.2.z ∈ y.2.2.ns then [u.2.2.z] else [] := by
          rw [List.take_add_one, huz, List.filter_append]
          congr 1
          show List.filter _ [u.2.2.z] = _
          rw [List.filter_cons]
          by_cases e : u.2.2.z ∈ y.2.2.ns
          · rw [if_pos e, if_pos (decide_eq_true e)]
            rfl
          · rw [if_neg e, if_neg (fun z => e (of_decide_eq_true z))]
            rfl
        have hos : (as ++ (((zsOf ys).take j).filter fun z => decide (z ∈ y.2.2.ns)).flatMap fun z => grpL (rowQ ys z) i 1 sl bf kk.wt (some z)).length ≤ 14 := by
          rw [List.length_append]
          have h1 := flat_len (g := fun z => grpL (rowQ ys z) i 1 sl bf kk.wt (some z)) (c := 2) (fun z => grp_len ..) (((zsOf ys).take j).filter fun z => decide (z ∈ y.2.2.ns))
          have h2 := filter_le (fun z => decide (z ∈ y.2.2.ns)) ((zsOf ys).take j)
          have h3 : ((zsOf ys).take j).length ≤ (zsOf ys).length := List.length_take_le' ..
          have h4 : (zsOf ys).length = ys.length := List.length_map ..
          omega
        refine ⟨_, rfl, u.1, _, 0, .str u.2.2.z, rfl, rfl, SqL.of (s5 _ _ hua), atI0, _, rfl, y.1, _, 4, .ref y.2.1, rfl, rfl, SqL.of (s5 _ _ hya), atI_nat (j := 4) rfl, y.2.1, _, rfl, .inr (SqT.of (s5 _ _ hyn)), rfl, flat, decide (u.2.2.z ∈ y.2.2.ns), ?_, ite2 (fun hc => ?_) fun hc => ?_⟩
        · rw [inV_str]
          rfl
        rotate_left
        · have hc := of_decide_eq_false (Bool.eq_false_iff.mpr hc)
          rw [htk, if_neg hc, List.append_nil]
          exact ⟨s5, hD, _, _, rfl⟩
        have hc := of_decide_eq_true hc
        rw [htk, if_pos hc, List.flatMap_append, ← List.append_assoc]
        have e1 : ([u.2.2.z].flatMap fun z => grpL (rowQ ys z) i 1 sl bf kk.wt (some z)) = grpL u.2.2 i 1 sl bf kk.wt (some u.2.2.z) := by
          show grpL (rowQ ys u.2.2.z) i 1 sl bf kk.wt (some u.2.2.z) ++ [] = _
          rw [List.append_nil, hur]
        rw [e1]
        generalize (as ++ (((zsOf ys).take j).filter fun z => decide (z ∈ y.2.2.ns)).flatMap fun z => grpL (rowQ ys z) i 1 sl bf kk.wt (some z)) = os at hD hos ⊢
        refine ⟨_, rfl, _, rfl, _, rfl, _, rfl, _, rfl, t0, _, 4, .bl kk.wt, rfl, rfl, hT0 s5, atI_nat (j := 4) rfl, u.1, s, u.2.1, u.2.2, n, i, 1, sl, f, bf, kk.wt, rfl, s5 _ _ hua, s5 _ _ hs.hs, fun H4 M s4 nM hM => ?_⟩
        obtain ⟨rs, hrs, hps⟩ := id hM
        have hrl := paired_len hps
        have htl := tkL_len u.2.2 i 1 sl bf kk.wt
        have nDM : D ≠ M := by
          obtain ⟨us, hu, _⟩ := hD
          exact ne_of_none hu nM
        have hD4 := hD.ext s4
        refine ⟨M, rfl, ⟨_, SqL.of hrs⟩, for_it walk_list (fun j σ H' => SameX D H4 H' ∧ OpsA H' D (os ++ ((tkL u.2.2 i 1 sl bf kk.wt).take j).map fun k => ((some u.2.2.z, k.dn && !bf), k)) ∧ ∃ v7 : Option V, σ = [some (.ref R), some (.ref s), some (.str bg), some (.ref t0), some (.int sl), some (.bl bf), none, v7, some (.ref y.1), some (.ref D), some (.ref u.1)]) ⟨fun _ _ _ h => h, (by rw [List.take_zero]; show OpsA H4 D (os ++ []); rw [List.append_nil]; exact hD4), _, rfl⟩ (fun j σ H' _ h => SqL.of (h.1 _ _ nDM.symm hrs)) ?_ ?_⟩
        · rintro j x σ H5 H' hj ⟨sx, hD, v7, rfl⟩ ⟨rfl, hx⟩
          rw [List.length_map] at hj
          have hrj : rs[j]? = some rs[j] := List.getElem?_eq_getElem hj
          generalize rs[j] = r at hrj
          obtain rfl : x = .ref r := by
            rw [List.getElem?_map, hrj] at hx
            exact (Option.some.inj hx).symm
          obtain ⟨ke, hk, t, hr1, ht1⟩ := paired_at hps hrj
          obtain ⟨usD, huD, _⟩ := hD4
          have hr2 := sx _ _ (ne_of hr1 huD (by intro z; cases z)) hr1
          have ht2 := sx _ _ (ne_of ht1 huD (by intro z; cases z)) ht1
          have su := same_x2 (s5.trans s4) sx nD _ _ hua
          obtain ⟨vs, hv, hvl⟩ := hD.len
          refine ⟨_, rfl, .inl ⟨rfl, _, SqL.of hv⟩, _, rfl, u.1, _, 0, .str u.2.2.z, rfl, rfl, SqL.of su, atI0, _, rfl, r, _, 0, .ref t, rfl, rfl, SqT.of hr2, atI0, t, _, 3, .bl ke.dn, rfl, rfl, SqT.of ht2, atI_nat (j := 3) rfl, ke.dn, !bf, (· = _), rfl, fun _ => ⟨_, rfl, bf, rfl, rfl, rfl⟩, fun _ => rfl, fun H6 e => ?_⟩
          subst e
          refine ⟨(by show 2 ≤ sizeLine; decide), fun c nc => ?_⟩
          have sc := same_new (o := .tup [.str u.2.2.z, .bl (ke.dn && !bf)]) nc
          refine ⟨_, rfl, r, _, 0, .ref t, rfl, rfl, SqT.of (sc _ _ hr2), atI0, _, rfl, r, _, 1, .bl ke.nt, rfl, rfl, SqT.of (sc _ _ hr2), atI1, (by show 3 ≤ sizeLine; decide), fun p np => ?_⟩
          have sp := same_new (o := .lst [.ref c, .ref t, .bl ke.nt]) np
          have hv2 := sp _ _ (sc _ _ hv)
          have nDp : D ≠ p := ne_of_none (sc _ _ hv) np
          refine ⟨D, vs, _, rfl, rfl, hv2, ?_, (sx.trans (same_x (sc.trans sp))).trans SameX.upd, ?_, _, rfl⟩
          · rw [hvl, List.length_append, List.length_map, List.length_take]
            exact Nat.lt_of_le_of_lt (show _ ≤ 16 by omega) (by decide)
          · rw [List.take_add_one, hk, List.map_append, ← List.append_assoc]
            exact ((hD.ext sc).ext sp).add hv2 ⟨c, t, upd_same, sp _ _ upd_same, sp _ _ (sc _ _ ht2)⟩ nDp rfl
        · rintro σ H5 ⟨sx, hD, v7, rfl⟩
          rw [List.length_map, hrl, List.take_length] at hD
          exact ⟨same_x2 (s5.trans s4) sx nD, hD, _, _, rfl⟩
      · rintro σ H5 ⟨s5, hD, v7, v10, rfl⟩
        rw [List.length_map, show ys.length = (zsOf ys).length from (List.length_map ..).symm, List.take_length] at hD
        exact ⟨s5, hD, _, _, rfl⟩
end
end K32

set_option Elab.async false
set_option linter.all false
set_option pp.deepTerms.threshold 14
set_option pp.maxSteps 2500
set_option maxRecDepth 100000
set_option maxHeartbeats 2000000
namespace K32
open PySem PySem.Spec PyProof.Rows L2 Vf
section
variable {P : Program} {w : World} {K : PySem.W.Frag} {mg : Str → Option Value} {base : Heap}
theorem sc_law_next : FnScope ["_law_rows_here", "_law_spec_here", "_law_begin", "_law_shift", "_law_walk_here", "_law_state"] ["_law_rows_here", "_law_spec_here", "_law_begin", "_law_shift", "_law_walk_here"] (defScope s_law_next) := ⟨rfl, rfl, rfl, by decide +kernel, rfl, by decide +kernel, by decide +kernel⟩
-- slots: 0 _law_rows_here, 1 _law_spec_here, 2 _law_begin, 3 _law_shift, 4 _law_walk_here, 5 _law_state
def spNxt : Sp := fun vs H Q _ => ∃ (R s W : Addr) (ys : List PgE) (bg : Str) (n : Nat) (i : Int) (f : V) (sh : Nat) (ws : List Tk), vs = [.ref R, .ref s, .str bg, .int (sh : Int), .ref W] ∧ RowsA H R ys ∧ RowsOk ys ∧ bg ∈ zsOf ys ∧ SpA H s (n : Int) i f ∧ TksA H W ws ∧ ws.length ≤ 1000 ∧ (∀ k, ws.getLast? = some k → k.z ∈ zsOf ys) ∧ sh < n ∧
  ∀ H' L, Same H H' → H L = none → OpsA H' L (opL ys bg i sh (((sh + ws.length) % n : Nat) : Int) ws.getLast?) → Q (.ref L) H'
theorem ok_law_next {fd : FuncData} (F : FnD K ("_law_next", none) "_law_next" "_law_next" s_law_next fd) (T : Txt K mg) (O_law_options : OkF P w K mg base CX0 2 "_law_options" ["_law_rows_here", "_law_spec_here", "_law_begin", "_law_state", "_law_slot"] spOpt) : OkF P w K mg base CX0 3 "_law_next" ["_law_rows_here", "_law_spec_here", "_law_begin", "_law_shift", "_law_walk_here"] spNxt := by
  refine okd F (F.ok sc_law_next (fun vs H Q E h => ?_) fun cdv A outer s H vs Q E hr h => ?_) fun _ _ _ _ _ _ us hl => match us, hl with | [_, _, _, _, _], _ => rfl
  · obtain ⟨R, s, W, ys, bg, n, i, f, sh, ws, rfl, _⟩ := h
    rfl
  · obtain ⟨R, s, W, ys, bg, n, i, f, sh, ws, rfl, hR, hok, hz, hs, hW, hwl, hwz, hsh, k⟩ := h
    refine ⟨_, PSs.nox (pss_cons (ps_set (i := 5) sc_law_next.nd rfl (Or.inl rfl) pe_non)
  (C8.pss_cut (ps_if (pt_cmpR (op_neNil hr.units) (pv 4) (pe_lst pa_nil) (nomark _)) (pss_one (ps_set (i := 5) sc_law_next.nd rfl (Or.inl rfl) (pe_ix ix_tup (pe_ix ix_list (pv 4) (pe_un un_neg pe_int) (fun _ _ => rfl)) pe_int (fun _ _ => rfl))))
  pss_nil)
  (pss_one (ps_ret (c_fn O_law_options hr (by decide) T.g_law_options pass0 (pa_cons (pv 0) (pa_cons (pv 1) (pa_cons (pv 2) (pa_cons (pv 5) (pa_cons (pe_op op_mod (pe_callTy call_int1 (by rfl) T.z_int (by decide +kernel) (pa_cons (pe_op op_add (pv 3) (pe_callB (id := "len") call_len_seq (by rfl) T.z_len (by decide +kernel) (pa_cons (pv 4) pa_nil))) pa_nil)) (pe_ix ix_list (pv 1) pe_int (fun _ _ => rfl))) pa_nil)))))))))), ?_⟩
    have n1 := hs.n1
    have n8 := hs.n8
    obtain ⟨rs, hrs, hps⟩ := id hW
    have hrl := paired_len hps
    refine ⟨fun σ' H' => Same H H' ∧ ∃ v, StO H' v ws.getLast? ∧ σ' = [some (.ref R), some (.ref s), some (.str bg), some (.int (sh : Int)), some (.ref W), some v], ?_, ?_⟩
    · refine ⟨_, rfl, (by show 0 ≤ sizeLine; decide), fun E0 nE => ?_⟩
      have sE := same_new (o := .lst []) nE
      refine ⟨W, E0, rs.map V.ref, rfl, rfl, SqL.of (sE _ _ hrs), SqL.of upd_same, _, rfl, ?_⟩
      by_cases hne : ws = []
      · subst hne
        obtain rfl : rs = [] := List.length_eq_zero_iff.mp hrl
        exact iteF ⟨sE, .non, rfl, rfl⟩
      · obtain ⟨ws', kk, hw⟩ : ∃ ws' kk, ws = ws' ++ [kk] := ⟨_, _, (List.dropLast_concat_getLast hne).symm⟩
        subst hw
        obtain ⟨rs', r, rfl, t, hr1, ht1⟩ := paired_last hps
        have hr2 := sE _ _ hr1
        have ht2 := sE _ _ ht1
        have hrs2 := sE _ _ hrs
        rw [List.map_append] at hrs2
        have hie : ((rs' ++ [r]).map V.ref).isEmpty = false := by simp
        rw [hie]
        refine iteT ⟨_, rfl, 1, rfl, W, _, -1, .ref r, rfl, rfl, SqL.of hrs2, atI_m1, r, _, 0, .ref t, rfl, rfl, SqT.of hr2, atI0, sE, .ref t, ?_, rfl⟩
        rw [List.getLast?_concat]
        exact ⟨t, rfl, ht2⟩
    · rintro σ' H1 ⟨s1, v, hv, rfl⟩
      have e : ((sh : Int) + ((rs.map V.ref).length : Int)) % (n : Int) = (((sh + ws.length) % n : Nat) : Int) := by rw [List.length_map, hrl, ← Int.natCast_add, ← Int.natCast_emod]
      refine ⟨_, rfl, _, rfl, _, rfl, _, rfl, _, rfl, _, rfl, W, _, rfl, .inl (SqL.of (s1 _ _ hrs)), _, _, rfl, rfl, .inl ⟨_, rfl, _, rfl, s, _, 0, .int (n : Int), rfl, rfl, SqL.of (s1 _ _ hs.hs), atI0, _, _, rfl, rfl, (by show (0 : Int) < n; omega), ?_⟩⟩
      refine ⟨R, s, ys, bg, v, ws.getLast?, _, i, _, f, sh, congrArg (fun z => [V.ref R, V.ref s, V.str bg, v, V.int z]) e, hR.ext s1, hok, hz, hs.ext s1, hv, hwz, fun hn => ?_, Int.natCast_nonneg _, fun H2 L s2 nL hL => k H2 L (s1.trans s2) (none_of s1 nL) hL⟩
      rw [List.getLast?_eq_none_iff.mp hn]
      show (((sh + 0) % n : Nat) : Int) = _
      rw [Nat.add_zero, Nat.mod_eq_of_lt hsh]
/-- what the law says that the record is -/
structure DueA (H : Hp) (D Td no : Addr) (ys : List PgE) (l : List (Str × Bool)) : Prop where
  hD : H D = some (.lst [.int (l.length : Int), .ref Td, .ref no, .bl (nRun (letQ ys) l).2.1, .int (recLost (letQ ys) l)])
  hT : H Td = some (.dK (kvT ys (l.map (·.1))))
  hn : NotesA H no (nRun (letQ ys) l).1
theorem DueA.ext {H H' : Hp} {D Td no : Addr} {ys : List PgE} {l : List (Str × Bool)} (h : DueA H D Td no ys l) (s : Same H H') : DueA H' D Td no ys l := ⟨s _ _ h.hD, s _ _ h.hT, h.hn.ext s⟩
theorem sc_law_empty : FnScope ["_law_rows_here", "_law_times", "_law_row_here"] ["_law_rows_here"] (defScope s_law_empty) := ⟨rfl, rfl, rfl, by decide +kernel, rfl, by decide +kernel, by decide +kernel⟩
-- slots: 0 _law_rows_here, 1 _law_times, 2 _law_row_here
def spEmp : Sp := fun vs H Q _ => ∃ (R : Addr) (ys : List PgE), vs = [.ref R] ∧ RowsA H R ys ∧ RowsOk ys ∧ ∀ H' D T no, Same H H' → H D = none → H T = none → H no = none → DueA H' D T no ys [] → Q (.ref D) H'
theorem ok_law_empty {fd : FuncData} (F : FnD K ("_law_empty", none) "_law_empty" "_law_empty" s_law_empty fd) (T : Txt K mg) : OkF P w K mg base CX0 1 "_law_empty" ["_law_rows_here"] spEmp := by
  refine okd F (F.ok sc_law_empty (fun vs H Q E h => ?_) fun cdv A outer s H vs Q E hr h => ?_) fun _ _ _ _ _ _ us hl => match us, hl with | [_], _ => rfl
  · obtain ⟨R, ys, rfl, _⟩ := h
    rfl
  · obtain ⟨R, ys, rfl, hR, hok, k⟩ := h
    refine ⟨_, PSs.nox (pss_cons (ps_set (i := 1) sc_law_empty.nd rfl (Or.inl rfl) pe_dnewK)
  (pss_cons (ps_for PassesOwn.never rfl (pi_list (pv 0)) (pg_name (i := 2) sc_law_empty.nd rfl (Or.inl rfl))
  (pss_one (ps_dput (hu_of hr) (pv 1) (pe_ix ix_list (pv 2) pe_int (fun _ _ => rfl)) pe_int rfl)))
  (pss_one (ps_ret (pe_lst (pa_cons pe_int (pa_cons (pv 1) (pa_cons (pe_lst pa_nil) (pa_cons pe_bl (pa_cons pe_int pa_nil)))))))))), ?_⟩
    intro Td nT
    have s1 := same_new (o := .dK []) nT
    have hT1 : (upd H Td (.dK [])) Td = some (.dK ((ys.take 0).map fun y => ((Sum.inr y.2.2.z : Key), V.int (cntN [] y.2.2.z : Int)))) := upd_same
    have sT : ∀ {H' : Hp}, SameX Td (upd H Td (.dK [])) H' → Same H H' := fun x b o h => x b o (ne_of_none h nT) (s1 _ _ h)
    show tSeq _ _ _ _ (upd H Td (.dK []))
    generalize upd H Td (.dK []) = H1 at s1 hT1 sT ⊢
    refine ⟨_, rfl, R, rfl, ⟨_, SqL.of (hR.ext s1).hR⟩, for_it walk_list (fun j σ H' => SameX Td H1 H' ∧ H' Td = some (.dK ((ys.take j).map fun y => ((Sum.inr y.2.2.z : Key), V.int (cntN [] y.2.2.z : Int)))) ∧ ∃ v2 : Option V, σ = [some (.ref R), some (.ref Td), v2]) ⟨fun _ _ _ h => h, hT1, none, rfl⟩ (fun j σ H' _ h => SqL.of ((hR.ext (sT h.1)).hR)) ?_ ?_⟩
    · rintro j x σ H2 H' hj ⟨sx, hT, v6, rfl⟩ ⟨rfl, hx⟩
      obtain ⟨y, hy, rfl⟩ := getE hx
      have hya := ((hR.ext (sT sx)).row y (List.mem_of_getElem? hy)).1
      refine ⟨_, rfl, _, rfl, y.1, _, 0, .str y.2.2.z, rfl, rfl, SqL.of hya, atI0, Td, _, rfl, DPut.k (k := Sum.inr y.2.2.z) hT ?_, sx.trans SameX.upd, ?_, _, rfl⟩
      · rw [List.length_map, List.length_take]
        rw [List.length_map] at hj
        exact Nat.lt_of_le_of_lt (Nat.min_le_left _ _) (Nat.lt_of_lt_of_le hj (Nat.le_trans hok.l6 (by decide)))
      · rw [upd_same]
        exact congrArg (fun z => some (HO.dK z)) (put_row (f := fun y => V.int (cntN [] y.2.2.z : Int)) hok.nd hy)
    rintro σ H2 ⟨sx, hT, v6, rfl⟩
    rw [List.length_map, List.take_length] at hT
    have s2 := sT sx
    refine ⟨_, rfl, (by show 0 ≤ sizeLine; decide), fun no nno => ?_⟩
    have s3 := same_new (o := .lst []) nno
    refine ⟨(by show 5 ≤ sizeLine; decide), fun D nD => ?_⟩
    have s4 := same_new (o := .lst [.int 0, .ref Td, .ref no, .bl false, .int 0]) nD
    exact k _ D Td no (s2.trans (s3.trans s4)) (none_of (s2.trans s3) nD) nT (none_of s2 nno) ⟨upd_same, s4 _ _ (s3 _ _ hT), [], s4 _ _ upd_same, .nil⟩
theorem sc_law_due : FnScope ["_law_rows_here", "_law_spec_here", "_law_shift", "_law_walk_here"] ["_law_rows_here", "_law_spec_here", "_law_shift", "_law_walk_here"] (defScope s_law_due) := ⟨rfl, rfl, rfl, by decide +kernel, rfl, by decide +kernel, by decide +kernel⟩
-- slots: 0 _law_rows_here, 1 _law_spec_here, 2 _law_shift, 3 _law_walk_here
def spDu : Sp := fun vs H Q _ => ∃ (R s W : Addr) (ys : List PgE) (bg : Str) (n i : Nat) (f : V) (sh : Nat) (ws : List Tk), vs = [.ref R, .ref s, .int (sh : Int), .ref W] ∧ RowsA H R ys ∧ RowsOk ys ∧ SpA H s (n : Int) (i : Int) f ∧ TksA H W ws ∧ ws.length ≤ 1000 ∧ (ws ≠ [] → WalkOk ys bg n i sh ws) ∧ sh ≤ n - 1 ∧
  ∀ H' D Td no, Same H H' → H D = none → H Td = none → H no = none → DueA H' D Td no ys (runL (staysL ws) (looksL (i : Int) ws) n sh) → Q (.ref D) H'
theorem ok_law_due {fd : FuncData} (F : FnD K ("_law_due", none) "_law_due" "_law_due" s_law_due fd) (T : Txt K mg) (O_law_empty : OkF P w K mg base CX0 1 "_law_empty" ["_law_rows_here"] spEmp) (O_law_stays : OkF P w K mg base CX0 1 "_law_stays" ["_law_walk_here"] spStL) (O_law_looks : OkF P w K mg base CX0 1 "_law_looks" ["_law_walk_here", "_law_spec_here"] spLkL)
    (O_law_seen : OkF P w K mg base CX0 2 "_law_seen" ["_law_rows_here", "_law_spec_here", "_law_shift", "_law_stays_here", "_law_looks_here"] (spSeen K)) : OkF P w K mg base CX0 3 "_law_due" ["_law_rows_here", "_law_spec_here", "_law_shift", "_law_walk_here"] spDu := by
  refine okd F (F.ok sc_law_due (fun vs H Q E h => ?_) fun cdv A outer s H vs Q E hr h => ?_) fun _ _ _ _ _ _ us hl => match us, hl with | [_, _, _, _], _ => rfl
  · obtain ⟨R, s, W, ys, bg, n, i, f, sh, ws, rfl, _⟩ := h
    rfl
  · obtain ⟨R, s, W, ys, bg, n, i, f, sh, ws, rfl, hR, hok, hs, hW, hwl, hwk, hsh, k⟩ := h
    refine ⟨_, PSs.nox (pss_cons (ps_if (pt_cmpR (op_eqNil hr.units) (pv 3) (pe_lst pa_nil) (nomark _)) (pss_one (ps_ret (c_fn O_law_empty hr (by decide) T.g_law_empty pass0 (pa_cons (pv 0) pa_nil))))
  pss_nil)
  (pss_one (ps_ret (c_fn O_law_seen hr (by decide) T.g_law_seen pass0 (pa_cons (pv 0) (pa_cons (pv 1) (pa_cons (pv 2) (pa_cons (c_fn O_law_stays hr (by decide) T.g_law_stays pass0 (pa_cons (pv 3) pa_nil)) (pa_cons (c_fn O_law_looks hr (by decide) T.g_law_looks pass0 (pa_cons (pv 3) (pa_cons (pv 1) pa_nil))) pa_nil))))))))), ?_⟩
    have n1 := hs.n1
    have n8 := hs.n8
    have i0 := hs.i0
    have i1 := hs.i1
    obtain ⟨rs, hrs, hps⟩ := id hW
    have hrl := paired_len hps
    refine ⟨_, rfl, (by show 0 ≤ sizeLine; decide), fun E0 nE => ?_⟩
    have sE := same_new (o := .lst []) nE
    refine ⟨W, E0, rs.map V.ref, rfl, rfl, SqL.of (sE _ _ hrs), SqL.of upd_same, _, rfl, ?_⟩
    by_cases hne : ws = []
    · subst hne
      obtain rfl : rs = [] := List.length_eq_zero_iff.mp hrl
      exact iteT ⟨_, rfl, R, ys, rfl, hR.ext sE, hok, fun H1 D Td no s1 nD nT nno hd => k H1 D Td no (sE.trans s1) (none_of sE nD) (none_of sE nT) (none_of sE nno) hd⟩
    · have hie : (rs.map V.ref).isEmpty = false := by
        cases rs with
        | nil => exact absurd (List.length_eq_zero_iff.mp hrl.symm) hne
        | cons a l => rfl
      rw [hie]
      have hwk := hwk hne
      refine iteF ⟨_, rfl, _, rfl, _, rfl, _, rfl, W, ws, rfl, hW.ext sE, hwl, (fun k h => (hwk.h0 k h).2.1), fun H1 S s1 nS hSt => ?_⟩
      have s2 := sE.trans s1
      refine ⟨_, rfl, _, rfl, W, s, ws, _, _, f, rfl, hW.ext s2, hwl, hs.ext s2, fun H2 L s3 nL hL => ?_⟩
      have s4 := s2.trans s3
      have hq := (walk_sts hok hwk).1
      have htt := walk_tot hok hwk
      have hlks := walk_lks (by omega) (by omega) hsh hwk
      rw [← htt] at hlks
      exact ⟨R, s, S, L, ys, n, _, f, sh, _, _, rfl, hR.ext s4, hok, hs.ext s4, hSt.ext s3, (fun p hp => by obtain ⟨j, hj⟩ := List.mem_iff_getElem?.mp hp; exact ⟨(hq.hs j p hj).1, (hq.hs j p hj).2.1⟩), hL, by omega, hlks.len, fun H3 D Td no s5 nD nT nno hD hT hno => k H3 D Td no (s4.trans s5) (none_of s4 nD) (none_of s4 nT) (none_of s4 nno) ⟨by
        rw [runL_len, namesL_len (fun p hp => by obtain ⟨j, hj⟩ := List.mem_iff_getElem?.mp hp; have := (hq.hs j p hj).2.1; omega)]
        exact hD, by rw [runL_names]; exact hT, hno⟩⟩
end
end K32

set_option Elab.async false
set_option linter.all false
set_option pp.deepTerms.threshold 14
set_option pp.maxSteps 2500
set_option maxRecDepth 100000
set_option maxHeartbeats 2000000
namespace K32
open PySem PySem.Spec PyProof.Rows L2 Vf
section
variable {P : Program} {w : World} {K : PySem.W.Frag} {mg : Str → Option Value} {base : Heap}
abbrev CM (K : PySem.W.Frag) : Addr := He.ga K "Mark"
structure MkTxt (K : PySem.W.Frag) (mg : Str → Option Value) : Prop extends LvTxt K mg where
  g_Mark : mg "Mark" = some (.ref (He.ga K "Mark"))
  c_Mark : Cls K (He.ga K "Mark")
  m_Mark : Mk K (He.ga K "Mark") (He.fAd K ("Mark", some "__init__"))
  kT : NoAttr K (He.ga K "Mark") "ticks"
  kM : NoAttr K (He.ga K "Mark") "made"
  kA : NoAttr K (He.ga K "Mark") "state"
  kO : NoAttr K (He.ga K "Mark") "outer"
structure TMeth (K : PySem.W.Frag) : Prop where
  m___enter__ : Meth K (He.ga K "Profile") "__enter__" (He.fAd K ("Profile", some "__enter__"))
  m___exit__ : Meth K (He.ga K "Profile") "__exit__" (He.fAd K ("Profile", some "__exit__"))
  m_trial : Meth K (He.ga K "Profile") "trial" (He.fAd K ("Profile", some "trial"))
/-! ### a mark: what the profile comes back to -/
def mkf (t : Int) (M : Addr) (sv mk : V) : List (Str × V) := putF "outer" mk (putF "state" sv (putF "made" (.ref M) (putF "ticks" (.int t) [])))
theorem mkf_ticks (t : Int) (M : Addr) (sv mk : V) : (mkf t M sv mk).lookup ("ticks" : Str) = some (.int t) := by
  unfold mkf
  rw [lookup_putF, if_neg (by decide +kernel), lookup_putF, if_neg (by decide +kernel), lookup_putF, if_neg (by decide +kernel), lookup_putF, if_pos rfl]
theorem mkf_made (t : Int) (M : Addr) (sv mk : V) : (mkf t M sv mk).lookup ("made" : Str) = some (.ref M) := by
  unfold mkf
  rw [lookup_putF, if_neg (by decide +kernel), lookup_putF, if_neg (by decide +kernel), lookup_putF, if_pos rfl]
theorem mkf_state (t : Int) (M : Addr) (sv mk : V) : (mkf t M sv mk).lookup ("state" : Str) = some sv := by
  unfold mkf
  rw [lookup_putF, if_neg (by decide +kernel), lookup_putF, if_pos rfl]
theorem mkf_outer (t : Int) (M : Addr) (sv mk : V) : (mkf t M sv mk).lookup ("outer" : Str) = some mk := by
  unfold mkf
  rw [lookup_putF, if_pos rfl]
theorem mkf_pff {t t' : Int} {M M' g p : Addr} {sv mk sv' mk' : V} {ph : Int} : mkf t M sv mk ≠ pff t' g p ph M' sv' mk' := fun e => by
  have h1 := mkf_outer t M sv mk
  rw [e] at h1
  have h2 : (pff t' g p ph M' sv' mk').lookup ("outer" : Str) = none := pff_out
  rw [h2] at h1
  cases h1
theorem sc_Mark_init : FnScope ["self", "ticks", "made", "state", "outer"] ["self", "ticks", "made", "state", "outer"] (defScope s_Mark_init) := ⟨rfl, rfl, rfl, by decide +kernel, rfl, by decide +kernel, by decide +kernel⟩
-- slots: 0 self, 1 ticks, 2 made, 3 state, 4 outer
def spMkI (K : PySem.W.Frag) : Sp := fun vs H Q _ => ∃ (r dx M : Addr) (t : Int) (sv mk : V), vs = [.ref r, .int t, .ref M, sv, mk] ∧ H r = some (.ins (CM K) dx []) ∧ Q .non (upd H r (.ins (CM K) dx (mkf t M sv mk)))
theorem ok_Mark_init {fd : FuncData} (F : FnD K ("Mark", some "__init__") "__init__" "Mark.__init__" s_Mark_init fd) (T : MkTxt K mg) : OkD P w K mg base CX0 1 ("Mark", some "__init__") ["self", "ticks", "made", "state", "outer"] [] (spMkI K) := by
  refine okd F (F.ok sc_Mark_init (fun vs H Q E h => ?_) fun cdv A outer s H vs Q E hr h => ?_) fun _ _ _ _ _ _ us hl => match us, hl with | [_, _, _, _, _], _ => rfl
  · obtain ⟨r, dx, M, t, sv, mk, rfl, _⟩ := h
    rfl
  · obtain ⟨r, dx, M, t, sv, mk, rfl, hr1, k⟩ := h
    refine ⟨_, PSs.nox (pss_cons (ps_fld (pv 0) (pv 1) rfl)
  (pss_cons (ps_fld (pv 0) (pv 2) rfl)
  (pss_cons (ps_fld (pv 0) (pv 3) rfl)
  (pss_one (ps_fld (pv 0) (pv 4) rfl))))), ?_⟩
    refine ⟨_, rfl, _, rfl, r, _, dx, [], rfl, hr1, T.c_Mark, T.kT, (by show 0 < 1000; decide), ?_⟩
    refine ⟨_, rfl, _, rfl, r, _, dx, _, rfl, upd_same, T.c_Mark, T.kM, (by show 1 < 1000; decide), ?_⟩
    rw [upd_upd]
    refine ⟨_, rfl, _, rfl, r, _, dx, _, rfl, upd_same, T.c_Mark, T.kA, (by show 2 < 1000; decide), ?_⟩
    rw [upd_upd]
    refine ⟨_, rfl, _, rfl, r, _, dx, _, rfl, upd_same, T.c_Mark, T.kO, (by show 3 < 1000; decide), ?_⟩
    rw [upd_upd]
    exact k
theorem sc_Profile_enter : FnScope ["self"] ["self"] (defScope s_Profile_enter) := ⟨rfl, rfl, rfl, by decide +kernel, rfl, by decide +kernel, by decide +kernel⟩
-- slots: 0 self
def spEn (K : PySem.W.Frag) : Sp := fun vs H Q _ => ∃ (q g p : Addr) (t : Int) (ph : Int) (mk : V) (dx M : Addr) (sv : V), vs = [.ref q] ∧ H q = some (.ins (CPf K) dx (pff t g p ph M sv mk)) ∧
  ∀ H' r dr, SameX q H H' → H r = none → H' q = some (.ins (CPf K) dx (pff t g p ph M sv (.ref r))) → H' r = some (.ins (CM K) dr (mkf t M sv mk)) → Q (.ref q) H'
theorem ok_Profile_enter {fd : FuncData} (F : FnD K ("Profile", some "__enter__") "__enter__" "Profile.__enter__" s_Profile_enter fd) (T : MkTxt K mg) (O_Mark_init4 : OkD P w K mg base CX0 1 ("Mark", some "__init__") ["self", "ticks", "made", "state", "outer"] [] (spMkI K)) : OkM P w K mg base CX0 4 "Profile" "__enter__" ["self"] (spEn K) := by
  refine okd F (F.ok sc_Profile_enter (fun vs H Q E h => ?_) fun cdv A outer s H vs Q E hr h => ?_) fun _ _ _ _ _ _ us hl => match us, hl with | [_], _ => rfl
  · obtain ⟨q, g, p, t, ph, mk, dx, M, sv, rfl, _⟩ := h
    rfl
  · obtain ⟨q, g, p, t, ph, mk, dx, M, sv, rfl, hq, k⟩ := h
    refine ⟨_, PSs.nox (pss_cons (ps_fld (pv 0) (c_mk T.m_Mark O_Mark_init4 hr (by decide) T.g_Mark pass0 (pa_cons (pe_fld (pv 0) rfl) (pa_cons (pe_fld (pv 0) rfl) (pa_cons (pe_fld (pv 0) rfl) (pa_cons (pe_fld (pv 0) rfl) pa_nil))))) rfl)
  (pss_one (ps_ret (pv 0)))), ?_⟩
    refine ⟨_, rfl, q, _, dx, _, _, rfl, hq, T.c_Profile, T.fT, pff_ticks, _, rfl, q, _, dx, _, _, rfl, hq, T.c_Profile, T.fM, pff_made, _, rfl, q, _, dx, _, _, rfl, hq, T.c_Profile, T.fA, pff_state, _, rfl, q, _, dx, _, _, rfl, hq, T.c_Profile, T.fK, pff_mark, fun r dr nr ndr ne => ⟨r, dr, M, t, sv, mk, rfl, upd_same, ?_⟩⟩
    have sm : Same H (upd (upd (upd H dr (.own r)) r (.ins (CM K) dr [])) r (.ins (CM K) dr (mkf t M sv mk))) := same_make2 nr ndr
    have hr1 : (upd (upd (upd H dr (.own r)) r (.ins (CM K) dr [])) r (.ins (CM K) dr (mkf t M sv mk))) r = some (.ins (CM K) dr (mkf t M sv mk)) := upd_same
    generalize upd (upd (upd H dr (.own r)) r (.ins (CM K) dr [])) r (.ins (CM K) dr (mkf t M sv mk)) = H1 at sm hr1 ⊢
    have hq1 := sm _ _ hq
    have nrq : r ≠ q := fun e => by
      rw [e, hq] at nr
      cases nr
    refine ⟨rfl, _, rfl, q, _, dx, _, rfl, hq1, T.c_Profile, T.fK, pff_len, ?_⟩
    rw [pff_setK]
    exact ⟨_, rfl, k _ r dr ((same_x sm).trans SameX.upd) nr upd_same (by rw [upd_ne nrq]; exact hr1)⟩
theorem sc_Profile_exit : FnScope ["self", "kind", "value", "trace", "mark"] ["self", "kind", "value", "trace"] (defScope s_Profile_exit) := ⟨rfl, rfl, rfl, by decide +kernel, rfl, by decide +kernel, by decide +kernel⟩
-- slots: 0 self, 1 kind, 2 value, 3 trace, 4 mark
def spEx (K : PySem.W.Frag) : Sp := fun vs H Q _ => ∃ (q g p r : Addr) (t t' : Int) (ph : Int) (mk : V) (dx dr M M' : Addr) (sv sv' x y z : V), vs = [.ref q, x, y, z] ∧ H q = some (.ins (CPf K) dx (pff t g p ph M sv (.ref r))) ∧ H r = some (.ins (CM K) dr (mkf t' M' sv' mk)) ∧
  Q .non (upd H q (.ins (CPf K) dx (pff t' g p ph M' sv' mk)))
theorem exit_rd (T : MkTxt K mg) {H : Hp} {Q : VK} {q g p r : Addr} {t t' : Int} {ph : Int} {mk : V} {dx dr M M' : Addr} {sv sv' x y z : V} (hq : H q = some (.ins (CPf K) dx (pff t g p ph M sv (.ref r)))) (hm : H r = some (.ins (CM K) dr (mkf t' M' sv' mk))) (k : Q .non (upd H q (.ins (CPf K) dx (pff t' g p ph M' sv' mk)))) :
    tSeq (tAsg (tFld K (tVar 0) "_mark") (gName 4)) (tSeq (sFld K (tVar 0) (tFld K (tVar 4) "ticks") "ticks") (tSeq (sFld K (tVar 0) (tFld K (tVar 4) "made") "_made") (tSeq (sFld K (tVar 0) (tFld K (tVar 4) "state") "_state") (sFld K (tVar 0) (tFld K (tVar 4) "outer") "_mark")))) { nx := fun _ G => Q .non G, rt := Q } (L2.start ["self", "kind", "value", "trace", "mark"] [V.ref q, x, y, z]) H := by
  have nrq : r ≠ q := ne_of hm hq (by
    intro e
    exact mkf_pff (HO.ins.inj e).2.2)
  have go : ∀ {H1 : Hp} {o : HO}, H1 r = some (.ins (CM K) dr (mkf t' M' sv' mk)) → (upd H1 q o) r = some (.ins (CM K) dr (mkf t' M' sv' mk)) := fun e => by
    rw [upd_ne nrq]
    exact e
  refine ⟨_, rfl, q, _, dx, _, _, rfl, hq, T.c_Profile, T.fK, pff_mark, ?_⟩
  refine ⟨_, rfl, r, _, dr, _, _, rfl, hm, T.c_Mark, T.kT, mkf_ticks .., _, rfl, q, _, dx, _, rfl, hq, T.c_Profile, T.fT, pff_len, ?_⟩
  rw [pff_setT]
  refine ⟨_, rfl, r, _, dr, _, _, rfl, go hm, T.c_Mark, T.kM, mkf_made .., _, rfl, q, _, dx, _, rfl, upd_same, T.c_Profile, T.fM, pff_len, ?_⟩
  rw [upd_upd, pff_setM]
  refine ⟨_, rfl, r, _, dr, _, _, rfl, go hm, T.c_Mark, T.kA, mkf_state .., _, rfl, q, _, dx, _, rfl, upd_same, T.c_Profile, T.fA, pff_len, ?_⟩
  rw [upd_upd, pff_setA]
  refine ⟨_, rfl, r, _, dr, _, _, rfl, go hm, T.c_Mark, T.kO, mkf_outer .., _, rfl, q, _, dx, _, rfl, upd_same, T.c_Profile, T.fK, pff_len, ?_⟩
  rw [upd_upd, pff_setK]
  exact k
theorem ok_Profile_exit {fd : FuncData} (F : FnD K ("Profile", some "__exit__") "__exit__" "Profile.__exit__" s_Profile_exit fd) (T : MkTxt K mg) : OkM P w K mg base CX0 1 "Profile" "__exit__" ["self", "kind", "value", "trace"] (spEx K) := by
  refine okd F (F.ok sc_Profile_exit (fun vs H Q E h => ?_) fun cdv A outer s H vs Q E hr h => ?_) fun _ _ _ _ _ _ us hl => match us, hl with | [_, _, _, _], _ => rfl
  · obtain ⟨q, g, p, r, t, t', ph, mk, dx, dr, M, M', sv, sv', x, y, z, rfl, _⟩ := h
    rfl
  · obtain ⟨q, g, p, r, t, t', ph, mk, dx, dr, M, M', sv, sv', x, y, z, rfl, hq, hm, k⟩ := h
    refine ⟨_, PSs.nox (pss_cons (ps_set (i := 4) sc_Profile_exit.nd rfl (Or.inl rfl) (pe_fld (pv 0) rfl))
  (pss_cons (ps_fld (pv 0) (pe_fld (pv 4) rfl) rfl)
  (pss_cons (ps_fld (pv 0) (pe_fld (pv 4) rfl) rfl)
  (pss_cons (ps_fld (pv 0) (pe_fld (pv 4) rfl) rfl)
  (pss_one (ps_fld (pv 0) (pe_fld (pv 4) rfl) rfl)))))), ?_⟩
    exact exit_rd T hq hm k
theorem ok_Profile_exitW {fd : FuncData} (F : FnD K ("Profile", some "__exit__") "__exit__" "Profile.__exit__" s_Profile_exit fd) (T : MkTxt K mg) : OkW P w K mg base 1 ("Profile", some "__exit__") (spEx K) := by
  refine Vf.ok_hot F sc_Profile_exit (fun vs H Q E h => ?_) (FunD.bindsN F fun _ _ _ _ _ _ us hl => match us, hl with | [_, _, _, _], _ => rfl) fun cdv A ol s H vs Q x0 hr h => ?_
  · obtain ⟨q, g, p, r, t, t', ph, mk, dx, dr, M, M', sv, sv', x, y, z, rfl, _⟩ := h
    rfl
  · obtain ⟨q, g, p, r, t, t', ph, mk, dx, dr, M, M', sv, sv', x, y, z, rfl, hq, hm, k⟩ := h
    refine ⟨_, PSs.nox (pss_cons (ps_set (i := 4) sc_Profile_exit.nd rfl (Or.inl rfl) (pe_fld (pv 0) rfl))
  (pss_cons (ps_fld (pv 0) (pe_fld (pv 4) rfl) rfl)
  (pss_cons (ps_fld (pv 0) (pe_fld (pv 4) rfl) rfl)
  (pss_cons (ps_fld (pv 0) (pe_fld (pv 4) rfl) rfl)
  (pss_one (ps_fld (pv 0) (pe_fld (pv 4) rfl) rfl)))))), ?_⟩
    exact exit_rd T hq hm k
theorem OkM_R {CX : CXT} {k : Nat} {c m : Str} {ps : List Str} {sp : Sp} (O : OkM P w K mg base CX k c m ps sp) : FnR P w K mg base CX k (He.fAd K (c, some m)) sp := by
  obtain ⟨fd, ds, F, b, v⟩ := O.ex
  cases v
  have := F.raw b .nil
  simpa using this
end
end K32

set_option Elab.async false
set_option linter.all false
set_option pp.deepTerms.threshold 14
set_option pp.maxSteps 2500
set_option maxRecDepth 100000
set_option maxHeartbeats 2000000
namespace K32
open PySem PySem.Spec PyProof.Rows L2 Vf
section
variable {P : Program} {w : World} {K : PySem.W.Frag} {mg : Str → Option Value} {base : Heap}
/-! ### choices one behind the other -/
def nx1 (xs : List PgE) (st : Str) (i : Int) (n sh : Nat) (cs : List Ch) (o : Option Tk) (c : Ch) : Tk := nxT xs st i sh (((sh + cs.length) % n : Nat) : Int) o c
def goT (xs : List PgE) (st : Str) (i : Int) (n sh : Nat) : List Ch → Option Tk → List Ch → Option Tk
  | _, o, [] => o
  | cs, o, d :: ds => goT xs st i n sh (cs ++ [d]) (some (nx1 xs st i n sh cs o d)) ds
def GoOk (xs : List PgE) (st : Str) (i : Int) (n sh : Nat) : List Ch → Option Tk → List Ch → Prop
  | _, _, [] => True
  | cs, o, d :: ds => d ∈ chA xs st i n sh cs o ∧ GoOk xs st i n sh (cs ++ [d]) (some (nx1 xs st i n sh cs o d)) ds
theorem goT_snoc {xs : List PgE} {st : Str} {i : Int} {n sh : Nat} {c : Ch} : ∀ {ds cs : List Ch} {o : Option Tk}, goT xs st i n sh cs o (ds ++ [c]) = some (nx1 xs st i n sh (cs ++ ds) (goT xs st i n sh cs o ds) c)
  | [], cs, o => by rw [List.append_nil]; rfl
  | d :: ds, cs, o => by
    show goT xs st i n sh (cs ++ [d]) _ (ds ++ [c]) = _
    rw [goT_snoc, List.append_assoc]
    rfl
theorem goOk_take {xs : List PgE} {st : Str} {i : Int} {n sh : Nat} : ∀ {ds cs : List Ch} {o : Option Tk} {j : Nat} {d : Ch}, GoOk xs st i n sh cs o ds → ds[j]? = some d → d ∈ chA xs st i n sh (cs ++ ds.take j) (goT xs st i n sh cs o (ds.take j))
  | e :: ds, cs, o, 0, d, h, hd => by
    cases hd
    rw [List.take_zero, List.append_nil]
    exact h.1
  | e :: ds, cs, o, j + 1, d, h, hd => by
    have := goOk_take (j := j) h.2 (show ds[j]? = some d from hd)
    rw [List.append_assoc] at this
    exact this
theorem nx1_z {xs : List PgE} {st : Str} {i : Int} {n sh : Nat} {cs : List Ch} {o : Option Tk} {c : Ch} (hst : st ∈ zsOf xs) (ho : ∀ k, o = some k → k.z ∈ zsOf xs) (h : c ∈ chA xs st i n sh cs o) : (nx1 xs st i n sh cs o c).z ∈ zsOf xs := by
  obtain ⟨h1, h2⟩ := mv_z hst (chL_mem (chA_mem h).2).1
  obtain ⟨mv, d⟩ := c
  cases mv with
  | some z => cases o <;> exact h1 z rfl
  | none =>
    obtain ⟨k, rfl⟩ := h2 rfl
    exact ho k rfl
theorem same_qx {H0 H H' : Hp} {q : Addr} (s : Same H0 H) (n : H0 q = none) (x : SameX q H H') : Same H0 H' := fun b o e => x b o (ne_of_none e n) (s b o e)
theorem rcf_pff {t : Int} {ti no : Addr} {w : Bool} {lo : Int} {t' : Int} {g p : Addr} {ph : Int} {M : Addr} {sv mk : V} : rcf t ti no w lo ≠ pff t' g p ph M sv mk := fun e => by
  have h1 := rcf_lost t ti no w lo
  rw [e] at h1
  have h2 : (pff t' g p ph M sv mk).lookup ("lost" : Str) = none := pff_out
  rw [h2] at h1
  cases h1
theorem NotesA.x {H H' : Hp} {no d : Addr} {ns : List (Nat × Str)} (h : NotesA H no ns) (n : no ≠ d) (hd : ∀ ts, H d ≠ some (.tup ts)) (x : SameX d H H') : NotesA H' no ns := by
  obtain ⟨us, h1, h2⟩ := h
  refine ⟨us, x _ _ n h1, paired_imp (fun a b q => x _ _ (fun z => ?_) q) h2⟩
  rw [z] at q
  exact hd _ q
theorem RecA.x {K : PySem.W.Frag} {H H' : Hp} {r d : Addr} {ys : List PgE} {l : List (Str × Bool)} {dr ti no : Addr} (h : RecA K H r ys l dr ti no) (n1 : r ≠ d) (n2 : ti ≠ d) (n3 : no ≠ d) (hd : ∀ ts, H d ≠ some (.tup ts)) (x : SameX d H H') : RecA K H' r ys l dr ti no :=
  ⟨x _ _ n1 h.hr, x _ _ n2 h.ht, h.hn.x n3 hd x⟩
theorem none_x {H H' : Hp} {q a : Addr} {o : HO} (x : SameX q H H') (hq : H' q = some o) (n : H' a = none) : H a = none := by
  have naq : a ≠ q := fun e => by
    rw [e, hq] at n
    cases n
  cases h : H a with
  | none => rfl
  | some u =>
    rw [x a u naq h] at n
    cases n
theorem upd_swap {H : Hp} {a b : Addr} {o u : HO} (h : a ≠ b) : upd (upd H a o) b u = upd (upd H b u) a o := by
  funext c
  unfold upd
  by_cases h1 : c = b
  · subst h1
    rw [if_pos rfl, if_neg (Ne.symm h), if_pos rfl]
  · rw [if_neg h1]
    by_cases h2 : c = a
    · rw [if_pos h2, if_pos h2]
    · rw [if_neg h2, if_neg h2, if_neg h1]
theorem back_same {H H' : Hp} {q : Addr} {o : HO} (hq : H q = some o) (x : SameX q H H') : Same H (upd H' q o) := fun b u e => by
  by_cases h : b = q
  · subst h
    rw [hq] at e
    rw [← e]
    exact upd_same
  · rw [upd_ne h]
    exact x b u h e
theorem sc_Profile_trial : FnScope ["self", "choices", "choice", "told"] ["self", "choices"] (defScope s_Profile_trial) := ⟨rfl, rfl, rfl, by decide +kernel, rfl, by decide +kernel, by decide +kernel⟩
-- slots: 0 self, 1 choices, 2 choice, 3 told
/-- what a trial needs to know of the profile at q: H0 is a state ahead of it -/
structure TrOk (K : PySem.W.Frag) (H0 H : Hp) (q g p : Addr) (sh : Nat) (cs : List Ch) (o : Option Tk) (mk : V) (dx M : Addr) (sv : V) (xs : List PgE) (st : Str) (dg tn dP dN : Addr) (n : Nat) (i : Int) (f : V) : Prop where
  nq : H0 q = none
  s0 : Same H0 H
  hq : PfA K H q g p sh cs o mk dx M sv
  hg : PgA K H0 g xs st dg tn dP dN
  hp : SaA (CS K) H0 p (n : Int) i f
  n1 : 1 ≤ n
  n8 : n ≤ 8
  hz : ∀ k, o = some k → k.z ∈ zsOf xs
  hst : st ∈ zsOf xs
def RecOk (xs : List PgE) (cs : List Ch) : Prop := (∀ c, cs[0]? = some c → c.1 ≠ none) ∧ (∀ p ∈ smL cs, p.1 ∈ zsOf xs ∧ 1 ≤ p.2) ∧ (namesL (smL cs)).length = cs.length
def spTr (K : PySem.W.Frag) : Sp := fun vs H Q E => ∃ (H0 : Hp) (q g p : Addr) (sh : Nat) (cs : List Ch) (o : Option Tk) (mk : V) (dx M : Addr) (sv : V) (xs : List PgE) (st : Str) (dg tn dP dN : Addr) (n : Nat) (i : Int) (f : V) (L : Addr) (rs : List Addr) (ds : List Ch) (us : List V),
  vs = [.ref q, .ref L] ∧ TrOk K H0 H q g p sh cs o mk dx M sv xs st dg tn dP dN n i f ∧ H L = some (.lst (rs.map V.ref ++ us)) ∧ cs.length + ds.length ≤ 2000 ∧ Paired (ChA H) rs ds ∧ GoOk xs st i n sh cs o ds ∧
  ((us = [] ∧ RecOk xs (cs ++ ds) ∧ ∀ H' r dr ti no, Same H H' → RecA K H' r xs ((namesL (smL (cs ++ ds))).zip ((cs ++ ds).map (·.2))) dr ti no → H ti = none → H no = none → Q (.ref r) H') ∨
   (∃ u us', us = u :: us' ∧ (∀ H1, SameX q H H1 → NotCh H1 u (chA xs st i n sh (cs ++ ds) (goT xs st i n sh cs o ds))) ∧ ∀ H' d, Same H H' → H' d = none → E (.ref (He.ga K "BadChoice")) (some d) (upd H' d (.xd [("index", .int ((cs ++ ds).length : Int))]))))
theorem ok_Profile_trial {fd : FuncData} (F : FnD K ("Profile", some "trial") "trial" "Profile.trial" s_Profile_trial fd) (T : MkTxt K mg) (PM : PMeth K) (TM : TMeth K) (O_Profile_enter : OkM P w K mg base CX0 4 "Profile" "__enter__" ["self"] (spEn K)) (O_Profile_exit : OkM P w K mg base CX0 1 "Profile" "__exit__" ["self", "kind", "value", "trace"] (spEx K)) (O_Profile_exitW : OkW P w K mg base 1 ("Profile", some "__exit__") (spEx K))
    (O_Profile__go_on : OkM P w K mg base (L2.CX P w) 8 "Profile" "_go_on" ["self", "choice"] (spGo K)) (O_Profile_record : OkM P w K mg base CX0 7 "Profile" "record" ["self"] (spRecd K)) : OkM P w K mg base (L2.CX P w) 10 "Profile" "trial" ["self", "choices"] (spTr K) := by
  have O_Profile_exitR := OkM_R O_Profile_exit
  refine okd F (F.ok sc_Profile_trial (fun vs H Q E h => ?_) fun cdv A outer s H vs Q E hr h => ?_) fun _ _ _ _ _ _ us hl => match us, hl with | [_, _], _ => rfl
  · obtain ⟨H0, q, g, p, sh, cs, o, mk, dx, M, sv, xs, st, dg, tn, dP, dN, n, i, f, L, rs, ds, us, rfl, _⟩ := h
    rfl
  · obtain ⟨H0, q, g, p, sh, cs, o, mk, dx, M, sv, xs, st, dg, tn, dP, dN, n, i, f, L, rs, ds, us, rfl, R, hL, hl, hps, hgo, k⟩ := h
    refine ⟨_, (pss_cons (ps_with (cn := "Profile") rfl rfl rfl rfl (takes_of rfl rfl rfl rfl) (pv 0) TM.m___enter__ TM.m___exit__ O_Profile_enter O_Profile_exitW O_Profile_exitR hr (by decide) (by decide) (fun W pn xe tk hp => by exact (pss_cons (ps_forT hp rfl (pi_listK (K := K) rfl (pv 1)) (pg_name (i := 2) sc_Profile_trial.nd rfl (Or.inl rfl))
  (pss_one (ps_expr (c_me rfl (pv 0) T.c_Profile PM.m__go_on O_Profile__go_on hr (by decide) (passAny 4 tk) (pa_cons (pv 2) pa_nil)))))
  (pss_one (ps_set (i := 3) sc_Profile_trial.nd rfl (Or.inl rfl) (c_me0 rfl (pv 0) T.c_Profile PM.m_record O_Profile_record hr (by decide) pass0))))))
  (pss_one (ps_ret (pv 3)))), ?_⟩
    have hq := R.hq
    have hr0 : ∀ {c : Addr}, H c = none → c ≠ q := fun n e => by
      rw [e, hq.hq] at n
      cases n
    refine ⟨_, rfl, q, rfl, .inr ⟨_, _, hq.hq⟩, q, g, p, (cs.length : Int), (sh : Int), mk, dx, M, sv, rfl, hq.hq, fun H2 r dr x2 nr hq2 hm2 => ?_⟩
    have nrq : r ≠ q := hr0 nr
    have hds : rs.length = ds.length := paired_len hps
    refine ⟨_, rfl, L, rfl, ⟨_, SqL.of (x2 _ _ (ne_of hL hq.hq (by intro z; cases z)) hL)⟩, for_list (K := K) (a := L) (xs := rs.map V.ref ++ us) (fun j σ H' => j ≤ ds.length ∧ SameX q H H' ∧ (∃ M' sv', PfA K H' q g p sh (cs ++ ds.take j) (goT xs st i n sh cs o (ds.take j)) (.ref r) dx M' sv') ∧ H' r = some (.ins (CM K) dr (mkf (cs.length : Int) M sv mk)) ∧ ∃ v2 : Option V, σ = [some (.ref q), some (.ref L), v2, none]) ⟨Nat.zero_le _, x2, ⟨M, sv, by rw [List.take_zero, List.append_nil]; exact ⟨hq2, hq.hM.keep hq.hq x2, hq.hs.keep hq.hq x2⟩⟩, hm2, none, rfl⟩ (fun j σ H' _ h => SqL.of (h.2.1 _ _ (ne_of hL hq.hq (by intro z; cases z)) hL)) ?_ ?_⟩
    · rintro j x σ H3 hx ⟨hj, x3, ⟨M3, sv3, hq3⟩, hm3, v2, rfl⟩
      have sg3 := same_qx R.s0 R.nq x3
      have hlen : (cs ++ ds.take j).length = cs.length + j := by rw [List.length_append, List.length_take]; omega
      have hzj : ∀ k, goT xs st i n sh cs o (ds.take j) = some k → k.z ∈ zsOf xs := by
        have key : ∀ j, j ≤ ds.length → ∀ k, goT xs st i n sh cs o (ds.take j) = some k → k.z ∈ zsOf xs := by
          intro j
          induction j with
          | zero => intro _; exact R.hz
          | succ j ih =>
            intro hj k hk
            have e1 : ds[j]? = some (ds[j]'(by omega)) := List.getElem?_eq_getElem _
            rw [List.take_add_one, e1] at hk
            have hk : goT xs st i n sh cs o (ds.take j ++ [ds[j]'(by omega)]) = some k := hk
            rw [goT_snoc] at hk
            cases hk
            exact nx1_z R.hst (ih (by omega)) (goOk_take hgo e1)
        exact key j hj
      refine ⟨_, rfl, q, dx, _, rfl, hq3.hq, pff_out, _, rfl, q, g, p, sh, cs ++ ds.take j, goT xs st i n sh cs o (ds.take j), .ref r, dx, M3, sv3, xs, st, dg, tn, dP, dN, n, i, f, x, rfl, hq3, R.hg.ext sg3, R.hp.ext sg3, R.n1, R.n8, hzj, R.hst, by omega, ?_⟩
      by_cases hjd : j < ds.length
      · have e1 : ds[j]? = some (ds[j]'hjd) := List.getElem?_eq_getElem _
        have e2 : rs[j]? = some (rs[j]'(by omega)) := List.getElem?_eq_getElem _
        generalize ds[j]'hjd = d at e1
        generalize rs[j]'(by omega) = rj at e2
        rw [List.getElem?_append_left (by rw [List.length_map]; omega), List.getElem?_map, e2] at hx
        obtain rfl : V.ref rj = x := Option.some.inj hx
        obtain ⟨d', hd', hcr⟩ := paired_at hps e2
        rw [e1] at hd'
        cases hd'
        have hcr : H rj = some (.tup [mvV d.1, .bl d.2]) := hcr
        have hcr3 : ChA H3 rj d := x3 _ _ (ne_of hcr hq.hq (by intro z; cases z)) hcr
        refine .inl ⟨rj, d, rfl, hcr3, goOk_take hgo e1, fun H4 M4 sv4 x4 nM4 hq4 => ⟨by omega, x3.trans x4, ⟨M4, sv4, ?_⟩, x4 _ _ nrq hm3, _, rfl⟩⟩
        have e3 : ds.take (j + 1) = ds.take j ++ [d] := by
          rw [List.take_add_one, e1]
          rfl
        rw [e3, goT_snoc, ← List.append_assoc]
        exact hq4
      · obtain rfl : j = ds.length := by omega
        rcases k with ⟨rfl, _⟩ | ⟨u, us', rfl, hno, k⟩
        · rw [List.append_nil, List.getElem?_eq_none (by rw [List.length_map]; omega)] at hx
          cases hx
        rw [List.getElem?_append_right (by rw [List.length_map]; omega), List.length_map, hds, Nat.sub_self] at hx
        cases hx
        rw [List.take_length] at hq3 ⊢
        refine .inr ⟨hno H3 x3, fun H4 d s4 nd => ?_⟩
        intro σ hσ
        refine ⟨_, rfl, fun e t => ?_⟩
        have ndq : d ≠ q := fun z => by
          rw [z, s4 _ _ hq3.hq] at nd
          cases nd
        have ndr : d ≠ r := fun z => by
          rw [z, s4 _ _ hm3] at nd
          cases nd
        refine ⟨q, g, p, r, ((cs ++ ds).length : Int), (cs.length : Int), (sh : Int), mk, dx, dr, M3, M, sv3, sv, _, _, _, rfl, by rw [upd_ne (Ne.symm ndq)]; exact s4 _ _ hq3.hq, by rw [upd_ne (Ne.symm ndr)]; exact s4 _ _ hm3, rfl, ?_⟩
        rw [upd_swap ndq]
        exact k _ d (back_same hq.hq (x3.trans (same_x s4))) (by rw [upd_ne ndq]; exact nd)
    · rintro σ H3 ⟨hj, x3, ⟨M3, sv3, hq3⟩, hm3, v2, rfl⟩
      have hjl : us = [] := by
        rw [List.length_append, List.length_map, hds] at hj
        exact List.length_eq_zero_iff.mp (by omega)
      rcases k with ⟨_, hrc, k⟩ | ⟨u, us', rfl, _⟩
      rotate_left
      · cases hjl
      subst hjl
      have hlj : (rs.map V.ref ++ ([] : List V)).length = ds.length := by rw [List.append_nil, List.length_map, hds]
      rw [hlj, List.take_length] at hq3
      have sg3 := same_qx R.s0 R.nq x3
      obtain ⟨c1, c2, c3⟩ := hrc
      refine ⟨_, rfl, q, dx, _, rfl, hq3.hq, pff_out, q, g, p, sh, cs ++ ds, _, .ref r, dx, M3, sv3, xs, st, dg, tn, dP, dN, rfl, hq3, R.hg.ext sg3, by rw [List.length_append]; exact hl, c1, c2, c3, fun H4 rr drr ti no s4 hrec nti nno => ?_⟩
      refine ⟨q, g, p, r, ((cs ++ ds).length : Int), (cs.length : Int), (sh : Int), mk, dx, dr, M3, M, sv3, sv, _, _, _, rfl, s4 _ _ hq3.hq, s4 _ _ hm3, ?_⟩
      have hq4 := s4 _ _ hq3.hq
      have n1 : rr ≠ q := ne_of hrec.hr hq4 (by
        intro z
        exact rcf_pff (HO.ins.inj z).2.2)
      have n2 : ti ≠ q := ne_of hrec.ht hq4 (by intro z; cases z)
      have n3 : no ≠ q := by
        obtain ⟨us, hus, _⟩ := hrec.hn
        exact ne_of hus hq4 (by intro z; cases z)
      refine ⟨_, rfl, k _ rr drr ti no (back_same hq.hq (x3.trans (same_x s4))) (hrec.x n1 n2 n3 (fun ts z => by rw [hq4] at z; cases z) SameX.upd) (none_x x3 hq3.hq nti) (none_x x3 hq3.hq nno)⟩
end
end K32

set_option Elab.async false
set_option linter.all false
set_option pp.deepTerms.threshold 14
set_option pp.maxSteps 2500
set_option maxRecDepth 100000
set_option maxHeartbeats 2000000
namespace K32
open PySem PySem.Spec PyProof.Rows L2 Vf
section
variable {P : Program} {w : World} {K : PySem.W.Frag} {mg : Str → Option Value} {base : Heap}
structure VTxt (K : PySem.W.Frag) (mg : Str → Option Value) : Prop extends Txt K mg, MkTxt K mg where
  g_SeenError : mg "SeenError" = some (.ref (He.ga K "SeenError"))
  x1 : PySem.W.exmOne K (.ref (He.ga K "BadChoice")) (.ref (He.ga K "BadChoice")) = some true
  p1 : PySem.W.kitOne K (.ref (He.ga K "BadChoice")) (.ref (He.ga K "SeenError")) = some true
  p2 : PySem.W.kitOne K (.ref (He.ga K "BadChoice")) (.ref (He.ga K "NoTicks")) = some false
theorem VTxt.xfC {K : PySem.W.Frag} {mg : Str → Option Value} (T : VTxt K mg) : XfC K (He.ga K "BadChoice") := ⟨T.x_BadChoice.d.ga, T.x_BadChoice.d.gg, T.x_BadChoice.d.o.exC, T.x_BadChoice.d.hd⟩
structure QMeth (K : PySem.W.Frag) : Prop where
  m_path : Meth K (He.ga K "Profile") "path" (He.fAd K ("Profile", some "path"))
  m_choices : Meth K (He.ga K "Profile") "choices" (He.fAd K ("Profile", some "choices"))
  m_record : Meth K (He.ga K "Profile") "record" (He.fAd K ("Profile", some "record"))
  m_trial : Meth K (He.ga K "Profile") "trial" (He.fAd K ("Profile", some "trial"))
  m__call__ : Meth K (He.ga K "Profile") "__call__" (He.fAd K ("Profile", some "__call__"))
theorem sc_Profile_path : FnScope ["self"] ["self"] (defScope s_Profile_path) := ⟨rfl, rfl, rfl, by decide +kernel, rfl, by decide +kernel, by decide +kernel⟩
-- slots: 0 self
def spPath (K : PySem.W.Frag) : Sp := fun vs H Q _ => ∃ (q g p : Addr) (sh : Nat) (cs : List Ch) (o : Option Tk) (mk : V) (dx M : Addr) (sv : V), vs = [.ref q] ∧ PfA K H q g p sh cs o mk dx M sv ∧ ∀ H' L, Same H H' → H L = none → ChsA H' L cs → Q (.ref L) H'
theorem ok_Profile_path {fd : FuncData} (F : FnD K ("Profile", some "path") "path" "Profile.path" s_Profile_path fd) (T : LvTxt K mg) : OkM P w K mg base CX0 1 "Profile" "path" ["self"] (spPath K) := by
  refine okd F (F.ok sc_Profile_path (fun vs H Q E h => ?_) fun cdv A outer s H vs Q E hr h => ?_) fun _ _ _ _ _ _ us hl => match us, hl with | [_], _ => rfl
  · obtain ⟨q, g, p, sh, cs, o, mk, dx, M, sv, rfl, _⟩ := h
    rfl
  · obtain ⟨q, g, p, sh, cs, o, mk, dx, M, sv, rfl, hq, k⟩ := h
    refine ⟨_, PSs.nox (pss_one (ps_ret (pe_callTy call_list_of (by rfl) T.z_list (by decide +kernel) (pa_cons (pe_fld (pv 0) rfl) pa_nil)))), ?_⟩
    obtain ⟨rs, h1, h2⟩ := hq.hM
    refine ⟨_, rfl, q, _, dx, _, _, rfl, hq.hq, T.c_Profile, T.fM, pff_made, M, _, rfl, .inl (SqL.of h1), fun L nL => ?_⟩
    exact k _ L (same_new nL) nL ⟨rs, upd_same, paired_imp (fun a b e => ChA.ext e (same_new nL)) h2⟩
theorem sc_law_tried : FnScope ["_law_live", "_law_path", "_law_outcome", "e"] ["_law_live", "_law_path"] (defScope s_law_tried) := ⟨rfl, rfl, rfl, by decide +kernel, rfl, by decide +kernel, by decide +kernel⟩
-- slots: 0 _law_live, 1 _law_path, 2 _law_outcome, 3 e
def spTd (K : PySem.W.Frag) : Sp := fun vs H Q _ => ∃ (H0 : Hp) (q g p : Addr) (sh : Nat) (cs : List Ch) (o : Option Tk) (mk : V) (dx M : Addr) (sv : V) (xs : List PgE) (st : Str) (dg tn dP dN : Addr) (n : Nat) (i : Int) (f : V) (L : Addr) (rs : List Addr) (ds : List Ch) (us : List V),
  vs = [.ref q, .ref L] ∧ TrOk K H0 H q g p sh cs o mk dx M sv xs st dg tn dP dN n i f ∧ H L = some (.lst (rs.map V.ref ++ us)) ∧ cs.length + ds.length ≤ 2000 ∧ Paired (ChA H) rs ds ∧ GoOk xs st i n sh cs o ds ∧
  ((us = [] ∧ RecOk xs (cs ++ ds) ∧ ∀ H' t r dr ti no, Same H H' → H' t = some (.tup [.str "told", .ref r]) → RecA K H' r xs ((namesL (smL (cs ++ ds))).zip ((cs ++ ds).map (·.2))) dr ti no → H ti = none → H no = none → Q (.ref t) H') ∨
   (∃ u us', us = u :: us' ∧ (∀ H1, SameX q H H1 → NotCh H1 u (chA xs st i n sh (cs ++ ds) (goT xs st i n sh cs o ds))) ∧ ∀ H' t, Same H H' → H' t = some (.tup [.str "refused", .int ((cs ++ ds).length : Int), .bl true, .bl false]) → Q (.ref t) H'))
theorem ok_law_tried {fd : FuncData} (F : FnD K ("_law_tried", none) "_law_tried" "_law_tried" s_law_tried fd) (T : VTxt K mg) (QM : QMeth K) (O_Profile_trial : OkM P w K mg base (L2.CX P w) 10 "Profile" "trial" ["self", "choices"] (spTr K)) : OkF P w K mg base CX0 11 "_law_tried" ["_law_live", "_law_path"] (spTd K) := by
  refine okd F (F.ok sc_law_tried (fun vs H Q E h => ?_) fun cdv A outer s H vs Q E hr h => ?_) fun _ _ _ _ _ _ us hl => match us, hl with | [_, _], _ => rfl
  · obtain ⟨H0, q, g, p, sh, cs, o, mk, dx, M, sv, xs, st, dg, tn, dP, dN, n, i, f, L, rs, ds, us, rfl, _⟩ := h
    rfl
  · obtain ⟨H0, q, g, p, sh, cs, o, mk, dx, M, sv, xs, st, dg, tn, dP, dN, n, i, f, L, rs, ds, us, rfl, R, hL, hl, hps, hgo, k⟩ := h
    refine ⟨_, PSs.nox (pss_cons (ps_try_as (i := 3) (Wout := fun _ _ _ _ => False) rfl rfl sc_law_tried.nd rfl rfl ⟨rfl, by decide, Or.inl T.g_BadChoice⟩ takes0 (fun W pn xe tk _ => (pss_one (ps_set (i := 2) sc_law_tried.nd rfl (Or.inl rfl) (pe_tup (pa_cons pe_str (pa_cons (c_me rfl (pv 0) T.c_Profile QM.m_trial O_Profile_trial hr (by decide) (passAny 4 tk) (pa_cons (pv 1) pa_nil)) pa_nil)))))) (fun a oe cls d pn hz hf => (pss_one (ps_set (i := 2) sc_law_tried.nd rfl (Or.inl rfl) (pe_tup (pa_cons pe_str (pa_cons (pe_xf T.xfC T.x_BadChoice.n hz hf (pv 3)) (pa_cons (pe_callB (call_isiE rfl T.x_BadChoice.d T.hn T.ht hz hf) (by rfl) T.z_isinstance (by decide +kernel) (pa_cons (pv 3) (pa_cons (pe_cl T.g_SeenError) pa_nil))) (pa_cons (pe_callB (call_isiE rfl T.x_BadChoice.d T.hn T.ht hz hf) (by rfl) T.z_isinstance (by decide +kernel) (pa_cons (pv 3) (pa_cons (pe_cl T.g_NoTicks) pa_nil))) pa_nil)))))))))
  (pss_one (ps_ret (pv 2)))), ?_⟩
    have li : ∀ v : V, List.lookup ("index" : Str) [(("index" : Str), v)] = some v := fun v => by simp [List.lookup]
    refine ⟨_, rfl, q, dx, _, rfl, R.hq.hq, pff_out, _, rfl, H0, q, g, p, sh, cs, o, mk, dx, M, sv, xs, st, dg, tn, dP, dN, n, i, f, L, rs, ds, us, rfl, R, hL, hl, hps, hgo, ?_⟩
    rcases k with ⟨e, hrc, k⟩ | ⟨u, us', e, hno, k⟩
    · refine .inl ⟨e, hrc, fun H' r dr ti no s5 hrec nti nno => ⟨(by show 2 ≤ sizeLine; decide), fun t nt => ⟨_, rfl, ?_⟩⟩⟩
      exact k _ t r dr ti no (s5.trans (same_new nt)) upd_same (hrec.ext (same_new nt)) nti nno
    · refine .inr ⟨u, us', e, hno, fun H1 d s1 nd => ?_⟩
      intro σ hσ
      have s8 : ∀ a : Addr, (σ.set 3 (some (V.ref a)))[3]? = some (some (V.ref a)) := fun a => List.getElem?_set_self (by omega)
      have sm := s1.trans (same_new (o := .xd [("index", .int ((cs ++ ds).length : Int))]) nd)
      refine ⟨true, T.x1, fun _ a na => ?_, fun z => Bool.noConfusion z⟩
      refine ⟨_, s8 a, rfl, rfl, d, _, _, rfl, upd_same, li _, _, s8 a, _, _, true, rfl, rfl, .own _, T.p1, ⟨d, _, rfl, upd_same⟩, _, s8 a, _, _, false, rfl, rfl, .own _, T.p2, ⟨d, _, rfl, upd_same⟩, (by show 4 ≤ sizeLine; decide), fun q nq => ⟨_, ?_, k _ q (sm.trans (same_new nq)) upd_same⟩⟩
      rw [List.getElem?_set_ne (by decide), List.getElem?_set_self (by rw [List.length_set]; omega)]
end
end K32

set_option Elab.async false
set_option linter.all false
set_option pp.deepTerms.threshold 14
set_option pp.maxSteps 2500
set_option maxRecDepth 100000
set_option maxHeartbeats 2000000
namespace K32
open PySem PySem.Spec PyProof.Rows L2 Vf
section
variable {P : Program} {w : World} {K : PySem.W.Frag} {mg : Str → Option Value} {base : Heap}
theorem opL_at {ys : List PgE} {bg : Str} {i sl : Int} {sh0 : Nat} {o : Option Tk} {t : Nat} {x : Ch × Tk} (h : (opL ys bg i sh0 sl o)[t]? = some x) : x.1 ∈ chL ys bg i sh0 sl o ∧ x.2 = nxT ys bg i sh0 sl o x.1 := by
  obtain ⟨c, hc, rfl⟩ := List.mem_map.mp (List.mem_of_getElem? h)
  exact ⟨hc, rfl⟩
/-- a walk that goes on: its choices are possible one behind the other -/
theorem pw_go {xs ys : List PgE} {bg : Str} {n i sh : Nat} (hB : Beside xs ys) : ∀ {ds : List Ch} {us : List Tk} {cs : List Ch} {ws : List Tk}, PW ys bg n i sh (cs ++ ds) (ws ++ us) → cs.length = ws.length → (cs ++ ds).length ≤ 1000 → GoOk xs bg (i : Int) n sh cs ws.getLast? ds ∧ goT xs bg (i : Int) n sh cs ws.getLast? ds = (ws ++ us).getLast?
  | [], us, cs, ws, h, hl, hk => by
    have : us = [] := by
      have e := h.len
      rw [List.append_nil, List.length_append] at e
      exact List.length_eq_zero_iff.mp (by omega)
    subst this
    rw [List.append_nil]
    exact ⟨trivial, rfl⟩
  | d :: ds, us, cs, ws, h, hl, hk => by
    have e := h.len
    rw [List.length_append, List.length_append, List.length_cons] at e
    obtain ⟨u, us', rfl⟩ : ∃ u us', us = u :: us' := by
      cases us with
      | nil => rw [List.length_nil] at e; omega
      | cons u us' => exact ⟨u, us', rfl⟩
    have hc : (cs ++ d :: ds)[cs.length]? = some d := by
      rw [List.getElem?_append_right (Nat.le_refl _), Nat.sub_self]
      rfl
    have hw : (ws ++ u :: us')[cs.length]? = some u := by
      rw [List.getElem?_append_right (by omega), hl, Nat.sub_self]
      rfl
    obtain ⟨h1, h2⟩ := h.st cs.length d u hc hw
    have ep : prv (ws ++ u :: us') cs.length = ws.getLast? := by
      rw [hl, prv_app (Nat.le_refl _), prv_last]
    rw [ep] at h1 h2
    have eA : cs ++ d :: ds = (cs ++ [d]) ++ ds := by rw [List.append_assoc]; rfl
    have eB : ws ++ u :: us' = (ws ++ [u]) ++ us' := by rw [List.append_assoc]; rfl
    have hlen : cs.length ≠ 2000 := by
      rw [List.length_append, List.length_cons] at hk
      omega
    have hn : nx1 xs bg (i : Int) n sh cs ws.getLast? d = u := by
      unfold nx1
      rw [nxT_beside hB, h2]
    rw [eA, eB] at h
    rw [eA] at hk
    obtain ⟨g1, g2⟩ := pw_go hB (ds := ds) (us := us') h (by rw [List.length_append, List.length_append, hl]; rfl) hk
    rw [List.getLast?_concat] at g1 g2
    refine ⟨⟨?_, ?_⟩, ?_⟩
    · unfold chA
      rw [if_neg hlen, chL_beside hB]
      exact h1
    · rw [hn]
      exact g1
    · show goT xs bg (i : Int) n sh (cs ++ [d]) (some (nx1 xs bg (i : Int) n sh cs ws.getLast? d)) ds = _
      rw [hn, g2, eB]
theorem ChsA.xl {H H' : Hp} {L d : Addr} {cs : List Ch} {us : List V} (h : ChsA H L cs) (n : L ≠ d) (hd : H d = some (.lst us)) (x : SameX d H H') : ChsA H' L cs := by
  obtain ⟨rs, h1, h2⟩ := h
  refine ⟨rs, x _ _ n h1, paired_imp (fun r c e => ?_) h2⟩
  have e : H r = some (.tup [mvV c.1, .bl c.2]) := e
  exact x _ _ (ne_of e hd (by intro z; cases z)) e
theorem TksA.xl {H H' : Hp} {L d : Addr} {ws : List Tk} {us : List V} (h : TksA H L ws) (n : L ≠ d) (hd : H d = some (.lst us)) (x : SameX d H H') : TksA H' L ws := by
  obtain ⟨rs, h1, h2⟩ := h
  exact ⟨rs, x _ _ n h1, paired_imp (fun r k ⟨t, e1, e2⟩ => ⟨t, x _ _ (ne_of e1 hd (by intro z; cases z)) e1, x _ _ (ne_of e2 hd (by intro z; cases z)) e2⟩) h2⟩
theorem sc_law_grown : FnScope ["_law_rows_here", "_law_spec_here", "_law_begin", "_law_shift", "_law_walk_here", "_law_script", "_law_first_here", "_law_many", "_law_path", "_law_k", "_law_options_here", "_law_option"] ["_law_rows_here", "_law_spec_here", "_law_begin", "_law_shift", "_law_walk_here", "_law_script", "_law_first_here", "_law_many"] (defScope s_law_grown) := ⟨rfl, rfl, rfl, by decide +kernel, rfl, by decide +kernel, by decide +kernel⟩
-- slots: 0 _law_rows_here, 1 _law_spec_here, 2 _law_begin, 3 _law_shift, 4 _law_walk_here, 5 _law_script, 6 _law_first_here, 7 _law_many, 8 _law_path, 9 _law_k, 10 _law_options_here, 11 _law_option
def spGr (K : PySem.W.Frag) : Sp := fun vs H Q _ => ∃ (R s W S : Addr) (ys : List PgE) (bg : Str) (n i : Nat) (f : V) (sh : Nat) (cs : List Ch) (ws : List Tk) (ns : List Int) (fst many : Nat), vs = [.ref R, .ref s, .str bg, .int (sh : Int), .ref W, .ref S, .int (fst : Int), .int (many : Int)] ∧ RowsA H R ys ∧ RowsOk ys ∧ bg ∈ zsOf ys ∧ SpA H s (n : Int) (i : Int) f ∧ sh ≤ n - 1 ∧
  TksA H W ws ∧ PW ys bg n i sh cs ws ∧ ws.length + many ≤ 900 ∧ SqL K H S (ns.map V.int) ∧ fst + many ≤ 200 ∧
  ∀ H' L W' A ds us, Same H H' → H L = none → H W' = none → H A = none → H' L = some (.lst [.ref W', .ref A]) → TksA H' W' (ws ++ us) → ChsA H' A ds → PW ys bg n i sh (cs ++ ds) (ws ++ us) → ds.length ≤ many → Q (.ref L) H'
theorem ok_law_grown {fd : FuncData} (F : FnD K ("_law_grown", none) "_law_grown" "_law_grown" s_law_grown fd) (T : VTxt K mg) (O_law_cell : OkF P w K mg base CX0 1 "_law_cell" ["_law_script", "_law_k"] (Vf.spCell K)) (O_law_next : OkF P w K mg base CX0 3 "_law_next" ["_law_rows_here", "_law_spec_here", "_law_begin", "_law_shift", "_law_walk_here"] spNxt) :
    OkF P w K mg base CX0 4 "_law_grown" ["_law_rows_here", "_law_spec_here", "_law_begin", "_law_shift", "_law_walk_here", "_law_script", "_law_first_here", "_law_many"] (spGr K) := by
  refine okd F (F.ok sc_law_grown (fun vs H Q E h => ?_) fun cdv A outer s H vs Q E hr h => ?_) fun _ _ _ _ _ _ us hl => match us, hl with | [_, _, _, _, _, _, _, _], _ => rfl
  · obtain ⟨R, s, W, S, ys, bg, n, i, f, sh, cs, ws, ns, fst, many, rfl, _⟩ := h
    rfl
  · obtain ⟨R, s, W, S, ys, bg, n, i, f, sh, cs, ws, ns, fst, many, rfl, hR, hok, hz, hs, hsh, hW, hpw, hm, hS, hfm, k⟩ := h
    refine ⟨_, PSs.nox (pss_cons (ps_set (i := 4) sc_law_grown.nd rfl (Or.inl rfl) (pe_callTy call_list_of (by rfl) T.z_list (by decide +kernel) (pa_cons (pv 4) pa_nil)))
  (pss_cons (ps_set (i := 8) sc_law_grown.nd rfl (Or.inl rfl) (pe_lst pa_nil))
  (pss_cons (ps_for PassesOwn.never rfl (pi_range1 rfl T.z_range (pa_cons (pv 7) pa_nil)) (pg_name (i := 9) sc_law_grown.nd rfl (Or.inl rfl))
  (pss_cons (ps_set (i := 10) sc_law_grown.nd rfl (Or.inl rfl) (c_fn O_law_next hr (by decide) T.g_law_next pass0 (pa_cons (pv 0) (pa_cons (pv 1) (pa_cons (pv 2) (pa_cons (pv 3) (pa_cons (pv 4) pa_nil)))))))
  (pss_cons (ps_if (pt_cmpR (op_eqNil hr.units) (pv 10) (pe_lst pa_nil) (nomark _)) (pss_one (ps_ret (pe_lst (pa_cons (pv 4) (pa_cons (pv 8) pa_nil)))))
  pss_nil)
  (pss_cons (ps_set (i := 11) sc_law_grown.nd rfl (Or.inl rfl) (pe_ix ix_list (pv 10) (pe_op op_mod (pe_callTy call_int1 (by rfl) T.z_int (by decide +kernel) (pa_cons (c_fn O_law_cell hr (by decide) T.g_law_cell pass0 (pa_cons (pv 5) (pa_cons (pe_op op_add (pv 6) (pv 9)) pa_nil))) pa_nil)) (pe_callB (id := "len") call_len_seq (by rfl) T.z_len (by decide +kernel) (pa_cons (pv 10) pa_nil))) (fun _ _ => rfl)))
  (pss_cons (ps_expr (pe_bm PySem.F.plainAttrs_list PySem.F.slot_list_append PySem.F.type_list_append mt_append (pv 4) (pa_cons (pe_tup (pa_cons (pe_ix ix_list (pv 11) pe_int (fun _ _ => rfl)) (pa_cons (pe_ix ix_list (pv 11) pe_int (fun _ _ => rfl)) pa_nil))) pa_nil)))
  (pss_one (ps_expr (pe_bm PySem.F.plainAttrs_list PySem.F.slot_list_append PySem.F.type_list_append mt_append (pv 8) (pa_cons (pe_ix ix_list (pv 11) pe_int (fun _ _ => rfl)) pa_nil)))))))))
  (pss_one (ps_ret (pe_lst (pa_cons (pv 4) (pa_cons (pv 8) pa_nil)))))))), ?_⟩
    have n1 := hs.n1
    have n8 := hs.n8
    obtain ⟨rs0, hrs0, hps0⟩ := id hW
    refine ⟨_, rfl, W, _, rfl, .inl (SqL.of hrs0), fun W' nW' => ?_⟩
    have hW1 : TksA (upd H W' (.lst (rs0.map V.ref))) W' ws := ⟨rs0, upd_same, paired_imp (fun _ _ q => q.ext (same_new nW')) hps0⟩
    have s1 := same_new (o := .lst (rs0.map V.ref)) nW'
    generalize upd H W' (.lst (rs0.map V.ref)) = H1 at hW1 s1 ⊢
    refine ⟨(by show 0 ≤ sizeLine; decide), fun A nA => ?_⟩
    have sA := same_new (o := .lst ([] : List V)) nA
    have hWA : W' ≠ A := by
      obtain ⟨_, e, _⟩ := hW1
      exact ne_of_none e nA
    have nA0 : H A = none := none_of s1 nA
    have hA2 : ChsA (upd H1 A (.lst ([] : List V))) A [] := ⟨[], upd_same, .nil⟩
    replace hW1 := hW1.ext sA
    have s2 := s1.trans sA
    generalize upd H1 A (.lst ([] : List V)) = H2 at hW1 hA2 s2 ⊢
    clear sA nA s1 hps0 hrs0
    have fin : ∀ {H' : Hp} {ds : List Ch} {us : List Tk}, Same H H' → TksA H' W' (ws ++ us) → ChsA H' A ds → PW ys bg n i sh (cs ++ ds) (ws ++ us) → ds.length ≤ many → ∀ L, H' L = none → Q (.ref L) (upd H' L (.lst [.ref W', .ref A])) := fun {H' ds us} sg w a pw dl L nL => by
      have sL := same_new (o := .lst [V.ref W', .ref A]) nL
      exact k _ L W' A ds us (sg.trans sL) (none_of sg nL) nW' nA0 upd_same (w.ext sL) (a.ext sL) pw dl
    refine ⟨_, rfl, _, rfl, by omega, by omega, for_range (lo := 0) (n := ((many : Int)).toNat) (fun kk σ H' => Same H H' ∧ ∃ (ds : List Ch) (us : List Tk) (v9 v10 v11 : Option V), TksA H' W' (ws ++ us) ∧ ChsA H' A ds ∧ PW ys bg n i sh (cs ++ ds) (ws ++ us) ∧ ds.length = kk ∧ σ = [some (.ref R), some (.ref s), some (.str bg), some (.int (sh : Int)), some (.ref W'), some (.ref S), some (.int (fst : Int)), some (.int (many : Int)), some (.ref A), v9, v10, v11]) ⟨s2, [], [], _, _, _, by rw [List.append_nil]; exact hW1, hA2, by rw [List.append_nil, List.append_nil]; exact hpw, rfl, rfl⟩ ?_ ?_⟩
    rotate_left
    · rintro σ H3 ⟨sg, ds, us, v9, v10, v11, hw, ha, hpw2, hdl, rfl⟩
      exact ⟨_, rfl, _, rfl, (by show 2 ≤ sizeLine; decide), fun L nL => fin sg hw ha hpw2 (by omega) L nL⟩
    rintro kk σ H3 hkk ⟨sg, ds, us, v9, v10, v11, hw, ha, hpw2, hdl, rfl⟩
    have hlw : (ws ++ us).length = cs.length + ds.length := by rw [← hpw2.len, List.length_append]
    have hl0 := hpw.len
    refine ⟨_, rfl, _, rfl, _, rfl, _, rfl, _, rfl, R, s, W', ys, bg, n, i, f, sh, ws ++ us, rfl, hR.ext sg, hok, hz, hs.ext sg, hw, by omega, fun k hk => ?_, by omega, fun H4 L s34 nL hL => ?_⟩
    · rw [List.getLast?_eq_getElem?] at hk
      exact (hpw2.z hok hz _ k hk).1
    refine ⟨_, rfl, (by show 0 ≤ sizeLine; decide), fun E1 nE1 => ?_⟩
    have sE := same_new (o := .lst ([] : List V)) nE1
    obtain ⟨rs, hrs, hnm, hps⟩ := hL.ext sE
    have hrl := paired_len hps
    refine ⟨L, E1, rs.map V.ref, rfl, rfl, SqL.of hrs, SqL.of upd_same, _, rfl, ?_⟩
    have s35 := s34.trans sE
    generalize upd H4 E1 (.lst ([] : List V)) = H5 at hrs hps s35 ⊢
    have sg5 := sg.trans s35
    by_cases hne : rs = []
    · subst hne
      exact iteT ⟨_, rfl, _, rfl, (by show 2 ≤ sizeLine; decide), fun L nL => fin sg5 (hw.ext s35) (ha.ext s35) hpw2 (by omega) L nL⟩
    have hie : (rs.map V.ref).isEmpty = false := by
      cases rs with
      | nil => exact absurd rfl hne
      | cons a l => rfl
    rw [hie]
    have hrp : 1 ≤ rs.length := List.length_pos_iff.mpr hne
    refine iteF ?_
    refine ⟨_, rfl, _, rfl, _, rfl, _, rfl, _, _, rfl, rfl, S, ns, fst + kk, congrArg (fun z => [V.ref S, V.int z]) (by omega), sg5.seq hS, by omega, fun c0 => .inl ⟨c0, rfl, _, rfl, L, _, rfl, .inl (SqL.of hrs), _, _, rfl, rfl, ?_, ?_⟩⟩
    · rw [List.length_map]
      omega
    rw [List.length_map]
    have g0 := Int.emod_nonneg c0 (show (rs.length : Int) ≠ 0 by omega)
    have g1 := Int.emod_lt_of_pos c0 (show (0 : Int) < rs.length by omega)
    obtain ⟨j, hj⟩ : ∃ j : Nat, c0 % (rs.length : Int) = (j : Int) := ⟨(c0 % (rs.length : Int)).toNat, by omega⟩
    rw [hj] at g1
    have hro : rs[j]? = some (rs[j]'(by omega)) := List.getElem?_eq_getElem _
    generalize rs[j]'(by omega) = ro at hro
    obtain ⟨x, hx, c, t, hr1, hc1, ht1⟩ := paired_at hps hro
    have hxx := opL_at hx
    have hc1' : H5 c = some (.tup [mvV x.1.1, .bl x.1.2]) := hc1
    have ht1' : H5 t = some (.tup [.str x.2.z, .int x.2.sp, .int x.2.sl, .bl x.2.dn, .bl x.2.wt]) := ht1
    have hw5 := hw.ext s35
    have ha5 := ha.ext s35
    have hL3 : H3 L = none := nL
    refine ⟨L, _, _, .ref ro, rfl, rfl, SqL.of hrs, (by rw [hj]; exact atI_nat (by rw [List.getElem?_map, hro]; rfl)), ?_⟩
    obtain ⟨vw, hvw, hvwl⟩ := hw5.len
    obtain ⟨va, hva, hval⟩ := ha5.len
    refine ⟨_, rfl, .inl ⟨rfl, _, SqL.of hvw⟩, _, rfl, ro, _, 1, .ref t, rfl, rfl, SqL.of hr1, atI1, _, rfl, ro, _, 2, .bl x.2.nt, rfl, rfl, SqL.of hr1, atI_nat (j := 2) rfl, (by show 2 ≤ sizeLine; decide), fun a na => ?_⟩
    have sa := same_new (o := .tup [V.ref t, .bl x.2.nt]) na
    have ha6 : (upd H5 a (.tup [V.ref t, .bl x.2.nt])) a = some (.tup [V.ref t, .bl x.2.nt]) := upd_same
    have hvw6 := sa _ _ hvw
    have hva6 := sa _ _ hva
    have hw6 := hw5.ext sa
    have ha6' := ha5.ext sa
    have hr6 := sa _ _ hr1
    have hc6 := sa _ _ hc1'
    have ht6 := sa _ _ ht1'
    have sg6 := sg5.trans sa
    generalize upd H5 a (.tup [V.ref t, .bl x.2.nt]) = H6 at ha6 hvw6 hva6 hw6 ha6' hr6 hc6 ht6 sg6 ⊢
    have nrW : ro ≠ W' := fun e => by
      obtain ⟨_, e0, _⟩ := hw
      rw [e] at hr6
      rw [hvw6] at hr6
      cases vw with
      | nil => cases hr6
      | cons v0 vw => 
        obtain ⟨rw0, e1, pw0⟩ := hw6
        rw [hvw6] at e1
        rw [HO.lst.inj (Option.some.inj hr6)] at e1
        cases rw0 with
        | nil => cases e1
        | cons r0 rw0 =>
          rcases rw0 with _ | ⟨r1, rw0⟩
          · cases e1
          · rcases rw0 with _ | ⟨r2, rw0⟩
            · cases e1
            · cases e1
    refine ⟨W', _, _, rfl, rfl, hvw6, by rw [hvwl]; exact Nat.lt_of_le_of_lt (show (ws ++ us).length ≤ 1000 by omega) (by decide), ?_⟩
    have x67 : SameX W' H6 (upd H6 W' (.lst (vw ++ [.ref a]))) := SameX.upd
    have hw7 := hw6.add hvw6 ⟨t, ha6, ht6⟩
    have sg7 : Same H (upd H6 W' (.lst (vw ++ [.ref a]))) := same_x2 sg6 x67 nW'
    have hr7 := x67 _ _ nrW hr6
    have hc7 := x67 _ _ (ne_of hc6 hvw6 (by intro z; cases z)) hc6
    have hva7 := x67 _ _ hWA.symm hva6
    have ha7 := ha6'.xl hWA.symm hvw6 x67
    generalize upd H6 W' (.lst (vw ++ [.ref a])) = H7 at x67 hw7 sg7 hr7 hc7 hva7 ha7 ⊢
    refine ⟨_, rfl, .inl ⟨rfl, _, SqL.of hva7⟩, _, rfl, ro, _, 0, .ref c, rfl, rfl, SqL.of hr7, atI0, A, _, _, rfl, rfl, hva7, by rw [hval]; exact Nat.lt_of_le_of_lt (show ds.length ≤ 1000 by omega) (by decide), ?_⟩
    have x78 : SameX A H7 (upd H7 A (.lst (va ++ [.ref c]))) := SameX.upd
    have ha8 := ha7.add hva7 hc7 rfl
    have hw8 := hw7.xl hWA hva7 x78
    have e1 : (ws ++ us).length = (cs ++ ds).length := by rw [hlw, List.length_append]
    rw [e1] at hxx
    have pw8 := hpw2.snoc hxx.1 hxx.2
    rw [List.append_assoc, List.append_assoc] at pw8
    rw [List.append_assoc] at hw8
    exact ⟨same_x2 sg7 x78 nA0, ds ++ [x.1], us ++ [x.2], _, _, _, hw8, ha8, pw8, by rw [List.length_append, hdl]; rfl, rfl⟩
end
end K32

set_option Elab.async false
set_option linter.all false
set_option pp.deepTerms.threshold 14
set_option pp.maxSteps 2500
set_option maxRecDepth 100000
set_option maxHeartbeats 2000000
namespace K32
open PySem PySem.Spec PyProof.Rows L2 Vf
section
variable {P : Program} {w : World} {K : PySem.W.Frag} {mg : Str → Option Value} {base : Heap}
theorem sc_law_odd : FnScope ["_law_draw", "_law_begin", "_law_odd_here"] ["_law_draw", "_law_begin"] (defScope s_law_odd) := ⟨rfl, rfl, rfl, by decide +kernel, rfl, by decide +kernel, by decide +kernel⟩
-- slots: 0 _law_draw, 1 _law_begin, 2 _law_odd_here
/-- a thing that is no choice of any profile -/
def OdX (bg : Str) (H : Hp) (x : V) : Prop := x = .non ∨ ∃ r, x = .ref r ∧ (H r = some (.tup [.str "zzzzzzzzz", .bl false]) ∨ H r = some (.tup [.non, .int 0]) ∨ H r = some (.tup [.non]) ∨ H r = some (.lst [.str bg, .bl true]) ∨ H r = some (.tup [.str bg, .non]) ∨ H r = some (.tup [.str "", .bl true]))
theorem OdX.x {bg : Str} {H H' : Hp} {x : V} {q : Addr} {o : HO} (h : OdX bg H x) (hq : H q = some o) (n : (∀ ts, o ≠ .tup ts) ∧ o ≠ .lst [.str bg, .bl true]) (s : SameX q H H') : OdX bg H' x := by
  rcases h with h | ⟨r, e, h⟩
  · exact .inl h
  · have go : ∀ {u : HO}, H r = some u → u ≠ o → H' r = some u := fun e1 e2 => s _ _ (ne_of e1 hq e2) e1
    exact .inr ⟨r, e, h.imp (fun h => go h (fun e => n.1 _ e.symm)) fun h => h.imp (fun h => go h (fun e => n.1 _ e.symm)) fun h => h.imp (fun h => go h (fun e => n.1 _ e.symm)) fun h => h.imp (fun h => go h (fun e => n.2 e.symm)) fun h => h.imp (fun h => go h (fun e => n.1 _ e.symm)) fun h => go h (fun e => n.1 _ e.symm)⟩
theorem OdX.ext {bg : Str} {H H' : Hp} {x : V} (h : OdX bg H x) (s : Same H H') : OdX bg H' x := by
  rcases h with h | ⟨r, e, h⟩
  · exact .inl h
  · exact .inr ⟨r, e, h.imp (fun h => s _ _ h) fun h => h.imp (fun h => s _ _ h) fun h => h.imp (fun h => s _ _ h) fun h => h.imp (fun h => s _ _ h) fun h => h.imp (fun h => s _ _ h) fun h => s _ _ h⟩
theorem OdX.same {bg : Str} {H : Hp} {x : V} (h : OdX bg H x) : EqI K H x x true := by
  rcases h with rfl | ⟨r, rfl, _⟩
  · exact .flat (x := .non) (y := .non) rfl rfl
  · exact .same r
theorem OdX.not {bg : Str} {H : Hp} {x : V} {cs : List Ch} (h : OdX bg H x) (hc : ∀ c ∈ cs, ∀ z, c.1 = some z → nmB z = true) : NotCh H x cs := by
  rcases h with rfl | ⟨r, rfl, h | h | h | h | h | h⟩
  · exact .inl .non
  · exact .inr ⟨r, rfl, .inr (.inr ⟨(some "zzzzzzzzz", false), h, (fun z e => by cases e; decide +kernel), fun m => absurd (hc _ m _ rfl) (by decide +kernel)⟩)⟩
  · exact .inr ⟨r, rfl, .inr (.inl ⟨_, _, h, by first | exact .inl ⟨0, rfl⟩ | exact .inr ⟨0, rfl⟩ | exact .int 0 | exact .inl (.int 0) | exact .inr (.int 0)⟩)⟩
  · exact .inr ⟨r, rfl, .inl ⟨_, h, by decide⟩⟩
  · exact .inl (.lst h)
  · exact .inr ⟨r, rfl, .inr (.inl ⟨_, _, h, by first | exact .non | exact .inl .non | exact .inr .non | exact .inr (.inl rfl) | exact .inl rfl | exact .inr rfl⟩)⟩
  · exact .inr ⟨r, rfl, .inr (.inr ⟨(some "", true), h, (fun z e => by cases e; decide +kernel), fun m => absurd (hc _ m _ rfl) (by decide +kernel)⟩)⟩
def spOdd : Sp := fun vs H Q _ => ∃ (d : Addr) (m : Int) (bg : Str), vs = [.ref d, .str bg] ∧ H d = some (.lst [.int m]) ∧ ∀ H' x m', SameX d H H' → H' d = some (.lst [.int m']) → OdX bg H' x → Q x H'
theorem ok_law_odd {fd : FuncData} (F : FnD K ("_law_odd", none) "_law_odd" "_law_odd" s_law_odd fd) (T : VTxt K mg) (O_law_take : OkF P w K mg base CX0 1 "_law_take" ["_law_draw", "_law_size"] spTake) : OkF P w K mg base CX0 2 "_law_odd" ["_law_draw", "_law_begin"] spOdd := by
  refine okd F (F.ok sc_law_odd (fun vs H Q E h => ?_) fun cdv A outer s H vs Q E hr h => ?_) fun _ _ _ _ _ _ us hl => match us, hl with | [_, _], _ => rfl
  · obtain ⟨d, m, bg, rfl, _⟩ := h
    rfl
  · obtain ⟨d, m, bg, rfl, hd, k⟩ := h
    refine ⟨_, PSs.nox (pss_cons (ps_set (i := 2) sc_law_odd.nd rfl (Or.inl rfl) (pe_lst (pa_cons (pe_tup (pa_cons pe_str (pa_cons pe_bl pa_nil))) (pa_cons (pe_tup (pa_cons pe_non (pa_cons pe_int pa_nil))) (pa_cons (pe_tup (pa_cons pe_non pa_nil)) (pa_cons pe_non (pa_cons (pe_lst (pa_cons (pv 1) (pa_cons pe_bl pa_nil))) (pa_cons (pe_tup (pa_cons (pv 1) (pa_cons pe_non pa_nil))) (pa_cons (pe_tup (pa_cons pe_str (pa_cons pe_bl pa_nil))) pa_nil)))))))))
  (pss_one (ps_ret (pe_ix ix_list (pv 2) (c_fn O_law_take hr (by decide) T.g_law_take pass0 (pa_cons (pv 0) (pa_cons pe_int pa_nil))) (fun _ _ => rfl))))), ?_⟩
    refine ⟨(by show 2 ≤ sizeLine; decide), fun a1 n1 => ⟨(by show 2 ≤ sizeLine; decide), fun a2 n2 => ⟨(by show 1 ≤ sizeLine; decide), fun a3 n3 => ⟨_, rfl, (by show 2 ≤ sizeLine; decide), fun a4 n4 => ⟨_, rfl, (by show 2 ≤ sizeLine; decide), fun a5 n5 => ⟨(by show 2 ≤ sizeLine; decide), fun a6 n6 => ⟨(by show 7 ≤ sizeLine; decide), fun L nL => ?_⟩⟩⟩⟩⟩⟩⟩
    have h1 : (upd H a1 (.tup [V.str "zzzzzzzzz", .bl false])) a1 = some (.tup [V.str "zzzzzzzzz", .bl false]) := upd_same
    have s1 := same_new (o := (.tup [V.str "zzzzzzzzz", .bl false])) n1
    have sg := s1
    generalize upd H a1 (.tup [V.str "zzzzzzzzz", .bl false]) = G1 at *
    have h2 : (upd G1 a2 (.tup [V.non, .int 0])) a2 = some (.tup [V.non, .int 0]) := upd_same
    have s2 := same_new (o := (.tup [V.non, .int 0])) n2
    replace h1 := s2 _ _ h1
    replace sg := sg.trans s2
    generalize upd G1 a2 (.tup [V.non, .int 0]) = G2 at *
    have h3 : (upd G2 a3 (.tup [V.non])) a3 = some (.tup [V.non]) := upd_same
    have s3 := same_new (o := (.tup [V.non])) n3
    replace h1 := s3 _ _ h1
    replace h2 := s3 _ _ h2
    replace sg := sg.trans s3
    generalize upd G2 a3 (.tup [V.non]) = G3 at *
    have h4 : (upd G3 a4 (.lst [V.str bg, .bl true])) a4 = some (.lst [V.str bg, .bl true]) := upd_same
    have s4 := same_new (o := (.lst [V.str bg, .bl true])) n4
    replace h1 := s4 _ _ h1
    replace h2 := s4 _ _ h2
    replace h3 := s4 _ _ h3
    replace sg := sg.trans s4
    generalize upd G3 a4 (.lst [V.str bg, .bl true]) = G4 at *
    have h5 : (upd G4 a5 (.tup [V.str bg, .non])) a5 = some (.tup [V.str bg, .non]) := upd_same
    have s5 := same_new (o := (.tup [V.str bg, .non])) n5
    replace h1 := s5 _ _ h1
    replace h2 := s5 _ _ h2
    replace h3 := s5 _ _ h3
    replace h4 := s5 _ _ h4
    replace sg := sg.trans s5
    generalize upd G4 a5 (.tup [V.str bg, .non]) = G5 at *
    have h6 : (upd G5 a6 (.tup [V.str "", .bl true])) a6 = some (.tup [V.str "", .bl true]) := upd_same
    have s6 := same_new (o := (.tup [V.str "", .bl true])) n6
    replace h1 := s6 _ _ h1
    replace h2 := s6 _ _ h2
    replace h3 := s6 _ _ h3
    replace h4 := s6 _ _ h4
    replace h5 := s6 _ _ h5
    replace sg := sg.trans s6
    generalize upd G5 a6 (.tup [V.str "", .bl true]) = G6 at *
    have hL : (upd G6 L (.lst [.ref a1, .ref a2, .ref a3, V.non, .ref a4, .ref a5, .ref a6])) L = some (.lst [.ref a1, .ref a2, .ref a3, V.non, .ref a4, .ref a5, .ref a6]) := upd_same
    have sL := same_new (o := (.lst [.ref a1, .ref a2, .ref a3, V.non, .ref a4, .ref a5, .ref a6])) nL
    replace sg := sg.trans sL
    replace h1 := sL _ _ h1
    replace h2 := sL _ _ h2
    replace h3 := sL _ _ h3
    replace h4 := sL _ _ h4
    replace h5 := sL _ _ h5
    replace h6 := sL _ _ h6
    generalize upd G6 L (.lst [.ref a1, .ref a2, .ref a3, V.non, .ref a4, .ref a5, .ref a6]) = G7 at hL sg h1 h2 h3 h4 h5 h6 ⊢
    have hd7 := sg _ _ hd
    refine ⟨_, rfl, _, rfl, d, m, 7, rfl, hd7, by decide, by decide, fun r m' r0 r1 => ?_⟩
    have x8 : SameX d G7 (upd G7 d (.lst [.int m'])) := SameX.upd
    have hd8 : (upd G7 d (.lst [.int m'])) d = some (.lst [.int m']) := upd_same
    replace hL := x8 _ _ (ne_of hL hd7 (by intro z; cases z)) hL
    replace h1 := x8 _ _ (ne_of h1 hd7 (by intro z; cases z)) h1
    replace h2 := x8 _ _ (ne_of h2 hd7 (by intro z; cases z)) h2
    replace h3 := x8 _ _ (ne_of h3 hd7 (by intro z; cases z)) h3
    replace h4 := x8 _ _ (ne_of h4 hd7 (by intro z; cases z)) h4
    replace h5 := x8 _ _ (ne_of h5 hd7 (by intro z; cases z)) h5
    replace h6 := x8 _ _ (ne_of h6 hd7 (by intro z; cases z)) h6
    generalize upd G7 d (.lst [.int m']) = G8 at x8 hd8 hL h1 h2 h3 h4 h5 h6 ⊢
    have fin : ∀ x, OdX bg G8 x → Q x G8 := fun x hx => k G8 x m' ((same_x sg).trans x8) hd8 hx
    obtain ⟨j, rfl⟩ : ∃ j : Nat, r = (j : Int) := ⟨r.toNat, by omega⟩
    have hj : j < 7 := by omega
    match j, hj with
    | 0, _ => exact ⟨L, _, _, _, rfl, rfl, SqL.of hL, atI_nat rfl, fin _ (.inr ⟨a1, rfl, .inl h1⟩)⟩
    | 1, _ => exact ⟨L, _, _, _, rfl, rfl, SqL.of hL, atI_nat rfl, fin _ (.inr ⟨a2, rfl, .inr (.inl h2)⟩)⟩
    | 2, _ => exact ⟨L, _, _, _, rfl, rfl, SqL.of hL, atI_nat rfl, fin _ (.inr ⟨a3, rfl, .inr (.inr (.inl h3))⟩)⟩
    | 3, _ => exact ⟨L, _, _, _, rfl, rfl, SqL.of hL, atI_nat rfl, fin _ (.inl rfl)⟩
    | 4, _ => exact ⟨L, _, _, _, rfl, rfl, SqL.of hL, atI_nat rfl, fin _ (.inr ⟨a4, rfl, .inr (.inr (.inr (.inl h4)))⟩)⟩
    | 5, _ => exact ⟨L, _, _, _, rfl, rfl, SqL.of hL, atI_nat rfl, fin _ (.inr ⟨a5, rfl, .inr (.inr (.inr (.inr (.inl h5))))⟩)⟩
    | 6, _ => exact ⟨L, _, _, _, rfl, rfl, SqL.of hL, atI_nat rfl, fin _ (.inr ⟨a6, rfl, .inr (.inr (.inr (.inr (.inr h6))))⟩)⟩
end
end K32

set_option Elab.async false
set_option linter.all false
set_option pp.deepTerms.threshold 14
set_option pp.maxSteps 2500
set_option maxRecDepth 100000
set_option maxHeartbeats 2000000
namespace K32
open PySem PySem.Spec PyProof.Rows L2 Vf
section
variable {P : Program} {w : World} {K : PySem.W.Frag} {mg : Str → Option Value} {base : Heap}
theorem PW.lenL {ys : List PgE} {bg : Str} {n i sh : Nat} {cs : List Ch} {ws : List Tk} (h : PW ys bg n i sh cs ws) (hok : RowsOk ys) (hz : bg ∈ zsOf ys) (n1 : 1 ≤ n) (i1 : i ≤ n - 1) (hsh : sh ≤ n - 1) : (runL (staysL ws) (looksL (i : Int) ws) n sh).length = ws.length := by
  rw [runL_len, ← h.stays hok hz n1 i1 hsh, (h.sts hok hz n1 i1 hsh).2, h.len]
theorem PW.rok {xs ys : List PgE} {bg : Str} {n i sh : Nat} {cs : List Ch} {ws : List Tk} (h : PW ys bg n i sh cs ws) (hB : Beside xs ys) (hok : RowsOk ys) (hz : bg ∈ zsOf ys) (n1 : 1 ≤ n) (i1 : i ≤ n - 1) (hsh : sh ≤ n - 1) : RecOk xs cs := by
  obtain ⟨a, b⟩ := h.sts hok hz n1 i1 hsh
  exact ⟨h.first, fun p hp => by rw [hB.zs]; exact a p hp, b⟩
theorem PW.recY {xs ys : List PgE} {bg : Str} {n i sh : Nat} {cs : List Ch} {ws : List Tk} (h : PW ys bg n i sh cs ws) (hB : Beside xs ys) (hok : RowsOk ys) (hz : bg ∈ zsOf ys) (n1 : 1 ≤ n) (i1 : i ≤ n - 1) (hsh : sh ≤ n - 1) {H' : Hp} {r dr ti no : Addr} (hrec : RecA K H' r xs ((namesL (smL cs)).zip (cs.map (·.2))) dr ti no) : RecA K H' r ys (runL (staysL ws) (looksL (i : Int) ws) n sh) dr ti no := by
  rw [h.recL hok hz n1 i1 hsh] at hrec
  exact hrec.to hB
theorem chs_eq : ∀ cs : List Ch, PyData.eqv (.list (cs.map chD)) (.list (cs.map chD)) = true
  | [] => by simp [PyData.eqv, PyData.eqvAll]
  | c :: cs => by
    have ih := chs_eq cs
    have h := ch_eqv c c
    rw [decide_eq_true rfl] at h
    simp only [PyData.eqv, PyData.eqvAll, List.map_cons] at ih ⊢
    rw [h, ih]
    rfl
theorem sc_law_stands : FnScope ["_law_live", "_law_rows_here", "_law_spec_here", "_law_shift", "_law_done", "_law_choices"] ["_law_live", "_law_rows_here", "_law_spec_here", "_law_shift", "_law_done", "_law_choices"] (defScope s_law_stands) := ⟨rfl, rfl, rfl, by decide +kernel, rfl, by decide +kernel, by decide +kernel⟩
-- slots: 0 _law_live, 1 _law_rows_here, 2 _law_spec_here, 3 _law_shift, 4 _law_done, 5 _law_choices
/-- the profile at q beside what the law has done with it -/
structure Lv (K : PySem.W.Frag) (H0 H : Hp) (q g p : Addr) (sh : Nat) (cs : List Ch) (ws : List Tk) (dx M : Addr) (sv : V) (xs ys : List PgE) (bg : Str) (dg tn dP dN : Addr) (n i : Nat) (f : V) : Prop where
  nq : H0 q = none
  s0 : Same H0 H
  hq : PfA K H q g p sh cs ws.getLast? .non dx M sv
  hg : PgA K H0 g xs bg dg tn dP dN
  hp : SaA (CS K) H0 p (n : Int) (i : Int) f
  hB : Beside xs ys
  hok : RowsOk ys
  hz : bg ∈ zsOf ys
  pw : PW ys bg n i sh cs ws
  n1 : 1 ≤ n
  n8 : n ≤ 8
  i1 : i ≤ n - 1
  hsh : sh ≤ n - 1
theorem Lv.lz {H0 H : Hp} {q g p : Addr} {sh : Nat} {cs : List Ch} {ws : List Tk} {dx M : Addr} {sv : V} {xs ys : List PgE} {bg : Str} {dg tn dP dN : Addr} {n i : Nat} {f : V} (R : Lv K H0 H q g p sh cs ws dx M sv xs ys bg dg tn dP dN n i f) : ∀ k, ws.getLast? = some k → k.z ∈ zsOf xs := fun k hk => by
  rw [List.getLast?_eq_getElem?] at hk
  rw [R.hB.zs]
  exact (R.pw.z R.hok R.hz _ k hk).1
theorem Lv.tr {H0 H : Hp} {q g p : Addr} {sh : Nat} {cs : List Ch} {ws : List Tk} {dx M : Addr} {sv : V} {xs ys : List PgE} {bg : Str} {dg tn dP dN : Addr} {n i : Nat} {f : V} (R : Lv K H0 H q g p sh cs ws dx M sv xs ys bg dg tn dP dN n i f) : TrOk K H0 H q g p sh cs ws.getLast? .non dx M sv xs bg dg tn dP dN n (i : Int) f :=
  ⟨R.nq, R.s0, R.hq, R.hg, R.hp, R.n1, R.n8, R.lz, by rw [R.hB.zs]; exact R.hz⟩
theorem Lv.ext {H0 H H' : Hp} {q g p : Addr} {sh : Nat} {cs : List Ch} {ws : List Tk} {dx M : Addr} {sv : V} {xs ys : List PgE} {bg : Str} {dg tn dP dN : Addr} {n i : Nat} {f : V} (R : Lv K H0 H q g p sh cs ws dx M sv xs ys bg dg tn dP dN n i f) (s : Same H H') : Lv K H0 H' q g p sh cs ws dx M sv xs ys bg dg tn dP dN n i f :=
  ⟨R.nq, R.s0.trans s, R.hq.ext s, R.hg, R.hp, R.hB, R.hok, R.hz, R.pw, R.n1, R.n8, R.i1, R.hsh⟩
def spSta (K : PySem.W.Frag) : Sp := fun vs H Q _ => ∃ (H0 : Hp) (q g p : Addr) (sh : Nat) (cs : List Ch) (ws : List Tk) (dx M : Addr) (sv : V) (xs ys : List PgE) (bg : Str) (dg tn dP dN : Addr) (n i : Nat) (f : V) (R s Dn C W A : Addr), vs = [.ref q, .ref R, .ref s, .int (sh : Int), .ref Dn, .ref C] ∧ Lv K H0 H q g p sh cs ws dx M sv xs ys bg dg tn dP dN n i f ∧ ws.length ≤ 900 ∧ RowsA H R ys ∧ SpA H s (n : Int) (i : Int) f ∧
  H Dn = some (.lst [.ref W, .ref A]) ∧ TksA H W ws ∧ ChsA H A cs ∧ ChsA H C (chA xs bg (i : Int) n sh cs ws.getLast?) ∧ ∀ H', Same H H' → Q (.bl true) H'
theorem ok_law_stands {fd : FuncData} (F : FnD K ("_law_stands", none) "_law_stands" "_law_stands" s_law_stands fd) (T : VTxt K mg) (QM : QMeth K) (O_Profile_path : OkM P w K mg base CX0 1 "Profile" "path" ["self"] (spPath K)) (O_Profile_choices : OkM P w K mg base CX0 7 "Profile" "choices" ["self"] (spChs K)) (O_Profile_record : OkM P w K mg base CX0 7 "Profile" "record" ["self"] (spRecd K))
    (O_law_due : OkF P w K mg base CX0 3 "_law_due" ["_law_rows_here", "_law_spec_here", "_law_shift", "_law_walk_here"] spDu) (O_law_record_fits : OkF P w K mg base CX0 3 "_law_record_fits" ["_law_record", "_law_due_here"] (spRFit K)) : OkF P w K mg base CX0 8 "_law_stands" ["_law_live", "_law_rows_here", "_law_spec_here", "_law_shift", "_law_done", "_law_choices"] (spSta K) := by
  refine okd F (F.ok sc_law_stands (fun vs H Q E h => ?_) fun cdv A outer s H vs Q E hr h => ?_) fun _ _ _ _ _ _ us hl => match us, hl with | [_, _, _, _, _, _], _ => rfl
  · obtain ⟨H0, q, g, p, sh, cs, ws, dx, M, sv, xs, ys, bg, dg, tn, dP, dN, n, i, f, R, s, Dn, C, W, A, rfl, _⟩ := h
    rfl
  · obtain ⟨H0, q, g, p, sh, cs, ws, dx, M, sv, xs, ys, bg, dg, tn, dP, dN, n, i, f, R, s, Dn, C, W, A, rfl, L, hw9, hR, hs, hDn, hW, hA, hC, k⟩ := h
    refine ⟨_, PSs.nox (pss_cons (ps_if (PW.pt (pw_or (pt_cmpR op_ne (pe_fld (pv 0) rfl) (pe_callB (id := "len") call_len_seq (by rfl) T.z_len (by decide +kernel) (pa_cons (pe_ix ix_list (pv 4) pe_int (fun _ _ => rfl)) pa_nil)) (nomark _)) (pw_or (pt_cmpR (op_neD hr.units) (c_me0 rfl (pv 0) T.c_Profile QM.m_path O_Profile_path hr (by decide) pass0) (pe_ix ix_list (pv 4) pe_int (fun _ _ => rfl)) (nomark _)) (pw_or1 (pt_cmpR (op_neD hr.units) (c_me0 rfl (pv 0) T.c_Profile QM.m_choices O_Profile_choices hr (by decide) pass0) (pv 5) (nomark _)))))) (pss_one (ps_ret pe_bl))
  pss_nil)
  (pss_one (ps_ret (c_fn O_law_record_fits hr (by decide) T.g_law_record_fits pass0 (pa_cons (c_me0 rfl (pv 0) T.c_Profile QM.m_record O_Profile_record hr (by decide) pass0) (pa_cons (c_fn O_law_due hr (by decide) T.g_law_due pass0 (pa_cons (pv 1) (pa_cons (pv 2) (pa_cons (pv 3) (pa_cons (pe_ix ix_list (pv 4) pe_int (fun _ _ => rfl)) pa_nil))))) pa_nil)))))), ?_⟩
    have hq := L.hq
    have hpl := L.pw.len
    obtain ⟨rw, hrw, hpw⟩ := id hW
    have hwl := paired_len hpw
    have zx : bg ∈ zsOf xs := by rw [L.hB.zs]; exact L.hz
    have hS1 : ∀ c ∈ chA xs bg (i : Int) n sh cs ws.getLast?, ChS c := chA_S zx L.hg.nm
    have hS2 : ∀ c ∈ cs, ChS c := fun c hc => by
      obtain ⟨j, hj⟩ := List.mem_iff_getElem?.mp hc
      obtain ⟨kk, hk⟩ : ∃ kk, ws[j]? = some kk := ⟨_, List.getElem?_eq_getElem (by rw [← hpl]; exact (List.getElem?_eq_some_iff.mp hj).1)⟩
      obtain ⟨h1, h2⟩ := L.pw.st j c kk hj hk
      have hz' : ∀ a, prv ws j = some a → a.z ∈ zsOf ys := fun a ha => by
        cases j with
        | zero => cases ha
        | succ j => exact (L.pw.z L.hok L.hz j a ha).1
      intro z e
      have := (mv_z L.hz (chL_mem h1).1).1 z e
      rw [← L.hB.zs] at this
      exact nm_ok (L.hg.nm z this)
    refine ⟨_, rfl, q, _, dx, _, _, rfl, hq.hq, T.c_Profile, T.fT, pff_ticks, _, rfl, Dn, _, 0, .ref W, rfl, rfl, SqL.of hDn, atI0, W, _, rfl, .inl (SqL.of hrw), rfl, false, ?_, ?_⟩
    · rw [List.length_map, hwl, hpl]
      simp
    refine iteF ⟨_, rfl, q, dx, _, rfl, hq.hq, pff_out, q, g, p, sh, cs, _, _, dx, M, sv, rfl, hq, fun H2 P1 s12 nP hP => ?_⟩
    obtain ⟨r1, e1, p1⟩ := hP
    obtain ⟨r2, e2, p2⟩ := hA.ext s12
    refine ⟨_, rfl, Dn, _, 1, .ref A, rfl, rfl, SqL.of (s12 _ _ hDn), atI1, _, _, .lst (SqL.of e1) (chs_dp p1), .lst (SqL.of e2) (chs_dp p2), chs_sh hS2, chs_sh hS2, false, by rw [chs_eq]; rfl, iteF ?_⟩
    have hq2 := hq.ext s12
    have s02 := L.s0.trans s12
    refine ⟨_, rfl, q, dx, _, rfl, hq2.hq, pff_out, q, g, p, sh, cs, _, _, dx, M, sv, xs, bg, dg, tn, dP, dN, n, (i : Int), f, rfl, hq2, L.hg.ext s02, L.hp.ext s02, L.n1, L.n8, L.lz, fun H3 L3 s23 nL3 hL3 => ?_⟩
    obtain ⟨r3, e3, p3⟩ := hL3
    obtain ⟨r4, e4, p4⟩ := hC.ext (s12.trans s23)
    refine ⟨_, rfl, _, _, .lst (SqL.of e3) (chs_dp p3), .lst (SqL.of e4) (chs_dp p4), chs_sh hS1, chs_sh hS1, false, by rw [chs_eq]; rfl, iteF ?_⟩
    have s13 := s12.trans s23
    have hq3 := hq.ext s13
    obtain ⟨c1, c2, c3⟩ := L.pw.rok L.hB L.hok L.hz L.n1 L.i1 L.hsh
    refine ⟨_, rfl, q, dx, _, rfl, hq3.hq, pff_out, q, g, p, sh, cs, _, _, dx, M, sv, xs, bg, dg, tn, dP, dN, rfl, hq3, L.hg.ext (L.s0.trans s13), by omega, c1, c2, c3, fun H4 r dr ti no s34 hrec nti nno => ?_⟩
    have hrY := L.pw.recY L.hB L.hok L.hz L.n1 L.i1 L.hsh hrec
    have s14 := s13.trans s34
    refine ⟨_, rfl, _, rfl, _, rfl, _, rfl, Dn, _, 0, .ref W, rfl, rfl, SqL.of (s14 _ _ hDn), atI0, R, s, W, ys, bg, n, i, f, sh, ws, rfl, hR.ext s14, L.hok, hs.ext s14, hW.ext s14, by omega, fun hne => L.pw.walk L.hok L.hz L.n1 L.i1 L.hsh hne, L.hsh, fun H5 D Td no' s45 nD nTd nno' hdue => ?_⟩
    have s15 := s14.trans s45
    refine ⟨r, D, ys, _, dr, ti, no, Td, no', rfl, hrY.ext s45, L.hok.nd, L.hok.l6, by rw [L.pw.lenL L.hok L.hz L.n1 L.i1 L.hsh]; omega, ne_of_none hrY.ht nTd, hdue.hD, hdue.hT, hdue.hn, fun H6 s56 => k _ (s15.trans s56)⟩
end
end K32

set_option Elab.async false
set_option linter.all false
set_option pp.deepTerms.threshold 14
set_option pp.maxSteps 2500
set_option maxRecDepth 100000
set_option maxHeartbeats 2000000
namespace K32
open PySem PySem.Spec PyProof.Rows L2 Vf
section
variable {P : Program} {w : World} {K : PySem.W.Frag} {mg : Str → Option Value} {base : Heap}
/-- q(e): the call of an instance that has __call__ -/
theorem c_callO {X : Cx} {CX : CXT} {k j : Nat} {ps : List Str} {sp : Sp} {cn : Str} {C : Addr} {E : XK} {fe e : Expr} {es : List Expr} {tf : TE} {t : TA} {pos : Pos} (hC : C = He.ga X.K cn) (hf : PE X fe tf) (m : Meth X.K C "__call__" (He.fAd X.K (cn, some "__call__"))) (fi : PySem.W.fnIn X.K (He.fAd X.K (cn, some "__call__")) = true) (O : OkD X.prog X.w X.K X.mg X.base CX k (cn, some "__call__") ps [] sp) (hr : Room j X.A) (hj : k ≤ j) (hx : Passes CX X E) (ha : PA X (e :: es) t)
    (ht : eval (Expr.Call fe (e :: es) [] pos) X.env = (do
      let ov ← eval fe X.env
      callWith pos ov [] (backTo pos (starEach (e :: es) X.env)) (backToKw pos (keywordEach [] X.env))) := by rfl) (he : starEach (e :: es) X.env = (false, eval e X.env) :: starEach es X.env := by rfl) (hpl : (backTo pos (starEach es X.env)).any (·.1) = false := by rfl) :
    PE X (.Call fe (e :: es) [] pos) (StX.tCallO X C (fun vs H Q E => sp (vs ++ []) H Q E) E tf t) := by
  obtain ⟨fd, ds, F, b, v⟩ := O.ex
  exact StX.pe_callO hf ⟨m.1, m.2, fi⟩ (F.raw b v) (hr.mono hj) hx ha ht he hpl
section
variable {H H' : Hp} {d : Addr} {m : Int}
theorem RowsA.kd {R : Addr} {ys : List PgE} (h : RowsA H R ys) (hd : H d = some (.lst [.int m])) (x : SameX d H H') : RowsA H' R ys :=
  ⟨x _ _ (ne_of h.hR hd ref_int) h.hR, fun y hy => ⟨x _ _ ((h.row y hy).ne_int hd).1 (h.row y hy).1, x _ _ ((h.row y hy).ne_int hd).2 (h.row y hy).2⟩⟩
theorem SpA.kd {s : Addr} {n i : Int} {f : V} (h : SpA H s n i f) (hd : H d = some (.lst [.int m])) (x : SameX d H H') : SpA H' s n i f :=
  ⟨x _ _ (ne_of h.hs hd (by intro z; cases z)) h.hs, h.n1, h.n8, h.i0, h.i1, h.hf⟩
theorem SaA.kd {C p : Addr} {n i : Int} {f : V} (h : SaA C H p n i f) (hd : H d = some (.lst [.int m])) (x : SameX d H H') : SaA C H' p n i f := by
  obtain ⟨dx, e⟩ := h
  exact ⟨dx, x _ _ (ne_of e hd (by intro z; cases z)) e⟩
theorem PgA.kd {g : Addr} {xs : List PgE} {st : Str} {dx tn dP dN : Addr} (h : PgA K H g xs st dx tn dP dN) (hd : H d = some (.lst [.int m])) (x : SameX d H H') : PgA K H' g xs st dx tn dP dN :=
  ⟨x _ _ (ne_of h.hg hd (by intro z; cases z)) h.hg, x _ _ (ne_of h.hn hd (by intro z; cases z)) h.hn, x _ _ (ne_of h.hP hd (by intro z; cases z)) h.hP, x _ _ (ne_of h.hN hd (by intro z; cases z)) h.hN,
   fun y hy => by obtain ⟨dy, e⟩ := h.pl y hy; exact ⟨dy, x _ _ (ne_of e hd (by intro z; cases z)) e⟩, fun y hy => ⟨x _ _ (ne_of (h.ns y hy).1 hd (by intro z; cases z)) (h.ns y hy).1, (h.ns y hy).2⟩, h.nd, h.l1, h.l6, h.nm⟩
theorem refs_int {rs : List Addr} {m : Int} : HO.lst (rs.map V.ref) ≠ HO.lst [.int m] := fun z => by
  have z := HO.lst.inj z
  cases rs with
  | nil => cases z
  | cons a l => cases z
theorem ChsA.kd {L : Addr} {cs : List Ch} (h : ChsA H L cs) (hd : H d = some (.lst [.int m])) (x : SameX d H H') : ChsA H' L cs := by
  obtain ⟨rs, h1, h2⟩ := id h
  exact h.xl (ne_of h1 hd refs_int) hd x
theorem TksA.kd {L : Addr} {ws : List Tk} (h : TksA H L ws) (hd : H d = some (.lst [.int m])) (x : SameX d H H') : TksA H' L ws := by
  obtain ⟨rs, h1, h2⟩ := id h
  exact h.xl (ne_of h1 hd refs_int) hd x
theorem StO.kd {v : V} {o : Option Tk} (h : StO H v o) (hd : H d = some (.lst [.int m])) (x : SameX d H H') : StO H' v o := by
  cases o with
  | none => exact h
  | some k =>
    obtain ⟨t, e, h⟩ := h
    have h : H t = some (.tup [.str k.z, .int k.sp, .int k.sl, .bl k.dn, .bl k.wt]) := h
    exact ⟨t, e, x _ _ (ne_of h hd (by intro z; cases z)) h⟩
theorem PfA.kd {q g p : Addr} {sh : Nat} {cs : List Ch} {o : Option Tk} {mk : V} {dx M : Addr} {sv : V} (h : PfA K H q g p sh cs o mk dx M sv) (hd : H d = some (.lst [.int m])) (x : SameX d H H') : PfA K H' q g p sh cs o mk dx M sv :=
  ⟨x _ _ (ne_of h.hq hd (by intro z; cases z)) h.hq, h.hM.kd hd x, h.hs.kd hd x⟩
theorem Lv.kd {H0 : Hp} {q g p : Addr} {sh : Nat} {cs : List Ch} {ws : List Tk} {dx M : Addr} {sv : V} {xs ys : List PgE} {bg : Str} {dg tn dP dN : Addr} {n i : Nat} {f : V} (R : Lv K H0 H q g p sh cs ws dx M sv xs ys bg dg tn dP dN n i f) (hd : H d = some (.lst [.int m])) (n0 : H0 d = none) (x : SameX d H H') : Lv K H0 H' q g p sh cs ws dx M sv xs ys bg dg tn dP dN n i f :=
  ⟨R.nq, same_x2 R.s0 x n0, R.hq.kd hd x, R.hg, R.hp, R.hB, R.hok, R.hz, R.pw, R.n1, R.n8, R.i1, R.hsh⟩
end
/-- the profile, the law's lists, the choices that it has -/
structure Md (K : PySem.W.Frag) (H0 H : Hp) (q g p : Addr) (sh : Nat) (cs : List Ch) (ws : List Tk) (dx M : Addr) (sv : V) (xs ys : List PgE) (bg : Str) (dg tn dP dN : Addr) (n i : Nat) (f : V) (Dn W A C : Addr) : Prop where
  L : Lv K H0 H q g p sh cs ws dx M sv xs ys bg dg tn dP dN n i f
  hD : H Dn = some (.lst [V.ref W, .ref A])
  hW : TksA H W ws
  hA : ChsA H A cs
  hC : ChsA H C (chA xs bg (i : Int) n sh cs ws.getLast?)
section
variable {H0 H H' : Hp} {q g p : Addr} {sh : Nat} {cs : List Ch} {ws : List Tk} {dx M : Addr} {sv : V} {xs ys : List PgE} {bg : Str} {dg tn dP dN : Addr} {n i : Nat} {f : V} {Dn W A C d : Addr} {m : Int}
theorem Md.ext (R : Md K H0 H q g p sh cs ws dx M sv xs ys bg dg tn dP dN n i f Dn W A C) (s : Same H H') : Md K H0 H' q g p sh cs ws dx M sv xs ys bg dg tn dP dN n i f Dn W A C :=
  ⟨R.L.ext s, s _ _ R.hD, R.hW.ext s, R.hA.ext s, R.hC.ext s⟩
theorem Md.kd (R : Md K H0 H q g p sh cs ws dx M sv xs ys bg dg tn dP dN n i f Dn W A C) (hd : H d = some (.lst [.int m])) (n0 : H0 d = none) (x : SameX d H H') : Md K H0 H' q g p sh cs ws dx M sv xs ys bg dg tn dP dN n i f Dn W A C :=
  ⟨R.L.kd hd n0 x, x _ _ (ne_of R.hD hd (by intro z; cases z)) R.hD, R.hW.kd hd x, R.hA.kd hd x, R.hC.kd hd x⟩
end
section
variable {H0 H H' : Hp} {q g p : Addr} {sh : Nat} {cs : List Ch} {ws : List Tk} {dx M : Addr} {sv : V} {xs ys : List PgE} {bg : Str} {dg tn dP dN : Addr} {n i : Nat} {f : V} {Dn W A C d : Addr} {us : List V}
theorem StO.xl {v : V} {o : Option Tk} (h : StO H v o) (hd : H d = some (.lst us)) (x : SameX d H H') : StO H' v o := by
  cases o with
  | none => exact h
  | some k =>
    obtain ⟨t, e, h⟩ := h
    have h : H t = some (.tup [.str k.z, .int k.sp, .int k.sl, .bl k.dn, .bl k.wt]) := h
    exact ⟨t, e, x _ _ (ne_of h hd (by intro z; cases z)) h⟩
theorem Md.xl (R : Md K H0 H q g p sh cs ws dx M sv xs ys bg dg tn dP dN n i f Dn W A C) (hd : H d = some (.lst us)) (n0 : H0 d = none) (nn : Dn ≠ d ∧ W ≠ d ∧ A ≠ d ∧ C ≠ d ∧ M ≠ d) (x : SameX d H H') : Md K H0 H' q g p sh cs ws dx M sv xs ys bg dg tn dP dN n i f Dn W A C :=
  ⟨⟨R.L.nq, same_x2 R.L.s0 x n0, ⟨x _ _ (ne_of R.L.hq.hq hd (by intro z; cases z)) R.L.hq.hq, R.L.hq.hM.xl nn.2.2.2.2 hd x, R.L.hq.hs.xl hd x⟩, R.L.hg, R.L.hp, R.L.hB, R.L.hok, R.L.hz, R.L.pw, R.L.n1, R.L.n8, R.L.i1, R.L.hsh⟩,
    x _ _ nn.1 R.hD, R.hW.xl nn.2.1 hd x, R.hA.xl nn.2.2.1 hd x, R.hC.xl nn.2.2.2.1 hd x⟩
theorem Md.ne (R : Md K H0 H q g p sh cs ws dx M sv xs ys bg dg tn dP dN n i f Dn W A C) (nd : H d = none) : Dn ≠ d ∧ W ≠ d ∧ A ≠ d ∧ C ≠ d ∧ M ≠ d := by
  obtain ⟨_, e1, _⟩ := R.hW
  obtain ⟨_, e2, _⟩ := R.hA
  obtain ⟨_, e3, _⟩ := R.hC
  obtain ⟨_, e4, _⟩ := R.L.hq.hM
  exact ⟨ne_of_none R.hD nd, ne_of_none e1 nd, ne_of_none e2 nd, ne_of_none e3 nd, ne_of_none e4 nd⟩
theorem chs_xl {rs : List Addr} {ds : List Ch} (h : Paired (ChA H) rs ds) (hd : H d = some (.lst us)) (x : SameX d H H') : Paired (ChA H') rs ds :=
  paired_imp (fun r c e => x r _ (ne_of (show H r = some (.tup [mvV c.1, .bl c.2]) from e) hd (by intro z; cases z)) e) h
end
theorem paired_takeN {α β : Type} {R : α → β → Prop} : ∀ {xs : List α} {ys : List β} (n : Nat), Paired R xs ys → Paired R (xs.take n) (ys.take n)
  | _, _, 0, _ => .nil
  | _, _, _ + 1, .nil => .nil
  | _, _, n + 1, .cons r p => .cons r (paired_takeN n p)
theorem paired_self {K : PySem.W.Frag} {H : Hp} : ∀ {l : List V}, (∀ x ∈ l, EqI K H x x true) → Paired (fun z z' => EqI K H z z' true) l l
  | [], _ => .nil
  | x :: l, h => .cons (h x List.mem_cons_self) (paired_self fun y hy => h y (List.mem_cons_of_mem _ hy))
theorem goOk_pre {xs : List PgE} {st : Str} {i : Int} {n sh : Nat} : ∀ {ds cs : List Ch} {o : Option Tk} {j : Nat}, GoOk xs st i n sh cs o ds → GoOk xs st i n sh cs o (ds.take j)
  | [], cs, o, j, h => by rw [List.take_nil]; exact h
  | d :: ds, cs, o, 0, h => trivial
  | d :: ds, cs, o, j + 1, h => ⟨h.1, goOk_pre (j := j) h.2⟩
theorem sc_law : FnScope ["_law_script", "_law_draw", "_law_spec_here", "_law_rows_here", "_law_begin", "_law_shift", "_law_live", "_law_done", "_law_turns", "_law_picks", "_law_base", "_law_grown_here", "_law_choice", "_law_choices", "_law_more", "_law_due_here", "_law_path", "_law_at", "_law_passed", "_law_outcome"] ["_law_script"] (defScope s_law) := ⟨rfl, rfl, rfl, by decide +kernel, rfl, by decide +kernel, by decide +kernel⟩
-- slots: 0 _law_script, 1 _law_draw, 2 _law_spec_here, 3 _law_rows_here, 4 _law_begin, 5 _law_shift, 6 _law_live, 7 _law_done, 8 _law_turns, 9 _law_picks, 10 _law_base, 11 _law_grown_here, 12 _law_choice, 13 _law_choices, 14 _law_more, 15 _law_due_here, 16 _law_path, 17 _law_at, 18 _law_passed, 19 _law_outcome
def spLaw (K : PySem.W.Frag) : Sp := fun vs H Q _ => ∃ (a : Addr) (ns : List Int), vs = [.ref a] ∧ SqL K H a (ns.map V.int) ∧ ns.length ≤ 63 ∧ ∀ H', Q (.bl true) H'
set_option maxHeartbeats 16000000 in
theorem ok_law {fd : FuncData} (F : FnD K ("law", none) "law" "law" s_law fd) (T : VTxt K mg) (PM : PMeth K) (QM : QMeth K) (O_law_cell : OkF P w K mg base CX0 1 "_law_cell" ["_law_script", "_law_k"] (Vf.spCell K)) (O_law_take : OkF P w K mg base CX0 1 "_law_take" ["_law_draw", "_law_size"] spTake)
    (O_law_rows : OkF P w K mg base CX0 3 "_law_rows" ["_law_draw", "_law_words", "_law_many", "_law_longest"] spRows) (O_law_program : OkF P w K mg base CX0 7 "_law_program" ["_law_rows_here", "_law_begin"] (spPrL K)) (O_law_spec : OkF P w K mg base CX0 2 "_law_spec" ["_law_draw", "_law_longest"] spSpec) (O_law_sampler : OkF P w K mg base CX0 6 "_law_sampler" ["_law_spec_here"] (spSmp K))
    (O_law_grown : OkF P w K mg base CX0 4 "_law_grown" ["_law_rows_here", "_law_spec_here", "_law_begin", "_law_shift", "_law_walk_here", "_law_script", "_law_first_here", "_law_many"] (spGr K)) (O_law_odd : OkF P w K mg base CX0 2 "_law_odd" ["_law_draw", "_law_begin"] spOdd) (O_law_tried : OkF P w K mg base CX0 11 "_law_tried" ["_law_live", "_law_path"] (spTd K))
    (O_law_stands : OkF P w K mg base CX0 8 "_law_stands" ["_law_live", "_law_rows_here", "_law_spec_here", "_law_shift", "_law_done", "_law_choices"] (spSta K)) (O_law_due : OkF P w K mg base CX0 3 "_law_due" ["_law_rows_here", "_law_spec_here", "_law_shift", "_law_walk_here"] spDu) (O_law_record_fits : OkF P w K mg base CX0 3 "_law_record_fits" ["_law_record", "_law_due_here"] (spRFit K))
    (O_Profile_init2k : OkK P w K mg base (L2.CX P w) 4 ("Profile", some "__init__") ["self", "program", "sampler", "phase"] 3 ["phase"] (fun vs zs => vs ++ zs) (spPfI K)) (O_Profile_choices : OkM P w K mg base CX0 7 "Profile" "choices" ["self"] (spChs K)) (O_Profile_trial : OkM P w K mg base (L2.CX P w) 10 "Profile" "trial" ["self", "choices"] (spTr K)) (O_Profile_call : OkM P w K mg base (L2.CX P w) 9 "Profile" "__call__" ["self", "choice"] (spGo K)) : FnOk P w K mg base CX0 12 (He.ga K "law") fd ["_law_script"] (spLaw K) := by
  refine F.ok sc_law (fun vs H Q E h => ?_) fun cdv A outer s H vs Q E hr h => ?_
  · obtain ⟨a, ns, rfl, _⟩ := h
    rfl
  · obtain ⟨a0, ns, rfl, hS, hlen, k⟩ := h
    refine ⟨_, PSs.nox (pss_cons (ps_set (i := 1) sc_law.nd rfl (Or.inl rfl) (pe_lst (pa_cons (c_fn O_law_cell hr (by decide) T.g_law_cell pass0 (pa_cons (pv 0) (pa_cons pe_int pa_nil))) pa_nil)))
  (pss_cons (ps_set (i := 2) sc_law.nd rfl (Or.inl rfl) (c_fn O_law_spec hr (by decide) T.g_law_spec pass0 (pa_cons (pv 1) (pa_cons pe_int pa_nil))))
  (pss_cons (ps_set (i := 3) sc_law.nd rfl (Or.inl rfl) (c_fn O_law_rows hr (by decide) T.g_law_rows pass0 (pa_cons (pv 1) (pa_cons (pe_lst (pa_cons (c_fn O_law_cell hr (by decide) T.g_law_cell pass0 (pa_cons (pv 0) (pa_cons pe_int pa_nil))) pa_nil)) (pa_cons pe_int (pa_cons pe_int pa_nil))))))
  (pss_cons (ps_set (i := 4) sc_law.nd rfl (Or.inl rfl) (pe_ix ix_list (pe_ix ix_list (pv 3) (pe_op op_mod (pe_callTy call_int1 (by rfl) T.z_int (by decide +kernel) (pa_cons (c_fn O_law_cell hr (by decide) T.g_law_cell pass0 (pa_cons (pv 0) (pa_cons pe_int pa_nil))) pa_nil)) (pe_callB (id := "len") call_len_seq (by rfl) T.z_len (by decide +kernel) (pa_cons (pv 3) pa_nil))) (fun _ _ => rfl)) pe_int (fun _ _ => rfl)))
  (pss_cons (ps_set (i := 5) sc_law.nd rfl (Or.inl rfl) (pe_ix ix_list (pv 2) pe_int (fun _ _ => rfl)))
  (C8.pss_cut (ps_if (pt_cmpR op_isN (pv 5) pe_non (nomark _)) (pss_one (ps_set (i := 5) sc_law.nd rfl (Or.inl rfl) (c_fn O_law_take hr (by decide) T.g_law_take pass0 (pa_cons (pv 1) (pa_cons (pe_ix ix_list (pv 2) pe_int (fun _ _ => rfl)) pa_nil)))))
  pss_nil)
  (pss_cons (ps_set (i := 6) sc_law.nd rfl (Or.inl rfl) (c_mkK T.m_Profile O_Profile_init2k hr (by decide) T.g_Profile passL (pa_cons (c_fn O_law_program hr (by decide) T.g_law_program pass0 (pa_cons (pv 3) (pa_cons (pv 4) pa_nil))) (pa_cons (c_fn O_law_sampler hr (by decide) T.g_law_sampler pass0 (pa_cons (pv 2) pa_nil)) pa_nil)) (pk_cons (pv 5) pk_nil)))
  (pss_cons (ps_set (i := 7) sc_law.nd rfl (Or.inl rfl) (pe_lst (pa_cons (pe_lst pa_nil) (pa_cons (pe_lst pa_nil) pa_nil))))
  (pss_cons (ps_for PassesOwn.never rfl (pi_range1 rfl T.z_range (pa_cons pe_int pa_nil)) (pg_name (i := 8) sc_law.nd rfl (Or.inl rfl))
  (pss_cons (ps_set (i := 9) sc_law.nd rfl (Or.inl rfl) (pe_lst (pa_cons (c_fn O_law_cell hr (by decide) T.g_law_cell pass0 (pa_cons (pv 0) (pa_cons (pe_op op_add pe_int (pv 8)) pa_nil))) pa_nil)))
  (pss_cons (ps_set (i := 10) sc_law.nd rfl (Or.inl rfl) (pe_op op_add pe_int (pe_op op_mul pe_int (pv 8))))
  (pss_cons (ps_set (i := 11) sc_law.nd rfl (Or.inl rfl) (c_fn O_law_grown hr (by decide) T.g_law_grown pass0 (pa_cons (pv 3) (pa_cons (pv 2) (pa_cons (pv 4) (pa_cons (pv 5) (pa_cons (pe_ix ix_list (pv 7) pe_int (fun _ _ => rfl)) (pa_cons (pv 0) (pa_cons (pv 10) (pa_cons (c_fn O_law_take hr (by decide) T.g_law_take pass0 (pa_cons (pv 9) (pa_cons pe_int pa_nil))) pa_nil))))))))))
  (pss_cons (ps_for PassesOwn.never rfl (pi_list (pe_ix ix_list (pv 11) pe_int (fun _ _ => rfl))) (pg_name (i := 12) sc_law.nd rfl (Or.inl rfl))
  (pss_one (ps_expr (c_callO (cn := "Profile") rfl (pv 6) QM.m__call__ PM.f_call O_Profile_call hr (by decide) passL (pa_cons (pv 12) pa_nil)))))
  (pss_cons (ps_set (i := 7) sc_law.nd rfl (Or.inl rfl) (pe_lst (pa_cons (pe_ix ix_list (pv 11) pe_int (fun _ _ => rfl)) (pa_cons (pe_op op_cat (pe_ix ix_list (pv 7) pe_int (fun _ _ => rfl)) (pe_ix ix_list (pv 11) pe_int (fun _ _ => rfl))) pa_nil))))
  (pss_cons (ps_set (i := 13) sc_law.nd rfl (Or.inl rfl) (c_me0 rfl (pv 6) T.c_Profile QM.m_choices O_Profile_choices hr (by decide) pass0))
  (pss_cons (ps_set (i := 14) sc_law.nd rfl (Or.inl rfl) (c_fn O_law_grown hr (by decide) T.g_law_grown pass0 (pa_cons (pv 3) (pa_cons (pv 2) (pa_cons (pv 4) (pa_cons (pv 5) (pa_cons (pe_ix ix_list (pv 7) pe_int (fun _ _ => rfl)) (pa_cons (pv 0) (pa_cons (pe_op op_add (pv 10) pe_int) (pa_cons (c_fn O_law_take hr (by decide) T.g_law_take pass0 (pa_cons (pv 9) (pa_cons pe_int pa_nil))) pa_nil))))))))))
  (pss_cons (ps_set (i := 15) sc_law.nd rfl (Or.inl rfl) (pe_tup (pa_cons pe_str pa_nil)))
  (pss_cons (ps_set (i := 16) sc_law.nd rfl (Or.inl rfl) (pe_callTy call_list_of (by rfl) T.z_list (by decide +kernel) (pa_cons (pe_ix ix_list (pv 14) pe_int (fun _ _ => rfl)) pa_nil)))
  (C8.pss_cut (ps_if (pt_cmpR op_eq (c_fn O_law_take hr (by decide) T.g_law_take pass0 (pa_cons (pv 9) (pa_cons pe_int pa_nil))) pe_int (nomark _)) (pss_cons (ps_set (i := 17) sc_law.nd rfl (Or.inl rfl) (c_fn O_law_take hr (by decide) T.g_law_take pass0 (pa_cons (pv 9) (pa_cons (pe_op op_add (pe_callB (id := "len") call_len_seq (by rfl) T.z_len (by decide +kernel) (pa_cons (pv 16) pa_nil)) pe_int) pa_nil))))
  (pss_cons (ps_expr (pe_bm PySem.F.plainAttrs_list PySem.F.slot_list_insert PySem.F.type_list_insert mt_insert (pv 16) (pa_cons (pv 17) (pa_cons (c_fn O_law_odd hr (by decide) T.g_law_odd pass0 (pa_cons (pv 9) (pa_cons (pv 4) pa_nil))) pa_nil))))
  (pss_one (ps_set (i := 15) sc_law.nd rfl (Or.inl rfl) (pe_tup (pa_cons pe_str (pa_cons (pe_op op_add (pe_callB (id := "len") call_len_seq (by rfl) T.z_len (by decide +kernel) (pa_cons (pe_ix ix_list (pv 7) pe_int (fun _ _ => rfl)) pa_nil)) (pv 17)) (pa_cons pe_bl (pa_cons pe_bl pa_nil)))))))))
  pss_nil)
  (pss_cons (ps_set (i := 18) sc_law.nd rfl (Or.inl rfl) (pe_callTy call_list_of (by rfl) T.z_list (by decide +kernel) (pa_cons (pv 16) pa_nil)))
  (pss_cons (ps_set (i := 19) sc_law.nd rfl (Or.inl rfl) (c_fn O_law_tried hr (by decide) T.g_law_tried pass0 (pa_cons (pv 6) (pa_cons (pv 18) pa_nil))))
  (pss_cons (ps_if (PW.pt (pw_orB (pt_cmpR (op_ne0 hr.units) (pv 18) (pv 16) (nomark _)) (pw_or1 (pt_not (pt_val (c_fn O_law_stands hr (by decide) T.g_law_stands pass0 (pa_cons (pv 6) (pa_cons (pv 3) (pa_cons (pv 2) (pa_cons (pv 5) (pa_cons (pv 7) (pa_cons (pv 13) pa_nil)))))))))))) (pss_one (ps_ret pe_bl))
  pss_nil)
  (pss_one (ps_if (pt_cmpR op_eq (pe_ix ix_tup (pv 15) pe_int (fun _ _ => rfl)) pe_str (nomark _)) (pss_one (ps_if (pt_cmpR (op_ne0 hr.units) (pv 19) (pv 15) (nomark _)) (pss_one (ps_ret pe_bl))
  pss_nil))
  (pss_one (ps_if (pt_cmpR op_ne (pe_ix ix_tup (pv 19) pe_int (fun _ _ => rfl)) pe_str (nomark _)) (pss_one (ps_ret pe_bl))
  (pss_one (ps_if (pt_not (pt_val (c_fn O_law_record_fits hr (by decide) T.g_law_record_fits pass0 (pa_cons (pe_ix ix_tup (pv 19) pe_int (fun _ _ => rfl)) (pa_cons (c_fn O_law_due hr (by decide) T.g_law_due pass0 (pa_cons (pv 3) (pa_cons (pv 2) (pa_cons (pv 5) (pa_cons (pe_ix ix_list (pv 14) pe_int (fun _ _ => rfl)) pa_nil))))) pa_nil))))) (pss_one (ps_ret pe_bl))
  pss_nil))))))))))))))))))))
  (pss_one (ps_ret (c_fn O_law_record_fits hr (by decide) T.g_law_record_fits pass0 (pa_cons (c_me rfl (pv 6) T.c_Profile QM.m_trial O_Profile_trial hr (by decide) passL (pa_cons (pe_lst pa_nil) pa_nil)) (pa_cons (c_fn O_law_due hr (by decide) T.g_law_due pass0 (pa_cons (pv 3) (pa_cons (pv 2) (pa_cons (pv 5) (pa_cons (pe_ix ix_list (pv 7) pe_int (fun _ _ => rfl)) pa_nil))))) pa_nil)))))))))))))), ?_⟩
    refine ⟨_, rfl, a0, ns, 0, rfl, hS, by decide, fun n0 => ⟨(by show 1 ≤ sizeLine; decide), fun d nd => ?_⟩⟩
    have s1 := same_new (o := .lst [.int n0]) nd
    have hd1 : (upd H d (.lst [.int n0])) d = some (.lst [.int n0]) := upd_same
    generalize upd H d (.lst [.int n0]) = H1 at s1 hd1 ⊢
    refine ⟨_, rfl, d, n0, 5, rfl, hd1, by decide, by decide, fun H4 s m3 n i f x4 hd4 nS0 hs hn5 => ?_⟩
    have s4 : Same H H4 := same_x2 s1 x4 nd
    clear x4 hd1 nS0 s1 H1
    refine ⟨_, rfl, _, rfl, a0, ns, 1, rfl, s4.seq hS, by decide, fun n1 => ⟨(by show 1 ≤ sizeLine; decide), fun e nE => ?_⟩⟩
    have nde : d ≠ e := ne_of_none hd4 nE
    have s45 := same_new (o := .lst [.int n1]) nE
    have he5 : (upd H4 e (.lst [.int n1])) e = some (.lst [.int n1]) := upd_same
    have hd5 := s45 _ _ hd4
    have hs5 := hs.ext s45
    have s5 := s4.trans s45
    have nE0 : H e = none := none_of s4 nE
    generalize upd H4 e (.lst [.int n1]) = H5 at s45 he5 hd5 hs5 s5 ⊢
    clear s4 hd4 s45 nE hs H4
    refine ⟨d, e, m3, n1, 4, 3, rfl, hd5, he5, nde, by decide, by decide, by decide, by decide, fun H6 R ys x6 hx6 hR hok hnd hR0 => ?_⟩
    have hs6 : SpA H6 s n i f := ⟨x6 _ _ (ne_of hs5.hs hd5 (by intro z; cases z)) (ne_of hs5.hs he5 (by intro z; cases z)) hs5.hs, hs5.n1, hs5.n8, hs5.i0, hs5.i1, hs5.hf⟩
    have s6 : Same H H6 := fun b o h => x6 b o (ne_of_none h nd) (ne_of_none h nE0) (s5 _ _ h)
    obtain ⟨m6, hd6⟩ := hx6
    clear x6 hs5 s5 he5 hd5 nde nE0 hR0 hnd H5 e
    have hl1 := hok.l1
    have hl6 := hok.l6
    refine ⟨_, rfl, _, rfl, a0, ns, 2, rfl, s6.seq hS, by decide, fun n2 => ?_⟩
    refine .inl ⟨n2, rfl, _, rfl, R, _, rfl, .inl (SqL.of hR.hR), _, _, rfl, rfl, ?_, ?_⟩
    · rw [List.length_map]
      omega
    rw [List.length_map]
    have g0 := Int.emod_nonneg n2 (show (ys.length : Int) ≠ 0 by omega)
    have g1 := Int.emod_lt_of_pos n2 (show (0 : Int) < ys.length by omega)
    obtain ⟨j, hj⟩ : ∃ j : Nat, n2 % (ys.length : Int) = (j : Int) := ⟨(n2 % (ys.length : Int)).toNat, by omega⟩
    rw [hj] at g1
    obtain ⟨yb, hyb⟩ : ∃ yb, ys[j]? = some yb := ⟨_, List.getElem?_eq_getElem (by omega)⟩
    refine ⟨R, _, n2 % (ys.length : Int), .ref yb.1, rfl, rfl, SqL.of hR.hR, (by rw [hj]; exact atI_nat (by rw [List.getElem?_map, hyb]; rfl)), yb.1, _, 0, .str yb.2.2.z, rfl, rfl, SqL.of (hR.row yb (List.mem_of_getElem? hyb)).1, atI0, ?_⟩
    have mb : yb.2.2.z ∈ zsOf ys := List.mem_map_of_mem (List.mem_of_getElem? hyb)
    generalize yb.2.2.z = bg at mb ⊢
    clear hyb g0 g1 hj yb j n2
    obtain ⟨nn, rfl⟩ : ∃ m : Nat, n = (m : Int) := ⟨n.toNat, by have := hs6.n1; omega⟩
    obtain ⟨ii, rfl⟩ : ∃ m : Nat, i = (m : Int) := ⟨i.toNat, by have := hs6.i0; omega⟩
    have n1' := hs6.n1
    have n8' := hs6.n8
    have i1' := hs6.i1
    refine ⟨_, rfl, s, _, 2, f, rfl, rfl, SqL.of hs6.hs, atI_nat (j := 2) rfl, ?_⟩
    have nn1 : 1 ≤ nn := by omega
    have nn8 : nn ≤ 8 := by omega
    have ii1 : ii ≤ nn - 1 := by omega
    refine ⟨fun σ' H' => SameX d H6 H' ∧ (∃ m, H' d = some (.lst [.int m])) ∧ ∃ sh : Nat, PhSh f (.int (sh : Int)) (nn : Int) sh ∧ sh ≤ nn - 1 ∧ σ' = [some (.ref a0), some (.ref d), some (.ref s), some (.ref R), some (.str bg), some (.int (sh : Int)), none, none, none, none, none, none, none, none, none, none, none, none, none, none], ?_, ?_⟩
    · refine ⟨_, rfl, rfl, _, rfl, ite2 (fun e => ?_) fun e => ?_⟩
      · have e : f = .non := of_decide_eq_true e
        refine ⟨_, rfl, _, rfl, s, _, 0, .int (nn : Int), rfl, rfl, SqL.of hs6.hs, atI0, d, m6, (nn : Int), rfl, hd6, by omega, by omega, fun r m' g0 g1 => ?_⟩
        obtain ⟨rr, rfl⟩ : ∃ rr : Nat, r = (rr : Int) := ⟨r.toNat, by omega⟩
        exact ⟨SameX.upd, ⟨m', upd_same⟩, rr, .inl ⟨e, rfl, by omega⟩, by omega, rfl⟩
      · have e : ¬ f = .non := fun z => e (decide_eq_true z)
        rcases hs6.hf with hf | ⟨r, hf, g0, g1⟩
        · exact absurd hf e
        · obtain ⟨rr, rfl⟩ : ∃ rr : Nat, r = (rr : Int) := ⟨r.toNat, by omega⟩
          subst hf
          exact ⟨same_x (Same.refl _), ⟨m6, hd6⟩, rr, .inr ⟨rfl, .inr rfl⟩, by omega, rfl⟩
    rintro σ' H7 ⟨x7, ⟨m7, hd7⟩, sh, hph, hsh, rfl⟩
    have s7 := same_x2 s6 x7 nd
    replace hR := hR.kd hd6 x7
    replace hs6 := hs6.kd hd6 x7
    clear x7 hd6 s6 H6
    refine ⟨_, rfl, _, rfl, R, ys, bg, rfl, hR, hok, mb, fun H8 g xs dg tn dP dN s78 hg hB nP nN => ?_⟩
    replace hR := hR.ext s78
    replace hs6 := hs6.ext s78
    have s8 := s7.trans s78
    clear s78 s7 nP nN hd7 H7
    refine ⟨_, rfl, s, _, _, f, rfl, hs6, fun H9 p s89 hp => ?_⟩
    replace hR := hR.ext s89
    replace hs6 := hs6.ext s89
    replace hg := hg.ext s89
    have s9 := s8.trans s89
    clear s89 s8 H8
    refine ⟨_, rfl, rfl, rfl, fun q dx nq ndx ne => ⟨q, dx, g, p, .int (sh : Int), nn, ii, f, rfl, upd_same, hp.ext (same_make nq ndx), n1', n8', hs6.hf, .inl ⟨_, rfl⟩, .inl ⟨sh, hph, fun H10 M x10 nM hpf => ⟨rfl, ?_⟩⟩⟩⟩
    have s10 : Same H9 H10 := fun b o e => x10 b o (ne_of_none e nq) (same_make nq ndx _ _ e)
    have hI : Lv K H9 H10 q g p sh [] [] dx M .non xs ys bg dg tn dP dN nn ii f := ⟨nq, s10, hpf, hg, hp, hB, hok, mb, PW.nil .., nn1, nn8, ii1, hsh⟩
    clear x10 nM hpf ndx ne
    refine ⟨(by show 0 ≤ sizeLine; decide), fun W nW => ⟨(by show 0 ≤ sizeLine; decide), fun A nA => ⟨(by show 2 ≤ sizeLine; decide), fun Dn nD => ?_⟩⟩⟩
    have sw := same_new (o := .lst ([] : List V)) nW
    have sa := same_new (o := .lst ([] : List V)) nA
    have sd := same_new (o := .lst [V.ref W, .ref A]) nD
    have hW : TksA (upd (upd (upd H10 W (.lst [])) A (.lst [])) Dn (.lst [V.ref W, .ref A])) W [] := ⟨[], sd _ _ (sa _ _ upd_same), .nil⟩
    have hA : ChsA (upd (upd (upd H10 W (.lst [])) A (.lst [])) Dn (.lst [V.ref W, .ref A])) A [] := ⟨[], sd _ _ upd_same, .nil⟩
    have hDn : (upd (upd (upd H10 W (.lst [])) A (.lst [])) Dn (.lst [V.ref W, .ref A])) Dn = some (.lst [V.ref W, .ref A]) := upd_same
    replace hI := hI.ext (sw.trans (sa.trans sd))
    generalize upd (upd (upd H10 W (.lst [])) A (.lst [])) Dn (.lst [V.ref W, .ref A]) = H11 at hW hA hDn hI ⊢
    clear sw sa sd nW nA nD s10 H10
    refine ⟨2, rfl, by decide, by decide, for_range (lo := 0) (n := 2) (fun kk σ H' => ∃ (cs : List Ch) (ws : List Tk) (dx M : Addr) (sv : V) (W A Dn : Addr) (v8 v9 v10 v11 v12 v13 v14 v15 v16 v17 v18 v19 : Option V), Lv K H9 H' q g p sh cs ws dx M sv xs ys bg dg tn dP dN nn ii f ∧ ws.length ≤ 12 * kk ∧ H' Dn = some (.lst [V.ref W, .ref A]) ∧ TksA H' W ws ∧ ChsA H' A cs ∧ σ = [some (.ref a0), some (.ref d), some (.ref s), some (.ref R), some (.str bg), some (.int (sh : Int)), some (.ref q), some (.ref Dn), v8, v9, v10, v11, v12, v13, v14, v15, v16, v17, v18, v19]) ⟨[], [], dx, M, .non, W, A, Dn, _, _, _, _, _, _, _, _, _, _, _, _, hI, Nat.zero_le _, hDn, hW, hA, rfl⟩ ?_ ?_⟩
    rotate_left
    · clear hI hDn hW hA
      rintro σ H1 ⟨cs, ws, dx, M, sv, W, A, Dn, v8, v9, v10, v11, v12, v13, v14, v15, v16, v17, v18, v19, hI, hwl, hDn, hW, hA, rfl⟩
      have hwl : ws.length ≤ 24 := hwl
      have hS0 := s9.trans hI.s0
      refine ⟨_, rfl, q, dx, _, rfl, hI.hq.hq, pff_out, (by show 0 ≤ sizeLine; decide), fun E1 nE => ?_⟩
      have sE := same_new (o := .lst ([] : List V)) nE
      have hpl := hI.pw.len
      refine ⟨H9, q, g, p, sh, cs, ws.getLast?, .non, dx, M, sv, xs, bg, dg, tn, dP, dN, nn, ii, f, E1, [], [], [], rfl, (hI.ext sE).tr, upd_same, (by rw [List.length_nil]; omega), .nil, trivial, .inl ⟨rfl, by rw [List.append_nil]; exact hI.pw.rok hB hok mb nn1 ii1 hsh, fun H2 r dr ti no s12 hrec nti nno => ?_⟩⟩
      rw [List.append_nil] at hrec
      have hrY := hI.pw.recY hB hok mb nn1 ii1 hsh hrec
      have s02 := sE.trans s12
      have s92 := hI.s0.trans s02
      refine ⟨_, rfl, _, rfl, _, rfl, _, rfl, Dn, _, 0, .ref W, rfl, rfl, SqL.of (s02 _ _ hDn), atI0, R, s, W, ys, bg, nn, ii, f, sh, ws, rfl, hR.ext s92, hok, hs6.ext s92, hW.ext s02, by omega, fun hne => hI.pw.walk hok mb nn1 ii1 hsh hne, hsh, fun H3 D Td no' s23 nD nTd nno' hdue => ?_⟩
      exact ⟨r, D, ys, _, dr, ti, no, Td, no', rfl, hrY.ext s23, hok.nd, hl6, by rw [hI.pw.lenL hok mb nn1 ii1 hsh]; omega, ne_of_none hrY.ht nTd, hdue.hD, hdue.hT, hdue.hn, fun H6 s56 => k _⟩
    clear hI hDn hW hA
    rintro kk σ H1 hkk ⟨cs, ws, dx, M, sv, W, A, Dn, v8, v9, v10, v11, v12, v13, v14, v15, v16, v17, v18, v19, hI, hwl, hDn, hW, hA, rfl⟩
    have hpl := hI.pw.len
    have hwl9 : ws.length ≤ 24 := by omega
    refine ⟨_, rfl, _, rfl, _, _, rfl, rfl, a0, ns, 3 + kk, congrArg (fun z => [V.ref a0, V.int z]) (by omega), (s9.trans hI.s0).seq hS, by omega, fun c0 => ⟨(by show 1 ≤ sizeLine; decide), fun d2 nd2 => ?_⟩⟩
    have nd9 : H9 d2 = none := none_of hI.s0 nd2
    have s12 := same_new (o := .lst [V.int c0]) nd2
    have hd2 : (upd H1 d2 (.lst [V.int c0])) d2 = some (.lst [.int c0]) := upd_same
    replace hI := hI.ext s12
    replace hDn := s12 _ _ hDn
    replace hW := hW.ext s12
    replace hA := hA.ext s12
    generalize upd H1 d2 (.lst [V.int c0]) = H2 at hI hDn hW hA hd2 ⊢
    clear s12 nd2 H1
    refine ⟨_, rfl, _, _, rfl, rfl, .inl ⟨by decide, by decide⟩, _, _, rfl, rfl, ?_⟩
    refine ⟨_, rfl, _, rfl, _, rfl, _, rfl, _, rfl, Dn, _, 0, .ref W, rfl, rfl, SqL.of hDn, atI0, _, rfl, _, rfl, _, rfl, d2, c0, 12, rfl, hd2, by decide, by decide, fun r3 m3 g0 g1 => ?_⟩
    obtain ⟨mny, rfl⟩ : ∃ mny : Nat, r3 = (mny : Int) := ⟨r3.toNat, by omega⟩
    have x23 : SameX d2 H2 (upd H2 d2 (.lst [V.int m3])) := SameX.upd
    have hd3 : (upd H2 d2 (.lst [V.int m3])) d2 = some (.lst [.int m3]) := upd_same
    replace hI := hI.kd hd2 nd9 x23
    replace hDn := x23 _ _ (ne_of hDn hd2 (by intro z; cases z)) hDn
    replace hW := hW.kd hd2 x23
    replace hA := hA.kd hd2 x23
    generalize upd H2 d2 (.lst [V.int m3]) = H3 at hI hDn hW hA hd3 ⊢
    clear x23 hd2 H2
    refine ⟨R, s, W, a0, ys, bg, nn, ii, f, sh, cs, ws, ns, 5 + 28 * kk, mny, ?_, hR.ext hI.s0, hok, mb, hs6.ext hI.s0, hsh, hW, hI.pw, by omega, (s9.trans hI.s0).seq hS, by omega, fun H4 L4 W4 A4 ds us s34 nL4 nW4 nA4 hL4 hW4 hA4 hpw4 hdl4 => ?_⟩
    · exact congrArg (fun z => [V.ref R, V.ref s, V.str bg, V.int (sh : Int), V.ref W, V.ref a0, V.int z, V.int (mny : Int)]) (by omega)
    replace hI := hI.ext s34
    replace hDn := s34 _ _ hDn
    replace hW := hW.ext s34
    replace hA := hA.ext s34
    have hd4 := s34 _ _ hd3
    have hlw4 := hpw4.len
    rw [List.length_append, List.length_append] at hlw4
    obtain ⟨go4, gt4⟩ := pw_go hB hpw4 hpl (by rw [List.length_append]; omega)
    obtain ⟨rs4, hrs4, hps4⟩ := id hA4
    have hrl4 := paired_len hps4
    clear s34 nL4 nW4 nA4 hd3 H3
    -- the ticks are made
    refine ⟨_, rfl, L4, _, 1, .ref A4, rfl, rfl, SqL.of hL4, atI1, A4, rfl, ⟨_, SqL.of hrs4⟩, for_list (K := K) (a := A4) (xs := rs4.map V.ref) (fun j σ H' => j ≤ ds.length ∧ SameX q H4 H' ∧ (∃ dx M sv, PfA K H' q g p sh (cs ++ ds.take j) (goT xs bg (ii : Int) nn sh cs ws.getLast? (ds.take j)) .non dx M sv) ∧ ∃ v12 : Option V, σ = [some (.ref a0), some (.ref d), some (.ref s), some (.ref R), some (.str bg), some (.int (sh : Int)), some (.ref q), some (.ref Dn), some (.int (0 + (kk : Int))), some (.ref d2), some (.int (5 + 28 * (0 + (kk : Int)))), some (.ref L4), v12, v13, v14, v15, v16, v17, v18, v19]) ⟨Nat.zero_le _, same_x (Same.refl _), ⟨dx, M, sv, by rw [List.take_zero, List.append_nil]; exact hI.hq⟩, _, rfl⟩ (fun j σ H' _ h => SqL.of (h.2.1 _ _ (ne_of hrs4 hI.hq.hq (by intro z; cases z)) hrs4)) ?_ ?_⟩
    · rintro j x σ H5 hx ⟨hj, x5, ⟨dx5, M5, sv5, hq5⟩, w12, rfl⟩
      have hjr := (List.getElem?_eq_some_iff.mp hx).1
      rw [List.length_map, hrl4] at hjr
      have e1 : ds[j]? = some (ds[j]'hjr) := List.getElem?_eq_getElem _
      have e2 : rs4[j]? = some (rs4[j]'(by omega)) := List.getElem?_eq_getElem _
      generalize ds[j]'hjr = dj at e1
      generalize rs4[j]'(by omega) = rj at e2
      rw [List.getElem?_map, e2] at hx
      obtain rfl : V.ref rj = x := Option.some.inj hx
      obtain ⟨d', hd', hcr⟩ := paired_at hps4 e2
      rw [e1] at hd'
      cases hd'
      have hcr : H4 rj = some (.tup [mvV dj.1, .bl dj.2]) := hcr
      have hcr5 : ChA H5 rj dj := x5 _ _ (ne_of hcr hI.hq.hq (by intro z; cases z)) hcr
      have sg5 := same_qx hI.s0 hI.nq x5
      have hlen : (cs ++ ds.take j).length = cs.length + j := by rw [List.length_append, List.length_take]; omega
      have hzj : ∀ k, goT xs bg (ii : Int) nn sh cs ws.getLast? (ds.take j) = some k → k.z ∈ zsOf xs := by
        have key : ∀ j, j ≤ ds.length → ∀ k, goT xs bg (ii : Int) nn sh cs ws.getLast? (ds.take j) = some k → k.z ∈ zsOf xs := by
          intro j
          induction j with
          | zero => intro _; exact hI.lz
          | succ j ih =>
            intro hj k hk
            have e1 : ds[j]? = some (ds[j]'(by omega)) := List.getElem?_eq_getElem _
            rw [List.take_add_one, e1] at hk
            have hk : goT xs bg (ii : Int) nn sh cs ws.getLast? (ds.take j ++ [ds[j]'(by omega)]) = some k := hk
            rw [goT_snoc] at hk
            cases hk
            exact nx1_z (by rw [hB.zs]; exact mb) (ih (by omega)) (goOk_take go4 e1)
        exact key j hj
      refine ⟨_, rfl, q, rfl, _, rfl, .inr ⟨_, _, hq5.hq⟩, q, g, p, sh, cs ++ ds.take j, _, .non, dx5, M5, sv5, xs, bg, dg, tn, dP, dN, nn, (ii : Int), f, .ref rj, rfl, hq5, hg.ext sg5, hp.ext sg5, nn1, nn8, hzj, by rw [hB.zs]; exact mb, by omega, .inl ⟨rj, dj, rfl, hcr5, goOk_take go4 e1, fun H6 M6 sv6 x6 nM6 hq6 => ⟨by omega, x5.trans x6, ⟨dx5, M6, sv6, ?_⟩, _, rfl⟩⟩⟩
      have e3 : ds.take (j + 1) = ds.take j ++ [dj] := by
        rw [List.take_add_one, e1]
        rfl
      rw [e3, goT_snoc, ← List.append_assoc]
      exact hq6
    rintro σ H5 ⟨_, x5, ⟨dx5, M5, sv5, hq5⟩, w12, rfl⟩
    rw [List.length_map, hrl4, List.take_length, gt4] at hq5
    have nq4 : ∀ {b : Addr} {us : List V}, H4 b = some (.lst us) → b ≠ q := fun e => ne_of e hI.hq.hq (by intro z; cases z)
    have tq4 : ∀ {b : Addr} {us : List V}, H4 b = some (.tup us) → b ≠ q := fun e => ne_of e hI.hq.hq (by intro z; cases z)
    have hI5 : Lv K H9 H5 q g p sh (cs ++ ds) (ws ++ us) dx5 M5 sv5 xs ys bg dg tn dP dN nn ii f := ⟨hI.nq, same_qx hI.s0 hI.nq x5, hq5, hI.hg, hI.hp, hB, hok, mb, hpw4, nn1, nn8, ii1, hsh⟩
    have hDn5 := x5 _ _ (nq4 hDn) hDn
    have hd5 := x5 _ _ (nq4 hd4) hd4
    have hL5 := x5 _ _ (nq4 hL4) hL4
    have hW5 : TksA H5 W4 (ws ++ us) := by
      obtain ⟨rs, h1, h2⟩ := hW4
      exact ⟨rs, x5 _ _ (nq4 h1) h1, paired_imp (fun r k ⟨t, e1, e2⟩ => ⟨t, x5 _ _ (tq4 e1) e1, x5 _ _ (tq4 e2) e2⟩) h2⟩
    have hA5 := hA.keep hI.hq.hq x5
    have hC5 := hA4.keep hI.hq.hq x5
    clear hI hDn hd4 hL4 hW4 hW hA hA4 hq5 x5 nq4 tq4 hrs4 hps4 H4
    -- what has been done
    obtain ⟨rsA, eA, pA⟩ := id hA5
    obtain ⟨rsC, eC, pC⟩ := id hC5
    have lA := paired_len pA
    have lC := paired_len pC
    refine ⟨_, rfl, L4, _, 0, .ref W4, rfl, rfl, SqL.of hL5, atI0, _, rfl, Dn, _, 1, .ref A, rfl, rfl, SqL.of hDn5, atI1, _, rfl, L4, _, 1, .ref A4, rfl, rfl, SqL.of hL5, atI1, A, A4, _, _, rfl, rfl, eA, eC, ?_, fun A5 nA5 => ⟨(by show 2 ≤ sizeLine; decide), fun Dn2 nDn2 => ?_⟩⟩
    · rw [List.length_map, List.length_map]
      exact Nat.le_trans (show rsA.length + rsC.length ≤ 100 by omega) (by decide)
    have s5a := same_new (o := .lst (rsA.map V.ref ++ rsC.map V.ref)) nA5
    have s5b := same_new (o := .lst [V.ref W4, .ref A5]) nDn2
    have hA6 : ChsA (upd (upd H5 A5 (.lst (rsA.map V.ref ++ rsC.map V.ref))) Dn2 (.lst [V.ref W4, .ref A5])) A5 (cs ++ ds) := ⟨rsA ++ rsC, by rw [List.map_append]; exact s5b _ _ upd_same, paired_imp (fun _ _ e => ChA.ext e (s5a.trans s5b)) (paired_app pA pC)⟩
    have hD6 : (upd (upd H5 A5 (.lst (rsA.map V.ref ++ rsC.map V.ref))) Dn2 (.lst [V.ref W4, .ref A5])) Dn2 = some (.lst [V.ref W4, .ref A5]) := upd_same
    have s56 := s5a.trans s5b
    generalize upd (upd H5 A5 (.lst (rsA.map V.ref ++ rsC.map V.ref))) Dn2 (.lst [V.ref W4, .ref A5]) = H6 at hA6 hD6 s56 ⊢
    replace hI5 := hI5.ext s56
    replace hW5 := hW5.ext s56
    have hd6 := s56 _ _ hd5
    have hpl2 : (cs ++ ds).length = (ws ++ us).length := by rw [List.length_append, List.length_append]; omega
    have hws2 : (ws ++ us).length ≤ 12 * (kk + 1) := by rw [List.length_append]; omega
    clear s56 s5a s5b nA5 nDn2 pA pC eA eC lA lC hA5 hC5 hDn5 hL5 hd5 H5 gt4 go4 hlw4 hrl4
    generalize cs ++ ds = cs at hI5 hA6 hpl2 hpw4
    generalize ws ++ us = ws at hI5 hW5 hpl2 hws2 hpw4
    refine ⟨_, rfl, q, dx5, _, rfl, hI5.hq.hq, pff_out, q, g, p, sh, cs, _, .non, dx5, M5, sv5, xs, bg, dg, tn, dP, dN, nn, (ii : Int), f, rfl, hI5.hq, hg.ext hI5.s0, hp.ext hI5.s0, nn1, nn8, hI5.lz, fun H7 C s67 nC hC => ?_⟩
    have hM : Md K H9 H7 q g p sh cs ws dx5 M5 sv5 xs ys bg dg tn dP dN nn ii f Dn2 W4 A5 C := ⟨hI5.ext s67, s67 _ _ hD6, hW5.ext s67, hA6.ext s67, hC⟩
    have hd7 := s67 _ _ hd6
    clear hI5 hW5 hA6 hD6 hd6 s67 nC hC H6
    -- more
    refine ⟨_, rfl, _, rfl, _, rfl, _, rfl, _, rfl, Dn2, _, 0, .ref W4, rfl, rfl, SqL.of hM.hD, atI0, _, rfl, _, rfl, _, _, rfl, rfl, _, rfl, d2, m3, 16, rfl, hd7, by decide, by decide, fun r4 m4 g2 g3 => ?_⟩
    obtain ⟨mny2, rfl⟩ : ∃ mny : Nat, r4 = (mny : Int) := ⟨r4.toNat, by omega⟩
    have x78 : SameX d2 H7 (upd H7 d2 (.lst [V.int m4])) := SameX.upd
    have hd8 : (upd H7 d2 (.lst [V.int m4])) d2 = some (.lst [.int m4]) := upd_same
    replace hM := hM.kd hd7 nd9 x78
    generalize upd H7 d2 (.lst [V.int m4]) = H8 at hM hd8 ⊢
    clear x78 hd7 H7
    refine ⟨R, s, W4, a0, ys, bg, nn, ii, f, sh, cs, ws, ns, 5 + 28 * kk + 12, mny2, ?_, hR.ext hM.L.s0, hok, mb, hs6.ext hM.L.s0, hsh, hM.hW, hM.L.pw, by omega, (s9.trans hM.L.s0).seq hS, by omega, fun HA L6 W6 A6 ds6 us6 s8A nL6 nW6 nA6 hL6 hW6 hA6 hpw6 hdl6 => ?_⟩
    · exact congrArg (fun z => [V.ref R, V.ref s, V.str bg, V.int (sh : Int), V.ref W4, V.ref a0, V.int z, V.int (mny2 : Int)]) (by omega)
    replace hM := hM.ext s8A
    have hdA := s8A _ _ hd8
    obtain ⟨go6, gt6⟩ := pw_go hB hpw6 hpl2 (by rw [List.length_append]; omega)
    have hl6w := hpw6.len
    rw [List.length_append, List.length_append] at hl6w
    clear s8A nL6 nW6 nA6 hd8 H8
    refine ⟨(by show 1 ≤ sizeLine; decide), fun T1 nT1 => ?_⟩
    have sT := same_new (o := .tup [V.str "told"]) nT1
    have hT1 : (upd HA T1 (.tup [V.str "told"])) T1 = some (.tup [V.str "told"]) := upd_same
    replace hM := hM.ext sT
    replace hL6 := sT _ _ hL6
    replace hW6 := hW6.ext sT
    replace hA6 := hA6.ext sT
    replace hdA := sT _ _ hdA
    generalize upd HA T1 (.tup [V.str "told"]) = HB at hM hL6 hW6 hA6 hdA hT1 ⊢
    clear sT nT1 HA
    obtain ⟨rs6, e6, p6⟩ := id hA6
    have l6 := paired_len p6
    refine ⟨_, rfl, L6, _, 1, .ref A6, rfl, rfl, SqL.of hL6, atI1, A6, _, rfl, .inl (SqL.of e6), fun Pt nPt => ?_⟩
    have sP := same_new (o := .lst (rs6.map V.ref)) nPt
    have hM0 := hM
    have hL0 := hL6
    have hW0 := hW6
    have hT0 := hT1
    have hPt : (upd HB Pt (.lst (rs6.map V.ref))) Pt = some (.lst (rs6.map V.ref)) := upd_same
    replace hM := hM.ext sP
    replace hL6 := sP _ _ hL6
    replace hW6 := hW6.ext sP
    replace p6 := paired_imp (fun _ _ e => ChA.ext e sP) p6
    replace hdA := sP _ _ hdA
    replace hT1 := sP _ _ hT1
    generalize upd HB Pt (.lst (rs6.map V.ref)) = HC at hM hL6 hW6 hdA hT1 hPt p6 ⊢
    have neM := hM0.ne nPt
    have neL : L6 ≠ Pt := ne_of_none hL0 nPt
    have neW : W6 ≠ Pt := by
      obtain ⟨_, e, _⟩ := hW0
      exact ne_of_none e nPt
    have neT : T1 ≠ Pt := ne_of_none hT0 nPt
    have nP9 : H9 Pt = none := none_of hM0.L.s0 nPt
    clear sP nPt e6 hA6 hM0 hL0 hW0 hT0 HB
    refine ⟨fun σ' H' => ∃ (rsP : List Addr) (usP : List V) (dsP : List Ch) (T2 : Addr) (v17 v18 v19 : Option V), Md K H9 H' q g p sh cs ws dx5 M5 sv5 xs ys bg dg tn dP dN nn ii f Dn2 W4 A5 C ∧ H' L6 = some (.lst [V.ref W6, .ref A6]) ∧ TksA H' W6 (ws ++ us6) ∧ H' Pt = some (.lst (rsP.map V.ref ++ usP)) ∧ Paired (ChA H') rsP dsP ∧ GoOk xs bg (ii : Int) nn sh cs ws.getLast? dsP ∧ dsP.length ≤ 16 ∧ usP.length ≤ 17 ∧
      ((usP = [] ∧ dsP = ds6 ∧ H' T2 = some (.tup [V.str "told"])) ∨ (∃ u us', usP = u :: us' ∧ OdX bg H' u ∧ (∀ x ∈ us', ∃ r, x = V.ref r) ∧ H' T2 = some (.tup [V.str "refused", .int ((cs ++ dsP).length : Int), .bl true, .bl false]))) ∧
      σ' = [some (.ref a0), some (.ref d), some (.ref s), some (.ref R), some (.str bg), some (.int (sh : Int)), some (.ref q), some (.ref Dn2), some (.int (0 + (kk : Int))), some (.ref d2), some (.int (5 + 28 * (0 + (kk : Int)))), some (.ref L4), w12, some (.ref C), some (.ref L6), some (.ref T2), some (.ref Pt), v17, v18, v19], ?_, ?_⟩
    · refine ⟨_, rfl, d2, m4, 2, rfl, hdA, by decide, by decide, fun r5 m5 g4 g5 => ?_⟩
      have xd : SameX d2 HC (upd HC d2 (.lst [V.int m5])) := SameX.upd
      have hdB : (upd HC d2 (.lst [V.int m5])) d2 = some (.lst [.int m5]) := upd_same
      replace hM := hM.kd hdA nd9 xd
      replace hL6 := xd _ _ (ne_of hL6 hdA (by intro z; cases z)) hL6
      replace hW6 := hW6.kd hdA xd
      replace hT1 := xd _ _ (ne_of hT1 hdA (by intro z; cases z)) hT1
      replace hPt := xd _ _ (ne_of hPt hdA refs_int) hPt
      replace p6 := chs_xl p6 hdA xd
      generalize upd HC d2 (.lst [V.int m5]) = HD at hM hL6 hW6 hT1 hPt p6 hdB ⊢
      clear xd hdA HC
      refine ⟨rfl, _, rfl, ite2 (fun _ => ?_) fun _ => ?_⟩
      rotate_left
      · exact ⟨rs6, [], ds6, T1, _, _, _, hM, hL6, hW6, by rw [List.append_nil]; exact hPt, p6, go6, by omega, Nat.zero_le _, .inl ⟨rfl, rfl, hT1⟩, rfl⟩
      refine ⟨_, rfl, _, rfl, Pt, _, rfl, .inl (SqL.of hPt), _, _, rfl, rfl, d2, m5, _, rfl, hdB, ?_, ?_, fun r6 m6 g6 g7 => ?_⟩
      · rw [List.length_map]
        omega
      · rw [List.length_map]
        omega
      rw [List.length_map] at g7
      obtain ⟨j, rfl⟩ : ∃ j : Nat, r6 = (j : Int) := ⟨r6.toNat, by omega⟩
      have xd : SameX d2 HD (upd HD d2 (.lst [V.int m6])) := SameX.upd
      have hdC : (upd HD d2 (.lst [V.int m6])) d2 = some (.lst [.int m6]) := upd_same
      replace hM := hM.kd hdB nd9 xd
      replace hL6 := xd _ _ (ne_of hL6 hdB (by intro z; cases z)) hL6
      replace hW6 := hW6.kd hdB xd
      replace hPt := xd _ _ (ne_of hPt hdB refs_int) hPt
      replace p6 := chs_xl p6 hdB xd
      generalize upd HD d2 (.lst [V.int m6]) = HE at hM hL6 hW6 hPt p6 hdC ⊢
      clear xd hdB hT1 HD
      refine ⟨_, rfl, .inl ⟨rfl, _, SqL.of hPt⟩, _, rfl, _, rfl, _, rfl, d2, m6, bg, rfl, hdC, fun HF x m7 xd hdD hodd => ?_⟩
      replace hM := hM.kd hdC nd9 xd
      replace hL6 := xd _ _ (ne_of hL6 hdC (by intro z; cases z)) hL6
      replace hW6 := hW6.kd hdC xd
      replace hPt := xd _ _ (ne_of hPt hdC refs_int) hPt
      replace p6 := chs_xl p6 hdC xd
      clear xd hdC HE
      refine ⟨Pt, _, _, x, rfl, rfl, hPt, ?_, Int.natCast_nonneg _, by omega, ?_⟩
      · rw [List.length_map]
        exact Nat.lt_of_le_of_lt (show rs6.length ≤ 16 by omega) (by decide)
      have elst : (rs6.map V.ref).take (j : Int).toNat ++ [x] ++ (rs6.map V.ref).drop (j : Int).toNat = (rs6.take j).map V.ref ++ (x :: (rs6.drop j).map V.ref) := by
        rw [Int.toNat_natCast, List.map_take, List.map_drop, List.append_assoc]
        rfl
      rw [elst]
      have xP : SameX Pt HF (upd HF Pt (.lst ((rs6.take j).map V.ref ++ (x :: (rs6.drop j).map V.ref)))) := SameX.upd
      have hPt2 : (upd HF Pt (.lst ((rs6.take j).map V.ref ++ (x :: (rs6.drop j).map V.ref)))) Pt = some (.lst ((rs6.take j).map V.ref ++ (x :: (rs6.drop j).map V.ref))) := upd_same
      replace hM := hM.xl hPt nP9 neM xP
      replace hL6 := xP _ _ neL hL6
      replace hW6 := hW6.xl neW hPt xP
      replace p6 := chs_xl p6 hPt xP
      replace hodd := hodd.x hPt ⟨fun ts z => (by cases z), fun z => (by
        have z := HO.lst.inj z
        cases rs6 with
        | nil => cases z
        | cons a l => cases z)⟩ xP
      generalize upd HF Pt (.lst ((rs6.take j).map V.ref ++ (x :: (rs6.drop j).map V.ref))) = HG at hM hL6 hW6 p6 hodd hPt2 ⊢
      clear xP hPt hdD HF
      obtain ⟨rsW, eW, pW⟩ := id hM.hW
      have lW := paired_len pW
      refine ⟨_, rfl, Dn2, _, 0, .ref W4, rfl, rfl, SqL.of hM.hD, atI0, W4, _, rfl, .inl (SqL.of eW), _, rfl, _, _, rfl, rfl, (by show 4 ≤ sizeLine; decide), fun T2 nT2 => ?_⟩
      have sT := same_new (o := .tup [V.str "refused", .int (((rsW.map V.ref).length : Int) + (j : Int)), .bl true, .bl false]) nT2
      refine ⟨rs6.take j, x :: (rs6.drop j).map V.ref, ds6.take j, T2, _, _, _, hM.ext sT, sT _ _ hL6, hW6.ext sT, sT _ _ hPt2, paired_imp (fun _ _ e => ChA.ext e sT) (paired_takeN j p6), goOk_pre go6, ?_, ?_, .inr ⟨x, _, rfl, hodd.ext sT, ?_, ?_⟩, rfl⟩
      · rw [List.length_take]
        omega
      · rw [List.length_cons, List.length_map, List.length_drop]
        omega
      · intro y hy
        obtain ⟨r, _, rfl⟩ := List.mem_map.mp hy
        exact ⟨r, rfl⟩
      · rw [upd_same, List.length_map, List.length_append, List.length_take, lW]
        exact congrArg (fun z => some (HO.tup [V.str "refused", V.int z, V.bl true, V.bl false])) (by omega)
    clear hM hL6 hW6 hT1 hPt p6 hdA neM neL neW neT
    rintro σ' HC' ⟨rsP, usP, dsP, T2, v17, v18, v19, hM, hL6, hW6, hPt, pP, goP, lP, luP, hcase, rfl⟩
    refine ⟨_, rfl, Pt, _, rfl, .inl (SqL.of hPt), fun Ps nPs => ?_⟩
    have sP := same_new (o := .lst (rsP.map V.ref ++ usP)) nPs
    have hPs : (upd HC' Ps (.lst (rsP.map V.ref ++ usP))) Ps = some (.lst (rsP.map V.ref ++ usP)) := upd_same
    replace hM := hM.ext sP
    replace hL6 := sP _ _ hL6
    replace hW6 := hW6.ext sP
    replace hPt := sP _ _ hPt
    replace pP := paired_imp (fun _ _ e => ChA.ext e sP) pP
    replace hcase : (usP = [] ∧ dsP = ds6 ∧ (upd HC' Ps (.lst (rsP.map V.ref ++ usP))) T2 = some (.tup [V.str "told"])) ∨ (∃ u us', usP = u :: us' ∧ OdX bg (upd HC' Ps (.lst (rsP.map V.ref ++ usP))) u ∧ (∀ x ∈ us', ∃ r, x = V.ref r) ∧ (upd HC' Ps (.lst (rsP.map V.ref ++ usP))) T2 = some (.tup [V.str "refused", .int ((cs ++ dsP).length : Int), .bl true, .bl false])) := by
      rcases hcase with ⟨e1, e2, e3⟩ | ⟨u, us', e1, e2, e3, e4⟩
      · exact .inl ⟨e1, e2, sP _ _ e3⟩
      · exact .inr ⟨u, us', e1, e2.ext sP, e3, sP _ _ e4⟩
    generalize upd HC' Ps (.lst (rsP.map V.ref ++ usP)) = HX at hM hL6 hW6 hPt hPs pP hcase ⊢
    clear sP nPs HC'
    have hself : ∀ x ∈ rsP.map V.ref ++ usP, ∀ HW : Hp, EqI K HW x x true := fun x hx HW => by
      rcases List.mem_append.mp hx with hx | hx
      · obtain ⟨r, _, rfl⟩ := List.mem_map.mp hx
        exact .same r
      · rcases hcase with ⟨rfl, _⟩ | ⟨u, us', rfl, e2, e3, _⟩
        · cases hx
        · rcases List.mem_cons.mp hx with rfl | hx
          · rcases e2 with rfl | ⟨r, rfl, _⟩
            · exact .flat (x := .non) (y := .non) rfl rfl
            · exact .same r
          · obtain ⟨r, rfl⟩ := e3 x hx
            exact .same r
    refine ⟨_, rfl, _, rfl, H9, q, g, p, sh, cs, ws.getLast?, .non, dx5, M5, sv5, xs, bg, dg, tn, dP, dN, nn, (ii : Int), f, Ps, rsP, dsP, usP, rfl, hM.L.tr, hPs, by omega, pP, goP, ?_⟩
    rcases hcase with ⟨rfl, rfl, hT2⟩ | ⟨u, us', rfl, hodd, hrefs, hT2⟩
    · refine .inl ⟨rfl, hpw6.rok hB hok mb nn1 ii1 hsh, fun HG O r dr ti no sG hO hrec nti nno => ?_⟩
      refine ⟨_, rfl, _, rfl, Ps, Pt, _, _, rfl, rfl, .inr ⟨SqL.of (sG _ _ hPs), SqL.of (sG _ _ hPt)⟩, paired_self (fun x hx => hself x hx _), false, rfl, false, Same HG, fun _ => ?_, (fun z => nomatch z), fun HH sH => iteF ?_⟩
      · have hMG := hM.ext sG
        exact ⟨_, rfl, _, rfl, _, rfl, _, rfl, _, rfl, _, rfl, H9, q, g, p, sh, cs, ws, dx5, M5, sv5, xs, ys, bg, dg, tn, dP, dN, nn, ii, f, R, s, Dn2, C, W4, A5, rfl, hMG.L, by omega, hR.ext hMG.L.s0, hs6.ext hMG.L.s0, hMG.hD, hMG.hW, hMG.hA, hMG.hC, fun HS sS => ⟨true, rfl, rfl, sS⟩⟩
      have sg := sG.trans sH
      have fin : ∀ {HZ : Hp}, Same HH HZ → Md K H9 HZ q g p sh cs ws dx5 M5 sv5 xs ys bg dg tn dP dN nn ii f Dn2 W4 A5 C := fun z => (hM.ext sg).ext z
      have hrY := hpw6.recY hB hok mb nn1 ii1 hsh hrec
      refine ⟨_, rfl, T2, _, 0, .str "told", rfl, rfl, SqT.of (sg _ _ hT2), atI0, rfl, false, congrArg V.bl (decide_eq_false fun e => absurd (V.str.inj e) (by decide +kernel)), iteF ?_⟩
      refine ⟨_, rfl, O, _, 0, .str "told", rfl, rfl, SqT.of (sH _ _ hO), atI0, rfl, false, (by rw [decide_eq_true rfl]; rfl), iteF ?_⟩
      have s9H := hM.L.s0.trans sg
      refine ⟨_, rfl, O, _, 1, .ref r, rfl, rfl, SqT.of (sH _ _ hO), atI1, _, rfl, _, rfl, _, rfl, _, rfl, L6, _, 0, .ref W6, rfl, rfl, SqL.of (sg _ _ hL6), atI0, R, s, W6, ys, bg, nn, ii, f, sh, ws ++ us6, rfl, hR.ext s9H, hok, hs6.ext s9H, hW6.ext sg, by rw [List.length_append]; omega, fun hne => hpw6.walk hok mb nn1 ii1 hsh hne, hsh, fun H3 D Td no' s23 nD nTd nno' hdue => ?_⟩
      refine ⟨r, D, ys, _, dr, ti, no, Td, no', rfl, (hrY.ext sH).ext s23, hok.nd, hl6, by rw [hpw6.lenL hok mb nn1 ii1 hsh, List.length_append]; omega, ne_of_none (hrY.ext sH).ht nTd, hdue.hD, hdue.hT, hdue.hn, fun H6 s56 => ⟨true, rfl, iteF ?_⟩⟩
      have hZ := fin (s23.trans s56)
      exact ⟨cs, ws, dx5, M5, sv5, W4, A5, Dn2, _, _, _, _, _, _, _, _, _, _, _, _, hZ.L, hws2, hZ.hD, hZ.hW, hZ.hA, rfl⟩
    · refine .inr ⟨u, us', rfl, fun H1 x1 => ?_, fun HG O sG hO => ?_⟩
      · refine (hodd.x hM.L.hq.hq ⟨fun ts z => (by cases z), fun z => (by cases z)⟩ x1).not fun c hc z e => ?_
        have := (mv_z (by rw [hB.zs]; exact mb) (chL_mem (chA_mem hc).2).1).1 z e
        exact hg.nm z this
      refine ⟨_, rfl, _, rfl, Ps, Pt, _, _, rfl, rfl, .inr ⟨SqL.of (sG _ _ hPs), SqL.of (sG _ _ hPt)⟩, paired_self (fun x hx => hself x hx _), false, rfl, false, Same HG, fun _ => ?_, (fun z => nomatch z), fun HH sH => iteF ?_⟩
      · have hMG := hM.ext sG
        exact ⟨_, rfl, _, rfl, _, rfl, _, rfl, _, rfl, _, rfl, H9, q, g, p, sh, cs, ws, dx5, M5, sv5, xs, ys, bg, dg, tn, dP, dN, nn, ii, f, R, s, Dn2, C, W4, A5, rfl, hMG.L, by omega, hR.ext hMG.L.s0, hs6.ext hMG.L.s0, hMG.hD, hMG.hW, hMG.hA, hMG.hC, fun HS sS => ⟨true, rfl, rfl, sS⟩⟩
      have sg := sG.trans sH
      have fin : ∀ {HZ : Hp}, Same HH HZ → Md K H9 HZ q g p sh cs ws dx5 M5 sv5 xs ys bg dg tn dP dN nn ii f Dn2 W4 A5 C := fun z => (hM.ext sg).ext z
      refine ⟨_, rfl, T2, _, 0, .str "refused", rfl, rfl, SqT.of (sg _ _ hT2), atI0, rfl, true, congrArg V.bl (decide_eq_true rfl), iteT ?_⟩
      refine ⟨_, rfl, _, rfl, O, T2, _, _, rfl, rfl, .inl ⟨SqT.of (sH _ _ hO), SqT.of (sg _ _ hT2)⟩, paired_self (fun x hx => ?_), false, rfl, iteF ?_⟩
      · rcases List.mem_cons.mp hx with rfl | hx
        · have := EqI.flat (K := K) (H := HH) (x := V.str "refused") (y := V.str "refused") rfl rfl
          rwa [show eqV (V.str "refused") (V.str "refused") = true by decide +kernel] at this
        rcases List.mem_cons.mp hx with rfl | hx
        · have := EqI.flat (K := K) (H := HH) (x := V.int ((cs ++ dsP).length : Int)) (y := V.int ((cs ++ dsP).length : Int)) rfl rfl
          rwa [show eqV (V.int ((cs ++ dsP).length : Int)) (V.int ((cs ++ dsP).length : Int)) = true by simp [eqV]] at this
        rcases List.mem_cons.mp hx with rfl | hx
        · exact EqI.flat (K := K) (H := HH) (x := V.bl true) (y := V.bl true) rfl rfl
        · rw [List.mem_singleton.mp hx]
          exact EqI.flat (K := K) (H := HH) (x := V.bl false) (y := V.bl false) rfl rfl
      have hZ := fin (Same.refl _)
      exact ⟨cs, ws, dx5, M5, sv5, W4, A5, Dn2, _, _, _, _, _, _, _, _, _, _, _, _, hZ.L, hws2, hZ.hD, hZ.hW, hZ.hA, rfl⟩
end
end K32

set_option Elab.async false
set_option linter.all false
set_option pp.deepTerms.threshold 14
set_option pp.maxSteps 2500
set_option maxRecDepth 100000
set_option maxHeartbeats 2000000
namespace K32
open PySem PySem.Spec PyProof.Rows L2 Vf
section
variable {P : Program} {w : World} {K : PySem.W.Frag} {mg : Str → Option Value} {base : Heap}
theorem sc_Program_eq : FnScope ["self", "other"] ["self", "other"] (defScope s_Program_eq) := ⟨rfl, rfl, rfl, by decide +kernel, rfl, by decide +kernel, by decide +kernel⟩
-- slots: 0 self, 1 other
theorem sc_BadPhase_init : FnScope ["self", "phase"] ["self", "phase"] (defScope s_BadPhase_init) := ⟨rfl, rfl, rfl, by decide +kernel, rfl, by decide +kernel, by decide +kernel⟩
-- slots: 0 self, 1 phase
theorem ok_BadPhase_init {fd : FuncData} (F : FnD K ("BadPhase", some "__init__") "__init__" "BadPhase.__init__" s_BadPhase_init fd) : OkD P w K mg base CX0 1 ("BadPhase", some "__init__") ["self", "phase"] [] (spExI K (He.ga K "BadPhase") "phase") := by
  refine okd F (F.ok sc_BadPhase_init (fun vs H Q E h => ?_) fun cdv A outer s H vs Q E hr h => ⟨tOst K "phase" (tVar 0) (tVar 1), PSs.nox ?_, run_exI h⟩) fun _ _ _ _ _ _ us hl => match us, hl with | [_, _], _ => rfl
  · obtain ⟨a, v, rfl, _⟩ := h
    rfl
  · exact pss_one (ps_ost (pv 0) (pv 1))
end
end K32

set_option Elab.async false
set_option linter.all false
set_option maxRecDepth 100000
set_option maxHeartbeats 4000000
namespace K32
open PySem PySem.Spec PyProof.Rows L2 Vf
section
variable {K : PySem.W.Frag} {h : Heap} {mg : Str → Option Value}
theorem mk_GMeth (X : K.In h) (G : h.Ns mainGlobals mg) (c : ex K = true) : GMeth K := by
  obtain ⟨a, c⟩ := He.ba c
  have fact : ∀ (i : Nat) {f : He.Fa}, fa[i]? = some f → f.ok K = true := fun i f e => List.all_eq_true.mp a f (List.mem_of_getElem? e)
  obtain ⟨c0, c⟩ := He.ba c
  obtain ⟨c1, c⟩ := He.ba c
  obtain ⟨c2, c⟩ := He.ba c
  obtain ⟨c3, c⟩ := He.ba c
  obtain ⟨c4, c⟩ := He.ba c
  obtain ⟨c5, c⟩ := He.ba c
  obtain ⟨c6, c⟩ := He.ba c
  obtain ⟨c7, c⟩ := He.ba c
  obtain ⟨c8, c⟩ := He.ba c
  obtain ⟨c9, c⟩ := He.ba c
  obtain ⟨c10, c⟩ := He.ba c
  obtain ⟨c11, c⟩ := He.ba c
  obtain ⟨c12, c⟩ := He.ba c
  obtain ⟨c13, c⟩ := He.ba c
  obtain ⟨c14, c⟩ := He.ba c
  obtain ⟨c15, c⟩ := He.ba c
  obtain ⟨c16, c⟩ := He.ba c
  obtain ⟨c17, c⟩ := He.ba c
  obtain ⟨c18, c⟩ := He.ba c
  obtain ⟨c19, c⟩ := He.ba c
  obtain ⟨c20, c⟩ := He.ba c
  obtain ⟨c21, c⟩ := He.ba c
  exact
  { p_eq := meth_of (fact 0 (f := .meth "Place" "__eq__") rfl)
    p_ne := He.eqO_ok c0
    m_eq := meth_of (fact 1 (f := .meth "Program" "__eq__") rfl)
    m_ne := He.eqO_ok c1
    m_contains := meth_of (fact 2 (f := .meth "Program" "__contains__") rfl)
    m_getitem := meth_of (fact 3 (f := .meth "Program" "__getitem__") rfl)
    f_getitem := c2 }
theorem mk_VTxt (X : K.In h) (G : h.Ns mainGlobals mg) (c : ex K = true) : VTxt K mg := by
  obtain ⟨a, c⟩ := He.ba c
  have fact : ∀ (i : Nat) {f : He.Fa}, fa[i]? = some f → f.ok K = true := fun i f e => List.all_eq_true.mp a f (List.mem_of_getElem? e)
  obtain ⟨c0, c⟩ := He.ba c
  obtain ⟨c1, c⟩ := He.ba c
  obtain ⟨c2, c⟩ := He.ba c
  obtain ⟨c3, c⟩ := He.ba c
  obtain ⟨c4, c⟩ := He.ba c
  obtain ⟨c5, c⟩ := He.ba c
  obtain ⟨c6, c⟩ := He.ba c
  obtain ⟨c7, c⟩ := He.ba c
  obtain ⟨c8, c⟩ := He.ba c
  obtain ⟨c9, c⟩ := He.ba c
  obtain ⟨c10, c⟩ := He.ba c
  obtain ⟨c11, c⟩ := He.ba c
  obtain ⟨c12, c⟩ := He.ba c
  obtain ⟨c13, c⟩ := He.ba c
  obtain ⟨c14, c⟩ := He.ba c
  obtain ⟨c15, c⟩ := He.ba c
  obtain ⟨c16, c⟩ := He.ba c
  obtain ⟨c17, c⟩ := He.ba c
  obtain ⟨c18, c⟩ := He.ba c
  obtain ⟨c19, c⟩ := He.ba c
  obtain ⟨c20, c⟩ := He.ba c
  obtain ⟨c21, c⟩ := He.ba c
  exact
  { z_int := He.free_ok X G (fact 4 (f := .free "int") rfl)
    z_bool := He.free_ok X G (fact 5 (f := .free "bool") rfl)
    z_str := He.free_ok X G (fact 6 (f := .free "str") rfl)
    z_len := He.free_ok X G (fact 7 (f := .free "len") rfl)
    z_all := He.free_ok X G (fact 8 (f := .free "all") rfl)
    z_isinstance := He.free_ok X G (fact 9 (f := .free "isinstance") rfl)
    i_LONGEST_NAME := He.int_ok X G (fact 10 (f := .int "LONGEST_NAME" 8) rfl)
    i_MOST_TICKS := He.int_ok X G (fact 11 (f := .int "MOST_TICKS" 6) rfl)
    i_LETTERS := He.str_ok X G (fact 12 (f := .str "LETTERS" "abcdefghijklmnopqrstuvwxyz") rfl)
    g_KEPT_WORDS := He.glo_ok X G (fact 13 (f := .glo "KEPT_WORDS") rfl)
    t_KEPT := c3
    g_is_integer := He.glo_ok X G (fact 14 (f := .glo "is_integer") rfl)
    g_is_integer_from := He.glo_ok X G (fact 15 (f := .glo "is_integer_from") rfl)
    g_is_flag := He.glo_ok X G (fact 16 (f := .glo "is_flag") rfl)
    g_is_name := He.glo_ok X G (fact 17 (f := .glo "is_name") rfl)
    g_Place := He.glo_ok X G (fact 18 (f := .glo "Place") rfl)
    g_BadPlace := He.glo_ok X G (fact 19 (f := .glo "BadPlace") rfl)
    c_Place := cls_of (fact 20 (f := .cls "Place") rfl)
    m_Place := mk_of (fact 21 (f := .mkr "Place") rfl)
    nN := noat_of (fact 22 (f := .noat "Place" "name") rfl)
    nL := noat_of (fact 23 (f := .noat "Place" "least") rfl)
    nM := noat_of (fact 24 (f := .noat "Place" "most") rfl)
    nT := noat_of (fact 25 (f := .noat "Place" "let") rfl)
    x_BadPlace := exI_ok c4
    hn := He.eqO_ok c5
    ht := of_decide_eq_true c6
    ha := He.eqO_ok c7
    hm := of_decide_eq_true c8
    k1 := of_decide_eq_true c9
    z_enumerate := He.free_ok X G (fact 26 (f := .free "enumerate") rfl)
    z_list := He.free_ok X G (fact 27 (f := .free "list") rfl)
    z_tuple := He.free_ok X G (fact 28 (f := .free "tuple") rfl)
    z_dict := He.free_ok X G (fact 29 (f := .free "dict") rfl)
    i_MOST_PLACES := He.int_ok X G (fact 30 (f := .int "MOST_PLACES" 6) rfl)
    g_has_twins := He.glo_ok X G (fact 31 (f := .glo "has_twins") rfl)
    g_is_one_of := He.glo_ok X G (fact 32 (f := .glo "is_one_of") rfl)
    g_are_places := He.glo_ok X G (fact 33 (f := .glo "are_places") rfl)
    g_are_nexts := He.glo_ok X G (fact 34 (f := .glo "are_nexts") rfl)
    g_is_choice := He.glo_ok X G (fact 35 (f := .glo "is_choice") rfl)
    g_Program := He.glo_ok X G (fact 36 (f := .glo "Program") rfl)
    g_BadProgram := He.glo_ok X G (fact 37 (f := .glo "BadProgram") rfl)
    g_NoPlace := He.glo_ok X G (fact 38 (f := .glo "NoPlace") rfl)
    c_Program := cls_of (fact 39 (f := .cls "Program") rfl)
    m_Program := mk_of (fact 40 (f := .mkr "Program") rfl)
    nA := noat_of (fact 41 (f := .noat "Program" "names") rfl)
    nB := noat_of (fact 42 (f := .noat "Program" "start") rfl)
    nC := noat_of (fact 43 (f := .noat "Program" "_places") rfl)
    nD := noat_of (fact 44 (f := .noat "Program" "_nexts") rfl)
    x_BadProgram := exI_ok c10
    x_NoPlace := exI_ok c11
    pa := He.eqO_ok c12
    pm := of_decide_eq_true c13
    pk := of_decide_eq_true c14
    z_range := He.free_ok X G (fact 45 (f := .free "range") rfl)
    z_sum := He.free_ok X G (fact 46 (f := .free "sum") rfl)
    i_MOST_PERIOD := He.int_ok X G (fact 47 (f := .int "MOST_PERIOD" 8) rfl)
    i_MOST_RUN_TICKS := He.int_ok X G (fact 48 (f := .int "MOST_RUN_TICKS" 2000) rfl)
    g_Sampler := He.glo_ok X G (fact 49 (f := .glo "Sampler") rfl)
    g_BadSampler := He.glo_ok X G (fact 50 (f := .glo "BadSampler") rfl)
    c_Sampler := cls_of (fact 51 (f := .cls "Sampler") rfl)
    m_Sampler := mk_of (fact 52 (f := .mkr "Sampler") rfl)
    sP := noat_of (fact 53 (f := .noat "Sampler" "period") rfl)
    sJ := noat_of (fact 54 (f := .noat "Sampler" "jitter") rfl)
    sF := noat_of (fact 55 (f := .noat "Sampler" "phase") rfl)
    x_BadSampler := exI_ok c15
    g_check_phase := He.glo_ok X G (fact 56 (f := .glo "check_phase") rfl)
    g_BadPhase := He.glo_ok X G (fact 57 (f := .glo "BadPhase") rfl)
    g_NoTicks := He.glo_ok X G (fact 58 (f := .glo "NoTicks") rfl)
    g_Record := He.glo_ok X G (fact 59 (f := .glo "Record") rfl)
    g_record_of := He.glo_ok X G (fact 60 (f := .glo "record_of") rfl)
    c_Record := cls_of (fact 61 (f := .cls "Record") rfl)
    m_Record := mk_of (fact 62 (f := .mkr "Record") rfl)
    rA := noat_of (fact 63 (f := .noat "Record" "ticks") rfl)
    rB := noat_of (fact 64 (f := .noat "Record" "times") rfl)
    rC := noat_of (fact 65 (f := .noat "Record" "notes") rfl)
    rD := noat_of (fact 66 (f := .noat "Record" "waiting") rfl)
    rE := noat_of (fact 67 (f := .noat "Record" "lost") rfl)
    x_BadPhase := exI_ok c16
    e_NoTicks := (fact 68 (f := .exc "NoTicks") rfl)
    g_law_cell := He.glo_ok X G (fact 69 (f := .glo "_law_cell") rfl)
    g_law_take := He.glo_ok X G (fact 70 (f := .glo "_law_take") rfl)
    g_law_name := He.glo_ok X G (fact 71 (f := .glo "_law_name") rfl)
    g_law_rows := He.glo_ok X G (fact 72 (f := .glo "_law_rows") rfl)
    g_law_nexts := He.glo_ok X G (fact 73 (f := .glo "_law_nexts") rfl)
    g_law_program := He.glo_ok X G (fact 74 (f := .glo "_law_program") rfl)
    g_law_is_integer := He.glo_ok X G (fact 75 (f := .glo "_law_is_integer") rfl)
    g_law_row := He.glo_ok X G (fact 76 (f := .glo "_law_row") rfl)
    g_law_spec := He.glo_ok X G (fact 77 (f := .glo "_law_spec") rfl)
    g_law_sampler := He.glo_ok X G (fact 78 (f := .glo "_law_sampler") rfl)
    g_law_ticks := He.glo_ok X G (fact 79 (f := .glo "_law_ticks") rfl)
    g_law_first := He.glo_ok X G (fact 80 (f := .glo "_law_first") rfl)
    g_law_after := He.glo_ok X G (fact 81 (f := .glo "_law_after") rfl)
    g_law_walk := He.glo_ok X G (fact 82 (f := .glo "_law_walk") rfl)
    g_law_stays := He.glo_ok X G (fact 83 (f := .glo "_law_stays") rfl)
    g_law_looks := He.glo_ok X G (fact 84 (f := .glo "_law_looks") rfl)
    g_law_seen := He.glo_ok X G (fact 85 (f := .glo "_law_seen") rfl)
    g_law_notes_fit := He.glo_ok X G (fact 86 (f := .glo "_law_notes_fit") rfl)
    g_law_record_fits := He.glo_ok X G (fact 87 (f := .glo "_law_record_fits") rfl)
    g_law_options := He.glo_ok X G (fact 88 (f := .glo "_law_options") rfl)
    g_law_next := He.glo_ok X G (fact 89 (f := .glo "_law_next") rfl)
    g_law_empty := He.glo_ok X G (fact 90 (f := .glo "_law_empty") rfl)
    g_law_due := He.glo_ok X G (fact 91 (f := .glo "_law_due") rfl)
    g_law_grown := He.glo_ok X G (fact 92 (f := .glo "_law_grown") rfl)
    g_law_tried := He.glo_ok X G (fact 93 (f := .glo "_law_tried") rfl)
    g_law_stands := He.glo_ok X G (fact 94 (f := .glo "_law_stands") rfl)
    g_law_odd := He.glo_ok X G (fact 95 (f := .glo "_law_odd") rfl)
    g_look_flags := He.glo_ok X G (fact 96 (f := .glo "look_flags") rfl)
    g_pair_at := He.glo_ok X G (fact 97 (f := .glo "pair_at") rfl)
    g_is_one_of_choices := He.glo_ok X G (fact 98 (f := .glo "is_one_of_choices") rfl)
    g_stays_made := He.glo_ok X G (fact 99 (f := .glo "stays_made") rfl)
    g_looks_made := He.glo_ok X G (fact 100 (f := .glo "looks_made") rfl)
    g_Profile := He.glo_ok X G (fact 101 (f := .glo "Profile") rfl)
    g_BadChoice := He.glo_ok X G (fact 102 (f := .glo "BadChoice") rfl)
    x_BadChoice := exI_ok c17
    c_Profile := cls_of (fact 103 (f := .cls "Profile") rfl)
    m_Profile := mk_of (fact 104 (f := .mkr "Profile") rfl)
    fT := noat_of (fact 105 (f := .noat "Profile" "ticks") rfl)
    fP := noat_of (fact 106 (f := .noat "Profile" "_program") rfl)
    fS := noat_of (fact 107 (f := .noat "Profile" "_sampler") rfl)
    fF := noat_of (fact 108 (f := .noat "Profile" "_phase") rfl)
    fM := noat_of (fact 109 (f := .noat "Profile" "_made") rfl)
    fA := noat_of (fact 110 (f := .noat "Profile" "_state") rfl)
    fK := noat_of (fact 111 (f := .noat "Profile" "_mark") rfl)
    g_Mark := He.glo_ok X G (fact 112 (f := .glo "Mark") rfl)
    c_Mark := cls_of (fact 113 (f := .cls "Mark") rfl)
    m_Mark := mk_of (fact 114 (f := .mkr "Mark") rfl)
    kT := noat_of (fact 115 (f := .noat "Mark" "ticks") rfl)
    kM := noat_of (fact 116 (f := .noat "Mark" "made") rfl)
    kA := noat_of (fact 117 (f := .noat "Mark" "state") rfl)
    kO := noat_of (fact 118 (f := .noat "Mark" "outer") rfl)
    g_SeenError := He.glo_ok X G (fact 119 (f := .glo "SeenError") rfl)
    x1 := of_decide_eq_true c18
    p1 := of_decide_eq_true c19
    p2 := of_decide_eq_true c20 }
theorem mk_PMeth (X : K.In h) (G : h.Ns mainGlobals mg) (c : ex K = true) : PMeth K := by
  obtain ⟨a, c⟩ := He.ba c
  have fact : ∀ (i : Nat) {f : He.Fa}, fa[i]? = some f → f.ok K = true := fun i f e => List.all_eq_true.mp a f (List.mem_of_getElem? e)
  obtain ⟨c0, c⟩ := He.ba c
  obtain ⟨c1, c⟩ := He.ba c
  obtain ⟨c2, c⟩ := He.ba c
  obtain ⟨c3, c⟩ := He.ba c
  obtain ⟨c4, c⟩ := He.ba c
  obtain ⟨c5, c⟩ := He.ba c
  obtain ⟨c6, c⟩ := He.ba c
  obtain ⟨c7, c⟩ := He.ba c
  obtain ⟨c8, c⟩ := He.ba c
  obtain ⟨c9, c⟩ := He.ba c
  obtain ⟨c10, c⟩ := He.ba c
  obtain ⟨c11, c⟩ := He.ba c
  obtain ⟨c12, c⟩ := He.ba c
  obtain ⟨c13, c⟩ := He.ba c
  obtain ⟨c14, c⟩ := He.ba c
  obtain ⟨c15, c⟩ := He.ba c
  obtain ⟨c16, c⟩ := He.ba c
  obtain ⟨c17, c⟩ := He.ba c
  obtain ⟨c18, c⟩ := He.ba c
  obtain ⟨c19, c⟩ := He.ba c
  obtain ⟨c20, c⟩ := He.ba c
  obtain ⟨c21, c⟩ := He.ba c
  exact
  { m_choices := meth_of (fact 120 (f := .meth "Profile" "choices") rfl)
    m_record := meth_of (fact 121 (f := .meth "Profile" "record") rfl)
    m_run := meth_of (fact 122 (f := .meth "Profile" "run") rfl)
    m__go_on := meth_of (fact 123 (f := .meth "Profile" "_go_on") rfl)
    m__moves := meth_of (fact 124 (f := .meth "Profile" "_moves") rfl)
    m__spot := meth_of (fact 125 (f := .meth "Profile" "_spot") rfl)
    m__has_come := meth_of (fact 126 (f := .meth "Profile" "_has_come") rfl)
    m__call__ := meth_of (fact 127 (f := .meth "Profile" "__call__") rfl)
    f_call := c21 }
theorem mk_QMeth (X : K.In h) (G : h.Ns mainGlobals mg) (c : ex K = true) : QMeth K := by
  obtain ⟨a, c⟩ := He.ba c
  have fact : ∀ (i : Nat) {f : He.Fa}, fa[i]? = some f → f.ok K = true := fun i f e => List.all_eq_true.mp a f (List.mem_of_getElem? e)
  obtain ⟨c0, c⟩ := He.ba c
  obtain ⟨c1, c⟩ := He.ba c
  obtain ⟨c2, c⟩ := He.ba c
  obtain ⟨c3, c⟩ := He.ba c
  obtain ⟨c4, c⟩ := He.ba c
  obtain ⟨c5, c⟩ := He.ba c
  obtain ⟨c6, c⟩ := He.ba c
  obtain ⟨c7, c⟩ := He.ba c
  obtain ⟨c8, c⟩ := He.ba c
  obtain ⟨c9, c⟩ := He.ba c
  obtain ⟨c10, c⟩ := He.ba c
  obtain ⟨c11, c⟩ := He.ba c
  obtain ⟨c12, c⟩ := He.ba c
  obtain ⟨c13, c⟩ := He.ba c
  obtain ⟨c14, c⟩ := He.ba c
  obtain ⟨c15, c⟩ := He.ba c
  obtain ⟨c16, c⟩ := He.ba c
  obtain ⟨c17, c⟩ := He.ba c
  obtain ⟨c18, c⟩ := He.ba c
  obtain ⟨c19, c⟩ := He.ba c
  obtain ⟨c20, c⟩ := He.ba c
  obtain ⟨c21, c⟩ := He.ba c
  exact
  { m_path := meth_of (fact 128 (f := .meth "Profile" "path") rfl)
    m_choices := meth_of (fact 120 (f := .meth "Profile" "choices") rfl)
    m_record := meth_of (fact 121 (f := .meth "Profile" "record") rfl)
    m_trial := meth_of (fact 129 (f := .meth "Profile" "trial") rfl)
    m__call__ := meth_of (fact 127 (f := .meth "Profile" "__call__") rfl) }
theorem mk_TMeth (X : K.In h) (G : h.Ns mainGlobals mg) (c : ex K = true) : TMeth K := by
  obtain ⟨a, c⟩ := He.ba c
  have fact : ∀ (i : Nat) {f : He.Fa}, fa[i]? = some f → f.ok K = true := fun i f e => List.all_eq_true.mp a f (List.mem_of_getElem? e)
  obtain ⟨c0, c⟩ := He.ba c
  obtain ⟨c1, c⟩ := He.ba c
  obtain ⟨c2, c⟩ := He.ba c
  obtain ⟨c3, c⟩ := He.ba c
  obtain ⟨c4, c⟩ := He.ba c
  obtain ⟨c5, c⟩ := He.ba c
  obtain ⟨c6, c⟩ := He.ba c
  obtain ⟨c7, c⟩ := He.ba c
  obtain ⟨c8, c⟩ := He.ba c
  obtain ⟨c9, c⟩ := He.ba c
  obtain ⟨c10, c⟩ := He.ba c
  obtain ⟨c11, c⟩ := He.ba c
  obtain ⟨c12, c⟩ := He.ba c
  obtain ⟨c13, c⟩ := He.ba c
  obtain ⟨c14, c⟩ := He.ba c
  obtain ⟨c15, c⟩ := He.ba c
  obtain ⟨c16, c⟩ := He.ba c
  obtain ⟨c17, c⟩ := He.ba c
  obtain ⟨c18, c⟩ := He.ba c
  obtain ⟨c19, c⟩ := He.ba c
  obtain ⟨c20, c⟩ := He.ba c
  obtain ⟨c21, c⟩ := He.ba c
  exact
  { m___enter__ := meth_of (fact 130 (f := .meth "Profile" "__enter__") rfl)
    m___exit__ := meth_of (fact 131 (f := .meth "Profile" "__exit__") rfl)
    m_trial := meth_of (fact 129 (f := .meth "Profile" "trial") rfl) }
theorem facts {P : Program} {w : World} {f : Addr} (X : K.In h) (G : h.Ns mainGlobals mg) (hfa : mg ("law" : Str) = some (.ref f)) (c : SaysP ex fn gt K) :
    ∃ fd : FuncData, (∀ (s : Shared) (v : Value), BindsTo s fd ⟨[v], []⟩ [("_law_script", v)]) ∧ ∀ base : Heap, K.In base → base.Ns mainGlobals mg → FnOk P w K mg base CX0 12 f fd ["_law_script"] (spLaw K) := by
  obtain ⟨d0, F0⟩ := c.fn 0
  obtain ⟨d1, F1⟩ := c.fn 1
  obtain ⟨d2, F2⟩ := c.fn 2
  obtain ⟨d3, F3⟩ := c.fn 3
  obtain ⟨d4, F4⟩ := c.fn 4
  obtain ⟨d5, F5⟩ := c.fn 5
  obtain ⟨d6, F6⟩ := c.fn 6
  obtain ⟨d7, F7⟩ := c.fn 7
  obtain ⟨d8, F8⟩ := c.fn 8
  obtain ⟨d9, F9⟩ := c.fn 9
  obtain ⟨d10, F10⟩ := c.fn 10
  obtain ⟨d11, F11⟩ := c.fn 11
  obtain ⟨d12, F12⟩ := c.fn 12
  obtain ⟨d13, F13⟩ := c.fn 13
  obtain ⟨d14, F14⟩ := c.fn 14
  obtain ⟨d15, F15⟩ := c.fn 15
  obtain ⟨d16, F16⟩ := c.fn 16
  obtain ⟨d17, F17⟩ := c.fn 17
  obtain ⟨d18, F18⟩ := c.fn 18
  obtain ⟨d19, F19⟩ := c.fn 19
  obtain ⟨d20, F20⟩ := c.fn 20
  obtain ⟨d21, F21⟩ := c.fn 21
  obtain ⟨d22, F22⟩ := c.fn 22
  obtain ⟨d23, F23⟩ := c.fn 23
  obtain ⟨d24, F24⟩ := c.fn 24
  obtain ⟨d25, F25⟩ := c.fn 25
  obtain ⟨d26, F26⟩ := c.fn 26
  obtain ⟨d27, F27⟩ := c.fn 27
  obtain ⟨d28, F28⟩ := c.fn 28
  obtain ⟨d29, F29⟩ := c.fn 29
  obtain ⟨d30, F30⟩ := c.fn 30
  obtain ⟨d31, F31⟩ := c.fn 31
  obtain ⟨d32, F32⟩ := c.fn 32
  obtain ⟨d33, F33⟩ := c.fn 33
  obtain ⟨d34, F34⟩ := c.fn 34
  obtain ⟨d35, F35⟩ := c.fn 35
  obtain ⟨d36, F36⟩ := c.fn 36
  obtain ⟨d37, F37⟩ := c.fn 37
  obtain ⟨d38, F38⟩ := c.fn 38
  obtain ⟨d39, F39⟩ := c.fn 39
  obtain ⟨d40, F40⟩ := c.fn 40
  obtain ⟨d41, F41⟩ := c.fn 41
  obtain ⟨d42, F42⟩ := c.fn 42
  obtain ⟨d43, F43⟩ := c.fn 43
  obtain ⟨d44, F44⟩ := c.fn 44
  obtain ⟨d45, F45⟩ := c.fn 45
  obtain ⟨d46, F46⟩ := c.fn 46
  obtain ⟨d47, F47⟩ := c.fn 47
  obtain ⟨d48, F48⟩ := c.fn 48
  obtain ⟨d49, F49⟩ := c.fn 49
  obtain ⟨d50, F50⟩ := c.fn 50
  obtain ⟨d51, F51⟩ := c.fn 51
  obtain ⟨d52, F52⟩ := c.fn 52
  obtain ⟨d53, F53⟩ := c.fn 53
  obtain ⟨d54, F54⟩ := c.fn 54
  obtain ⟨d55, F55⟩ := c.fn 55
  obtain ⟨d56, F56⟩ := c.fn 56
  obtain ⟨d57, F57⟩ := c.fn 57
  obtain ⟨d58, F58⟩ := c.fn 58
  obtain ⟨d59, F59⟩ := c.fn 59
  obtain ⟨d60, F60⟩ := c.fn 60
  obtain ⟨d61, F61⟩ := c.fn 61
  obtain ⟨d62, F62⟩ := c.fn 62
  obtain ⟨d63, F63⟩ := c.fn 63
  obtain ⟨d64, F64⟩ := c.fn 64
  obtain ⟨d65, F65⟩ := c.fn 65
  obtain ⟨d66, F66⟩ := c.fn 66
  obtain ⟨⟨e0, G0⟩, p0⟩ := c.gt 0
  have hl : He.ga K "law" = f := by
    have e := He.glo_ok X G (List.all_eq_true.mp (He.ba c.ex).1 (.glo "law") (List.mem_of_getElem? (i := 132) rfl))
    rw [hfa] at e
    cases e
    rfl
  have b := FunD.bindsA (ps := ["_law_script"]) F66 fun _ _ _ _ _ _ us hl => match us, hl with | [_], _ => rfl
  refine ⟨d66, fun s v => b s [v] rfl, fun base _ _ => ?_⟩
  have ET := mk_VTxt X G c.ex
  have PM := mk_PMeth X G c.ex
  have QM := mk_QMeth X G c.ex
  have TM := mk_TMeth X G c.ex
  have T := ET.toTxt
  have M := mk_GMeth X G c.ex
  have S := T.toPTxt
  have GT := T.toGTxt
  have RT := T.toRTxt
  have A_is_integer := ok_is_integer (P := P) (w := w) (base := base) F0 S
  have A_is_integer_from := ok_is_integer_from F1 S A_is_integer
  have A_is_flag := ok_is_flag (P := P) (w := w) (base := base) F2 S
  have A_is_name := ok_is_name (P := P) (w := w) (base := base) F3 S
  have A_has_twins := ok_has_twins (P := P) (w := w) (base := base) F4 GT
  have A_BadPlace := ok_BadPlace_init (P := P) (w := w) (mg := mg) (base := base) F5
  have GP := ok_Place_init F6 S A_is_name A_is_integer_from A_is_flag A_BadPlace
  have IP := O_Place3k F6 GP
  have A_BadProgram := ok_BadProgram_init (P := P) (w := w) (mg := mg) (base := base) F8
  have A_NoPlace := ok_NoPlace_init (P := P) (w := w) (mg := mg) (base := base) F9
  have A_is_one_of := ok_is_one_of (P := P) (w := w) (base := base) F13 GT
  have A_is_choice := ok_is_choice F16 GT A_is_one_of A_has_twins
  have A_are_places := ok_are_places F14 GT A_has_twins
  have A_are_nexts := ok_are_nexts F15 GT A_is_choice
  have GG := ok_Program_init F10 GT A_are_places A_are_nexts A_is_one_of A_BadProgram
  have IG := O_Program2k F10 GG
  have A_contains := ok_Program_contains F11 GT A_is_one_of
  have A_getitem := ok_Program_getitem F12 GT M A_contains A_NoPlace
  have N0 := ok_Program_nexts (P := P) (w := w) (base := base) G0 p0 GT
  have A_BadSampler := ok_BadSampler_init (P := P) (w := w) (mg := mg) (base := base) F17
  have GS := ok_Sampler_init F18 RT A_is_integer_from A_BadSampler
  have IS := O_Sampler2k F18 GS
  have A_BadPhase := ok_BadPhase_init (P := P) (w := w) (mg := mg) (base := base) F19
  have A_check_phase := ok_check_phase F20 RT A_is_integer A_is_integer_from A_BadPhase
  have A_law_take := ok_law_take (P := P) (w := w) (base := base) F21 T
  have A_law_cell := ok_law_cell (P := P) (w := w) (base := base) F22 T
  have A_law_is_integer := ok_law_is_integer (P := P) (w := w) (base := base) F23 T
  have A_law_nexts := ok_law_nexts (P := P) (w := w) (base := base) F26 T
  have A_law_row := ok_law_row (P := P) (w := w) (base := base) F30 T
  have A_law_ticks := ok_law_ticks (P := P) (w := w) (base := base) F31 T
  have A_law_name := ok_law_name F24 T A_law_take
  have A_law_rows := ok_law_rows F25 T A_law_take A_law_name
  have A_law_program := ok_law_program F27 T A_law_nexts IP IG
  have A_law_spec := ok_law_spec F28 T A_law_take
  have A_law_sampler := ok_law_sampler F29 T IS
  have A_law_options := ok_law_options F32 T A_law_row A_law_ticks
  have LV := ET.toLvTxt
  have A_look_flags := ok_look_flags (P := P) (w := w) (base := base) F33 RT
  have A_pair_at := ok_pair_at (P := P) (w := w) (base := base) F34 RT
  have A_BadChoice := ok_BadChoice_init (P := P) (w := w) (mg := mg) (base := base) F35
  have GPf := ok_Profile_init F36 LV A_check_phase
  have IPk := O_Profile2k F36 GPf
  have A_spot := ok_Profile_spot (P := P) (w := w) (base := base) F37 LV
  have A_hc := ok_Profile_has_come F38 LV PM A_spot
  have A_mv := ok_Profile_moves F39 LV M A_getitem N0
  have A_chs := ok_Profile_choices F40 LV PM A_look_flags A_spot A_hc A_mv
  have A_onech := ok_is_one_of_choices F41 LV A_is_flag
  have A_go := ok_Profile_go_on F42 LV PM M A_getitem A_onech A_pair_at A_spot A_hc A_chs A_BadChoice
  have A_call := ok_Profile_call F43 LV PM A_go
  have A_path := ok_Profile_path (P := P) (w := w) (base := base) F44 LV
  have A_sm := ok_stays_made (P := P) (w := w) (base := base) F45 LV
  have A_lm := ok_looks_made (P := P) (w := w) (base := base) F46 LV
  have MK := ET.toMkTxt
  have A_Record := ok_Record_init (P := P) (w := w) (base := base) F48 RT
  have A_record_of := ok_record_of F49 RT M A_getitem A_Record
  have A_rec := ok_Profile_record F47 LV A_sm A_record_of
  have A_Mark := ok_Mark_init (P := P) (w := w) (base := base) F50 MK
  have A_enter := ok_Profile_enter F51 MK A_Mark
  have A_exit := ok_Profile_exit (P := P) (w := w) (base := base) F52 MK
  have A_exitW := ok_Profile_exitW (P := P) (w := w) (base := base) F52 MK
  have A_trial := ok_Profile_trial F53 MK PM TM A_enter A_exit A_exitW A_go A_rec
  have A_law_stays := ok_law_stays (P := P) (w := w) (base := base) F54 T
  have A_law_looks := ok_law_looks (P := P) (w := w) (base := base) F55 T
  have A_law_seen := ok_law_seen F56 T A_law_row
  have A_law_notes_fit := ok_law_notes_fit F57 T A_law_is_integer
  have A_law_record_fits := ok_law_record_fits F58 T A_law_is_integer A_law_notes_fit
  have A_law_next := ok_law_next F59 T A_law_options
  have A_law_empty := ok_law_empty (P := P) (w := w) (base := base) F60 T
  have A_law_due := ok_law_due F61 T A_law_empty A_law_stays A_law_looks A_law_seen
  have A_law_grown := ok_law_grown F62 ET A_law_cell A_law_next
  have A_law_odd := ok_law_odd F63 ET A_law_take
  have A_law_tried := ok_law_tried F64 ET QM A_trial
  have A_law_stands := ok_law_stands F65 ET QM A_path A_chs A_rec A_law_due A_law_record_fits
  have r := ok_law F66 ET PM QM A_law_cell A_law_take A_law_rows A_law_program A_law_spec A_law_sampler A_law_grown A_law_odd A_law_tried A_law_stands A_law_due A_law_record_fits IPk A_chs A_trial A_call
  rw [← hl]
  exact r
end
end K32
open PySem PySem.W PySem.Calls PyProof.Rows
theorem PySem.Challenge.cw_seenshares_k32_profile_trial_holds : PySem.Challenge.rw_seenshares_k32_profile_trial.Holds := by
  w_on; o_law
  refine HandSHeadRun.head_any (r := OpenLaw.row PySem.Challenge.rw_seenshares_k32_profile_trial) (q := view (OpenLaw.row PySem.Challenge.rw_seenshares_k32_profile_trial).prog [73]) (H := K32.hk) (ob := K32.ob) (M := 100000) (loose := K32.names)
    (d := HandSHeadRun.topDef (OpenLaw.row PySem.Challenge.rw_seenshares_k32_profile_trial).prog 73) (kwd := []) K32.ob_eq (by kernel_rfl) (fun s => by kernel_rfl) K32.run (by kernel_rfl) (by kernel_rfl) (by kernel_rfl) (by rfl) (by first | assumption | decide +kernel) (by decide +kernel) ⟨rfl, rfl, rfl, rfl, rfl, by decide +kernel⟩ ?hw ?hc
  case hw => w_witness2
  case hc =>
    refine L2.walk_ofE (l := PySem.Challenge.rw_seenshares_k32_profile_trial) (n := 63) (k := 12) (x := "_law_script") (CX := L2.CX0) rfl (by decide) (by kernel_rfl) ⟨rfl, by decide, by decide⟩ ?F (fun _ _ _ _ z => z)
    intro w mg fa h Y G hmg0
    obtain ⟨K, KX, c⟩ := Y
    have hmg : mg ("law" : PySem.Str) = some (.ref fa) := by
      have e : (HandSHeadRun.topDef (OpenLaw.row PySem.Challenge.rw_seenshares_k32_profile_trial).prog 73).name = ("law" : PySem.Str) := by kernel_rfl
      rw [← e]
      exact hmg0
    obtain ⟨fd, hb, hF⟩ := K32.facts (P := (PySem.Challenge.rw_seenshares_k32_profile_trial).prog) (w := w) KX G hmg c
    exact ⟨K, fd, K32.spLaw K, KX, hb, fun H a ns hl _ hS => ⟨a, ns, rfl, hS, hl, fun _ => rfl⟩, hF⟩
#print axioms PySem.Challenge.cw_seenshares_k32_profile_trial_holds
