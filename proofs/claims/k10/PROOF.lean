import PyProof.Rows.All
import Wide.All
import OpenK.AllK
import Wide.FinOn
import PyProof.EqAt
import PyProof.EqKinds
import PyProof.TupleCall
import KE.KStateDown
import KE.KCallOwn
import HandS.ForExc
import HandS.Wide
import HandS.Gcd
import HandS.Defaults
import HandS.IsInst
import HandS.ExcInit
import HandS.ExcField
import HandS.ExcIs
import HandS.FStr
import HandS.Codes
import HandS.Dict
import HandS.Head0
import HandS.Head1
import HandS.Head2
import HandS.Head3
import HandS.HeadEnd
import HandS.HeadHook1
import HandS.HeadHook2
import KE.KExcIs
import KE.KOpsOwn
import PyProof.FactsAll.int_1
import PyProof.FactsAll.int_2
import PyProof.FactsAll.int_3
import PyProof.FactsAll.int_5
import HandS.TryOnly
import HandS.Small
import PyProof.FactsAll.str_1
import PyProof.FactsAll.tuple_1
import PyProof.FactsAll.list_1
import PyProof.FactsAll.dict_1
import PyProof.FactsAll.bool_1
import PyProof.FactsAll.NoneType_1
import HandS.OwnEq
import HandS.Comp
import HandS.Walk
import HandS.MakeKwOnly
import HandS.MakeKw
import PyProof.Rows.StrIn
import PySem.Challenge.RW_seenshares_k10_sampler
set_option Elab.async false
set_option linter.all false
set_option maxRecDepth 100000
set_option maxHeartbeats 2000000
namespace Vf
open PySem PySem.Spec PyProof.Rows L2
/-! ### defs at their places -/
abbrev Pl : Type := Str × Option Str
structure OkD (P : Program) (w : World) (K : PySem.W.Frag) (mg : Str → Option Value) (base : Heap) (CX : CXT) (k : Nat) (p : Pl) (ps : List Str) (dvs : List V) (sp : Sp) : Prop where
  ex : ∃ fd ds, FnOk P w K mg base CX k (He.fAd K p) fd ps sp ∧ Binds K fd ps ds ∧ Vals dvs ds
  kp : PySem.W.keepIn K (.ref (He.fAd K p)) = true
section
variable {X : Cx} {CX : CXT} {k j : Nat} {ps : List Str} {sp : Sp} {dvs : List V} {x m : Str} {p pos apos : Pos} {e o : Expr} {es : List Expr} {ta : TE} {t : TA}
theorem c_fn {E : XK} (O : OkD X.prog X.w X.K X.mg X.base CX k (x, none) ps dvs sp) (hr : Room j X.A) (hj : k ≤ j) (hm : X.mg x = some (.ref (He.ga X.K x))) (hx : Passes CX X E) (ha : PA X (e :: es) t) (hg : Gl X x := by rfl)
    (hdb : (x == ("__debug__" : Str)) = false := by decide) (he : starEach (e :: es) X.env = (false, eval e X.env) :: starEach es X.env := by rfl) (hpl : (backTo pos (starEach es X.env)).any (·.1) = false := by rfl) :
    PE X (.Call (.Name x p) (e :: es) [] pos) (tCall sp dvs E t) := by
  obtain ⟨fd, ds, F, b, v⟩ := O.ex
  exact pe_call F (hr.mono hj) hg hm O.kp b v hx ha hdb he hpl
theorem c_fnS {E : L2.St → XK} (O : OkD X.prog X.w X.K X.mg X.base CX k (x, none) ps [] sp) (hr : Room j X.A) (hj : k ≤ j) (hm : X.mg x = some (.ref (He.ga X.K x))) (hx : ∀ σ, PassesAt CX X σ (E σ)) (ha : PA X (e :: es) t) (hg : Gl X x := by rfl)
    (hdb : (x == ("__debug__" : Str)) = false := by decide) (he : starEach (e :: es) X.env = (false, eval e X.env) :: starEach es X.env := by rfl) (hpl : (backTo pos (starEach es X.env)).any (·.1) = false := by rfl) :
    PE X (.Call (.Name x p) (e :: es) [] pos) (tCallS sp E t) := by
  obtain ⟨fd, ds, F, b, v⟩ := O.ex
  cases v
  exact pe_callS F (hr.mono hj) hg hm O.kp b hx ha hdb he hpl
theorem mk_of {K : PySem.W.Frag} {x : Str} (c : (He.Fa.mkr x).ok K = true) : Mk K (He.ga K x) (He.fAd K (x, some "__init__")) := by
  obtain ⟨h1, h2⟩ := He.ba c
  obtain ⟨h2, h3⟩ := He.ba h2
  obtain ⟨h3, h4⟩ := He.ba h3
  exact ⟨h1, He.eqO_ok h2, h3, h4⟩
theorem meth_of {K : PySem.W.Frag} {x m : Str} (c : (He.Fa.meth x m).ok K = true) : Meth K (He.ga K x) m (He.fAd K (x, some m)) := by
  obtain ⟨h1, h2⟩ := He.ba c
  obtain ⟨h2, h3⟩ := He.ba h2
  exact ⟨He.eqO_ok h1, h2, h3⟩
theorem cls_of {K : PySem.W.Frag} {x : Str} (c : (He.Fa.cls x).ok K = true) : Cls K (He.ga K x) := by
  obtain ⟨h1, h2⟩ := He.ba c
  obtain ⟨h2, h3⟩ := He.ba h2
  obtain ⟨h3, h4⟩ := He.ba h3
  exact ⟨h1, h2, h3, He.eqO_ok h4⟩
theorem noat_of {K : PySem.W.Frag} {x f : Str} (c : (He.Fa.noat x f).ok K = true) : NoAttr K (He.ga K x) f := He.eqO_ok c
/-- C(e, ..) -/
theorem c_mk {E : XK} {C : Addr} (M : Mk X.K C (He.fAd X.K (x, some "__init__"))) (O : OkD X.prog X.w X.K X.mg X.base CX k (x, some "__init__") ps dvs sp) (hr : Room j X.A) (hj : k + 1 ≤ j) (hm : X.mg x = some (.ref C)) (hx : Passes CX X E) (ha : PA X (e :: es) t) (hg : Gl X x := by rfl)
    (hdb : (x == ("__debug__" : Str)) = false := by decide) (he : starEach (e :: es) X.env = (false, eval e X.env) :: starEach es X.env := by rfl) (hpl : (backTo pos (starEach es X.env)).any (·.1) = false := by rfl) :
    PE X (.Call (.Name x p) (e :: es) [] pos) (tMake C sp dvs E t) := by
  obtain ⟨fd, ds, F, b, v⟩ := O.ex
  exact pe_make M F (hr.mono hj) hg hm b v hx ha hdb he hpl
/-- o.m() -/
theorem c_me0 {E : XK} {C : Addr} {cn : Str} (hC : C = He.ga X.K cn) (he : PE X o ta) (c : Cls X.K C) (hm : Meth X.K C m (He.fAd X.K (cn, some m))) (O : OkD X.prog X.w X.K X.mg X.base CX k (cn, some m) ps dvs sp) (hr : Room j X.A) (hj : k ≤ j) (hx : Passes CX X E) {pl : Sem Bool}
    (ht : eval (.Call (.Attribute o m apos) [] [] pos) X.env = (do
      let ov ← eval o X.env
      standAt apos.atName
      let (f, first) ← holding [ov] (getMethod ov m pl)
      callWith pos f first (backTo pos (starEach [] X.env)) (backToKw pos (keywordEach [] X.env))) := by rfl) :
    PE X (.Call (.Attribute o m apos) [] [] pos) (tMeth C m sp dvs E ta tNil) := by
  obtain ⟨fd, ds, F, b, v⟩ := O.ex
  exact pe_meth0 he c hm F (hr.mono hj) b v hx ht
theorem c_me {E : XK} {C : Addr} {cn : Str} (hC : C = He.ga X.K cn) (hb : PE X o ta) (c : Cls X.K C) (hm : Meth X.K C m (He.fAd X.K (cn, some m))) (O : OkD X.prog X.w X.K X.mg X.base CX k (cn, some m) ps dvs sp) (hr : Room j X.A) (hj : k ≤ j) (hx : Passes CX X E) (ha : PA X (e :: es) t) {pl : Sem Bool}
    (hst : starEach (e :: es) X.env = (false, eval e X.env) :: starEach es X.env := by rfl) (hpl : (backTo pos (starEach es X.env)).any (·.1) = false := by rfl)
    (ht : eval (.Call (.Attribute o m apos) (e :: es) [] pos) X.env = (do
      let ov ← eval o X.env
      standAt apos.atName
      let (f, first) ← holding [ov] (getMethod ov m pl)
      callWith pos f first (backTo pos (starEach (e :: es) X.env)) (backToKw pos (keywordEach [] X.env))) := by rfl) :
    PE X (.Call (.Attribute o m apos) (e :: es) [] pos) (tMeth C m sp dvs E ta t) := by
  obtain ⟨fd, ds, F, b, v⟩ := O.ex
  exact pe_meth hb c hm F (hr.mono hj) b v hx ha hst hpl ht
end
/-! ### a try's body whose errors are wished for at any slots -/
theorem passAny {X : Cx} {W : WX} (n : Nat) (tk : Takes X W) (hn : X.N.length = n := by rfl) : Passes (L2.CX X.prog X.w) X (fun cls d H => ∀ σ : L2.St, σ.length = n → W cls d σ H) :=
  fun _ σ _ _ e s' I c => tk e s' (XE.of_call I (fun _ _ _ h => h σ (I.len.trans hn)) c)
/-! ### operators -/
section
variable {X : Cx}
/-- // by any divisor but 0 below 2 ^ 9000 -/
theorem op_fdivG : OpR X (binaryOp .FloorDiv) (rI (fun _ j => j ≠ 0 ∧ j.natAbs.log2 < 9000) fun i j => .int (i.fdiv j)) := opI fun i j _ _ _ _ _ hc q => floordiv_int hc.1 q (.inl (PyProof.noPylong_of_log2 hc.2))
/-- a built-in class as a value -/
theorem pe_ty {x : Str} {n : String} {pos : Pos} (hm : X.mg x = none) (hv : bootBuiltins x = some (.type n)) (hg : Gl X x := by rfl) (hn : x ≠ "__name__" := by decide) (hd : (x == ("__debug__" : Str)) = false := by decide) : PE X (.Name x pos) (tC (.ty n)) := pe_bltn hg hm hv rfl hn hd
/-- a class of the text as a value -/
theorem pe_cl {x : Str} {a : Addr} {pos : Pos} (hm : X.mg x = some (.ref a)) (hg : Gl X x := by rfl) (hd : (x == ("__debug__" : Str)) = false := by decide) : PE X (.Name x pos) (tC (.ref a)) := pe_glob hg hm rfl hd
/-- str(o), o of a class of the text that has its own __str__ -/
def rStrO (C : Addr) (sp : Sp) : List V → Hp → VK → Prop := fun xs H Q => ∃ a dx fs, xs = [.ref a] ∧ H a = some (.ins C dx fs) ∧ sp [.ref a] H (fun v H' => ∃ z, v = .str z ∧ Q (.str z) H') fun _ _ _ => False
theorem call_strO {k j : Nat} {C : Addr} {cn : Str} {ps : List Str} {sp : Sp} (hC : C = He.ga X.K cn) (hm : Meth X.K C "__str__" (He.fAd X.K (cn, some "__str__"))) (O : OkD X.prog X.w X.K X.mg X.base CX0 k (cn, some "__str__") ps [] sp) (hr : Room j X.A) (hj : k + 2 ≤ j) :
    CallR X (.type "str") (rStrO C sp) := by
  obtain ⟨fd, ds, F, b, v⟩ := O.ex
  cases v
  intro pins s σ H xs us Q I r h
  obtain ⟨a, dx, fs, rfl, ha, hsp⟩ := h
  obtain ⟨u, rfl, ru⟩ : ∃ u, us = [u] ∧ RelV (.ref a) u := by
    cases r with
    | cons p q => cases q; exact ⟨_, rfl, p⟩
  cases ru
  obtain ⟨mA, J, _⟩ := ins_get I.hok ha
  obtain ⟨od, J, _⟩ := J.look
  have hr2 : Room k X.A.in1.in1 := ((hr.mono hj).in1).in1
  refine PySem.W.kso_call hr2.units0 I.kIn J hm.at_ hm.fn ?_
  have hl := F.len _ _ _ _ hsp
  have hb := b s [.ref a] I.kIn (by simpa using hl)
  simp only [List.append_nil] at hb
  refine wpAny_call (codeAny_mono (F.run X.A.in1.in1 X.stack s H ⟨[.ref a], []⟩ [.ref a] [.ref a] _ _ hr2 I.env0.in1.in1 hb (.cons rfl .nil) hsp) fun r s' hq => ?_)
  cases r with
  | error e => exact hq.elim
  | ok fl =>
    cases fl with
    | ret w =>
      obtain ⟨z, H', I', rz, y, ez, q⟩ := I.after hq
      subst ez
      obtain ⟨tk, rfl⟩ := rz
      exact ⟨.str y, H', I', ⟨tk, rfl⟩, q⟩
    | next => exact False.elim hq
    | brk => exact False.elim hq
    | cont => exact False.elim hq
end
end Vf

set_option Elab.async false
set_option linter.all false
set_option maxRecDepth 100000
set_option maxHeartbeats 2000000
namespace Vf
open PySem PySem.Spec PyProof.Rows L2
/-! ### ints and other values -/
/-- a value that is no integer -/
inductive Odd (H : Hp) : V → Prop where
  | bl (b : Bool) : Odd H (.bl b)
  | non : Odd H .non
  | str (z : Str) : Odd H (.str z)
  | tup {a : Addr} {xs : List V} (h : H a = some (.tup xs)) : Odd H (.ref a)
  | lst {a : Addr} {xs : List V} (h : H a = some (.lst xs)) : Odd H (.ref a)
  | dic {a : Addr} {kvs : List (Key × V)} (h : H a = some (.dK kvs)) : Odd H (.ref a)
theorem Odd.ext {H H' : Hp} {x : V} (o : Odd H x) (s : Same H H') : Odd H' x := by
  cases o with
  | bl b => exact .bl b
  | non => exact .non
  | str z => exact .str z
  | tup h => exact .tup (s _ _ h)
  | lst h => exact .lst (s _ _ h)
  | dic h => exact .dic (s _ _ h)
theorem odd_ty (K : PySem.W.Frag) {H : Hp} {x : V} (o : Odd H x) : ∃ (n : String) (b1 b2 : Bool), TyX K H x (.type n) ∧ kitB n "int" = some b1 ∧ kitB n "bool" = some b2 ∧ (b1 && !b2) = false := by
  cases o with
  | bl b => exact ⟨"bool", true, true, .base (.bl b), by decide +kernel, by decide +kernel, rfl⟩
  | non => exact ⟨"NoneType", false, false, .base .non, by decide +kernel, by decide +kernel, rfl⟩
  | str z => exact ⟨"str", false, false, .base (.str z), by decide +kernel, by decide +kernel, rfl⟩
  | tup h => exact ⟨"tuple", false, false, .base (.tup h), by decide +kernel, by decide +kernel, rfl⟩
  | lst h => exact ⟨"list", false, false, .base (.lst h), by decide +kernel, by decide +kernel, rfl⟩
  | dic h => exact ⟨"dict", false, false, .base (.dK h), by decide +kernel, by decide +kernel, rfl⟩
theorem int_ty (K : PySem.W.Frag) (H : Hp) (n : Int) : TyX K H (.int n) (.type "int") ∧ kitB "int" "int" = some true ∧ kitB "int" "bool" = some false :=
  ⟨.base (.int n), by decide +kernel, by decide +kernel⟩
/-- is_integer(x) -/
def spIsInt : Sp := fun vs H Q _ => ∃ x, vs = [x] ∧ (((∃ n, x = .int n) ∧ Q (.bl true) H) ∨ (Odd H x ∧ Q (.bl false) H))
def t_isint (K : PySem.W.Frag) : TS := tRet (tAndV (tCB (rIsi K) (tCons (tVar 0) (tCons (tC (.ty "int")) tNil))) (tNotV (tCB (rIsi K) (tCons (tVar 0) (tCons (tC (.ty "bool")) tNil)))))
theorem run_isint {K : PySem.W.Frag} {N : List Str} {vs : List V} {H : Hp} {Q : VK} {E : XK} (h : spIsInt vs H Q E) : t_isint K { nx := fun _ H' => Q .non H', rt := Q } (start N vs) H := by
  obtain ⟨x, rfl, h⟩ := h
  have s0 : (start N [x])[0]? = some (some x) := rfl
  rcases h with ⟨⟨n, rfl⟩, q⟩ | ⟨o, q⟩
  · obtain ⟨t1, k1, k2⟩ := int_ty K H n
    refine ⟨_, s0, _, .ty "int", _, .type "int", true, rfl, .ty _, t1, kit_ty k1, true, rfl, ?_⟩
    refine iteT ?_
    exact ⟨_, s0, _, .ty "bool", _, .type "bool", false, rfl, .ty _, t1, kit_ty k2, false, rfl, q⟩
  · obtain ⟨n, b1, b2, t1, k1, k2, e⟩ := odd_ty K o
    refine ⟨_, s0, _, .ty "int", _, .type "int", b1, rfl, .ty _, t1, kit_ty k1, b1, rfl, ?_⟩
    cases b1 with
    | false => exact iteF q
    | true =>
      cases b2 with
      | false => cases e
      | true =>
        refine iteT ?_
        exact ⟨_, s0, _, .ty "bool", _, .type "bool", true, rfl, .ty _, t1, kit_ty k2, true, rfl, q⟩
/-! ### the draws -/
/-- _law_cell(script, k): some int -/
def spCell (K : PySem.W.Frag) : Sp := fun vs H Q _ => ∃ (l : Addr) (ns : List Int) (j : Nat), vs = [.ref l, .int (j : Int)] ∧ SqL K H l (ns.map V.int) ∧ j < 1000 ∧ ∀ n : Int, Q (.int n) H
/-- _law_take(draw, size) -/
def spTake : Sp := fun vs H Q _ => ∃ (d : Addr) (n s : Int), vs = [.ref d, .int s] ∧ H d = some (.lst [.int n]) ∧ 0 < s ∧ s < 1073741824 ∧ ∀ r m : Int, 0 ≤ r → r < s → Q (.int r) (upd H d (.lst [.int m]))
theorem atI0 {α : Type} {x : α} {xs : List α} : atI (x :: xs) 0 = some x := by simp [atI, ixN]
theorem atI1 {α : Type} {x y : α} {xs : List α} : atI (x :: y :: xs) 1 = some y := by
  have h : ixN (x :: y :: xs).length 1 = some 1 := by
    unfold ixN
    rw [if_pos (by omega), if_pos (by simp only [List.length_cons]; omega)]
    rfl
  unfold atI
  rw [h]
  rfl
theorem ixN0 {n : Nat} : ixN (n + 1) 0 = some 0 := by
  unfold ixN
  rw [if_pos (by omega), if_pos (by omega)]
  all_goals rfl
abbrev rAddI : R2 := rI0 fun i j => .int (i + j)
abbrev rModI : R2 := rI (fun _ j => 0 < j) fun i j => .int (i % j)
end Vf

set_option Elab.async false
set_option linter.all false
set_option maxRecDepth 100000
set_option maxHeartbeats 2000000
namespace Vf
open PySem PySem.Spec PyProof.Rows L2
/-! ### own errors: class C(..): def __init__(self, f): self.f = f -/
def oexB (K : PySem.W.Frag) (C : Addr) : Bool := match K.lookup C with
  | some ⟨.type "type", _, .cls cd, sl⟩ => (match cd.mro, sl.toList with
    | .ref C' :: bm, [_, _, _, _, some (.builtin n), _] => C' == C && n == "ValueError.__new__" && !cd.hasDel && cd.hasDict && PySem.HandSPX.refsVE bm
    | _, _ => false)
  | _ => false
theorem oexB_ok {K : PySem.W.Frag} {C : Addr} (q : oexB K C = true) : ∃ nm qn N bs bm sn sub ab col dd k0 k1 k2 k3 k5, K.lookup C = some (excClassObj nm qn C N bs bm true sn sub ab col dd k0 k1 k2 k3 k5 "ValueError.__new__") ∧ PySem.HandSPX.refsVE bm = true := by
  unfold oexB at q
  split at q
  · rename_i dd cd sl ho
    split at q
    · rename_i C' bm k0 k1 k2 k3 n k5 hm hs
      simp only [Bool.and_eq_true, beq_iff_eq, Bool.not_eq_true'] at q
      obtain ⟨⟨⟨⟨e1, e2⟩, hdel⟩, hh⟩, hbm⟩ := q
      obtain ⟨nm, bs, mro, ns, qn, hd, sn, sub, ab, col, del⟩ := cd
      obtain ⟨l⟩ := sl
      dsimp only at hm hdel hh hs
      subst hm hdel hh hs e1 e2
      exact ⟨nm, qn, ns, bs, bm, sn, sub, ab, col, dd, k0, k1, k2, k3, k5, ho, hbm⟩
    · cases q
  · cases q
/-- what is told of the error class x whose __init__ keeps its argument as f -/
structure ExD (K : PySem.W.Frag) (x : Str) : Prop where
  o : OexC K (He.ga K x)
  gg : PySem.W.findIn K (.ref (He.ga K x)) "__getattr__" = some none
  ga : PySem.W.findIn K (.ref (He.ga K x)) "__getattribute__" = some (some (.builtin "BaseException.__getattribute__"))
  ha : PySem.W.findIn K (.ref (He.ga K x)) "__class__" = some (some (.builtin "object.__class__"))
  hm : PySem.W.mroIn K (He.ga K x) (.type "object") = some true
  hd : PySem.W.hasDictIn K (He.ga K x) = true
  hcl : (PySem.W.clsIn K (He.ga K x)).isSome = true
def exD (K : PySem.W.Frag) (x : Str) : Bool :=
  oexB K (He.ga K x) && (He.eqO (PySem.W.findIn K (.ref (He.ga K x)) "__setattr__") (some (some (.builtin "object.__setattr__"))) && (decide (PySem.W.subIn K (.ref (He.ga K x)) (.type "BaseException") = some true) && (decide (PySem.W.typeIn K (.ref (He.ga K x)) = some (.type "type")) && (PySem.W.keepIn K (.ref (He.ga K x)) &&
  (He.eqO (PySem.W.findIn K (.ref (He.ga K x)) "__getattr__") (some none) && (He.eqO (PySem.W.findIn K (.ref (He.ga K x)) "__getattribute__") (some (some (.builtin "BaseException.__getattribute__"))) && (He.eqO (PySem.W.findIn K (.ref (He.ga K x)) "__class__") (some (some (.builtin "object.__class__"))) &&
  (decide (PySem.W.mroIn K (He.ga K x) (.type "object") = some true) && (PySem.W.hasDictIn K (He.ga K x) && (PySem.W.clsIn K (He.ga K x)).isSome)))))))))
theorem exD_ok {K : PySem.W.Frag} {x : Str} (h : exD K x = true) : ExD K x := by
  obtain ⟨h1, h⟩ := He.ba h
  obtain ⟨h2, h⟩ := He.ba h
  obtain ⟨h3, h⟩ := He.ba h
  obtain ⟨h4, h⟩ := He.ba h
  obtain ⟨h5, h⟩ := He.ba h
  obtain ⟨h6, h⟩ := He.ba h
  obtain ⟨h7, h⟩ := He.ba h
  obtain ⟨h8, h⟩ := He.ba h
  obtain ⟨h9, h⟩ := He.ba h
  obtain ⟨h10, h11⟩ := He.ba h
  exact ⟨⟨oexB_ok h1, He.eqO_ok h2, of_decide_eq_true h3, of_decide_eq_true h4, h5⟩, He.eqO_ok h6, He.eqO_ok h7, He.eqO_ok h8, of_decide_eq_true h9, h10, h11⟩
/-- .. with its __init__ and its field f -/
structure ExI (K : PySem.W.Frag) (x f : Str) : Prop where
  d : ExD K x
  i : PySem.W.findIn K (.ref (He.ga K x)) "__init__" = some (some (.ref (He.fAd K (x, some "__init__"))))
  t : PySem.W.typeIn K (.ref (He.fAd K (x, some "__init__"))) = some (.type "function")
  n : PySem.W.findIn K (.ref (He.ga K x)) f = some none
def exI (K : PySem.W.Frag) (x f : Str) : Bool :=
  exD K x && (He.eqO (PySem.W.findIn K (.ref (He.ga K x)) "__init__") (some (some (.ref (He.fAd K (x, some "__init__"))))) && (decide (PySem.W.typeIn K (.ref (He.fAd K (x, some "__init__"))) = some (.type "function")) && He.eqO (PySem.W.findIn K (.ref (He.ga K x)) f) (some none)))
theorem exI_ok {K : PySem.W.Frag} {x f : Str} (h : exI K x f = true) : ExI K x f := by
  obtain ⟨h1, h⟩ := He.ba h
  obtain ⟨h2, h⟩ := He.ba h
  obtain ⟨h3, h4⟩ := He.ba h
  exact ⟨exD_ok h1, He.eqO_ok h2, of_decide_eq_true h3, He.eqO_ok h4⟩
/-- the __init__: self.f = v -/
def spExI (K : PySem.W.Frag) (C : Addr) (f : Str) : Sp := fun vs H Q _ => ∃ (a : Addr) (v : V), vs = [.ref a, v] ∧ OexC K C ∧ PySem.W.findIn K (.ref C) f = some none ∧ H a = some (exo a C none) ∧
  ∀ dx, H dx = none → dx ≠ a → Q .non (upd (upd H dx (exd dx [(f, v)])) a (exo a C (some dx)))
theorem run_exI {K : PySem.W.Frag} {C : Addr} {f : Str} {N : List Str} {vs : List V} {H : Hp} {Q : VK} {E : XK} (h : spExI K C f vs H Q E) : tOst K f (tVar 0) (tVar 1) { nx := fun _ H' => Q .non H', rt := Q } (start N vs) H := by
  obtain ⟨a, v, rfl, T, hn, ea, q⟩ := h
  have s0 : (start N [.ref a, v])[0]? = some (some (.ref a)) := rfl
  have s1 : (start N [.ref a, v])[1]? = some (some v) := rfl
  exact ⟨_, s1, _, s0, a, C, rfl, T, hn, .inl ⟨ea, fun dx h1 h2 => q dx h1 h2⟩⟩
/-- the heap behind the making: the error's own dict alone is new -/
theorem exc_heap {H : Hp} {a d : Addr} {o1 o2 o3 o4 : HO} (ha : H a = none) (hda : d ≠ a) : upd (del (upd (upd (upd H a o1) d o2) a o3) a) d o4 = upd H d o4 := by
  funext b
  by_cases h1 : b = d
  · rw [h1, upd_same, upd_same]
  · rw [upd_ne h1, upd_ne h1]
    by_cases h2 : b = a
    · rw [h2, del_same, ha]
    · rw [del_ne h2, upd_ne h2, upd_ne h1, upd_ne h2]
theorem pa_weak {X : Cx} {es : List Expr} {ta : TA} (ha : PA X es ta) : PA X es (fun σ H Q => ∃ R, ta σ H R ∧ ∀ vs H1, R vs H1 → Q vs H1) := ⟨fun pos pins s σ H Q I h => by
  obtain ⟨R, h1, h2⟩ := h
  exact thn (ha.run pos pins s σ H R I h1) fun us s1 ⟨vs, H1, I1, r, q⟩ => ⟨vs, H1, I1, r, h2 _ _ q⟩⟩
section
variable {X : Cx} {CX : CXT} {k j : Nat} {ps : List Str} {x f : Str} {p pos pos2 : Pos} {e : Expr} {es : List Expr} {ta : TA} {W : WX}
/-- raise C(e): the error's dict, new, holds f -/
def tRaiseI (C : Addr) (f : Str) (W : WX) (ta : TA) : TS := fun _ σ H => ta σ H fun vs H1 => ∃ v, vs = [v] ∧ ∀ d, H1 d = none → W (.ref C) (some d) σ (upd H1 d (.xd [(f, v)]))
theorem c_raise (T : ExI X.K x f) (O : OkD X.prog X.w X.K X.mg X.base CX0 k (x, some "__init__") ps [] (spExI X.K (He.ga X.K x) f)) (hr : Room j X.A) (hj : k + 1 ≤ j) (hm : X.mg x = some (.ref (He.ga X.K x))) (tk : Takes X W) (ha : PA X (e :: es) ta) (hc : X.calm = true := by rfl) (hg : Gl X x := by rfl)
    (hdb : (x == ("__debug__" : Str)) = false := by decide) (he : starEach (e :: es) X.env = (false, eval e X.env) :: starEach es X.env := by rfl) (hpl : (backTo pos (starEach es X.env)).any (·.1) = false := by rfl) :
    PS X (.Raise (some (.Call (.Name x p) (e :: es) [] pos)) none pos2) (tRaiseI (He.ga X.K x) f W ta) := by
  obtain ⟨fd, ds, F, b, v⟩ := O.ex
  cases v
  refine ⟨fun pins s σ H D I h => (ps_raise hc tk (pmk_oex (p := p) T.d.o T.i T.t F (hr.mono hj) b .nil pass0 hg hm (pa_weak ha) hdb he hpl)).run pins s σ H D I ?_⟩
  refine ⟨_, h, fun vs H1 z => ?_⟩
  obtain ⟨v, rfl, q⟩ := z
  refine ⟨(by show 1 ≤ 1000; decide), fun a na => ⟨a, v, rfl, T.d.o, T.n, upd_same, fun dx h1 h2 => ?_⟩⟩
  have hdx : H1 dx = none := by
    rw [upd_ne h2] at h1
    exact h1
  refine ⟨rfl, dx, [(f, v)], upd_same, ?_, hdx, ?_⟩
  · rw [upd_ne h2, upd_same]
  · rw [exc_heap na h2]
    exact q dx hdx
end
/-! ### isinstance(e, c) of a caught error -/
section
variable {X : Cx}
theorem call_isiE {a D : Addr} {d : Option Addr} {oe : Obj} {pn : List (Addr × Obj)} {x : Str} (hD : D = He.ga X.K x) (T : ExD X.K x) (hn : PySem.W.specialIn X.K (.builtin "object.__class__") "__get__" = some (some (.builtin "getset_descriptor.__get__")))
    (ht : PySem.W.takesIn X.K (.builtin "object.__class__") = some true) {cls : Value} (hz : Zc cls d oe) (hf : ∃ vs, oe.data = .fields vs) : CallR (X.suite a ((a, oe) :: pn)) (.builtin "isinstance")
      (fun xs H Q => ∃ (c : V) (cv : Value) (b : Bool), xs = [.ref a, c] ∧ cls = .ref D ∧ ClsV c cv ∧ PySem.W.kitOne X.K (.ref D) cv = some b ∧ (∃ dd fs, d = some dd ∧ H dd = some (.xd fs)) ∧ Q (.bl b) H) := by
  subst hD
  intro pins s σ H xs us Q I r h
  obtain ⟨c, cv, b, rfl, ec, hcv, e, ⟨dd, fs, ed, hdd⟩, q⟩ := h
  obtain ⟨u1, u2, rfl, r1, r2⟩ := vals2 r
  have e2 := hcv.eq r2
  subst e2
  cases r1
  obtain ⟨hget, _⟩ := I.pin (a, oe) (List.mem_append.mpr (.inl List.mem_cons_self))
  obtain ⟨vs, hv⟩ := hf
  subst ed ec
  obtain ⟨mA, ⟨od, es, ep, ho, _⟩, _⟩ := (show ObjOk X.prog X.w H s.heap dd (.xd fs) from I.hok dd _ hdd)
  have J : PySem.W.InstAt s.heap a oe (He.ga X.K x) (some od) := by
    obtain ⟨oc, odd, oda, osl⟩ := oe
    obtain ⟨h1, h2⟩ := hz
    dsimp only at h1 h2 hv
    subst h1 h2 hv
    exact ⟨hget, rfl, rfl, ho⟩
  exact PySem.W.kia_one (PySem.W.kitx_exc T.hcl T.ga T.gg T.o.exC T.ha hn ht T.hm) I.kIn J e (fun z => nomatch z) fun tk => ⟨.bl b, H, I.kept (t' := tk) fun _ _ z => z, rfl, q⟩
end
/-! ### the head's hook: any Bool over the written part, the defs -/
abbrev AlM : Type := Bool × List He.FnW
def obsM (ex : PySem.W.Frag → Bool) (fn : List He.DefD) (K : PySem.W.Frag) : AlM := (ex K && fn.all fun d => d.ok K, fn.map fun d => He.fnW K d.at_)
def SaysM (ex : PySem.W.Frag → Bool) (fn : List He.DefD) (K : PySem.W.Frag) : Prop := obsM ex fn K = (true, fn.map He.DefD.val)
def obsMG (n : Nat) (ex : PySem.W.Frag → Bool) (fn : List He.DefD) (g : Addr → Option Obj) : AlM := obsM ex fn (He.frG g (He.asD g n))
def hookM (n : Nat) (ex : PySem.W.Frag → Bool) (fn : List He.DefD) : PySem.W.Hook where
  α := AlM
  obs := fun s => obsMG n ex fn s.heap.get?
  val := fun _ => (true, fn.map He.DefD.val)
  says := fun _ h => ∃ K : PySem.W.Frag, K.In h ∧ SaysM ex fn K
  of := fun _ _ e => ⟨_, He.frG_in, e⟩
  keeps := fun _ _ _ ⟨K, hK, c⟩ k => ⟨K, PySem.W.Frag.In.keeps hK k, c⟩
theorem obsMG_eq {n : Nat} {ex : PySem.W.Frag → Bool} {fn : List He.DefD} {g : Addr → Option Obj} {s : Shared} (h : ∀ a, g a = s.heap.get? a) : obsMG n ex fn g = (hookM n ex fn).obs s := by
  have e : g = s.heap.get? := funext h
  rw [e]
  rfl
theorem SaysM.ex {ex : PySem.W.Frag → Bool} {fn : List He.DefD} {K : PySem.W.Frag} (c : SaysM ex fn K) : ex K = true := (He.ba (congrArg (fun z : AlM => z.1) c)).1
theorem SaysM.fn {ex : PySem.W.Frag → Bool} {fn : List He.DefD} {K : PySem.W.Frag} (c : SaysM ex fn K) (i : Nat) {d : He.DefD} (h : fn[i]? = some d := by rfl) : ∃ fd, FunD K d.name d.qual d.params d.body d.scope (d.dvs K) (d.kws K) (He.fAd K d.at_) fd := by
  have c2 := (He.ba (congrArg (fun z : AlM => z.1) c)).2
  have e : fn.map (fun d => He.fnW K d.at_) = fn.map He.DefD.val := congrArg (fun z : AlM => z.2) c
  have e2 : He.fnW K d.at_ = d.val := by
    have e3 : (fn.map fun d => He.fnW K d.at_)[i]? = (fn.map He.DefD.val)[i]? := by rw [e]
    simp only [List.getElem?_map, h, Option.map_some] at e3
    exact Option.some.inj e3
  exact He.DefD.funD e2 (List.all_eq_true.mp c2 d (List.mem_of_getElem? h))

end Vf

set_option Elab.async false
set_option linter.all false
set_option maxRecDepth 100000
set_option maxHeartbeats 2000000
namespace Vf
open PySem PySem.Spec PyProof.Rows L2
/-! ### Euclid's loop -/
def Eu (g B i x y : Nat) : Prop := Nat.gcd x y = g ∧ ((i % 2 = 0 ∧ y * 2 ^ (i / 2) ≤ B) ∨ (i % 2 = 1 ∧ y < x ∧ x * 2 ^ (i / 2) ≤ B))
theorem Eu.start (x y : Nat) : Eu (Nat.gcd x y) y 0 x y := ⟨rfl, .inl ⟨rfl, by simp⟩⟩
theorem Eu.step {g B i x y : Nat} (h : Eu g B i x y) (hy : y ≠ 0) : Eu g B (i + 1) y (x % y) := by
  obtain ⟨hg, h⟩ := h
  have hg2 : Nat.gcd y (x % y) = g := by
    rw [← hg, Nat.gcd_comm x y, Nat.gcd_rec y x, Nat.gcd_comm]
  have hlt : x % y < y := Nat.mod_lt x (by omega)
  refine ⟨hg2, ?_⟩
  rcases h with ⟨he, hb⟩ | ⟨ho, hxy, hb⟩
  · refine .inr ⟨by omega, hlt, ?_⟩
    have e : (i + 1) / 2 = i / 2 := by omega
    rw [e]
    exact hb
  · refine .inl ⟨by omega, ?_⟩
    have e : (i + 1) / 2 = i / 2 + 1 := by omega
    have hd := Nat.div_add_mod x y
    have h1 : 1 ≤ x / y := Nat.div_pos (by omega) (by omega)
    have h2 : y * 1 ≤ y * (x / y) := Nat.mul_le_mul_left y h1
    have h3 : 2 * (x % y) ≤ x := by omega
    rw [e, Nat.pow_succ]
    calc x % y * (2 ^ (i / 2) * 2) = (2 * (x % y)) * 2 ^ (i / 2) := by rw [Nat.mul_comm (2 ^ (i / 2)) 2, ← Nat.mul_assoc, Nat.mul_comm (x % y) 2]
      _ ≤ x * 2 ^ (i / 2) := Nat.mul_le_mul_right _ h3
      _ ≤ B := hb
theorem Eu.last {g B x y : Nat} (h : Eu g B 500 x y) (hB : B < 2 ^ 250) : x = g := by
  obtain ⟨hg, h⟩ := h
  rcases h with ⟨_, hb⟩ | ⟨ho, _⟩
  · have e : (500 : Nat) / 2 = 250 := rfl
    rw [e] at hb
    have hy : y = 0 := by
      rcases Nat.eq_zero_or_pos y with h0 | h0
      · exact h0
      · exfalso
        have : 1 * 2 ^ 250 ≤ y * 2 ^ 250 := Nat.mul_le_mul_right _ h0
        omega
    rw [hy, Nat.gcd_zero_right] at hg
    exact hg
  · omega
theorem Eu.zero {g B i x : Nat} (h : Eu g B i x 0) : x = g := by
  have hg := h.1
  rw [Nat.gcd_zero_right] at hg
  exact hg
/-! ### lowest terms -/
def nG (t b : Int) : Int := ((Nat.gcd t.natAbs b.natAbs : Nat) : Int)
def nC (t b : Int) : Int := if b < 0 then -(nG t b) else nG t b
def nT (t b : Int) : Int := t.fdiv (nC t b)
def nB (t b : Int) : Int := b.fdiv (nC t b)
/-- a and b are t over b' in lowest terms -/
structure Nf (a b : Int) : Prop where
  pos : 0 < b
  cop : Nat.gcd a.natAbs b.natAbs = 1
structure NfOf (t u a b : Int) : Prop extends Nf a b where
  eq : a * u = t * b
  le1 : a.natAbs ≤ t.natAbs
  le2 : b.natAbs ≤ u.natAbs
theorem nG_pos {t b : Int} (hb : b ≠ 0) : 0 < nG t b := by
  have : 0 < Nat.gcd t.natAbs b.natAbs := Nat.gcd_pos_of_pos_right _ (by omega)
  unfold nG
  omega
theorem nC_abs (t b : Int) : (nC t b).natAbs = Nat.gcd t.natAbs b.natAbs := by
  unfold nC nG
  split <;> omega
theorem nC_ne {t b : Int} (hb : b ≠ 0) : nC t b ≠ 0 := by
  have := nG_pos (t := t) hb
  unfold nC
  split <;> omega
theorem nC_dvd1 (t b : Int) : nC t b ∣ t := by
  rw [← Int.natAbs_dvd_natAbs, nC_abs]
  exact Nat.gcd_dvd_left _ _
theorem nC_dvd2 (t b : Int) : nC t b ∣ b := by
  rw [← Int.natAbs_dvd_natAbs, nC_abs]
  exact Nat.gcd_dvd_right _ _
theorem nT_mul (t b : Int) : nT t b * nC t b = t := Int.fdiv_mul_cancel (nC_dvd1 t b)
theorem nB_mul (t b : Int) : nB t b * nC t b = b := Int.fdiv_mul_cancel (nC_dvd2 t b)
theorem nf_of (t : Int) {b : Int} (hb : b ≠ 0) : NfOf t b (nT t b) (nB t b) := by
  have e1 := nT_mul t b
  have e2 := nB_mul t b
  have hc := nC_ne (t := t) hb
  have ga := nC_abs t b
  have g0 : 0 < Nat.gcd t.natAbs b.natAbs := Nat.gcd_pos_of_pos_right _ (by omega)
  have a1 : (nT t b).natAbs * Nat.gcd t.natAbs b.natAbs = t.natAbs := by rw [← ga, ← Int.natAbs_mul, e1]
  have a2 : (nB t b).natAbs * Nat.gcd t.natAbs b.natAbs = b.natAbs := by rw [← ga, ← Int.natAbs_mul, e2]
  refine ⟨⟨?_, ?_⟩, ?_, ?_, ?_⟩
  · rcases (show 0 < nB t b ∨ nB t b ≤ 0 by omega) with h | h
    · exact h
    · exfalso
      by_cases hn : b < 0
      · have hc2 : nC t b < 0 := by
          have := nG_pos (t := t) hb
          unfold nC
          rw [if_pos hn]
          omega
        have := Int.mul_nonneg_of_nonpos_of_nonpos h (Int.le_of_lt hc2)
        omega
      · have hc2 : 0 < nC t b := by
          have := nG_pos (t := t) hb
          unfold nC
          rw [if_neg hn]
          omega
        have := Int.mul_nonpos_of_nonpos_of_nonneg h (Int.le_of_lt hc2)
        omega
  · have h := Nat.gcd_mul_right (nT t b).natAbs (Nat.gcd t.natAbs b.natAbs) (nB t b).natAbs
    rw [a1, a2] at h
    have h2 : 1 * Nat.gcd t.natAbs b.natAbs = Nat.gcd (nT t b).natAbs (nB t b).natAbs * Nat.gcd t.natAbs b.natAbs := by rw [Nat.one_mul]; exact h
    exact (Nat.eq_of_mul_eq_mul_right g0 h2).symm
  · calc nT t b * b = nT t b * (nB t b * nC t b) := by rw [e2]
      _ = (nT t b * nC t b) * nB t b := by rw [Int.mul_comm (nB t b), Int.mul_assoc]
      _ = t * nB t b := by rw [e1]
  · calc (nT t b).natAbs = (nT t b).natAbs * 1 := by rw [Nat.mul_one]
      _ ≤ (nT t b).natAbs * Nat.gcd t.natAbs b.natAbs := Nat.mul_le_mul_left _ g0
      _ = t.natAbs := a1
  · calc (nB t b).natAbs = (nB t b).natAbs * 1 := by rw [Nat.mul_one]
      _ ≤ (nB t b).natAbs * Nat.gcd t.natAbs b.natAbs := Nat.mul_le_mul_left _ g0
      _ = b.natAbs := a2
/-- bits: below 2 ^ n -/
def Bit (n : Nat) (x : Int) : Prop := x.natAbs < 2 ^ n
theorem Bit.mono {n m : Nat} {x : Int} (h : Bit n x) (l : n ≤ m) : Bit m x := Nat.lt_of_lt_of_le h (Nat.pow_le_pow_right (by decide) l)
theorem Bit.le {n : Nat} {x y : Int} (h : Bit n y) (l : x.natAbs ≤ y.natAbs) : Bit n x := Nat.lt_of_le_of_lt l h
theorem Bit.mul {n m : Nat} {x y : Int} (h : Bit n x) (h' : Bit m y) : Bit (n + m) (x * y) := by
  unfold Bit
  rw [Int.natAbs_mul, Nat.pow_add]
  exact Nat.mul_lt_mul'' h h'
theorem Bit.add {n : Nat} {x y : Int} (h : Bit n x) (h' : Bit n y) : Bit (n + 1) (x + y) := by
  unfold Bit at *
  rw [Nat.pow_succ]
  omega
theorem Bit.sub {n : Nat} {x y : Int} (h : Bit n x) (h' : Bit n y) : Bit (n + 1) (x - y) := by
  unfold Bit at *
  rw [Nat.pow_succ]
  omega
theorem Bit.neg {n : Nat} {x : Int} (h : Bit n x) : Bit n (-x) := by
  unfold Bit at *
  omega
theorem Bit.log {n m : Nat} {x : Int} (h : Bit n x) (h0 : 0 < n) (hm : n ≤ m) : x.natAbs.log2 < m := Nat.lt_of_lt_of_le (PySem.Flt.log2_lt_of h0 h) hm
theorem Bit.wm {n m : Nat} {x y : Int} (h : Bit n x) (h' : Bit m y) (h0 : 0 < n) (h1 : 0 < m) (l : n + m ≤ 1000000) : CMulW x y := wide_mul h h' h0 h1 l
end Vf

set_option Elab.async false
set_option linter.all false
set_option maxRecDepth 100000
set_option maxHeartbeats 2000000
namespace Vf
open PySem PySem.Spec PyProof.Rows L2
section
open PySem.W PySem.Calls
variable {prog : Program} {w : World} {A : Around} {E : Value → Shared → Prop} {s : Shared} {K : Frag} {x C f f0 L : Addr} {h₀ : Heap} {m : Str → Option Value} {ox : Obj} {od : Option Obj} {nm : String}
/-- a slot of int that is handed an instance of the text's own declines -/
theorem int_no {n : Int} {t : Tok} {name : String} {g : Int → Int → Sem Fin} {refl : Bool} (hd : ox.data = .plain) (hx : s.heap.get? x = some ox) {Q : Fin → Shared → Prop}
    (h : Q (.done (.ret .notImplemented)) s) : wpAny (model prog w) A (PySem.Builtin.Int.intBinary name g refl ⟨[.int n t, .ref x], []⟩) Q E s := by
  obtain ⟨hp, gg, d, tk, os⟩ := s
  obtain ⟨oc, odd, oda, osl⟩ := ox
  dsimp only at hd
  subst hd
  unfold PySem.Builtin.Int.intBinary
  wp_walk using AutoSeq1.wpAny_loadPart' hx
  exact h
/-- B declines an instance of the text's own -/
def Declines (B : Builtin) : Prop := ∀ (prog : Program) (w : World) (A : Around) (E : Value → Shared → Prop) (s : Shared) (n : Int) (t : Tok) (x : Addr) (ox : Obj) (Q : Fin → Shared → Prop), ox.data = .plain → s.heap.get? x = some ox → Q (.done (.ret .notImplemented)) s → wpAny (model prog w) A (B ⟨[.int n t, .ref x], []⟩) Q E s
theorem decl_bin (name : String) (g : Int → Int → Sem Fin) (r : Bool) : Declines (PySem.Builtin.Int.intBinary name g r) := fun _ _ _ _ _ _ _ _ _ _ hd hx h => int_no hd hx h
theorem decl_fdv : Declines PySem.Builtin.«int.__floordiv__» := fun prog w A E s n t x ox Q hd hx h => by
  obtain ⟨hp, gg, d, tk, os⟩ := s
  obtain ⟨oc, odd, oda, osl⟩ := ox
  dsimp only at hd
  subst hd
  unfold PySem.Builtin.«int.__floordiv__» PySem.Builtin.exactOperandsForPylong
  have k := fun g => int_no (prog := prog) (w := w) (A := A) (E := E) (n := n) (t := t) (name := "__floordiv__") (g := g) (refl := false) (s := ⟨hp, gg, d, tk, os⟩) rfl hx h
  wp_walk using AutoSeq1.wpAny_loadPart' hx
  all_goals first | exact k _ | exact h
/-- n op x, n an int, x an instance of the text's own: int's slot declines, the reflected one of x's class is asked -/
theorem bin_int_own {op : Operator} {n : Int} {t : Tok} {id : String} {B : Builtin} {Q : Value → Shared → Prop} (X : K.In s.heap) (I : InstAt s.heap x ox C od) (hp : ox.data = .plain) (hc : selfFirst K C = true)
    (hs : findIn K (.ref C) (PySem.dunder op.info.2) = some (some (.ref f0))) (hr : findIn K (.ref C) (dunderR op.info.2) = some (some (.ref f))) (hf : isFn K (.ref f) = true) (hm : mroIn K C (.type "int") = some false)
    (hfT : fillsNumberSlot (.type "int") op.info.2 = pure true) (slot : Slot "int" (PySem.dunder op.info.2) id) (entry : entryFor table id = some B) (ha : argsOk id ⟨[.int n t, .ref x], []⟩)
    (hB : Declines B)
    (h : wpAny (model prog w) A (call (.ref f) [.ref x, .int n t]) (PySem.W.CmpBack Q) E s) : wpAny (model prog w) A (binaryOp op (.int n t) (.ref x)) Q E s := by
  obtain ⟨cd, rest, hcd, hmro⟩ := ksp_first hc
  rcases hi : op.info with ⟨sym, nm'⟩
  rw [hi] at hs hr slot hfT
  dsimp only at hs hr slot hfT
  have one := ksp_try X I hr hf h
  have two : wpAny (model prog w) A (tryMethod (.int n t) (PySem.dunder nm') (.ref x)) (fun r s' => r = none ∧ s' = s) E s :=
    wpAny_tryMethod_declines (typeIs_int s n t) slot (wpAny_call_entry slot (typeIs_int s n t) entry (hB _ _ _ _ _ _ _ _ _ _ hp I.at_ ⟨_, rfl, rfl, rfl, rfl⟩) ha)
  obtain ⟨hh, gg, d, tt, os⟩ := s
  have L1 : Looks (model prog w) hh (typeOf (.int n t)) (.type "int") := Looks.of_pure rfl
  have L2 : Looks (model prog w) hh (typeOf (.ref x)) (.ref C) := I.type
  have L3 : Looks (model prog w) hh (fillsNumberSlot (.type "int") nm') true := Looks.of_pure hfT
  have L4 : Looks (model prog w) hh (fillsNumberSlot (.ref C) nm') true := fills_K X hcd hmro hs
  have L5 : Looks (model prog w) hh (isSubtype (.ref C) (.type "int")) false := looks_mroIn X hm
  have L6 : Looks (model prog w) hh (numberSlotInPython (.type "int") nm') false := Looks.of_pure rfl
  have hne : (Value.type "int" == Value.ref C) = false := Bool.eq_false_iff.mpr fun q => by cases beq_iff_eq.mp q
  simp only [binaryOp, hi]
  refine wpAny_holding (wpAny_bind ?_)
  unfold binaryOp1
  refine wpAny_bind (L1.at (wpAny_bind (L2.at (wpAny_bind (L3.at ?_)))))
  simp only [hne, Bool.false_eq_true, if_false]
  ksp_lk
  refine wpAny_mono two (fun r s' hr' => ?_) fun _ _ e => e
  obtain ⟨rfl, rfl⟩ := hr'
  ksp_lk
  refine wpAny_mono one (fun r s' hr' => ?_) fun _ _ e => e
  obtain ⟨v, rfl, hq⟩ := hr'
  ksp_lk
  exact hq
/-- n ? x for a comparison: int's slot declines, the swapped one of x's class is asked -/
theorem cmp_int_own {op : CmpOp} {n : Int} {t : Tok} {id : String} {B : Builtin} {Q : Value → Shared → Prop} (hu : A.units < cLine) (X : K.In s.heap) (I : InstAt s.heap x ox C od) (hp : ox.data = .plain)
    (hr : findIn K (.ref C) (cmpInfo op).2.2 = some (some (.ref f))) (hf : isFn K (.ref f) = true) (hm : mroIn K C (.type "int") = some false)
    (slot : Slot "int" (cmpInfo op).2.1 id) (entry : entryFor table id = some B) (ha : argsOk id ⟨[.int n t, .ref x], []⟩) (hB : Declines B)
    (h : wpAny (model prog w) A (call (.ref f) [.ref x, .int n t]) (PySem.W.CmpBack Q) E s) : wpAny (model prog w) A (richCompare op (.int n t) (.ref x)) Q E s := by
  have one : wpAny (model prog w) A (tryCompare (.ref x) (cmpInfo op).2.2 (.int n t)) (fun r s' => ∃ v, r = some v ∧ Q v s') E s := by
    unfold tryCompare
    refine wpAny_bind (ifBound_K X I hr hf (wpAny_mono h (fun v s' hv => ?_) fun _ _ e => e))
    cases v <;> first | exact hv.elim | exact wpAny_pure ⟨_, rfl, hv⟩
  have two : wpAny (model prog w) A (tryCompare (.int n t) (cmpInfo op).2.1 (.ref x)) (fun r s' => r = none ∧ s' = s) E s :=
    wpAny_tryCompare_declines (typeIs_int s n t) slot (wpAny_call_entry slot (typeIs_int s n t) entry (hB _ _ _ _ _ _ _ _ _ _ hp I.at_ ⟨_, rfl, rfl, rfl, rfl⟩) ha)
  have ot : oneThing? op (.int n t) (.ref x) = none := rfl
  have hne : (Value.type "int" != Value.ref C) = true := bne_iff_ne.mpr fun q => by cases q
  unfold richCompare
  simp only [ot]
  refine wpAny_holding (wpAny_bind (wpAny_cRoomFor hu ?_))
  refine wpAny_bind ((Looks.of_pure rfl : Looks (model prog w) s.heap (typeOf (.int n t)) (.type "int")).here (wpAny_bind (I.type.here ?_)))
  simp only [hne, if_true]
  refine wpAny_bind ((looks_mroIn X hm).here ?_)
  simp only [Bool.false_eq_true, if_false]
  refine wpAny_bind (wpAny_mono two (fun r s' z => ?_) fun _ _ e => e)
  obtain ⟨rfl, rfl⟩ := z
  simp only [Bool.not_false, if_true]
  refine wpAny_bind (wpAny_mono one (fun r s' z => ?_) fun _ _ e => e)
  obtain ⟨v, rfl, hq⟩ := z
  exact wpAny_pure hq
end
/-! ### readings over the layer -/
section
variable {X : Cx} {CX : CXT} {k j : Nat} {C : Addr} {cn m : Str} {ps : List Str} {sp : Sp} {E : XK}
theorem back_of {pins : List (Addr × Obj)} {σ : L2.St} {Q : VK} {u : Value} {s' : Shared} (h : EP X pins σ Q u s') : PySem.W.CmpBack (EP X pins σ Q) u s' := by
  obtain ⟨v, H', I, r, q⟩ := id h
  cases v with
  | non => cases (show u = Value.none from r); exact h
  | bl b => cases (show u = Value.bool b from r); exact h
  | int i => obtain ⟨t, e⟩ := (show ∃ t, u = Value.int i t from r); cases e; exact h
  | str z => obtain ⟨t, e⟩ := (show ∃ t, u = Value.str z t from r); cases e; exact h
  | byt z => obtain ⟨t, e⟩ := (show ∃ t, u = Value.bytes z t from r); cases e; exact h
  | flt z => obtain ⟨t, e⟩ := (show ∃ t, u = Value.float z t from r); cases e; exact h
  | ref a => cases (show u = Value.ref a from r); exact h
  | ty n => cases (show u = Value.type n from r); exact h
/-- a method of the text's own asked by the machine, at the running body's own depth -/
theorem run_own {f : Addr} {fd : FuncData} {pins : List (Addr × Obj)} {σ : L2.St} {H : Hp} {s : Shared} {Q : VK} {us : List Value} {vs : List V} (F : FnOk X.prog X.w X.K X.mg X.base CX k f fd ps sp) (hr : Room k X.A) (hb : L2.Binds X.K fd ps []) (hx : Passes CX X E)
    (I : L2.Inv X pins σ H s) (r : Vals vs us) (h : sp vs H Q E) : wpAny (model X.prog X.w) X.A (call (.ref f) us) (PySem.W.CmpBack (EP X pins σ Q)) X.xe s :=
  wpAny_mono (run_fn F hr hb .nil hx I r (by rw [List.append_nil]; exact h)) (fun _ _ z => back_of z) fun _ _ z => z
/-- o op p, both of the class at C -/
def rOO (C : Addr) (sp : Sp) (E : XK) : R2 := fun x y H Q => ∃ a b dx dy fs gs, x = .ref a ∧ y = .ref b ∧ H a = some (.ins C dx fs) ∧ H b = some (.ins C dy gs) ∧ sp [x, y] H Q E
/-- o op n, n an int -/
def rOI (C : Addr) (sp : Sp) (E : XK) : R2 := fun x y H Q => ∃ a n dx fs, x = .ref a ∧ y = .int n ∧ H a = some (.ins C dx fs) ∧ sp [x, y] H Q E
/-- n op o, n an int: the reflected method -/
def rIO (C : Addr) (sp : Sp) (E : XK) : R2 := fun x y H Q => ∃ n b dx fs, x = .int n ∧ y = .ref b ∧ H b = some (.ins C dx fs) ∧ sp [y, x] H Q E
theorem op_oo {op : Operator} (hd : PySem.dunder op.info.2 = m) (M : Meth X.K C m (He.fAd X.K (cn, some m))) (hc : PySem.W.selfFirst X.K C = true) (O : OkD X.prog X.w X.K X.mg X.base CX k (cn, some m) ps [] sp) (hr : Room j X.A) (hj : k ≤ j) (hx : Passes CX X E) : OpR X (binaryOp op) (rOO C sp E) := by
  obtain ⟨fd, ds, F, b, v⟩ := O.ex
  cases v
  intro pins s σ H x y v u Q I rx ry h
  obtain ⟨a, b', dx, dy, fs, gs, rfl, rfl, ha, hb, hsp⟩ := h
  cases rx
  cases ry
  obtain ⟨mA, J, _⟩ := ins_get I.hok ha
  obtain ⟨mB, J', _⟩ := ins_get I.hok hb
  obtain ⟨od, J, _⟩ := J.look
  obtain ⟨od', J', _⟩ := J'.look
  obtain ⟨mm, hF⟩ := I.fr
  exact PySem.W.binop_K hF I.ok.mod.kin J J'.type hc (by rw [hd]; exact M.at_) M.fn (run_own (vs := [V.ref a, V.ref b']) F (hr.mono hj) b hx I (.cons rfl (.cons rfl .nil)) hsp)
theorem op_oi {op : Operator} {fo ro rc : Option Value} (hd : PySem.dunder op.info.2 = m) (M : Meth X.K C m (He.fAd X.K (cn, some m))) (hc : PySem.W.selfFirst X.K C = true) (h2 : PySem.W.findIn X.K (.ref C) (dunderR op.info.2) = some rc) (hp : rc = none ∨ ∃ g : Addr, rc = some (.ref g))
    (h3 : PySem.W.findIn X.K (.type "int") (PySem.dunder op.info.2) = some fo) (h4 : PySem.W.findIn X.K (.type "int") (dunderR op.info.2) = some ro) (h5 : PySem.W.subIn X.K (.type "int") (.ref C) = some false)
    (O : OkD X.prog X.w X.K X.mg X.base CX k (cn, some m) ps [] sp) (hr : Room j X.A) (hj : k ≤ j) (hx : Passes CX X E) : OpR X (binaryOp op) (rOI C sp E) := by
  obtain ⟨fd, ds, F, b, v⟩ := O.ex
  cases v
  intro pins s σ H x y v u Q I rx ry h
  obtain ⟨a, n, dx, fs, rfl, rfl, ha, hsp⟩ := h
  cases rx
  obtain ⟨t, rfl⟩ := ry
  obtain ⟨mA, J, _⟩ := ins_get I.hok ha
  obtain ⟨od, J, _⟩ := J.look
  obtain ⟨mm, hF⟩ := I.fr
  exact PySem.W.ksp_binT hF I.ok.mod.kin J rfl hc (by rw [hd]; exact M.at_) M.fn h2 hp h3 h4 h5 (run_own (vs := [V.ref a, V.int n]) F (hr.mono hj) b hx I (.cons rfl (.cons ⟨t, rfl⟩ .nil)) hsp)
theorem op_io {op : Operator} {f0 : Addr} {id : String} {B : Builtin} (hd : dunderR op.info.2 = m) (M : Meth X.K C m (He.fAd X.K (cn, some m))) (hc : PySem.W.selfFirst X.K C = true) (h2 : PySem.W.findIn X.K (.ref C) (PySem.dunder op.info.2) = some (some (.ref f0))) (hm : PySem.W.mroIn X.K C (.type "int") = some false)
    (hfT : fillsNumberSlot (.type "int") op.info.2 = pure true) (slot : Slot "int" (PySem.dunder op.info.2) id) (entry : entryFor table id = some B) (ha : ∀ a b, argsOk id ⟨[a, b], []⟩) (hB : Declines B)
    (O : OkD X.prog X.w X.K X.mg X.base CX k (cn, some m) ps [] sp) (hr : Room j X.A) (hj : k ≤ j) (hx : Passes CX X E) : OpR X (binaryOp op) (rIO C sp E) := by
  obtain ⟨fd, ds, F, b, v⟩ := O.ex
  cases v
  intro pins s σ H x y v u Q I rx ry h
  obtain ⟨n, b', dx, fs, rfl, rfl, hb, hsp⟩ := h
  obtain ⟨t, rfl⟩ := rx
  cases ry
  obtain ⟨mA, J, _⟩ := ins_get I.hok hb
  obtain ⟨od, J, _⟩ := J.look
  exact bin_int_own I.kIn J rfl hc h2 (by rw [hd]; exact M.at_) M.fn hm hfT slot entry (ha _ _) hB (run_own (vs := [V.ref b', V.int n]) F (hr.mono hj) b hx I (.cons rfl (.cons ⟨t, rfl⟩ .nil)) hsp)
/-- -o -/
def rUO (C : Addr) (sp : Sp) (E : XK) : V → Hp → VK → Prop := fun x H Q => ∃ a dx fs, x = .ref a ∧ H a = some (.ins C dx fs) ∧ sp [x] H Q E
theorem un_negO (M : Meth X.K C "__neg__" (He.fAd X.K (cn, some "__neg__"))) (O : OkD X.prog X.w X.K X.mg X.base CX k (cn, some "__neg__") ps [] sp) (hr : Room j X.A) (hj : k ≤ j) (hx : Passes CX X E) : UnR X (unaryOp .USub) (rUO C sp E) := by
  obtain ⟨fd, ds, F, b, v⟩ := O.ex
  cases v
  intro pins s σ H x v Q I rx h
  obtain ⟨a, dx, fs, rfl, ha, hsp⟩ := h
  cases rx
  obtain ⟨mA, J, _⟩ := ins_get I.hok ha
  obtain ⟨od, J, _⟩ := J.look
  obtain ⟨mm, hF⟩ := I.fr
  exact PySem.W.ksp_neg hF I.ok.mod.kin J M.at_ M.fn (run_fn (vs := [V.ref a]) F (hr.mono hj) b .nil hx I (.cons rfl .nil) hsp)
/-- abs(o) -/
def rAbsO (C : Addr) (sp : Sp) : List V → Hp → VK → Prop := fun xs H Q => ∃ a dx fs, xs = [.ref a] ∧ H a = some (.ins C dx fs) ∧ sp xs H Q fun _ _ _ => False
theorem call_absO (M : Meth X.K C "__abs__" (He.fAd X.K (cn, some "__abs__"))) (O : OkD X.prog X.w X.K X.mg X.base CX0 k (cn, some "__abs__") ps [] sp) (hr : Room j X.A) (hj : k + 2 ≤ j) : CallR X (.builtin "abs") (rAbsO C sp) := by
  obtain ⟨fd, ds, F, b, v⟩ := O.ex
  cases v
  intro pins s σ H xs us Q I r h
  obtain ⟨a, dx, fs, rfl, ha, hsp⟩ := h
  obtain ⟨u, rfl, ru⟩ : ∃ u, us = [u] ∧ RelV (.ref a) u := by
    cases r with
    | cons p q => cases q; exact ⟨_, rfl, p⟩
  cases ru
  obtain ⟨mA, J, _⟩ := ins_get I.hok ha
  obtain ⟨od, J, _⟩ := J.look
  have hr2 : Room (k + 1) X.A.in1 := (hr.mono hj).in1
  have hr3 : Room k X.A.in1 := hr2.mono (by omega)
  have hl := F.len _ _ _ _ hsp
  have hb := b s [.ref a] I.kIn (by simpa using hl)
  simp only [List.append_nil] at hb
  refine PySem.Calls.call_function_entry PyProof.Rows.kind_abs PyProof.Rows.plain_abs PyProof.Rows.entry_abs (PyProof.Rows.args_abs _) ?_
  unfold PySem.Builtin.«abs»
  refine wpAny_bind (wpAny_pure ?_)
  refine wpAny_bind (m := callSpecial? (.ref a) (Str.ofString "__abs__")) (PySem.W.special_fn I.kIn J M.at_ (beq_iff_eq.mp M.fn) ?_)
  refine wpAny_call (codeAny_mono (F.run X.A.in1 X.stack s H ⟨[.ref a], []⟩ [.ref a] [.ref a] _ _ hr3 I.env0.in1 hb (.cons rfl .nil) hsp) fun r s' hq => ?_)
  cases r with
  | error e => exact hq.elim
  | ok fl =>
    cases fl with
    | ret w => exact wpAny_pure ⟨_, rfl, I.after hq⟩
    | next => exact False.elim hq
    | brk => exact False.elim hq
    | cont => exact False.elim hq
/-- comparisons -/
theorem cmp_oo {op : CmpOp} (hd : (cmpInfo op).2.1 = m) (hop : compareOp op = richCompare op) (M : Meth X.K C m (He.fAd X.K (cn, some m))) (O : OkD X.prog X.w X.K X.mg X.base CX k (cn, some m) ps [] sp) (hr : Room j X.A) (hj : k ≤ j) (hx : Passes CX X E) : OpR X (compareOp op) (rOO C sp E) := by
  obtain ⟨fd, ds, F, b, v⟩ := O.ex
  cases v
  intro pins s σ H x y v u Q I rx ry h
  obtain ⟨a, b', dx, dy, fs, gs, rfl, rfl, ha, hb, hsp⟩ := h
  cases rx
  cases ry
  obtain ⟨mA, J, _⟩ := ins_get I.hok ha
  obtain ⟨mB, J', _⟩ := ins_get I.hok hb
  obtain ⟨od, J, _⟩ := J.look
  obtain ⟨od', J', _⟩ := J'.look
  obtain ⟨mm, hF⟩ := I.fr
  rw [hop]
  exact PySem.W.cmp_K (tb := .ref C) hr.units0 hF I.ok.mod.kin J J'.type (by simp [PySem.W.notFirst]) (by rw [hd]; exact M.at_) M.fn (run_own (vs := [V.ref a, V.ref b']) F (hr.mono hj) b hx I (.cons rfl (.cons rfl .nil)) hsp)
theorem cmp_oi {op : CmpOp} (hd : (cmpInfo op).2.1 = m) (hop : compareOp op = richCompare op) (M : Meth X.K C m (He.fAd X.K (cn, some m))) (h5 : PySem.W.subIn X.K (.type "int") (.ref C) = some false)
    (O : OkD X.prog X.w X.K X.mg X.base CX k (cn, some m) ps [] sp) (hr : Room j X.A) (hj : k ≤ j) (hx : Passes CX X E) : OpR X (compareOp op) (rOI C sp E) := by
  obtain ⟨fd, ds, F, b, v⟩ := O.ex
  cases v
  intro pins s σ H x y v u Q I rx ry h
  obtain ⟨a, n, dx, fs, rfl, rfl, ha, hsp⟩ := h
  cases rx
  obtain ⟨t, rfl⟩ := ry
  obtain ⟨mA, J, _⟩ := ins_get I.hok ha
  obtain ⟨od, J, _⟩ := J.look
  obtain ⟨mm, hF⟩ := I.fr
  rw [hop]
  exact PySem.W.cmp_K (tb := .type "int") hr.units0 hF I.ok.mod.kin J (PySem.W.Looks.of_pure rfl) (by unfold PySem.W.notFirst; rw [h5]; simp) (by rw [hd]; exact M.at_) M.fn (run_own (vs := [V.ref a, V.int n]) F (hr.mono hj) b hx I (.cons rfl (.cons ⟨t, rfl⟩ .nil)) hsp)
theorem cmp_io {op : CmpOp} {id : String} {B : Builtin} (hd : (cmpInfo op).2.2 = m) (hop : compareOp op = richCompare op) (M : Meth X.K C m (He.fAd X.K (cn, some m))) (hm : PySem.W.mroIn X.K C (.type "int") = some false)
    (slot : Slot "int" (cmpInfo op).2.1 id) (entry : entryFor table id = some B) (ha : ∀ a b, argsOk id ⟨[a, b], []⟩) (hB : Declines B)
    (O : OkD X.prog X.w X.K X.mg X.base CX k (cn, some m) ps [] sp) (hr : Room j X.A) (hj : k ≤ j) (hx : Passes CX X E) : OpR X (compareOp op) (rIO C sp E) := by
  obtain ⟨fd, ds, F, b, v⟩ := O.ex
  cases v
  intro pins s σ H x y v u Q I rx ry h
  obtain ⟨n, b', dx, fs, rfl, rfl, hb, hsp⟩ := h
  obtain ⟨t, rfl⟩ := rx
  cases ry
  obtain ⟨mA, J, _⟩ := ins_get I.hok hb
  obtain ⟨od, J, _⟩ := J.look
  rw [hop]
  exact cmp_int_own hr.units0 I.kIn J rfl (by rw [hd]; exact M.at_) M.fn hm slot entry (ha _ _) hB (run_own (vs := [V.ref b', V.int n]) F (hr.mono hj) b hx I (.cons rfl (.cons ⟨t, rfl⟩ .nil)) hsp)
end
end Vf

set_option Elab.async false
set_option linter.all false
set_option maxRecDepth 100000
set_option maxHeartbeats 2000000
namespace Vf
open PySem PySem.Spec PyProof.Rows L2
section
variable {X : Cx} {C : Addr} {bmB : List Value} {B newId initId : String}
/-- X(), X an error of the text's own without an __init__ -/
theorem pmk_own0 {x : Str} {p pos : Pos} (F : ExcBaseFacts B newId initId bmB) (q : PySem.W.excIn X.K C bmB newId = true) (gC : X.mg x = some (.ref C)) (kC : PySem.W.keepIn X.K (.ref C) = true) (r : Raises X (.ref C)) (hg : Gl X x)
    (hdb : (x == ("__debug__" : Str)) = false := by decide) : PMk X (.Call (.Name x p) [] [] pos) (fun _ H Q => Q (.ref C) none H) := by
  intro pins s σ H Q I h
  refine wpAny_Call_Name_kw (ld_glob I hg gC ?_ hdb)
  refine PySem.W.callWith_K0 I.kIn kC ?_
  obtain ⟨_, _, _, _, _, _, _, _, _, _, _, _, _, _, _, _, _, hC, hN, hni, T⟩ := exc_obj I.kIn q
  show wpAny _ _ (call (.ref C) []) _ _ _
  exact wpAny_call_exc_subT F T hC hN hni (fun h' e hm => L2.mk_of I hm r h (I.hok.gone hm.new)) (Nat.zero_le _)
end
theorem c_raise0 {X : Cx} {x : Str} {p pos pos2 : Pos} {W : WX} (c : (He.Fa.exc x).ok X.K = true) (hm : X.mg x = some (.ref (He.ga X.K x))) (tk : Takes X W) (hc : X.calm = true := by rfl) (hg : Gl X x := by rfl) (hdb : (x == ("__debug__" : Str)) = false := by decide) :
    PS X (.Raise (some (.Call (.Name x p) [] [] pos)) none pos2) (fun _ σ H => W (.ref (He.ga X.K x)) none σ H) := by
  obtain ⟨h1, h2, h3, h4⟩ := He.exc_ok c
  exact ps_raise hc tk (pmk_own0 PySem.F.excBase_ValueError h1 hm h2 (raises_own h3 h4) hg hdb)
theorem passX {X : Cx} {E : XK} (tk : Takes X (fun cls d _ H => E cls d H)) : Passes (L2.CX X.prog X.w) X E := passes_call tk fun _ _ _ _ h => h
theorem opr_or {X : Cx} {f : Value → Value → Sem Value} {r1 r2 : R2} (h1 : OpR X f r1) (h2 : OpR X f r2) : OpR X f (fun x y H Q => r1 x y H Q ∨ r2 x y H Q) := fun pins s σ H x y v u Q I rx ry h => by
  rcases h with h | h
  · exact h1 pins s σ H x y v u Q I rx ry h
  · exact h2 pins s σ H x y v u Q I rx ry h
section
variable (K : PySem.W.Frag)
theorem int_add : PySem.W.findIn K (.type "int") (PySem.dunder "add") = some (some (.builtin "int.__add__")) := by kernel_rfl
theorem int_sub : PySem.W.findIn K (.type "int") (PySem.dunder "sub") = some (some (.builtin "int.__sub__")) := by kernel_rfl
theorem int_mul : PySem.W.findIn K (.type "int") (PySem.dunder "mul") = some (some (.builtin "int.__mul__")) := by kernel_rfl
theorem int_fdv : PySem.W.findIn K (.type "int") (PySem.dunder "floordiv") = some (some (.builtin "int.__floordiv__")) := by kernel_rfl
theorem int_radd : PySem.W.findIn K (.type "int") (dunderR "add") = some (some (.builtin "int.__radd__")) := by kernel_rfl
theorem int_rsub : PySem.W.findIn K (.type "int") (dunderR "sub") = some (some (.builtin "int.__rsub__")) := by kernel_rfl
theorem int_rmul : PySem.W.findIn K (.type "int") (dunderR "mul") = some (some (.builtin "int.__rmul__")) := by kernel_rfl
theorem int_rfdv : PySem.W.findIn K (.type "int") (dunderR "floordiv") = some (some (.builtin "int.__rfloordiv__")) := by kernel_rfl
end
end Vf

set_option Elab.async false
set_option linter.all false
set_option maxRecDepth 100000
set_option maxHeartbeats 2000000
namespace Vf
open PySem PySem.Spec PyProof.Rows L2
section
open PySem.W PySem.Calls
variable {prog : Program} {w : World} {A : Around} {E : Value → Shared → Prop} {s : Shared} {K : Frag} {x C f L : Addr} {h₀ : Heap} {m : Str → Option Value} {ox : Obj} {od : Option Obj}
/-- x, an instance of the text's own, is of no built-in type T -/
theorem inst_not {T : String} {Q : Bool → Shared → Prop} (X : K.In s.heap) (I : InstAt s.heap x ox C od) (hm : mroIn K C (.type T) = some false) (h : Q false s) : wpAny (model prog w) A (isInstance (.ref x) (.type T)) Q E s := by
  unfold isInstance
  exact wpAny_bind (I.type.here ((looks_mroIn X hm).here h))
theorem eq_no_none {Q : Fin → Shared → Prop} (h : Q (.done (.ret .notImplemented)) s) : wpAny (model prog w) A (PySem.Builtin.«NoneType.__eq__» ⟨[.none, .ref x], []⟩) Q E s := by
  unfold PySem.Builtin.«NoneType.__eq__»
  wp_walk
  exact h
theorem eq_no_int {n : Value} (hn : (∃ b, n = .bool b) ∨ ∃ i t, n = .int i t) (hd : ox.data = .plain) (hx : s.heap.get? x = some ox) {Q : Fin → Shared → Prop} (h : Q (.done (.ret .notImplemented)) s) : wpAny (model prog w) A (PySem.Builtin.«int.__eq__» ⟨[n, .ref x], []⟩) Q E s := by
  obtain ⟨hp, gg, d, tk, os⟩ := s
  obtain ⟨oc, odd, oda, osl⟩ := ox
  dsimp only at hd
  subst hd
  rcases hn with ⟨b, rfl⟩ | ⟨i, t, rfl⟩
  · wp_walk using AutoSeq1.wpAny_loadPart' hx
    exact h
  · wp_walk using AutoSeq1.wpAny_loadPart' hx
    exact h
theorem eq_no_str {z : Str} {t : Tok} (hd : ox.data = .plain) (hx : s.heap.get? x = some ox) {Q : Fin → Shared → Prop} (h : Q (.done (.ret .notImplemented)) s) : wpAny (model prog w) A (PySem.Builtin.«str.__eq__» ⟨[.str z t, .ref x], []⟩) Q E s := by
  obtain ⟨hp, gg, d, tk, os⟩ := s
  obtain ⟨oc, odd, oda, osl⟩ := ox
  dsimp only at hd
  subst hd
  wp_walk using AutoSeq1.wpAny_loadPart' hx
  exact h
theorem eq_no_tup {a : Addr} (X : K.In s.heap) (I : InstAt s.heap x ox C od) (hm : mroIn K C (.type "tuple") = some false) {Q : Fin → Shared → Prop} (h : Q (.done (.ret .notImplemented)) s) : wpAny (model prog w) A (PySem.Builtin.«tuple.__eq__» ⟨[.ref a, .ref x], []⟩) Q E s := by
  wp_walk using inst_not X I hm
  exact h
theorem eq_no_lst {a : Addr} (X : K.In s.heap) (I : InstAt s.heap x ox C od) (hm : mroIn K C (.type "list") = some false) {Q : Fin → Shared → Prop} (h : Q (.done (.ret .notImplemented)) s) : wpAny (model prog w) A (PySem.Builtin.«list.__eq__» ⟨[.ref a, .ref x], []⟩) Q E s := by
  wp_walk using inst_not X I hm
  exact h
theorem eq_no_dic {a : Addr} {oa : Obj} (ha : s.heap.get? a = some oa) (X : K.In s.heap) (I : InstAt s.heap x ox C od) (hm : mroIn K C (.type "dict") = some false) {Q : Fin → Shared → Prop} (h : Q (.done (.ret .notImplemented)) s) : wpAny (model prog w) A (PySem.Builtin.«dict.__eq__» ⟨[.ref a, .ref x], []⟩) Q E s := by
  wp_walk using inst_not X I hm
  exact h
/-- v == x: v's slot declines, x's own is asked -/
theorem eq_any_own {v : Value} {T id : String} {B : Builtin} {Q : Value → Shared → Prop} (hT : s.TypeIs v T) (hu : A.units < cLine) (X : K.In s.heap) (I : InstAt s.heap x ox C od)
    (hr : findIn K (.ref C) "__eq__" = some (some (.ref f))) (hf : isFn K (.ref f) = true) (hm : mroIn K C (.type T) = some false)
    (slot : Slot T (cmpInfo .Eq).2.1 id) (entry : entryFor table id = some B) (ha : argsOk id ⟨[v, .ref x], []⟩) (hB : ∀ Q : Fin → Shared → Prop, Q (.done (.ret .notImplemented)) s → wpAny (model prog w) A.in1 (B ⟨[v, .ref x], []⟩) Q E s)
    (h : wpAny (model prog w) A (call (.ref f) [.ref x, v]) (PySem.W.CmpBack Q) E s) : wpAny (model prog w) A (richCompare .Eq v (.ref x)) Q E s := by
  have one : wpAny (model prog w) A (tryCompare (.ref x) "__eq__" v) (fun r s' => ∃ z, r = some z ∧ Q z s') E s := by
    unfold tryCompare
    refine wpAny_bind (ifBound_K X I hr hf (wpAny_mono h (fun z s' hv => ?_) fun _ _ e => e))
    cases z <;> first | exact hv.elim | exact wpAny_pure ⟨_, rfl, hv⟩
  have two : wpAny (model prog w) A (tryCompare v (cmpInfo .Eq).2.1 (.ref x)) (fun r s' => r = none ∧ s' = s) E s :=
    wpAny_tryCompare_declines hT slot (wpAny_call_entry slot hT entry (hB _ ⟨_, rfl, rfl, rfl, rfl⟩) ha)
  have hne : (Value.type T != Value.ref C) = true := bne_iff_ne.mpr fun q => by cases q
  unfold richCompare
  simp only [hT.oneThing_none]
  refine wpAny_holding (wpAny_bind (wpAny_cRoomFor hu ?_))
  refine wpAny_bind (wpAny_typeOf hT (wpAny_bind (I.type.here ?_)))
  simp only [hne, if_true]
  refine wpAny_bind ((looks_mroIn X hm).here ?_)
  simp only [Bool.false_eq_true, if_false]
  refine wpAny_bind (wpAny_mono two (fun r s' z => ?_) fun _ _ e => e)
  obtain ⟨rfl, rfl⟩ := z
  simp only [Bool.not_false, if_true]
  refine wpAny_bind (wpAny_mono one (fun r s' z => ?_) fun _ _ e => e)
  obtain ⟨z, rfl, hq⟩ := z
  exact wpAny_pure hq
theorem sub_not {n : String} {l : List Value} (e : fastBuiltinMro n = some l) (h : ∀ a, l.contains (.ref a) = false) : subIn K (.type n) (.ref C) = some false := by
  show (fastBuiltinMro n).map (·.contains (.ref C)) = some false
  rw [e, Option.map_some, h]
end
theorem looks_ty {M : Model} {s : Shared} {u : Value} {n : String} (h : s.TypeIs u n) : PySem.W.Looks M s.heap (typeOf u) (.type n) := fun A Q E s' k q => by
  refine wpAny_typeOf (T := n) ?_ q
  cases u with
  | ref a =>
    obtain ⟨o, h1, h2⟩ := h
    exact ⟨o, k _ _ h1, h2⟩
  | _ => exact h
/-! ### odd values beside an own object -/
def oddK : List String := ["bool", "NoneType", "str", "tuple", "list", "dict"]
section
variable {X : Cx} {CX : CXT} {k j : Nat} {C : Addr} {cn m : Str} {ps : List Str} {sp : Sp} {E : XK}
/-- a built-in type none of our classes is over, nor they over it -/
theorem odd_is {pins : List (Addr × Obj)} {s : Shared} {σ : L2.St} {H : Hp} {x : V} {u : Value} (I : L2.Inv X pins σ H s) (o : Odd H x) (r : RelV x u) :
    ∃ n ∈ oddK, s.TypeIs u n := by
  cases o with
  | bl b => cases r; exact ⟨"bool", by simp [oddK], rfl⟩
  | non => cases r; exact ⟨"NoneType", by simp [oddK], rfl⟩
  | str z => obtain ⟨t, rfl⟩ := r; exact ⟨"str", by simp [oddK], rfl⟩
  | tup h =>
    cases r
    obtain ⟨_, _, _, o, h1, h2, _⟩ := (show ObjOk X.prog X.w H s.heap _ (.tup _) from I.hok _ _ h)
    exact ⟨"tuple", by simp [oddK], o, h1, h2⟩
  | lst h =>
    cases r
    obtain ⟨_, _, n, _, h1⟩ := (show ObjOk X.prog X.w H s.heap _ (.lst _) from I.hok _ _ h)
    exact ⟨"list", by simp [oddK], _, h1, rfl⟩
  | dic h =>
    cases r
    obtain ⟨_, _, vs, _, o, es, ep, h1, h2, _⟩ := (show ObjOk X.prog X.w H s.heap _ (.dK _) from I.hok _ _ h)
    exact ⟨"dict", by simp [oddK], o, h1, h2.1⟩
theorem odd_first {n : String} (h : n ∈ oddK) : PySem.W.subIn X.K (.type n) (.ref C) = some false := by
  simp only [oddK, List.mem_cons, List.not_mem_nil, or_false] at h
  rcases h with rfl | rfl | rfl | rfl | rfl | rfl
  · exact sub_not (l := [.type "bool", .type "int", .type "object"]) (by decide +kernel) fun a => by simp
  · exact sub_not (l := [.type "NoneType", .type "object"]) (by decide +kernel) fun a => by simp
  · exact sub_not (l := [.type "str", .type "object"]) (by decide +kernel) fun a => by simp
  · exact sub_not (l := [.type "tuple", .type "object"]) (by decide +kernel) fun a => by simp
  · exact sub_not (l := [.type "list", .type "object"]) (by decide +kernel) fun a => by simp
  · exact sub_not (l := [.type "dict", .type "object"]) (by decide +kernel) fun a => by simp
/-- a method of the text's own asked by the machine, somewhere below the running body -/
theorem run_ownA {A : Around} {f : Addr} {fd : FuncData} {pins : List (Addr × Obj)} {σ : L2.St} {H : Hp} {s : Shared} {Q : VK} {us : List Value} {vs : List V} (F : FnOk X.prog X.w X.K X.mg X.base CX k f fd ps sp) (sb : Sub X k A) (hb : L2.Binds X.K fd ps []) (hx : Passes CX X E)
    (I : L2.Inv X pins σ H s) (r : Vals vs us) (h : sp vs H Q E) : wpAny (model X.prog X.w) A (call (.ref f) us) (PySem.W.CmpBack (EP X pins σ Q)) X.xe s := by
  have e0 : Env0 X.prog X.w X.K X.mg X.base A X.stack s H := by
    have e := I.env0
    exact ⟨by rw [sb.fr]; exact e.frames, e.mod, e.bs, e.bsz, e.funs, e.frf, e.hok, e.bare⟩
  have hl := F.len _ _ _ _ h
  refine wpAny_call (codeAny_mono (F.run A X.stack s H ⟨us, []⟩ us vs _ E sb.room e0 (by
    have := hb s us I.kIn (by rw [List.append_nil, ← r.length, hl])
    simpa using this) r h) fun r s' hq => ?_)
  cases r with
  | error e => exact hx pins σ H s e s' I hq
  | ok fl =>
    cases fl with
    | ret w => exact back_of (I.after hq)
    | next => exact False.elim hq
    | brk => exact False.elim hq
    | cont => exact False.elim hq
/-- x == y, x odd, y of the class at C: its own == is asked -/
theorem rc_odd {A : Around} {pins : List (Addr × Obj)} {s : Shared} {σ : L2.St} {H : Hp} {x : V} {u : Value} {b dx : Addr} {fs : List (Str × V)} {Q : VK} (sb : Sub X k A) (M : Meth X.K C "__eq__" (He.fAd X.K (cn, some "__eq__")))
    (hm : ∀ n ∈ oddK, PySem.W.mroIn X.K C (.type n) = some false) (O : OkD X.prog X.w X.K X.mg X.base CX k (cn, some "__eq__") ps [] sp) (hx : Passes CX X E) (I : L2.Inv X pins σ H s) (o : Odd H x) (rx : RelV x u) (hb : H b = some (.ins C dx fs)) (h0 : sp [.ref b, x] H Q E) :
    wpAny (model X.prog X.w) A (richCompare .Eq u (.ref b)) (EP X pins σ Q) X.xe s := by
  obtain ⟨fd, ds, F, bi, v⟩ := O.ex
  cases v
  obtain ⟨mA, J, _⟩ := ins_get I.hok hb
  obtain ⟨od, J, _⟩ := J.look
  have go := run_ownA (vs := [V.ref b, x]) (us := [.ref b, u]) F sb bi hx I (.cons rfl (.cons rx .nil)) h0
  have hu := sb.room.units0
  cases o with
  | bl y =>
    cases rx
    exact eq_any_own (T := "bool") rfl hu I.kIn J M.at_ M.fn (hm _ (by simp [oddK])) PySem.F.slot_bool_eq PySem.F.entry_int_eq (PySem.F.args_int_eq_2 _ _) (fun Q q => eq_no_int (.inl ⟨_, rfl⟩) rfl J.at_ q) go
  | non =>
    cases rx
    exact eq_any_own (T := "NoneType") rfl hu I.kIn J M.at_ M.fn (hm _ (by simp [oddK])) PySem.F.slot_NoneType_eq PySem.F.entry_NoneType_eq (PySem.F.args_NoneType_eq_2 _ _) (fun Q q => eq_no_none q) go
  | str z =>
    obtain ⟨t, rfl⟩ := rx
    exact eq_any_own (T := "str") rfl hu I.kIn J M.at_ M.fn (hm _ (by simp [oddK])) PySem.F.slot_str_eq PySem.F.entry_str_eq (PySem.F.args_str_eq_2 _ _) (fun Q q => eq_no_str rfl J.at_ q) go
  | tup h =>
    cases rx
    obtain ⟨_, _, _, o, h1, h2, _⟩ := (show ObjOk X.prog X.w H s.heap _ (.tup _) from I.hok _ _ h)
    exact eq_any_own (T := "tuple") ⟨o, h1, h2⟩ hu I.kIn J M.at_ M.fn (hm _ (by simp [oddK])) PySem.F.slot_tuple_eq PySem.F.entry_tuple_eq (PySem.F.args_tuple_eq_2 _ _) (fun Q q => eq_no_tup I.kIn J (hm _ (by simp [oddK])) q) go
  | lst h =>
    cases rx
    obtain ⟨_, _, n, _, h1⟩ := (show ObjOk X.prog X.w H s.heap _ (.lst _) from I.hok _ _ h)
    exact eq_any_own (T := "list") ⟨_, h1, rfl⟩ hu I.kIn J M.at_ M.fn (hm _ (by simp [oddK])) PySem.F.slot_list_eq PySem.F.entry_list_eq (PySem.F.args_list_eq_2 _ _) (fun Q q => eq_no_lst I.kIn J (hm _ (by simp [oddK])) q) go
  | dic h =>
    cases rx
    obtain ⟨_, _, vs, _, o, es, ep, h1, h2, _⟩ := (show ObjOk X.prog X.w H s.heap _ (.dK _) from I.hok _ _ h)
    exact eq_any_own (T := "dict") ⟨o, h1, h2.1⟩ hu I.kIn J M.at_ M.fn (hm _ (by simp [oddK])) PySem.F.slot_dict_eq PySem.F.entry_dict_eq (PySem.F.args_dict_eq_2 _ _) (fun Q q => eq_no_dic h1 I.kIn J (hm _ (by simp [oddK])) q) go
/-- odd == o -/
def rDO (C : Addr) (sp : Sp) (E : XK) : R2 := fun x y H Q => ∃ b dx fs, Odd H x ∧ y = .ref b ∧ H b = some (.ins C dx fs) ∧ sp [y, x] H Q E
theorem eq_do (M : Meth X.K C "__eq__" (He.fAd X.K (cn, some "__eq__"))) (hm : ∀ n ∈ oddK, PySem.W.mroIn X.K C (.type n) = some false) (O : OkD X.prog X.w X.K X.mg X.base CX k (cn, some "__eq__") ps [] sp) (hr : Room j X.A) (hj : k ≤ j) (hx : Passes CX X E) : OpR X (compareOp .Eq) (rDO C sp E) := by
  intro pins s σ H x y v u Q I rx ry h
  obtain ⟨b, dx, fs, o, rfl, hb, hsp⟩ := h
  cases ry
  exact rc_odd ⟨hr.mono hj, rfl⟩ M hm O hx I o rx hb hsp
/-- o ? odd -/
def rOD (C : Addr) (sp : Sp) (E : XK) : R2 := fun x y H Q => ∃ a dx fs, x = .ref a ∧ H a = some (.ins C dx fs) ∧ Odd H y ∧ sp [x, y] H Q E
theorem cmp_od {op : CmpOp} (hd : (cmpInfo op).2.1 = m) (hop : compareOp op = richCompare op) (M : Meth X.K C m (He.fAd X.K (cn, some m))) (O : OkD X.prog X.w X.K X.mg X.base CX k (cn, some m) ps [] sp) (hr : Room j X.A) (hj : k ≤ j) (hx : Passes CX X E) : OpR X (compareOp op) (rOD C sp E) := by
  obtain ⟨fd, ds, F, b, v⟩ := O.ex
  cases v
  intro pins s σ H x y v u Q I rx ry h
  obtain ⟨a, dx, fs, rfl, ha, o, hsp⟩ := h
  cases rx
  obtain ⟨mA, J, _⟩ := ins_get I.hok ha
  obtain ⟨od, J, _⟩ := J.look
  obtain ⟨mm, hF⟩ := I.fr
  obtain ⟨n, hn, ht⟩ := odd_is I o ry
  rw [hop]
  exact PySem.W.cmp_K (tb := .type n) hr.units0 hF I.ok.mod.kin J (looks_ty ht) (by unfold PySem.W.notFirst; rw [odd_first hn]; simp) (by rw [hd]; exact M.at_) M.fn (run_own (vs := [V.ref a, y]) F (hr.mono hj) b hx I (.cons rfl (.cons ry .nil)) hsp)
/-! ### x in a list, where == is the text's own -/
/-- == inside a built-in's body: its answer; it only makes objects -/
abbrev Eqb := V → V → Hp → Bool → Prop
def EqB (X : Cx) (n : Nat) (D : Eqb) : Prop :=
  ∀ (A : Around) (pins : List (Addr × Obj)) (s : Shared) (σ : L2.St) (H : Hp) (x y : V) (u v : Value) (b : Bool), Sub X n A → L2.Inv X pins σ H s → RelV x u → RelV y v → D x y H b →
    wpAny (model X.prog X.w) A (eqBool u v) (fun r s' => r = b ∧ ∃ H', L2.Inv X pins σ H' s' ∧ Ext H H') X.xe s
theorem EqB.or {n : Nat} {D D' : Eqb} (h : EqB X n D) (h' : EqB X n D') : EqB X n (fun x y H b => D x y H b ∨ D' x y H b) := fun A pins s σ H x y u v b sb I rx ry d => by
  rcases d with d | d
  · exact h A pins s σ H x y u v b sb I rx ry d
  · exact h' A pins s σ H x y u v b sb I rx ry d
def DOO (C : Addr) (sp : Sp) (E : XK) : Eqb := fun x y H b => ∃ a c dx dy fs gs, x = .ref a ∧ y = .ref c ∧ H a = some (.ins C dx fs) ∧ H c = some (.ins C dy gs) ∧ (a = c → b = true) ∧ sp [x, y] H (fun v H' => v = .bl b ∧ Ext H H') E
def DDO (C : Addr) (sp : Sp) (E : XK) : Eqb := fun x y H b => ∃ c dy gs, Odd H x ∧ y = .ref c ∧ H c = some (.ins C dy gs) ∧ (x = y → b = true) ∧ sp [y, x] H (fun v H' => v = .bl b ∧ Ext H H') E
theorem eqB_of_rc {A : Around} {pins : List (Addr × Obj)} {s : Shared} {σ : L2.St} {H : Hp} {u v : Value} {b : Bool} (hs : (u == v) = true → b = true) (hf : ∀ i t, u ≠ .float i t) (I : L2.Inv X pins σ H s)
    (h : wpAny (model X.prog X.w) A (richCompare .Eq u v) (EP X pins σ (fun v H' => v = .bl b ∧ Ext H H')) X.xe s) : wpAny (model X.prog X.w) A (eqBool u v) (fun r s' => r = b ∧ ∃ H', L2.Inv X pins σ H' s' ∧ Ext H H') X.xe s := by
  unfold eqBool
  refine wpAny_holding ?_
  refine wpAny_ite_split (fun hab => ?_) (fun _ => ?_)
  · refine wpAny_bind (wpAny_rule ?_)
    exact wpAny_pure ⟨(hs hab).symm, H, I, Ext.rfl'⟩
  · have tail : wpAny (model X.prog X.w) A (richCompare .Eq u v >>= truthOfDropped) (fun r s' => r = b ∧ ∃ H', L2.Inv X pins σ H' s' ∧ Ext H H') X.xe s := by
      refine wpAny_bind (wpAny_mono h (fun z s' hz => ?_) fun _ _ x => x)
      obtain ⟨v', H', I', rz, e, ex⟩ := hz
      subst e
      cases rz
      exact wpAny_truthy_bool ⟨rfl, H', I', ex⟩
    cases u with
    | float i t => exact absurd rfl (hf i t)
    | _ => exact tail
theorem eqB_oo {n : Nat} (M : Meth X.K C "__eq__" (He.fAd X.K (cn, some "__eq__"))) (O : OkD X.prog X.w X.K X.mg X.base CX n (cn, some "__eq__") ps [] sp) (hx : Passes CX X E) : EqB X n (DOO C sp E) := by
  obtain ⟨fd, ds, F, bi, v⟩ := O.ex
  cases v
  intro A pins s σ H x y u v b sb I rx ry d
  obtain ⟨a, c, dx, dy, fs, gs, rfl, rfl, ha, hc, he, hsp⟩ := d
  cases rx
  cases ry
  obtain ⟨mA, J, _⟩ := ins_get I.hok ha
  obtain ⟨mB, J', _⟩ := ins_get I.hok hc
  obtain ⟨od, J, _⟩ := J.look
  obtain ⟨od', J', _⟩ := J'.look
  obtain ⟨mm, hF⟩ := I.fr
  refine eqB_of_rc (fun h => he (by have := eq_of_beq h; injection this)) (fun _ _ z => nomatch z) I ?_
  exact PySem.W.cmp_K (op := .Eq) (tb := .ref C) sb.room.units0 hF I.ok.mod.kin J J'.type (by simp [PySem.W.notFirst]) M.at_ M.fn (run_ownA (vs := [V.ref a, V.ref c]) F sb bi hx I (.cons rfl (.cons rfl .nil)) hsp)
theorem eqB_do {n : Nat} (M : Meth X.K C "__eq__" (He.fAd X.K (cn, some "__eq__"))) (hm : ∀ n ∈ oddK, PySem.W.mroIn X.K C (.type n) = some false) (O : OkD X.prog X.w X.K X.mg X.base CX n (cn, some "__eq__") ps [] sp) (hx : Passes CX X E) : EqB X n (DDO C sp E) := by
  intro A pins s σ H x y u v b sb I rx ry d
  obtain ⟨c, dy, gs, o, rfl, hc, he, hsp⟩ := d
  cases ry
  refine eqB_of_rc (fun h => he ?_) (fun i t z => ?_) I (rc_odd sb M hm O hx I o rx hc hsp)
  · have := eq_of_beq h
    subst this
    cases x with
    | ref a => cases rx; rfl
    | int i => obtain ⟨t, h⟩ := rx; cases h
    | str i => obtain ⟨t, h⟩ := rx; cases h
    | byt i => obtain ⟨t, h⟩ := rx; cases h
    | flt i => obtain ⟨t, h⟩ := rx; cases h
    | _ => cases rx
  · subst z
    cases o with
    | bl => cases rx
    | non => cases rx
    | str => obtain ⟨t, h⟩ := rx; cases h
    | tup => cases rx
    | lst => cases rx
    | dic => cases rx
/-- the loop of list.__contains__; at each turn the list is read anew -/
theorem in_loop {P : Program} {w : World} {A : Around} {R : Result → Shared → Prop} {l : Addr} {N : Nat} {x : Value} (J : Shared → Prop) (e : Nat → Bool)
    (hl : ∀ i s, J s → ∃ (its : List Value) (n : Nat) (dd : Option Addr) (sl : Array (Option Value)), s.heap.get? l = some { cls := .type "list", dict := dd, data := .seq its.toArray n, slots := sl } ∧ its.length = N ∧ ∀ h : i < its.length, wpAny (model P w) A.in1 (eqBool its[i] x) (fun r s' => r = e i ∧ J s') (fun e s' => R (.error e) s') s) (k : Nat) :
    ∀ i : Nat, N - i = k → i ≤ N → ∀ s, J s → (∀ s', J s' → R (.ok (.ret (.bool ((List.range' i k).any e)))) s') →
      wpAny (model P w) A.in1 (Builtin.«list.__contains__.loop» ⟨[.ref l, x, rawInt i], []⟩) (GQ.FinOf P w A R) (fun e s' => R (.error e) s') s := by
  induction k with
  | zero =>
    intro i hk hi s h fin
    obtain ⟨items, n, dd, sl, ho, hn, _⟩ := hl i s h
    have q := fin s h
    obtain ⟨hp, g, d, tk, os⟩ := s
    wp_walk using AutoSeq1.wpAny_loadPart' ho
    have hi : items.toArray[((i : Nat) : Int).toNat]? = none := by simp; omega
    rw [hi]
    wp_walk
    exact q
  | succ k ih =>
    intro i hk hi s h fin
    obtain ⟨items, n, dd, sl, ho, hn, turn⟩ := hl i s h
    have hlt : i < items.length := by omega
    have t := turn hlt
    obtain ⟨hp, g, d, tk, os⟩ := s
    wp_walk using AutoSeq1.wpAny_loadPart' ho
    have hi : items.toArray[((i : Nat) : Int).toNat]? = some items[i] := by simp [hlt]
    rw [hi]
    refine wpAny_bind (wpAny_mono t (fun r s2 q => ?_) fun _ _ z => z)
    obtain ⟨rfl, h2⟩ := q
    rw [List.range'_succ, List.any_cons] at fin
    cases hb : e i with
    | true =>
      rw [hb] at fin
      have q := fin s2 h2
      obtain ⟨hp2, g2, d2, tk2, os2⟩ := s2
      wp_walk
      exact q
    | false =>
      rw [hb] at fin
      have hc : ((i : Int) + 1) = ((i + 1 : Nat) : Int) := by push_cast; rfl
      have go := ih (i + 1) (by omega) (by omega) s2 h2 (fun s' h' => by simpa using fin s' h')
      obtain ⟨hp2, g2, d2, tk2, os2⟩ := s2
      wp_walk
      rw [hc]
      exact ⟨plainId_quiet MeetsSeq.plain_contains_loop _, codeAny_builtin MeetsSeq.entry_contains_loop (by
        rw [Around.under_plainId MeetsSeq.plain_contains_loop _]
        exact go)⟩
/-- x in the list at y: item by item D says how they compare -/
def rInB (K : PySem.W.Frag) (neg : Bool) (D : Eqb) : R2 := fun x y H Q => ∃ (p : Addr) (xs : List V) (bs : List Bool), y = .ref p ∧ SqL K H p xs ∧ Paired (fun z b => ∀ H', Ext H H' → D z x H' b) xs bs ∧ ∀ H', Ext H H' → Q (.bl (if neg then !bs.any id else bs.any id)) H'
theorem any_range (bs : List Bool) : (List.range' 0 bs.length).any (fun i => bs.getD i false) = bs.any id := by
  rw [← List.range_eq_range']
  rw [Bool.eq_iff_iff, List.any_eq_true, List.any_eq_true]
  constructor
  · rintro ⟨i, hi, e⟩
    have h := List.mem_range.mp hi
    refine ⟨bs[i], List.getElem_mem h, ?_⟩
    simpa [List.getD_eq_getElem?_getD, List.getElem?_eq_getElem h] using e
  · rintro ⟨b, hb, e⟩
    obtain ⟨i, h, rfl⟩ := List.mem_iff_getElem.mp hb
    exact ⟨i, List.mem_range.mpr h, by simpa [List.getD_eq_getElem?_getD, List.getElem?_eq_getElem h] using e⟩
theorem paired_get {α β : Type} {R : α → β → Prop} : ∀ {xs : List α} {bs : List β}, Paired R xs bs → ∀ i (h : i < xs.length), ∃ b, bs[i]? = some b ∧ R xs[i] b
  | _, _, .nil, i, h => absurd h (Nat.not_lt_zero _)
  | _ :: _, _ :: _, .cons r p, 0, _ => ⟨_, rfl, r⟩
  | _ :: _, _ :: _, .cons r p, i + 1, h => paired_get p i (by simpa using h)
theorem paired_len {α β : Type} {R : α → β → Prop} : ∀ {xs : List α} {bs : List β}, Paired R xs bs → xs.length = bs.length
  | _, _, .nil => rfl
  | _, _, .cons _ p => congrArg (· + 1) (paired_len p)
theorem in_body {n : Nat} {D : Eqb} {neg : Bool} (h : EqB X n D) (hr : Room (n + 1) X.A) {pins : List (Addr × Obj)} {s : Shared} {σ : L2.St} {H : Hp} {x y : V} {u v : Value} {Q : VK} (I : L2.Inv X pins σ H s) (rx : RelV x u) (ry : RelV y v) (hq : rInB X.K neg D x y H Q) :
    wpAny (model X.prog X.w) X.A (contains v u) (fun r s' => EP X pins σ Q (.bool (if neg then !r else r)) s') X.xe s := by
  obtain ⟨p, xs, bs, rfl, hS, pr, q⟩ := hq
  cases ry
  obtain ⟨its, r, pl, hz⟩ := I.list hS
  have hT : s.TypeIs (.ref p) "list" := by
    obtain ⟨⟨cls, dd, data, sl⟩, n', ho, hc, _⟩ := id pl
    exact ⟨_, ho, hc⟩
  have J0 : (fun s' => ∃ H', L2.Inv X pins σ H' s' ∧ Ext H H') s := ⟨H, I, Ext.rfl'⟩
  refine wpAny_contains_slot hT PySem.F.slot_list_contains ?_
  refine GQ.call_here PySem.F.slot_list_contains hT PySem.F.entry_list_contains (PySem.F.args_list_contains_2 _ _) ?_
  have lp := in_loop (P := X.prog) (w := X.w) (A := X.A) (R := wants (fun r s' => wpAny (model X.prog X.w) X.A (truthy r) (fun r s' => EP X pins σ Q (Value.bool (if neg = true then !r else r)) s') X.xe s') X.xe) (l := p) (N := xs.length) (x := u) (fun s' => ∃ H', L2.Inv X pins σ H' s' ∧ Ext H H') (fun i => bs.getD i false) ?hl bs.length 0 (by rw [paired_len pr]; rfl) (Nat.zero_le _) s J0 ?fin
  case hl =>
    rintro i s' ⟨H', I', e⟩
    obtain ⟨its', r', pl', _⟩ := I'.list (SqL.ext hS e)
    obtain ⟨o, n', ho, hc, hd, hs⟩ := pl'
    obtain ⟨cls, dd, data, sl⟩ := o
    dsimp only at hc hd hs
    refine ⟨its', n', dd, sl, by first | (rw [ho, hc, hs]) | (rw [ho]; subst hc; subst hs; rfl), r'.length.symm, fun hi => ?_⟩
    have hx : i < xs.length := by rw [r'.length]; exact hi
    obtain ⟨z, hz', rz⟩ := r'.get (List.getElem?_eq_getElem hx)
    rw [List.getElem?_eq_getElem hi] at hz'
    obtain ⟨b, hb, hd'⟩ := paired_get pr i hx
    have eb : bs.getD i false = b := by simp [List.getD_eq_getElem?_getD, hb]
    rw [Option.some.inj hz', eb]
    refine wpAny_mono (h X.A.in1 pins s' σ H' _ x _ u b ⟨hr.in1, rfl⟩ I' rz rx (hd' _ e)) (fun r2 s2 q2 => ?_) fun _ _ z => z
    obtain ⟨h2, H2, I2, e2⟩ := q2
    exact ⟨h2, H2, I2, e.trans e2⟩
  case fin =>
    rintro s' ⟨H', I', e⟩
    rw [any_range]
    exact wpAny_truthy_bool ⟨.bl _, H', I', rfl, q H' e⟩
  obtain ⟨hp, g, d, tk, os⟩ := s
  wp_walk
  exact ⟨plainId_quiet MeetsSeq.plain_contains_loop _, codeAny_builtin MeetsSeq.entry_contains_loop (by
    rw [Around.under_plainId MeetsSeq.plain_contains_loop _]
    exact lp)⟩
theorem op_inB {n : Nat} {D : Eqb} (h : EqB X n D) (hr : Room (n + 1) X.A) : OpR X (compareOp .In) (rInB X.K false D) := fun pins s σ H x y v u Q I rx ry hq => by
  show wpAny (model X.prog X.w) X.A (do return Value.bool (← contains u v)) (EP X pins σ Q) X.xe s
  exact wpAny_bind (wpAny_mono (in_body h hr I rx ry hq) (fun _ _ z => wpAny_pure z) fun _ _ z => z)
theorem op_notInB {n : Nat} {D : Eqb} (h : EqB X n D) (hr : Room (n + 1) X.A) : OpR X (compareOp .NotIn) (rInB X.K true D) := fun pins s σ H x y v u Q I rx ry hq => by
  show wpAny (model X.prog X.w) X.A (do return Value.bool (!(← contains u v))) (EP X pins σ Q) X.xe s
  exact wpAny_bind (wpAny_mono (in_body h hr I rx ry hq) (fun _ _ z => wpAny_pure z) fun _ _ z => z)
end
end Vf

set_option Elab.async false
set_option linter.all false
set_option maxRecDepth 100000
set_option maxHeartbeats 2000000
namespace Vf
open PySem PySem.Spec PyProof.Rows L2
/-! ### names of the text that stand for an int, a text, a tuple of texts -/
section
variable {X : Cx}
theorem c_gint {x : Str} {i : Int} {pos : Pos} (hm : ∃ t, X.mg x = some (.int i t)) (hg : Gl X x := by rfl) (hd : (x == ("__debug__" : Str)) = false := by decide) : PE X (.Name x pos) (tC (.int i)) := by
  obtain ⟨t, h⟩ := hm
  exact pe_glob hg h ⟨t, rfl⟩ hd
theorem c_gstr {x z : Str} {pos : Pos} (hm : ∃ t, X.mg x = some (.str z t)) (hg : Gl X x := by rfl) (hd : (x == ("__debug__" : Str)) = false := by decide) : PE X (.Name x pos) (tC (.str z)) := by
  obtain ⟨t, h⟩ := hm
  exact pe_glob hg h ⟨t, rfl⟩ hd
end
def strsB : List Value → List Str → Bool
  | [], [] => true
  | .str y _ :: us, z :: zs => decide (y = z) && strsB us zs
  | _, _ => false
theorem strsB_ok : ∀ {us : List Value} {zs : List Str}, strsB us zs = true → Vals (zs.map V.str) us
  | [], [], _ => .nil
  | .str y t :: us, z :: zs, h => by
    obtain ⟨h1, h2⟩ := He.ba h
    have e := of_decide_eq_true h1
    subst e
    exact .cons ⟨t, rfl⟩ (strsB_ok h2)
/-- at a a tuple of the texts zs -/
def kTup (K : PySem.W.Frag) (a : Addr) (zs : List Str) : Bool := match K.lookup a with
  | some ⟨.type n, _, .seq its _, _⟩ => decide (n = "tuple") && (decide (its.size ≤ sizeLine) && strsB its.toList zs)
  | _ => false
theorem kTup_ok {K : PySem.W.Frag} {a : Addr} {zs : List Str} (h : kTup K a zs = true) (H : Hp) : SqT K H a (zs.map V.str) := by
  unfold kTup at h
  split at h
  · rename_i n od its m sl e
    obtain ⟨h1, h2⟩ := He.ba h
    obtain ⟨h2, h3⟩ := He.ba h2
    have e1 := of_decide_eq_true h1
    subst e1
    exact .inr ⟨_, its, m, e, rfl, rfl, of_decide_eq_true h2, strsB_ok h3⟩
  · cases h
/-! ### C(.., k = v, ..) -/
structure OkK (P : Program) (w : World) (K : PySem.W.Frag) (mg : Str → Option Value) (base : Heap) (CX : CXT) (k : Nat) (p : Pl) (ps : List Str) (n : Nat) (ks : List Str) (gV : List V → List V → List V) (sp : Sp) : Prop where
  ex : ∃ fd g, FnOk P w K mg base CX k (He.fAd K p) fd ps sp ∧ KBn K fd ps n ks g gV
theorem c_mkK {X : Cx} {CX : CXT} {k j n : Nat} {ps ks : List Str} {sp : Sp} {x : Str} {p pos : Pos} {e : Expr} {es : List Expr} {kws : List Keyword} {t tk : TA} {gV : List V → List V → List V} {E : XK} {C : Addr} (M : Mk X.K C (He.fAd X.K (x, some "__init__"))) (O : OkK X.prog X.w X.K X.mg X.base CX k (x, some "__init__") ps (n + 1) ks gV sp) (hr : Room j X.A) (hj : k + 1 ≤ j) (hm : X.mg x = some (.ref C)) (hx : Passes CX X E) (ha : PA X (e :: es) t) (hkw : PK X kws tk) (hg : Gl X x := by rfl)
    (hall : (backToKw pos (keywordEach kws X.env)).all (·.1.isSome) = true := by rfl) (hks : (backToKw pos (keywordEach kws X.env)).filterMap (·.1) = ks := by rfl) (hdb : (x == ("__debug__" : Str)) = false := by decide)
    (he : starEach (e :: es) X.env = (false, eval e X.env) :: starEach es X.env := by rfl) (hpl : ((backTo pos (starEach (e :: es) X.env)).any (·.1) || (backToKw pos (keywordEach kws X.env)).any (·.1.isNone)) = false := by rfl) :
    PE X (.Call (.Name x p) (e :: es) kws pos) (tMakeK C n ks.length sp gV E t tk) := by
  obtain ⟨fd, g, F, b⟩ := O.ex
  exact pe_makeK M F (hr.mono hj) hg hm b hx ha hkw hall hks hdb he hpl
/-! ### texts -/
/-- one sign in a text -/
theorem sign_in (x : Str) (c : Nat) : (!(Builtin.Str.occurrences x ⟨#[c]⟩ 0 x.length 1).isEmpty) = decide (c ∈ x.cps.toList) := PySem.StrLaws.found_one x c
/-- a value that is no text -/
inductive OddS (H : Hp) : V → Prop where
  | bl (b : Bool) : OddS H (.bl b)
  | non : OddS H .non
  | int (i : Int) : OddS H (.int i)
  | tup {a : Addr} {xs : List V} (h : H a = some (.tup xs)) : OddS H (.ref a)
  | lst {a : Addr} {xs : List V} (h : H a = some (.lst xs)) : OddS H (.ref a)
  | dic {a : Addr} {kvs : List (Key × V)} (h : H a = some (.dK kvs)) : OddS H (.ref a)
theorem oddS_ty (K : PySem.W.Frag) {H : Hp} {x : V} (o : OddS H x) : ∃ n : String, TyX K H x (.type n) ∧ kitB n "str" = some false := by
  cases o with
  | bl b => exact ⟨"bool", .base (.bl b), by decide +kernel⟩
  | non => exact ⟨"NoneType", .base .non, by decide +kernel⟩
  | int i => exact ⟨"int", .base (.int i), by decide +kernel⟩
  | tup h => exact ⟨"tuple", .base (.tup h), by decide +kernel⟩
  | lst h => exact ⟨"list", .base (.lst h), by decide +kernel⟩
  | dic h => exact ⟨"dict", .base (.dK h), by decide +kernel⟩
/-- a value that is no bool -/
inductive OddB (H : Hp) : V → Prop where
  | str (z : Str) : OddB H (.str z)
  | non : OddB H .non
  | int (i : Int) : OddB H (.int i)
  | tup {a : Addr} {xs : List V} (h : H a = some (.tup xs)) : OddB H (.ref a)
  | lst {a : Addr} {xs : List V} (h : H a = some (.lst xs)) : OddB H (.ref a)
  | dic {a : Addr} {kvs : List (Key × V)} (h : H a = some (.dK kvs)) : OddB H (.ref a)
theorem oddB_ty (K : PySem.W.Frag) {H : Hp} {x : V} (o : OddB H x) : ∃ n : String, TyX K H x (.type n) ∧ kitB n "bool" = some false := by
  cases o with
  | str z => exact ⟨"str", .base (.str z), by decide +kernel⟩
  | non => exact ⟨"NoneType", .base .non, by decide +kernel⟩
  | int i => exact ⟨"int", .base (.int i), by decide +kernel⟩
  | tup h => exact ⟨"tuple", .base (.tup h), by decide +kernel⟩
  | lst h => exact ⟨"list", .base (.lst h), by decide +kernel⟩
  | dic h => exact ⟨"dict", .base (.dK h), by decide +kernel⟩
end Vf

set_option Elab.async false
set_option linter.all false
set_option maxRecDepth 100000
set_option maxHeartbeats 2000000
namespace Vf
open PySem PySem.Spec PyProof.Rows L2
/-- the callee's errors are the def's own -/
theorem passE {X : Cx} {E : XK} (hs : X.stack = X.env :: X.outer) (hf : X.env.frame = some X.env.locals) (hex : X.ex = []) {E₁ : Value → Shared → Prop}
    (hx : X.xe = fun e s' => wpAny (model X.prog X.w) X.A (leaving X.env e) (fun _ s'' => L2.CX X.prog X.w X.outer X.H_0 X.s_0 E e s'') E₁ s') : Passes (L2.CX X.prog X.w) X E :=
  passes_call (takes_of hs hf hex hx) fun _ _ _ _ h => h
/-! ### o.m(k = v, ..) -/
def tMethK (C : Addr) (m : Str) (n : Nat) (sp : Sp) (gV : List V → List V → List V) (E : XK) (ta : TE) (tk : TA) : TE := fun σ H Q => ta σ H fun x H1 => ∃ a dx fs, x = .ref a ∧ H1 a = some (.ins C dx fs) ∧ fs.lookup m = none ∧
  tk σ H1 fun zs H2 => zs.length = n ∧ sp (gV [.ref a] zs) H2 Q E
theorem c_meK {X : Cx} {CX : CXT} {k j : Nat} {ps ks : List Str} {sp : Sp} {m cn : Str} {o : Expr} {pos apos : Pos} {kws : List Keyword} {ta : TE} {tk : TA} {gV : List V → List V → List V} {E : XK} {C : Addr} (hC : C = He.ga X.K cn) (hb : PE X o ta) (c : Cls X.K C) (hm : Meth X.K C m (He.fAd X.K (cn, some m)))
    (O : OkK X.prog X.w X.K X.mg X.base CX k (cn, some m) ps 1 ks gV sp) (hr : Room j X.A) (hj : k ≤ j) (hx : Passes CX X E) (hkw : PK X kws tk) {pl : Sem Bool}
    (hall : (backToKw pos (keywordEach kws X.env)).all (·.1.isSome) = true := by rfl) (hks : (backToKw pos (keywordEach kws X.env)).filterMap (·.1) = ks := by rfl)
    (hpl : ((backTo pos (starEach [] X.env)).any (·.1) || (backToKw pos (keywordEach kws X.env)).any (·.1.isNone)) = false := by rfl)
    (ht : eval (.Call (.Attribute o m apos) [] kws pos) X.env = (do
      let ov ← eval o X.env
      standAt apos.atName
      let (f, first) ← holding [ov] (getMethod ov m pl)
      callWith pos f first (backTo pos (starEach [] X.env)) (backToKw pos (keywordEach kws X.env))) := by rfl) :
    PE X (.Call (.Attribute o m apos) [] kws pos) (tMethK C m ks.length sp gV E ta tk) := by
  obtain ⟨fd, g, F, b⟩ := O.ex
  refine ⟨fun pins s σ H Q I h => ?_⟩
  refine PySem.W.methodCall_KW (pl := pl) (thn (hb.run pins s σ H _ I h) fun u s1 ⟨x, H1, I1, rx, a, dx, fs, ex, ea, l, q⟩ => ?_) ht
  subst ex
  obtain rfl : u = Value.ref a := rx
  refine getmeth_ok I1 ea c hm l ?_
  refine PySem.W.callWith_KW0 (first := [.ref a]) (h₀ := X.base) I.ok.mod.kin hm.kp hall ?_ hpl
  refine thn (hkw.run pos pins s1 σ H1 _ I1 q) fun ws s2 ⟨zs, H2, I2, rz, l2, q2⟩ => ⟨I2.kIn, ?_⟩
  rw [hks]
  exact run_fnN (us := [.ref a]) (vs := [.ref a]) F (hr.mono hj) b hx I2 (.cons rfl .nil) rz rfl l2 q2
/-! ### o != o of a class with an own == alone -/
section
open PySem.W PySem.Calls
variable {M : Model} {prog : Program} {w : World} {A : Around} {E : Value → Shared → Prop} {s : Shared} {K : Frag} {x y C f : Addr} {ox oy : Obj} {od od' : Option Obj}
theorem ifBound_objNe {args : List Value} {Q : Option Value → Shared → Prop} (X : K.In s.heap) (I : InstAt s.heap x ox C od) (hs : findIn K (.ref C) "__ne__" = some (some (.builtin "object.__ne__")))
    (h : wpAny M A (call (.builtin "object.__ne__") (.ref x :: args)) (fun v => Q (some v)) E s) : wpAny M A (callSpecialIfBound? (.ref x) "__ne__" args) Q E s := by
  simp only [callSpecialIfBound?, bindSpecialIfBound?]
  refine wpAny_holding (wpAny_bind (wpAny_bind (wpAny_bind (I.type.here ((looks_findIn X hs).here ?_)))))
  refine wpAny_bind (wpAny_askSetting (wpAny_ite ?_))
  have fin : wpAny M A (call (.builtin "object.__ne__") ([.ref x] ++ args) >>= fun v => pure (some v)) Q E s := wpAny_bind (wpAny_mono h (fun v s' h' => wpAny_pure h') fun _ _ h' => h')
  split
  · exact wpAny_bind (wpAny_of_eq (F.cmp_object.ne.bind _) (wpAny_pure (by exact fin)))
  · exact wpAny_tryCatch (wpAny_bind (wpAny_of_eq (F.cmp_object.ne.bind _) (wpAny_pure (by exact fin))))
def NeBack (Q : Value → Shared → Prop) (v : Value) (s' : Shared) : Prop := ∃ t, v = .bool t ∧ Q (.bool (!t)) s'
theorem entry_ne {Q : Fin → Shared → Prop} (hu : A.units < cLine) (X : K.In s.heap) (I : InstAt s.heap x ox C od) (hs : findIn K (.ref C) "__eq__" = some (some (.ref f))) (hf : isFn K (.ref f) = true)
    (h : wpAny (model prog w) A (call (.ref f) [.ref x, .ref y]) (NeBack fun v => Q (.done (.ret v))) E s) : wpAny (model prog w) A (Builtin.«object.__ne__» ⟨[.ref x, .ref y], []⟩) Q E s := by
  have e : wpAny (model prog w) A (callSpecialIfBound? (.ref x) "__eq__" [.ref y]) (fun r s' => ∃ t, r = some (.bool t) ∧ Q (.done (.ret (.bool (!t)))) s') E s :=
    ifBound_K X I hs hf (wpAny_mono h (fun v s' hv => by obtain ⟨t, rfl, q⟩ := hv; exact ⟨t, rfl, q⟩) fun _ _ e => e)
  unfold Builtin.«object.__ne__»
  repeat (first | with_reducible refine wpAny_cRoomFor hu ?_ | with_reducible refine wpAny_mono e ?_ (fun _ _ e => e) | wp_step)
  rintro r s' ⟨t, rfl, q⟩
  refine wpAny_bind (wpAny_truthy_bool ?_)
  exact wpAny_pure q
theorem call_ne {Q : Value → Shared → Prop} (hu : A.in1.units < cLine) (X : K.In s.heap) (I : InstAt s.heap x ox C od) (hm : mroIn K C (.type "object") = some true) (hs : findIn K (.ref C) "__eq__" = some (some (.ref f))) (hf : isFn K (.ref f) = true)
    (h : wpAny (model prog w) A.in1 (call (.ref f) [.ref x, .ref y]) (NeBack Q) E s) :
    wpAny (model prog w) A (call (.builtin "object.__ne__") [.ref x, .ref y]) Q E s :=
  wpAny_call (codeAny_call_builtin F.cmp_object.ne.plain F.cmpEntry_ne (check_slot F.cmpKind_ne F.cmpSplit_ne (I.type.andThen (looks_mroIn X hm)) (F.cmpArgs_ne _ _) (entry_ne hu X I hs hf h)))
theorem rc_ne {Q : Value → Shared → Prop} (hu : A.units < cLine) (hu1 : A.in1.units < cLine) (X : K.In s.heap) (I : InstAt s.heap x ox C od) (I' : InstAt s.heap y oy C od') (hm : mroIn K C (.type "object") = some true)
    (hn : findIn K (.ref C) "__ne__" = some (some (.builtin "object.__ne__"))) (hs : findIn K (.ref C) "__eq__" = some (some (.ref f))) (hf : isFn K (.ref f) = true)
    (h : wpAny (model prog w) A.in1 (call (.ref f) [.ref x, .ref y]) (NeBack Q) E s) : wpAny (model prog w) A (richCompare .NotEq (.ref x) (.ref y)) Q E s := by
  have one : wpAny (model prog w) A (tryCompare (.ref x) "__ne__" (.ref y)) (fun r s' => ∃ v, r = some v ∧ Q v s') E s := by
    unfold tryCompare
    refine wpAny_bind (ifBound_objNe X I hn (call_ne hu1 X I hm hs hf (wpAny_mono h (fun v s' hv => ?_) fun _ _ e => e)))
    obtain ⟨t, rfl, q⟩ := hv
    exact ⟨t, rfl, wpAny_pure ⟨_, rfl, q⟩⟩
  unfold richCompare
  simp only [oneThing_ref]
  refine wpAny_holding (wpAny_bind (wpAny_cRoomFor hu ?_))
  refine wpAny_bind (I.type.here (wpAny_bind (I'.type.here ?_)))
  split
  · rename_i q
    exact absurd q (by simp)
  · refine wpAny_bind (wpAny_pure ?_)
    simp only [Bool.false_eq_true, if_false]
    refine wpAny_bind (wpAny_mono one (fun r s' z => ?_) fun _ _ e => e)
    obtain ⟨v, rfl, hq⟩ := z
    exact wpAny_pure hq
end
def rNeO (C : Addr) (sp : Sp) : R2 := fun x y H Q => ∃ a b dx dy fs gs, x = .ref a ∧ y = .ref b ∧ H a = some (.ins C dx fs) ∧ H b = some (.ins C dy gs) ∧ sp [.ref a, .ref b] H (fun v H' => ∃ t, v = .bl t ∧ Q (.bl (!t)) H') fun _ _ _ => False
theorem cmp_neO {X : Cx} {k j : Nat} {C : Addr} {cn : Str} {ps : List Str} {sp : Sp} (hC : C = He.ga X.K cn) (M : Meth X.K C "__eq__" (He.fAd X.K (cn, some "__eq__"))) (hn : PySem.W.findIn X.K (.ref C) "__ne__" = some (some (.builtin "object.__ne__"))) (hm : PySem.W.mroIn X.K C (.type "object") = some true)
    (O : OkD X.prog X.w X.K X.mg X.base CX0 k (cn, some "__eq__") ps [] sp) (hr : Room j X.A) (hj : k + 1 ≤ j) : OpR X (compareOp .NotEq) (rNeO C sp) := by
  obtain ⟨fd, ds, F, b, v⟩ := O.ex
  cases v
  intro pins s σ H x y v u Q I rx ry h
  obtain ⟨a, b', dx, dy, fs, gs, rfl, rfl, ha, hb, hsp⟩ := h
  cases rx
  cases ry
  obtain ⟨mA, J, _⟩ := ins_get I.hok ha
  obtain ⟨mB, J', _⟩ := ins_get I.hok hb
  obtain ⟨od, J, _⟩ := J.look
  obtain ⟨od', J', _⟩ := J'.look
  have hr1 : Room k X.A.in1 := (hr.mono hj).in1
  refine rc_ne hr.units0 hr1.units0 I.kIn J J' hm hn M.at_ M.fn ?_
  have hl := F.len _ _ _ _ hsp
  have hbb := b s [.ref a, .ref b'] I.kIn (by simpa using hl)
  simp only [List.append_nil] at hbb
  refine wpAny_call (codeAny_mono (F.run X.A.in1 X.stack s H ⟨[.ref a, .ref b'], []⟩ [.ref a, .ref b'] [.ref a, .ref b'] _ _ hr1 I.env0.in1 hbb (.cons rfl (.cons rfl .nil)) hsp) fun r s' hq => ?_)
  cases r with
  | error e => exact hq.elim
  | ok fl =>
    cases fl with
    | ret w =>
      obtain ⟨z, H', I', rz, t, ez, q⟩ := I.after hq
      subst ez
      cases rz
      exact ⟨t, rfl, .bl (!t), H', I', rfl, q⟩
    | next => exact False.elim hq
    | brk => exact False.elim hq
    | cont => exact False.elim hq
end Vf

set_option Elab.async false
set_option linter.all false
set_option maxRecDepth 100000
set_option maxHeartbeats 2000000
namespace K10
open PySem PySem.Spec PyProof.Rows L2 Vf
def top (i : Nat) : Stmt := PySem.Challenge.pw_seenshares_k10_sampler.main.body.getD i (.Pass ⟨0, 0, 0, 0⟩)
abbrev OkF (P : Program) (w : World) (K : PySem.W.Frag) (mg : Str → Option Value) (base : Heap) (CX : CXT) (k : Nat) (x : Str) (ps : List Str) (sp : Sp) : Prop := OkD P w K mg base CX k (x, none) ps [] sp
abbrev OkM (P : Program) (w : World) (K : PySem.W.Frag) (mg : Str → Option Value) (base : Heap) (CX : CXT) (k : Nat) (c m : Str) (ps : List Str) (sp : Sp) : Prop := OkD P w K mg base CX k (c, some m) ps [] sp
abbrev FnD (K : PySem.W.Frag) (p : Pl) (x q : Str) (st : Stmt) (fd : FuncData) : Prop := FunD K x q (defArgs st) (defBody st) (defScope st) [] [] (He.fAd K p) fd
structure STxt (K : PySem.W.Frag) (mg : Str → Option Value) : Prop where
  z_int : mg "int" = none
  z_bool : mg "bool" = none
  z_isinstance : mg "isinstance" = none
  i_MOST_PERIOD : ∃ t, mg "MOST_PERIOD" = some (.int 8 t)
  g_is_integer : mg "is_integer" = some (.ref (He.ga K "is_integer"))
  g_is_integer_from : mg "is_integer_from" = some (.ref (He.ga K "is_integer_from"))
  g_new_or_kept : mg "new_or_kept" = some (.ref (He.ga K "new_or_kept"))
  g_Sampler : mg "Sampler" = some (.ref (He.ga K "Sampler"))
  g_BadSampler : mg "BadSampler" = some (.ref (He.ga K "BadSampler"))
  c_Sampler : Cls K (He.ga K "Sampler")
  m_Sampler : Mk K (He.ga K "Sampler") (He.fAd K ("Sampler", some "__init__"))
  nP : NoAttr K (He.ga K "Sampler") "period"
  nJ : NoAttr K (He.ga K "Sampler") "jitter"
  nF : NoAttr K (He.ga K "Sampler") "phase"
  x_BadSampler : ExI K "BadSampler" "why"
  hn : PySem.W.specialIn K (.builtin "object.__class__") "__get__" = some (some (.builtin "getset_descriptor.__get__"))
  ht : PySem.W.takesIn K (.builtin "object.__class__") = some true
  ha : PySem.W.findIn K (.ref (He.ga K "Sampler")) "__class__" = some (some (.builtin "object.__class__"))
  hm : PySem.W.mroIn K (He.ga K "Sampler") (.type "object") = some true
  k1 : PySem.W.kitOne K (.ref (He.ga K "Sampler")) (.ref (He.ga K "Sampler")) = some true
/-! ### a sampler's fields -/
def saf (n i : Int) (f : V) : List (Str × V) := putF "phase" f (putF "jitter" (.int i) (putF "period" (.int n) []))
theorem saf_period (n i : Int) (f : V) : (saf n i f).lookup ("period" : Str) = some (.int n) := by
  unfold saf
  rw [lookup_putF, if_neg (by decide +kernel), lookup_putF, if_neg (by decide +kernel), lookup_putF, if_pos rfl]
theorem saf_jitter (n i : Int) (f : V) : (saf n i f).lookup ("jitter" : Str) = some (.int i) := by
  unfold saf
  rw [lookup_putF, if_neg (by decide +kernel), lookup_putF, if_pos rfl]
theorem saf_phase (n i : Int) (f : V) : (saf n i f).lookup ("phase" : Str) = some f := by
  unfold saf
  rw [lookup_putF, if_pos rfl]
theorem saf_with (n i : Int) (f : V) : (saf n i f).lookup ("with_values" : Str) = none := by
  unfold saf
  rw [lookup_putF, if_neg (by decide +kernel), lookup_putF, if_neg (by decide +kernel), lookup_putF, if_neg (by decide +kernel)]
  rfl
/-- at p a sampler -/
def SaA (C : Addr) (H : Hp) (p : Addr) (n i : Int) (f : V) : Prop := ∃ dx, H p = some (.ins C dx (saf n i f))
theorem SaA.ext {C : Addr} {H H' : Hp} {p : Addr} {n i : Int} {f : V} (h : SaA C H p n i f) (s : Same H H') : SaA C H' p n i f := by
  obtain ⟨dx, e⟩ := h
  exact ⟨dx, s _ _ e⟩
theorem same_new {H : Hp} {p : Addr} {o : HO} (h : H p = none) : Same H (upd H p o) := fun b u e => by
  rw [upd_ne (ne_of_none e h)]
  exact e
theorem same_make {H : Hp} {x dx : Addr} {o1 o2 : HO} (nx : H x = none) (ndx : H dx = none) : Same H (upd (upd H dx o1) x o2) := fun b o e => by
  rw [upd_ne (ne_of_none e nx), upd_ne (ne_of_none e ndx)]
  exact e
theorem made_pl {C : Addr} {H H1 : Hp} {q dx : Addr} {fs : List (Str × V)} (nq : H q = none) (ndx : H dx = none) (s : Same (upd (upd H dx (.own q)) q (.ins C dx [])) H1) : Same H (upd H1 q (.ins C dx fs)) := fun b o e => by
  rw [upd_ne (ne_of_none e nq)]
  exact s _ _ (same_make nq ndx _ _ e)
abbrev CS (K : PySem.W.Frag) : Addr := He.ga K "Sampler"
abbrev CBS (K : PySem.W.Frag) : Addr := He.ga K "BadSampler"
section
variable {P : Program} {w : World} {K : PySem.W.Frag} {mg : Str → Option Value} {base : Heap}
theorem okd {CX : CXT} {k : Nat} {p : Pl} {x q : Str} {st : Stmt} {fd : FuncData} {ps : List Str} {sp : Sp} (F : FnD K p x q st fd) (ok : FnOk P w K mg base CX k (He.fAd K p) fd ps sp)
    (h : ∀ (kV doc pm : Value) (an : Option Addr) (cdv ct : Value) (us : List Value), us.length = ps.length → bindArgs (PySem.W.fnOf x q (defArgs st) (defBody st) (defScope st) .none kV doc pm an cdv ct) ⟨us, []⟩ = pure (ps.zip us)) : OkD P w K mg base CX k p ps [] sp :=
  ⟨⟨fd, [], ok, FunD.bindsN F h, .nil⟩, F.kp⟩
abbrev s_is_integer : Stmt := top 5
theorem sc_is_integer : FnScope ["x"] ["x"] (defScope s_is_integer) := ⟨rfl, rfl, rfl, by decide +kernel, rfl, by decide +kernel, by decide +kernel⟩
-- slots: 0 x
theorem ok_is_integer {fd : FuncData} (F : FnD K ("is_integer", none) "is_integer" "is_integer" s_is_integer fd) (T : STxt K mg) : OkF P w K mg base CX0 1 "is_integer" ["x"] spIsInt := by
  refine okd F (F.ok sc_is_integer (fun vs H Q E h => ?_) fun cdv A outer s H vs Q E hr h => ⟨t_isint K, PSs.nox ?_, run_isint h⟩) fun _ _ _ _ _ _ us hl => match us, hl with | [_], _ => rfl
  · obtain ⟨x, rfl, _⟩ := h
    rfl
  · exact (pss_one (ps_ret (pe_and (pe_callB call_isi (by rfl) T.z_isinstance (by decide +kernel) (pa_cons (pv 0) (pa_cons (pe_ty (n := "int") T.z_int (by decide +kernel)) pa_nil))) (pe_one (pe_not (pe_callB call_isi (by rfl) T.z_isinstance (by decide +kernel) (pa_cons (pv 0) (pa_cons (pe_ty (n := "bool") T.z_bool (by decide +kernel)) pa_nil))))))))
abbrev s_is_integer_from : Stmt := top 6
theorem sc_is_integer_from : FnScope ["x", "low", "high"] ["x", "low", "high"] (defScope s_is_integer_from) := ⟨rfl, rfl, rfl, by decide +kernel, rfl, by decide +kernel, by decide +kernel⟩
-- slots: 0 x, 1 low, 2 high
/-- l is no integer from lo to hi -/
def NotFr (H : Hp) (l : V) (lo hi : Int) : Prop := (∃ n, l = .int n ∧ ¬ (lo ≤ n ∧ n ≤ hi)) ∨ Odd H l
def spFr : Sp := fun vs H Q _ => ∃ (x : V) (lo hi : Int), vs = [x, .int lo, .int hi] ∧ ((∃ n, x = .int n ∧ lo ≤ n ∧ n ≤ hi ∧ Q (.bl true) H) ∨ (NotFr H x lo hi ∧ Q (.bl false) H))
theorem ok_is_integer_from {fd : FuncData} (F : FnD K ("is_integer_from", none) "is_integer_from" "is_integer_from" s_is_integer_from fd) (T : STxt K mg) (O_is_integer : OkF P w K mg base CX0 1 "is_integer" ["x"] spIsInt) : OkF P w K mg base CX0 2 "is_integer_from" ["x", "low", "high"] spFr := by
  refine okd F (F.ok sc_is_integer_from (fun vs H Q E h => ?_) fun cdv A outer s H vs Q E hr h => ?_) fun _ _ _ _ _ _ us hl => match us, hl with | [_, _, _], _ => rfl
  · obtain ⟨x, lo, hi, rfl, _⟩ := h
    rfl
  · obtain ⟨x, lo, hi, rfl, h⟩ := h
    refine ⟨_, PSs.nox (pss_one (ps_ret (pe_and (c_fn O_is_integer hr (by decide) T.g_is_integer pass0 (pa_cons (pv 0) pa_nil)) (pe_one (pe_chain op_le op_le (pv 1) (pv 0) (pv 2)))))), ?_⟩
    rcases h with ⟨n, rfl, l1, l2, q⟩ | ⟨⟨n, rfl, hn⟩ | o, q⟩
    · refine ⟨_, rfl, _, rfl, .inl ⟨⟨n, rfl⟩, true, rfl, iteT ?_⟩⟩
      refine ⟨_, rfl, _, rfl, lo, n, rfl, rfl, true, congrArg V.bl (decide_eq_true l1), iteT ⟨_, rfl, n, hi, rfl, rfl, ?_⟩⟩
      show Q (.bl (decide (n ≤ hi))) H
      rw [decide_eq_true l2]
      exact q
    · refine ⟨_, rfl, _, rfl, .inl ⟨⟨n, rfl⟩, true, rfl, iteT ?_⟩⟩
      by_cases l1 : lo ≤ n
      · have l2 : ¬ n ≤ hi := fun z => hn ⟨l1, z⟩
        refine ⟨_, rfl, _, rfl, lo, n, rfl, rfl, true, congrArg V.bl (decide_eq_true l1), iteT ⟨_, rfl, n, hi, rfl, rfl, ?_⟩⟩
        show Q (.bl (decide (n ≤ hi))) H
        rw [decide_eq_false l2]
        exact q
      · exact ⟨_, rfl, _, rfl, lo, n, rfl, rfl, false, congrArg V.bl (decide_eq_false l1), iteF q⟩
    · exact ⟨_, rfl, _, rfl, .inr ⟨o, false, rfl, iteF q⟩⟩
abbrev s_BadSampler_init : Stmt := inClass (top 3) 0
theorem sc_BadSampler_init : FnScope ["self", "why"] ["self", "why"] (defScope s_BadSampler_init) := ⟨rfl, rfl, rfl, by decide +kernel, rfl, by decide +kernel, by decide +kernel⟩
-- slots: 0 self, 1 why
theorem ok_BadSampler_init {fd : FuncData} (F : FnD K ("BadSampler", some "__init__") "__init__" "BadSampler.__init__" s_BadSampler_init fd) : OkD P w K mg base CX0 1 ("BadSampler", some "__init__") ["self", "why"] [] (spExI K (CBS K) "why") := by
  refine okd F (F.ok sc_BadSampler_init (fun vs H Q E h => ?_) fun cdv A outer s H vs Q E hr h => ⟨tOst K "why" (tVar 0) (tVar 1), PSs.nox ?_, run_exI h⟩) fun _ _ _ _ _ _ us hl => match us, hl with | [_, _], _ => rfl
  · obtain ⟨a, v, rfl, _⟩ := h
    rfl
  · exact pss_one (ps_ost (pv 0) (pv 1))
/-- an int or another value -/
def Any (H : Hp) (x : V) : Prop := (∃ q : Int, x = .int q) ∨ Odd H x
theorem Any.ext {H H' : Hp} {x : V} (o : Any H x) (s : Same H H') : Any H' x := o.imp id fun o => o.ext s
theorem NotFr.ext {H H' : Hp} {x : V} {lo hi : Int} (o : NotFr H x lo hi) (s : Same H H') : NotFr H' x lo hi := o.elim .inl fun o => .inr (o.ext s)
/-- what a sampler is refused for -/
inductive SaIn (H : Hp) (x j f : V) : Str → Prop where
  | period (h : NotFr H x 1 8) : SaIn H x j f "period"
  | jitter (n : Int) (hx : x = .int n) (n1 : 1 ≤ n) (n2 : n ≤ 8) (h : NotFr H j 0 (n - 1)) : SaIn H x j f "jitter"
  | phase (n i : Int) (hx : x = .int n) (n1 : 1 ≤ n) (n2 : n ≤ 8) (hj : j = .int i) (i0 : 0 ≤ i) (i1 : i ≤ n - 1) (hf : f ≠ .non) (h : NotFr H f 0 (n - 1)) : SaIn H x j f "phase"
def PhOk (f : V) (n : Int) : Prop := f = .non ∨ ∃ q : Int, f = .int q ∧ 0 ≤ q ∧ q ≤ n - 1
/-- the parts of a sampler that is made -/
def SaOk (x j f : V) (n i : Int) : Prop := x = .int n ∧ 1 ≤ n ∧ n ≤ 8 ∧ j = .int i ∧ 0 ≤ i ∧ i ≤ n - 1 ∧ PhOk f n
theorem SaIn.ext {H H' : Hp} {x j f : V} {w : Str} (h : SaIn H x j f w) (s : Same H H') : SaIn H' x j f w := by
  cases h with
  | period h => exact .period (h.ext s)
  | jitter n hx n1 n2 h => exact .jitter n hx n1 n2 (h.ext s)
  | phase n i hx n1 n2 hj i0 i1 hf h => exact .phase n i hx n1 n2 hj i0 i1 hf (h.ext s)
def spSaI (K : PySem.W.Frag) : Sp := fun vs H Q E => ∃ (p dx : Addr) (x j f : V), vs = [.ref p, x, j, f] ∧ H p = some (.ins (CS K) dx []) ∧
  ((∃ w, SaIn H x j f w ∧ ∀ d, H d = none → E (.ref (CBS K)) (some d) (upd H d (.xd [("why", .str w)]))) ∨
   (∃ n i, SaOk x j f n i ∧ Q .non (upd H p (.ins (CS K) dx (saf n i f)))))
abbrev s_Sampler_init : Stmt := inClass (top 9) 0
theorem sc_Sampler_init : FnScope ["self", "period", "jitter", "phase"] ["self", "period", "jitter", "phase"] (defScope s_Sampler_init) := ⟨rfl, rfl, rfl, by decide +kernel, rfl, by decide +kernel, by decide +kernel⟩
-- slots: 0 self, 1 period, 2 jitter, 3 phase
theorem ok_Sampler_init {fd : FuncData} (F : FunD K "__init__" "Sampler.__init__" (defArgs s_Sampler_init) (defBody s_Sampler_init) (defScope s_Sampler_init) [.int 0] [("phase", .int 0)] (He.fAd K ("Sampler", some "__init__")) fd) (T : STxt K mg)
    (O_is_integer_from : OkF P w K mg base CX0 2 "is_integer_from" ["x", "low", "high"] spFr)
    (O_BadSampler_init : OkD P w K mg base CX0 1 ("BadSampler", some "__init__") ["self", "why"] [] (spExI K (CBS K) "why")) :
    FnOk P w K mg base (L2.CX P w) 4 (He.fAd K ("Sampler", some "__init__")) fd ["self", "period", "jitter", "phase"] (spSaI K) := by
  refine F.ok sc_Sampler_init (fun vs H Q E h => ?_) fun cdv A outer s H vs Q E hr h => ?_
  · obtain ⟨p, dx, x, j, f, rfl, _⟩ := h
    rfl
  · obtain ⟨p, dx, x, j, f, rfl, hp, h⟩ := h
    refine ⟨_, (pss_cons (ps_if (pt_not (pt_val (c_fn O_is_integer_from hr (by decide) T.g_is_integer_from pass0 (pa_cons (pv 1) (pa_cons pe_int (pa_cons (c_gint T.i_MOST_PERIOD) pa_nil)))))) (pss_one (c_raise T.x_BadSampler O_BadSampler_init hr (by decide) T.g_BadSampler (takes_of rfl rfl rfl rfl) (pa_cons pe_str pa_nil)))
  pss_nil)
  (pss_cons (ps_if (pt_not (pt_val (c_fn O_is_integer_from hr (by decide) T.g_is_integer_from pass0 (pa_cons (pv 2) (pa_cons pe_int (pa_cons (pe_op op_sub (pv 1) pe_int) pa_nil)))))) (pss_one (c_raise T.x_BadSampler O_BadSampler_init hr (by decide) T.g_BadSampler (takes_of rfl rfl rfl rfl) (pa_cons pe_str pa_nil)))
  pss_nil)
  (pss_cons (ps_if (PW.pt (pw_and (pt_cmpR op_notN (pv 3) pe_non (nomark _)) (pw_and1 (pt_not (pt_val (c_fn O_is_integer_from hr (by decide) T.g_is_integer_from pass0 (pa_cons (pv 3) (pa_cons pe_int (pa_cons (pe_op op_sub (pv 1) pe_int) pa_nil))))))))) (pss_one (c_raise T.x_BadSampler O_BadSampler_init hr (by decide) T.g_BadSampler (takes_of rfl rfl rfl rfl) (pa_cons pe_str pa_nil)))
  pss_nil)
  (pss_cons (ps_fld (pv 0) (pv 1) rfl)
  (pss_cons (ps_fld (pv 0) (pv 2) rfl)
  (pss_one (ps_fld (pv 0) (pv 3) rfl))))))), ?_⟩
    rcases h with ⟨w, hi, k⟩ | ⟨n, i, ⟨rfl, n1, n2, rfl, i0, i1, hf⟩, k⟩
    · cases hi with
      | period h => exact ⟨_, rfl, _, _, _, rfl, .inr ⟨h, false, rfl, iteT ⟨_, rfl, fun d hd => k d hd⟩⟩⟩
      | jitter n hx n1 n2 h =>
        subst hx
        refine ⟨_, rfl, _, _, _, rfl, .inl ⟨n, rfl, n1, n2, true, rfl, iteF ?_⟩⟩
        exact ⟨_, rfl, _, rfl, n, 1, rfl, rfl, _, _, _, rfl, .inr ⟨h, false, rfl, iteT ⟨_, rfl, fun d hd => k d hd⟩⟩⟩
      | phase n i hx n1 n2 hj i0 i1 hf h =>
        subst hx hj
        refine ⟨_, rfl, _, _, _, rfl, .inl ⟨n, rfl, n1, n2, true, rfl, iteF ?_⟩⟩
        refine ⟨_, rfl, _, rfl, n, 1, rfl, rfl, _, _, _, rfl, .inl ⟨i, rfl, i0, i1, true, rfl, iteF ?_⟩⟩
        exact ⟨_, rfl, rfl, true, by rw [decide_eq_false hf]; rfl, iteT ⟨_, rfl, _, rfl, n, 1, rfl, rfl, _, _, _, rfl, .inr ⟨h, false, rfl, iteT ⟨_, rfl, fun d hd => k d hd⟩⟩⟩⟩
    · refine ⟨_, rfl, _, _, _, rfl, .inl ⟨n, rfl, n1, n2, true, rfl, iteF ?_⟩⟩
      refine ⟨_, rfl, _, rfl, n, 1, rfl, rfl, _, _, _, rfl, .inl ⟨i, rfl, i0, i1, true, rfl, iteF ?_⟩⟩
      rcases hf with rfl | ⟨q, rfl, q0, q1⟩
      · refine ⟨_, rfl, rfl, false, rfl, iteF ?_⟩
        refine ⟨_, rfl, _, rfl, p, _, dx, [], rfl, hp, T.c_Sampler, T.nP, (by show 0 < 1000; decide), ?_⟩
        refine ⟨_, rfl, _, rfl, p, _, dx, _, rfl, upd_same, T.c_Sampler, T.nJ, (by show 1 < 1000; decide), ?_⟩
        rw [upd_upd]
        refine ⟨_, rfl, _, rfl, p, _, dx, _, rfl, upd_same, T.c_Sampler, T.nF, (by show 2 < 1000; decide), ?_⟩
        rw [upd_upd]
        exact k
      · refine ⟨_, rfl, rfl, true, rfl, iteT ⟨_, rfl, _, rfl, n, 1, rfl, rfl, _, _, _, rfl, .inl ⟨q, rfl, q0, q1, true, rfl, iteF ?_⟩⟩⟩
        refine ⟨_, rfl, _, rfl, p, _, dx, [], rfl, hp, T.c_Sampler, T.nP, (by show 0 < 1000; decide), ?_⟩
        refine ⟨_, rfl, _, rfl, p, _, dx, _, rfl, upd_same, T.c_Sampler, T.nJ, (by show 1 < 1000; decide), ?_⟩
        rw [upd_upd]
        refine ⟨_, rfl, _, rfl, p, _, dx, _, rfl, upd_same, T.c_Sampler, T.nF, (by show 2 < 1000; decide), ?_⟩
        rw [upd_upd]
        exact k
/-- Sampler(period, jitter, phase=f), Sampler(period) -/
theorem O_Sampler2k {fd : FuncData} (F : FunD K "__init__" "Sampler.__init__" (defArgs s_Sampler_init) (defBody s_Sampler_init) (defScope s_Sampler_init) [.int 0] [("phase", .int 0)] (He.fAd K ("Sampler", some "__init__")) fd) (G : FnOk P w K mg base (L2.CX P w) 4 (He.fAd K ("Sampler", some "__init__")) fd ["self", "period", "jitter", "phase"] (spSaI K)) :
    OkK P w K mg base (L2.CX P w) 4 ("Sampler", some "__init__") ["self", "period", "jitter", "phase"] 3 ["phase"] (fun vs zs => vs ++ zs) (spSaI K) := by
  obtain ⟨its, mv, b⟩ := F.kbinds (ps := ["self", "period", "jitter", "phase"]) 3 ["phase"] [] (fun us _ _ ws => us ++ ws) (by decide) (by decide) (fun _ h => nomatch h) (fun r1 _ _ r4 => r1.append r4)
    fun T D doc pm an cdv ct us its mv ws h1 h2 h3 h4 => match us, its, mv, ws, h1, h2, h3, h4 with | [_, _, _], [_], [], [_], _, _, _, _ => ⟨_, rfl, rfl⟩
  exact ⟨fd, _, G, b⟩
theorem O_Sampler1 {fd : FuncData} (F : FunD K "__init__" "Sampler.__init__" (defArgs s_Sampler_init) (defBody s_Sampler_init) (defScope s_Sampler_init) [.int 0] [("phase", .int 0)] (He.fAd K ("Sampler", some "__init__")) fd) (G : FnOk P w K mg base (L2.CX P w) 4 (He.fAd K ("Sampler", some "__init__")) fd ["self", "period", "jitter", "phase"] (spSaI K)) :
    OkK P w K mg base (L2.CX P w) 4 ("Sampler", some "__init__") ["self", "period", "jitter", "phase"] 2 [] (fun vs _ => vs ++ [.int 0, .int 0]) (spSaI K) := by
  obtain ⟨its, mv, b⟩ := F.kbinds (ps := ["self", "period", "jitter", "phase"]) 2 [] [("phase", .int 0)] (fun us its mv _ => us ++ (its ++ mv)) (by decide) (by decide) (fun _ h => h) (fun r1 r2 r3 _ => r1.append (r2.append r3))
    fun T D doc pm an cdv ct us its mv ws h1 h2 h3 h4 => match us, its, mv, ws, h1, h2, h3, h4 with | [_, _], [_], [_], [], _, _, _, _ => ⟨_, rfl, _, _, _, _, _, _, rfl, rfl, rfl⟩
  exact ⟨fd, _, G, b⟩
abbrev s_Sampler_eq : Stmt := inClass (top 9) 1
theorem sc_Sampler_eq : FnScope ["self", "other"] ["self", "other"] (defScope s_Sampler_eq) := ⟨rfl, rfl, rfl, by decide +kernel, rfl, by decide +kernel, by decide +kernel⟩
-- slots: 0 self, 1 other
def saB (n n' i i' : Int) (f f' : V) : Bool := decide (n = n') && (decide (i = i') && decide (f = f'))
/-- a phase: an int or None -/
def PhV (f : V) : Prop := f = .non ∨ ∃ q : Int, f = .int q
theorem PhOk.v {f : V} {n : Int} (h : PhOk f n) : PhV f := h.imp id fun ⟨q, e, _⟩ => ⟨q, e⟩
theorem PhV.scal {f f' : V} (h : PhV f) (h' : PhV f') : scal f f' = true := by
  rcases h with rfl | ⟨q, rfl⟩ <;> rcases h' with rfl | ⟨q', rfl⟩ <;> rfl
def spSaE (C : Addr) : Sp := fun vs H Q _ => ∃ (p q : Addr) (n n' i i' : Int) (f f' : V), vs = [.ref p, .ref q] ∧ SaA C H p n i f ∧ SaA C H q n' i' f' ∧ PhV f ∧ PhV f' ∧ Q (.bl (saB n n' i i' f f')) H
theorem int_dec (a c : Int) : decide (V.int a = V.int c) = decide (a = c) := decide_eq_decide.mpr ⟨fun h => V.int.inj h, fun h => by rw [h]⟩
theorem ok_Sampler_eq {fd : FuncData} (F : FnD K ("Sampler", some "__eq__") "__eq__" "Sampler.__eq__" s_Sampler_eq fd) (T : STxt K mg) : OkM P w K mg base CX0 1 "Sampler" "__eq__" ["self", "other"] (spSaE (CS K)) := by
  refine okd F (F.ok sc_Sampler_eq (fun vs H Q E h => ?_) fun cdv A outer s H vs Q E hr h => ?_) fun _ _ _ _ _ _ us hl => match us, hl with | [_, _], _ => rfl
  · obtain ⟨p, q, n, n', i, i', f, f', rfl, _⟩ := h
    rfl
  · obtain ⟨p, q, n, n', i, i', f, f', rfl, ⟨dx, hp⟩, ⟨dy, hq⟩, f1, f2, k⟩ := h
    refine ⟨_, PSs.nox (pss_one (ps_ret (pe_and (pe_callB call_isi (by rfl) T.z_isinstance (by decide +kernel) (pa_cons (pv 1) (pa_cons (pe_cl T.g_Sampler) pa_nil))) (pe_and (pe_cmpR op_eq (pe_fld (pv 0) rfl) (pe_fld (pv 1) rfl) (nomark _)) (pe_and (pe_cmpR op_eq (pe_fld (pv 0) rfl) (pe_fld (pv 1) rfl) (nomark _)) (pe_one (pe_cmpR op_eq (pe_fld (pv 0) rfl) (pe_fld (pv 1) rfl) (nomark _)))))))), ?_⟩
    refine ⟨_, rfl, .ref q, .ref (CS K), .ref (CS K), .ref (CS K), true, rfl, .own _, .base (.ins hq T.c_Sampler T.ha T.hn T.ht T.hm), T.k1, true, rfl, iteT ?_⟩
    unfold saB at k
    rw [← int_dec, ← int_dec] at k
    refine ⟨_, rfl, p, _, dx, _, _, rfl, hp, T.c_Sampler, T.nP, saf_period .., _, rfl, q, _, dy, _, _, rfl, hq, T.c_Sampler, T.nP, saf_period .., rfl, _, rfl, ?_⟩
    cases e1 : decide (V.int n = V.int n') with
    | false =>
      rw [e1] at k
      exact iteF k
    | true =>
      rw [e1] at k
      refine iteT ⟨_, rfl, p, _, dx, _, _, rfl, hp, T.c_Sampler, T.nJ, saf_jitter .., _, rfl, q, _, dy, _, _, rfl, hq, T.c_Sampler, T.nJ, saf_jitter .., rfl, _, rfl, ?_⟩
      cases e2 : decide (V.int i = V.int i') with
      | false =>
        rw [e2] at k
        exact iteF k
      | true =>
        rw [e2] at k
        exact iteT ⟨_, rfl, p, _, dx, _, _, rfl, hp, T.c_Sampler, T.nF, saf_phase .., _, rfl, q, _, dy, _, _, rfl, hq, T.c_Sampler, T.nF, saf_phase .., f1.scal f2, k⟩
abbrev s_new_or_kept : Stmt := top 10
theorem sc_new_or_kept : FnScope ["new", "kept"] ["new", "kept"] (defScope s_new_or_kept) := ⟨rfl, rfl, rfl, by decide +kernel, rfl, by decide +kernel, by decide +kernel⟩
-- slots: 0 new, 1 kept
/-- new, or old where new is the integer -1 -/
def kept (a o : V) : V := if a = .int (-1) then o else a
theorem kept_odd {H : Hp} {a o : V} (h : Odd H a) : kept a o = a := if_neg (by rintro rfl; cases h)
def spKept : Sp := fun vs H Q _ => ∃ a o : V, vs = [a, o] ∧ Any H a ∧ Q (kept a o) H
theorem ok_new_or_kept {fd : FuncData} (F : FnD K ("new_or_kept", none) "new_or_kept" "new_or_kept" s_new_or_kept fd) (T : STxt K mg) (O_is_integer : OkF P w K mg base CX0 1 "is_integer" ["x"] spIsInt) : OkF P w K mg base CX0 2 "new_or_kept" ["new", "kept"] spKept := by
  refine okd F (F.ok sc_new_or_kept (fun vs H Q E h => ?_) fun cdv A outer s H vs Q E hr h => ?_) fun _ _ _ _ _ _ us hl => match us, hl with | [_, _], _ => rfl
  · obtain ⟨a, o, rfl, _⟩ := h
    rfl
  · obtain ⟨a, o, rfl, h, k⟩ := h
    refine ⟨_, PSs.nox (pss_cons (ps_if (PW.pt (pw_and (pt_val (c_fn O_is_integer hr (by decide) T.g_is_integer pass0 (pa_cons (pv 0) pa_nil))) (pw_and1 (pt_cmpR op_eq (pv 0) (pe_un un_neg pe_int) (nomark _))))) (pss_one (ps_ret (pv 1)))
  pss_nil)
  (pss_one (ps_ret (pv 0)))), ?_⟩
    rcases h with ⟨n, rfl⟩ | h
    · refine ⟨_, rfl, _, rfl, .inl ⟨⟨n, rfl⟩, true, rfl, iteT ⟨_, rfl, 1, rfl, rfl, _, rfl, ite2 (fun e => ?_) fun e => ?_⟩⟩⟩
      · have e := of_decide_eq_true e
        unfold kept at k
        rw [if_pos e] at k
        exact ⟨_, rfl, k⟩
      · unfold kept at k
        rw [if_neg (fun z => e (decide_eq_true z))] at k
        exact ⟨_, rfl, k⟩
    · rw [kept_odd h] at k
      exact ⟨_, rfl, _, rfl, .inr ⟨h, false, rfl, iteF ⟨_, rfl, k⟩⟩⟩
abbrev s_Sampler_with_values : Stmt := inClass (top 9) 2
theorem sc_Sampler_with_values : FnScope ["self", "period", "jitter", "phase"] ["self", "period", "jitter", "phase"] (defScope s_Sampler_with_values) := ⟨rfl, rfl, rfl, by decide +kernel, rfl, by decide +kernel, by decide +kernel⟩
-- slots: 0 self, 1 period, 2 jitter, 3 phase
def spWith (K : PySem.W.Frag) : Sp := fun vs H Q E => ∃ (p : Addr) (a b c : V) (n i : Int) (f : V), vs = [.ref p, a, b, c] ∧ SaA (CS K) H p n i f ∧ Any H a ∧ Any H b ∧ Any H c ∧
  ((∃ w, SaIn H (kept a (.int n)) (kept b (.int i)) (kept c f) w ∧ ∀ H' d, Same H H' → H' d = none → E (.ref (CBS K)) (some d) (upd H' d (.xd [("why", .str w)]))) ∨
   (∃ n' i', SaOk (kept a (.int n)) (kept b (.int i)) (kept c f) n' i' ∧ ∀ H' q, Same H H' → SaA (CS K) H' q n' i' (kept c f) → Q (.ref q) H'))
theorem ok_Sampler_with {fd : FuncData} (F : FunD K "with_values" "Sampler.with_values" (defArgs s_Sampler_with_values) (defBody s_Sampler_with_values) (defScope s_Sampler_with_values) [] [("period", .int (-1)), ("jitter", .int (-1)), ("phase", .int (-1))] (He.fAd K ("Sampler", some "with_values")) fd) (T : STxt K mg)
    (O_new_or_kept : OkF P w K mg base CX0 2 "new_or_kept" ["new", "kept"] spKept)
    (O_Sampler_init2k : OkK P w K mg base (L2.CX P w) 4 ("Sampler", some "__init__") ["self", "period", "jitter", "phase"] 3 ["phase"] (fun vs zs => vs ++ zs) (spSaI K)) :
    FnOk P w K mg base (L2.CX P w) 6 (He.fAd K ("Sampler", some "with_values")) fd ["self", "period", "jitter", "phase"] (spWith K) := by
  refine F.ok sc_Sampler_with_values (fun vs H Q E h => ?_) fun cdv A outer s H vs Q E hr h => ?_
  · obtain ⟨p, a, b, c, n, i, f, rfl, _⟩ := h
    rfl
  · obtain ⟨p, a, b, c, n, i, f, rfl, ⟨dp, hp⟩, ha, hb, hc, h⟩ := h
    refine ⟨_, (pss_one (ps_ret (c_mkK T.m_Sampler O_Sampler_init2k hr (by decide) T.g_Sampler (passE rfl rfl rfl rfl) (pa_cons (c_fn O_new_or_kept hr (by decide) T.g_new_or_kept pass0 (pa_cons (pv 1) (pa_cons (pe_fld (pv 0) rfl) pa_nil))) (pa_cons (c_fn O_new_or_kept hr (by decide) T.g_new_or_kept pass0 (pa_cons (pv 2) (pa_cons (pe_fld (pv 0) rfl) pa_nil))) pa_nil)) (pk_cons (c_fn O_new_or_kept hr (by decide) T.g_new_or_kept pass0 (pa_cons (pv 3) (pa_cons (pe_fld (pv 0) rfl) pa_nil))) pk_nil)))), ?_⟩
    refine ⟨_, rfl, _, rfl, p, _, dp, _, _, rfl, hp, T.c_Sampler, T.nP, saf_period .., a, _, rfl, ha, ?_⟩
    refine ⟨_, rfl, _, rfl, p, _, dp, _, _, rfl, hp, T.c_Sampler, T.nJ, saf_jitter .., b, _, rfl, hb, ?_⟩
    refine ⟨_, rfl, _, rfl, p, _, dp, _, _, rfl, hp, T.c_Sampler, T.nF, saf_phase .., c, _, rfl, hc, ?_⟩
    refine ⟨rfl, rfl, fun q dx nq ndx ne => ⟨q, dx, _, _, _, rfl, upd_same, ?_⟩⟩
    have sm := same_make (o1 := .own q) (o2 := .ins (CS K) dx []) nq ndx
    rcases h with ⟨w, hi, k⟩ | ⟨n', i', hok, k⟩
    · exact .inl ⟨w, hi.ext sm, fun d hd => k _ d sm hd⟩
    · exact .inr ⟨n', i', hok, rfl, k _ q (made_pl nq ndx (Same.refl _)) ⟨dx, upd_same⟩⟩
theorem O_with3 {fd : FuncData} (F : FunD K "with_values" "Sampler.with_values" (defArgs s_Sampler_with_values) (defBody s_Sampler_with_values) (defScope s_Sampler_with_values) [] [("period", .int (-1)), ("jitter", .int (-1)), ("phase", .int (-1))] (He.fAd K ("Sampler", some "with_values")) fd) (G : FnOk P w K mg base (L2.CX P w) 6 (He.fAd K ("Sampler", some "with_values")) fd ["self", "period", "jitter", "phase"] (spWith K)) :
    OkK P w K mg base (L2.CX P w) 6 ("Sampler", some "with_values") ["self", "period", "jitter", "phase"] 1 ["phase", "period", "jitter"] (fun vs zs => vs ++ (zs.drop 1 ++ zs.take 1)) (spWith K) := by
  obtain ⟨mv, b⟩ := F.kbinds0 (ps := ["self", "period", "jitter", "phase"]) 1 ["phase", "period", "jitter"] [] (fun us _ ws => us ++ (ws.drop 1 ++ ws.take 1)) (by decide) (fun _ h => nomatch h) (fun r1 _ r4 => r1.append ((r4.drop 1).append (r4.take 1)))
    fun D doc pm an cdv ct us mv ws h1 h3 h4 => match us, mv, ws, h1, h3, h4 with | [_], [], [_, _, _], _, _, _ => rfl
  exact ⟨fd, _, G, b⟩
theorem O_with1 {fd : FuncData} (F : FunD K "with_values" "Sampler.with_values" (defArgs s_Sampler_with_values) (defBody s_Sampler_with_values) (defScope s_Sampler_with_values) [] [("period", .int (-1)), ("jitter", .int (-1)), ("phase", .int (-1))] (He.fAd K ("Sampler", some "with_values")) fd) (G : FnOk P w K mg base (L2.CX P w) 6 (He.fAd K ("Sampler", some "with_values")) fd ["self", "period", "jitter", "phase"] (spWith K)) :
    OkK P w K mg base (L2.CX P w) 6 ("Sampler", some "with_values") ["self", "period", "jitter", "phase"] 1 ["jitter"] (fun vs zs => vs ++ (.int (-1) :: (zs ++ [.int (-1)]))) (spWith K) := by
  obtain ⟨mv, b⟩ := F.kbinds0 (ps := ["self", "period", "jitter", "phase"]) 1 ["jitter"] [("period", .int (-1)), ("phase", .int (-1))] (fun us mv ws => us ++ (mv.take 1 ++ (ws ++ mv.drop 1))) (by decide) (fun _ h => by simp at h; rcases h with rfl | rfl <;> simp) (fun r1 r2 r4 => r1.append ((r2.take 1).append (r4.append (r2.drop 1))))
    fun D doc pm an cdv ct us mv ws h1 h3 h4 => match us, mv, ws, h1, h3, h4 with | [_], [_, _], [_], _, _, _ => ⟨_, _, _, _, _, _, rfl, rfl, _, _, _, _, _, _, rfl, rfl, rfl⟩
  exact ⟨fd, _, G, b⟩
theorem O_with0 {fd : FuncData} (F : FunD K "with_values" "Sampler.with_values" (defArgs s_Sampler_with_values) (defBody s_Sampler_with_values) (defScope s_Sampler_with_values) [] [("period", .int (-1)), ("jitter", .int (-1)), ("phase", .int (-1))] (He.fAd K ("Sampler", some "with_values")) fd) (G : FnOk P w K mg base (L2.CX P w) 6 (He.fAd K ("Sampler", some "with_values")) fd ["self", "period", "jitter", "phase"] (spWith K)) :
    OkK P w K mg base (L2.CX P w) 6 ("Sampler", some "with_values") ["self", "period", "jitter", "phase"] 1 [] (fun vs _ => vs ++ [.int (-1), .int (-1), .int (-1)]) (spWith K) := by
  obtain ⟨mv, b⟩ := F.kbinds0 (ps := ["self", "period", "jitter", "phase"]) 1 [] [("period", .int (-1)), ("jitter", .int (-1)), ("phase", .int (-1))] (fun us mv _ => us ++ mv) (by decide) (fun _ h => h) (fun r1 r2 _ => r1.append r2)
    fun D doc pm an cdv ct us mv ws h1 h3 h4 => match us, mv, ws, h1, h3, h4 with | [_], [_, _, _], [], _, _, _ => ⟨_, _, _, _, _, _, rfl, rfl, _, _, _, _, _, _, rfl, rfl, _, _, _, _, _, _, rfl, rfl, rfl⟩
  exact ⟨fd, _, G, b⟩
end
end K10

set_option Elab.async false
set_option linter.all false
set_option maxRecDepth 100000
set_option maxHeartbeats 2000000
namespace K10
open PySem PySem.Spec PyProof.Rows L2 Vf
section
variable {P : Program} {w : World} {K : PySem.W.Frag} {mg : Str → Option Value} {base : Heap}
structure Txt (K : PySem.W.Frag) (mg : Str → Option Value) : Prop extends STxt K mg where
  z_range : mg "range" = none
  z_len : mg "len" = none
  g_SeenError : mg "SeenError" = some (.ref (He.ga K "SeenError"))
  g_BadPlace : mg "BadPlace" = some (.ref (He.ga K "BadPlace"))
  k2 : PySem.W.kitOne K (.ref (He.ga K "BadSampler")) (.ref (He.ga K "SeenError")) = some true
  k3 : PySem.W.kitOne K (.ref (He.ga K "BadSampler")) (.ref (He.ga K "BadPlace")) = some false
  te : PySem.W.exmOne K (.ref (He.ga K "BadSampler")) (.ref (He.ga K "BadSampler")) = some true
  g_law_cell : mg "_law_cell" = some (.ref (He.ga K "_law_cell"))
  g_law_take : mg "_law_take" = some (.ref (He.ga K "_law_take"))
  g_law_is_integer : mg "_law_is_integer" = some (.ref (He.ga K "_law_is_integer"))
  g_law_odd : mg "_law_odd" = some (.ref (He.ga K "_law_odd"))
  g_law_value : mg "_law_value" = some (.ref (He.ga K "_law_value"))
  g_law_due : mg "_law_due" = some (.ref (He.ga K "_law_due"))
  g_law_made : mg "_law_made" = some (.ref (He.ga K "_law_made"))
  g_law_turned : mg "_law_turned" = some (.ref (He.ga K "_law_turned"))
  g_law_fits : mg "_law_fits" = some (.ref (He.ga K "_law_fits"))
  g_law_kept : mg "_law_kept" = some (.ref (He.ga K "_law_kept"))
theorem Txt.xf {K : PySem.W.Frag} {mg : Str → Option Value} (T : Txt K mg) : XfC K (He.ga K "BadSampler") := ⟨T.x_BadSampler.d.ga, T.x_BadSampler.d.gg, T.x_BadSampler.d.o.exC, T.x_BadSampler.d.hd⟩
structure LMeth (K : PySem.W.Frag) : Prop where
  m_eq : Meth K (He.ga K "Sampler") "__eq__" (He.fAd K ("Sampler", some "__eq__"))
  m_with_values : Meth K (He.ga K "Sampler") "with_values" (He.fAd K ("Sampler", some "with_values"))
  ne : PySem.W.findIn K (.ref (He.ga K "Sampler")) "__ne__" = some (some (.builtin "object.__ne__"))
abbrev s_law_is_integer : Stmt := top 14
theorem sc_law_is_integer : FnScope ["_law_value_here"] ["_law_value_here"] (defScope s_law_is_integer) := ⟨rfl, rfl, rfl, by decide +kernel, rfl, by decide +kernel, by decide +kernel⟩
-- slots: 0 _law_value_here
theorem ok_law_is_integer {fd : FuncData} (F : FnD K ("_law_is_integer", none) "_law_is_integer" "_law_is_integer" s_law_is_integer fd) (T : Txt K mg) : OkF P w K mg base CX0 1 "_law_is_integer" ["_law_value_here"] spIsInt := by
  refine okd F (F.ok sc_law_is_integer (fun vs H Q E h => ?_) fun cdv A outer s H vs Q E hr h => ⟨t_isint K, PSs.nox ?_, run_isint h⟩) fun _ _ _ _ _ _ us hl => match us, hl with | [_], _ => rfl
  · obtain ⟨x, rfl, _⟩ := h
    rfl
  · exact (pss_one (ps_ret (pe_and (pe_callB call_isi (by rfl) T.z_isinstance (by decide +kernel) (pa_cons (pv 0) (pa_cons (pe_ty (n := "int") T.z_int (by decide +kernel)) pa_nil))) (pe_one (pe_not (pe_callB call_isi (by rfl) T.z_isinstance (by decide +kernel) (pa_cons (pv 0) (pa_cons (pe_ty (n := "bool") T.z_bool (by decide +kernel)) pa_nil))))))))
abbrev s_law_take : Stmt := top 13
theorem sc_law_take : FnScope ["_law_draw", "_law_size", "_law_taken"] ["_law_draw", "_law_size"] (defScope s_law_take) := ⟨rfl, rfl, rfl, by decide +kernel, rfl, by decide +kernel, by decide +kernel⟩
-- slots: 0 _law_draw, 1 _law_size, 2 _law_taken
theorem ok_law_take {fd : FuncData} (F : FnD K ("_law_take", none) "_law_take" "_law_take" s_law_take fd) (T : Txt K mg) : OkF P w K mg base CX0 1 "_law_take" ["_law_draw", "_law_size"] spTake := by
  refine okd F (F.ok sc_law_take (fun vs H Q E h => ?_) fun cdv A outer s H vs Q E hr h => ?_) fun _ _ _ _ _ _ us hl => match us, hl with | [_, _], _ => rfl
  · obtain ⟨d, n, s, rfl, _⟩ := h
    rfl
  · obtain ⟨d, n, s, rfl, hd, s0, s1, q⟩ := h
    refine ⟨_, PSs.nox (pss_cons (ps_set (i := 2) sc_law_take.nd rfl (Or.inl rfl) (pe_op op_mod (pe_callTy call_int1 (by rfl) T.z_int (by decide +kernel) (pa_cons (pe_ix ix_list (pv 0) pe_int (fun _ _ => rfl)) pa_nil)) (pv 1)))
  (pss_cons (ps_asg (pe_op op_fdiv (pe_ix ix_list (pv 0) pe_int (fun _ _ => rfl)) (pv 1)) (pg_sub (pv 0) pe_int set_list))
  (pss_one (ps_ret (pv 2))))), ?_⟩
    refine ⟨_, rfl, d, [.int n], 0, .int n, rfl, rfl, SqL.of hd, atI0, .inl ⟨n, rfl, _, rfl, n, s, rfl, rfl, s0, ?_⟩⟩
    refine ⟨_, rfl, d, [.int n], 0, .int n, rfl, rfl, SqL.of hd, atI0, _, rfl, n, s, rfl, rfl, ⟨s0, s1⟩, ?_⟩
    refine ⟨_, rfl, d, [.int n], 0, 0, rfl, rfl, hd, ixN0, _, rfl, ?_⟩
    exact q (n % s) (n / s) (Int.emod_nonneg n (by omega)) (Int.emod_lt_of_pos n s0)
abbrev s_law_cell : Stmt := top 12
theorem sc_law_cell : FnScope ["_law_script", "_law_k", "_law_cell_here", "_law_number", "_law_total", "_law_step"] ["_law_script", "_law_k"] (defScope s_law_cell) := ⟨rfl, rfl, rfl, by decide +kernel, rfl, by decide +kernel, by decide +kernel⟩
-- slots: 0 _law_script, 1 _law_k, 2 _law_cell_here, 3 _law_number, 4 _law_total, 5 _law_step
theorem ok_law_cell {fd : FuncData} (F : FnD K ("_law_cell", none) "_law_cell" "_law_cell" s_law_cell fd) (T : Txt K mg) : OkF P w K mg base CX0 1 "_law_cell" ["_law_script", "_law_k"] (Vf.spCell K) := by
  refine okd F (F.ok sc_law_cell (fun vs H Q E h => ?_) fun cdv A outer s H vs Q E hr h => ?_) fun _ _ _ _ _ _ us hl => match us, hl with | [_, _], _ => rfl
  · obtain ⟨l, ns, j, rfl, _⟩ := h
    rfl
  · obtain ⟨l, ns, j, rfl, hS, hj, q⟩ := h
    refine ⟨_, PSs.nox (pss_cons (ps_set (i := 2) sc_law_cell.nd rfl (Or.inl rfl) pe_int)
  (C8.pss_cut (ps_if (pt_cmpR op_lt (pv 1) (pe_callB call_len_seq (by rfl) T.z_len (by decide +kernel) (pa_cons (pv 0) pa_nil)) (nomark _)) (pss_one (ps_set (i := 2) sc_law_cell.nd rfl (Or.inl rfl) (pe_ix ix_list (pv 0) (pv 1) (fun _ _ => rfl))))
  pss_nil)
  (pss_cons (ps_if (pt_cmpR op_ge (pv 2) (pe_op op_pow pe_int pe_int) (nomark _)) (pss_one (ps_ret (pv 2)))
  pss_nil)
  (pss_cons (ps_set (i := 3) sc_law_cell.nd rfl (Or.inl rfl) (pe_op op_mod (pe_callTy call_int1 (by rfl) T.z_int (by decide +kernel) (pa_cons (pe_op op_add (pe_op op_add (pe_op op_mul (pv 2) pe_int) (pe_op op_mul (pv 1) pe_int)) pe_int) pa_nil)) pe_int))
  (pss_cons (ps_set (i := 4) sc_law_cell.nd rfl (Or.inl rfl) pe_int)
  (pss_cons (ps_for PassesOwn.never rfl (pi_range1 rfl T.z_range (pa_cons pe_int pa_nil)) (pg_name (i := 5) sc_law_cell.nd rfl (Or.inl rfl))
  (pss_cons (ps_set (i := 3) sc_law_cell.nd rfl (Or.inl rfl) (pe_op op_mod (pe_callTy call_int1 (by rfl) T.z_int (by decide +kernel) (pa_cons (pe_op op_add (pe_op op_add (pe_op op_mul (pv 3) pe_int) (pe_op op_mul (pv 5) pe_int)) pe_int) pa_nil)) pe_int))
  (pss_cons (ps_set (i := 3) sc_law_cell.nd rfl (Or.inl rfl) (pe_op op_mod (pe_callTy call_int1 (by rfl) T.z_int (by decide +kernel) (pa_cons (pe_op op_mul (pv 3) (pe_op op_add (pe_op op_fdiv (pv 3) pe_int) pe_int)) pa_nil)) pe_int))
  (pss_one (ps_set (i := 4) sc_law_cell.nd rfl (Or.inl rfl) (pe_op op_add (pe_op op_mul (pv 4) pe_int) (pv 3)))))))
  (pss_one (ps_ret (pv 4))))))))), ?_⟩
    refine ⟨fun σ' H' => H' = H ∧ ∃ c : Int, σ' = [some (.ref l), some (.int (j : Int)), some (.int c), none, none, none], ?_, ?_⟩
    · refine ⟨_, rfl, _, rfl, l, _, rfl, .inl hS, _, _, rfl, rfl, _, rfl, ite2 (fun hlt => ?_) fun _ => ⟨rfl, 0, rfl⟩⟩
      have hj2 : j < ns.length := by
        have := of_decide_eq_true hlt
        rw [List.length_map] at this
        omega
      refine ⟨_, rfl, _, rfl, l, _, (j : Int), .int ns[j], rfl, rfl, hS, atI_nat ?_, rfl, _, rfl⟩
      rw [List.getElem?_map, List.getElem?_eq_getElem hj2]
      rfl
    rintro σ' H' ⟨rfl, c, rfl⟩
    refine ⟨_, rfl, 10, 18, rfl, rfl, ⟨by decide, by decide, by decide⟩, _, _, rfl, rfl, _, rfl, ite2 (fun _ => ⟨_, rfl, q c⟩) fun _ => ?_⟩
    refine ⟨_, rfl, c, 7, rfl, rfl, .inr ⟨by decide, by decide⟩, _, rfl, (j : Int), 7919, rfl, rfl, .inr ⟨by decide, by decide⟩, _, _, rfl, rfl, _, _, rfl, rfl, .inl ⟨_, rfl, _, 2147483647, rfl, rfl, (by show (0 : Int) < 2147483647; decide), ?_⟩⟩
    refine ⟨8, rfl, by decide, by decide, for_range (lo := 0) (n := 8) (fun i σ H1 => H1 = H' ∧ ∃ (num tot : Int) (v : Option V), 0 ≤ num ∧ num < 2147483647 ∧ σ = [some (.ref l), some (.int (j : Int)), some (.int c), some (.int num), some (.int tot), v]) ?_ ?_ ?_⟩
    · exact ⟨rfl, _, 0, none, Int.emod_nonneg _ (by decide), Int.emod_lt_of_pos _ (by decide), rfl⟩
    · rintro i σ H1 hi ⟨rfl, num, tot, v, h0, h1, rfl⟩
      refine ⟨_, rfl, num, 48271, rfl, rfl, .inr ⟨by decide, by decide⟩, _, rfl, _, 30103, rfl, rfl, .inr ⟨by decide, by decide⟩, _, _, rfl, rfl, _, 11, rfl, rfl, .inl ⟨_, rfl, _, 2147483647, rfl, rfl, (by show (0 : Int) < 2147483647; decide), ?_⟩⟩
      have b0 := Int.emod_nonneg (num * 48271 + (0 + (i : Int)) * 30103 + 11) (b := 2147483647) (by decide)
      have b1 := Int.emod_lt_of_pos (num * 48271 + (0 + (i : Int)) * 30103 + 11) (b := 2147483647) (by decide)
      refine ⟨_, rfl, _, rfl, _, 1009, rfl, rfl, ⟨by decide, by decide⟩, _, 69621, rfl, rfl, _, _, rfl, rfl, .inl ⟨by omega, by omega⟩, .inl ⟨_, rfl, _, 2147483629, rfl, rfl, (by show (0 : Int) < 2147483629; decide), ?_⟩⟩
      refine ⟨_, rfl, tot, 2147483629, rfl, rfl, .inr ⟨by decide, by decide⟩, _, rfl, _, _, rfl, rfl, ?_⟩
      exact ⟨rfl, _, _, _, Int.emod_nonneg _ (by decide), Int.lt_trans (Int.emod_lt_of_pos _ (by decide)) (by decide), rfl⟩
    · rintro σ H1 ⟨rfl, num, tot, v, h0, h1, rfl⟩
      exact ⟨_, rfl, q tot⟩
/-- all but what stands at d is as it was -/
def SameX (d : Addr) (H H' : Hp) : Prop := ∀ b o, b ≠ d → H b = some o → H' b = some o
theorem SameX.trans {d : Addr} {H H1 H2 : Hp} (a : SameX d H H1) (b : SameX d H1 H2) : SameX d H H2 := fun c o n h => b c o n (a c o n h)
theorem same_x {d : Addr} {H H' : Hp} (s : Same H H') : SameX d H H' := fun b o _ h => s b o h
theorem SameX.upd {d : Addr} {H : Hp} {o : HO} : SameX d H (upd H d o) := fun b u n h => by rw [upd_ne n]; exact h
/-- the script is read whatever the draws do -/
def Scr (K : PySem.W.Frag) (d l : Addr) (ns : List Int) (H : Hp) : Prop := ∀ H', SameX d H H' → SqL K H' l (ns.map V.int)
theorem Scr.to {d l : Addr} {ns : List Int} {H H' : Hp} (h : Scr K d l ns H) (s : SameX d H H') : Scr K d l ns H' := fun H2 s2 => h H2 (s.trans s2)
theorem same_x2 {H H1 H2 : Hp} {d : Addr} (s : Same H H1) (x : SameX d H1 H2) (n : H d = none) : Same H H2 := fun b o e => x b o (ne_of_none e n) (s b o e)
theorem none_of {H H1 : Hp} {a : Addr} (s : Same H H1) (n : H1 a = none) : H a = none := by
  cases e : H a with
  | none => rfl
  | some o =>
    have := s _ _ e
    rw [n] at this
    cases this
theorem odd_extX {H H' : Hp} {d : Addr} {x : V} {ys : List V} (o : Odd H x) (s : SameX d H H') (hd : H' d = some (.lst ys)) : Odd H' x := by
  cases o with
  | bl b => exact .bl b
  | non => exact .non
  | str z => exact .str z
  | @tup a xs h =>
    by_cases e : a = d
    · subst e
      exact .lst hd
    · exact .tup (s _ _ e h)
  | @lst a xs h =>
    by_cases e : a = d
    · subst e
      exact .lst hd
    · exact .lst (s _ _ e h)
  | @dic a xs h =>
    by_cases e : a = d
    · subst e
      exact .lst hd
    · exact .dic (s _ _ e h)
theorem anyX {H H' : Hp} {d : Addr} {x : V} {ys : List V} (o : Any H x) (s : SameX d H H') (hd : H' d = some (.lst ys)) : Any H' x := o.imp id fun o => odd_extX o s hd
abbrev s_law_odd : Stmt := top 15
theorem sc_law_odd : FnScope ["_law_draw"] ["_law_draw"] (defScope s_law_odd) := ⟨rfl, rfl, rfl, by decide +kernel, rfl, by decide +kernel, by decide +kernel⟩
-- slots: 0 _law_draw
def spOdd : Sp := fun vs H Q _ => ∃ (d : Addr) (n : Int), vs = [.ref d] ∧ H d = some (.lst [.int n]) ∧ ∀ (H' : Hp) (m : Int) (y : V), SameX d H H' → H' d = some (.lst [.int m]) → Odd H' y → Q y H'
theorem ok_law_odd {fd : FuncData} (F : FnD K ("_law_odd", none) "_law_odd" "_law_odd" s_law_odd fd) (T : Txt K mg) (O_law_take : OkF P w K mg base CX0 1 "_law_take" ["_law_draw", "_law_size"] spTake) : OkF P w K mg base CX0 2 "_law_odd" ["_law_draw"] spOdd := by
  refine okd F (F.ok sc_law_odd (fun vs H Q E h => ?_) fun cdv A outer s H vs Q E hr h => ?_) fun _ _ _ _ _ _ us hl => match us, hl with | [_], _ => rfl
  · obtain ⟨d, n, rfl, _⟩ := h
    rfl
  · obtain ⟨d, n, rfl, hd, k⟩ := h
    refine ⟨_, PSs.nox (pss_one (ps_ret (pe_ix ix_list (pe_lst (pa_cons pe_str (pa_cons pe_bl (pa_cons pe_bl (pa_cons (pe_tup (pa_cons pe_int pa_nil)) (pa_cons (pe_lst (pa_cons pe_int pa_nil)) (pa_cons pe_dnewK (pa_cons pe_str pa_nil)))))))) (c_fn O_law_take hr (by decide) T.g_law_take pass0 (pa_cons (pv 0) (pa_cons pe_int pa_nil))) (fun _ _ => rfl)))), ?_⟩
    refine ⟨(by show 1 ≤ sizeLine; decide), fun t1 n1 => ⟨(by show 1 ≤ sizeLine; decide), fun t2 n2 => fun t3 n3 => ⟨(by show 7 ≤ sizeLine; decide), fun O nO => ?_⟩⟩⟩
    have u1 := same_new (o := .tup [.int 1]) n1
    have u2 := same_new (o := .lst [.int 1]) n2
    have u3 := same_new (o := .dK []) n3
    have u4 := same_new (o := .lst [.str "2", .bl true, .bl false, .ref t1, .ref t2, .ref t3, .str "any"]) nO
    have g1 := u4 _ _ (u3 _ _ (u2 _ _ (upd_same (H := H) (a := t1) (o := .tup [.int 1]))))
    have g2 := u4 _ _ (u3 _ _ (upd_same (H := upd H t1 (.tup [.int 1])) (a := t2) (o := .lst [.int 1])))
    have g3 := u4 _ _ (upd_same (H := upd (upd H t1 (.tup [.int 1])) t2 (.lst [.int 1])) (a := t3) (o := .dK []))
    have g4 := upd_same (H := upd (upd (upd H t1 (.tup [.int 1])) t2 (.lst [.int 1])) t3 (.dK [])) (a := O) (o := .lst [.str "2", .bl true, .bl false, .ref t1, .ref t2, .ref t3, .str "any"])
    have hd4 := u4 _ _ (u3 _ _ (u2 _ _ (u1 _ _ hd)))
    have s4 := same_x (d := d) (u1.trans (u2.trans (u3.trans u4)))
    generalize upd (upd (upd (upd H t1 (.tup [.int 1])) t2 (.lst [.int 1])) t3 (.dK [])) O (.lst [.str "2", .bl true, .bl false, .ref t1, .ref t2, .ref t3, .str "any"]) = H4 at g1 g2 g3 g4 hd4 s4 ⊢
    have nd2 : t2 ≠ d := (ne_of_none (u1 _ _ hd) n2).symm
    clear u1 u2 u3 u4 n1 n2 n3 nO
    have nd1 : t1 ≠ d := ne_of g1 hd4 (by intro z; cases z)
    have nd3 : t3 ≠ d := ne_of g3 hd4 (by intro z; cases z)
    have nd4 : O ≠ d := ne_of g4 hd4 (by intro z; cases z)
    refine ⟨_, rfl, d, n, 7, rfl, hd4, by decide, by decide, fun q m q0 q1 => ?_⟩
    have s5 := s4.trans (SameX.upd (d := d) (o := .lst [.int m]))
    have b1 : (upd H4 d (.lst [.int m])) t1 = some (.tup [.int 1]) := by rw [upd_ne nd1]; exact g1
    have b2 : (upd H4 d (.lst [.int m])) t2 = some (.lst [.int 1]) := by rw [upd_ne nd2]; exact g2
    have b3 : (upd H4 d (.lst [.int m])) t3 = some (.dK []) := by rw [upd_ne nd3]; exact g3
    have b4 : (upd H4 d (.lst [.int m])) O = some (.lst [.str "2", .bl true, .bl false, .ref t1, .ref t2, .ref t3, .str "any"]) := by rw [upd_ne nd4]; exact g4
    obtain ⟨j, hj, rfl⟩ : ∃ j : Nat, j < 7 ∧ q = (j : Int) := ⟨q.toNat, by omega, by omega⟩
    obtain ⟨x, hx, hb⟩ : ∃ x : V, ([.str "2", .bl true, .bl false, .ref t1, .ref t2, .ref t3, .str "any"] : List V)[j]? = some x ∧ Odd (upd H4 d (.lst [.int m])) x := by
      match j, hj with
      | 0, _ => exact ⟨_, rfl, .str _⟩
      | 1, _ => exact ⟨_, rfl, .bl _⟩
      | 2, _ => exact ⟨_, rfl, .bl _⟩
      | 3, _ => exact ⟨_, rfl, .tup b1⟩
      | 4, _ => exact ⟨_, rfl, .lst b2⟩
      | 5, _ => exact ⟨_, rfl, .dic b3⟩
      | 6, _ => exact ⟨_, rfl, .str _⟩
    exact ⟨O, _, _, x, rfl, rfl, SqL.of b4, atI_nat hx, k _ m _ s5 upd_same hb⟩
abbrev s_law_value : Stmt := top 16
theorem sc_law_value : FnScope ["_law_draw", "_law_most", "_law_kind"] ["_law_draw", "_law_most"] (defScope s_law_value) := ⟨rfl, rfl, rfl, by decide +kernel, rfl, by decide +kernel, by decide +kernel⟩
-- slots: 0 _law_draw, 1 _law_most, 2 _law_kind
def spVal : Sp := fun vs H Q _ => ∃ (d : Addr) (n s : Int), vs = [.ref d, .int s] ∧ H d = some (.lst [.int n]) ∧ 0 ≤ s ∧ s < 1000 ∧ ∀ (H' : Hp) (m : Int) (y : V), SameX d H H' → H' d = some (.lst [.int m]) → Any H' y → Q y H'
theorem ok_law_value {fd : FuncData} (F : FnD K ("_law_value", none) "_law_value" "_law_value" s_law_value fd) (T : Txt K mg) (O_law_take : OkF P w K mg base CX0 1 "_law_take" ["_law_draw", "_law_size"] spTake) (O_law_odd : OkF P w K mg base CX0 2 "_law_odd" ["_law_draw"] spOdd) : OkF P w K mg base CX0 3 "_law_value" ["_law_draw", "_law_most"] spVal := by
  refine okd F (F.ok sc_law_value (fun vs H Q E h => ?_) fun cdv A outer s H vs Q E hr h => ?_) fun _ _ _ _ _ _ us hl => match us, hl with | [_, _], _ => rfl
  · obtain ⟨d, n, s, rfl, _⟩ := h
    rfl
  · obtain ⟨d, n, s, rfl, hd, s0, s1, k⟩ := h
    refine ⟨_, PSs.nox (pss_cons (ps_set (i := 2) sc_law_value.nd rfl (Or.inl rfl) (c_fn O_law_take hr (by decide) T.g_law_take pass0 (pa_cons (pv 0) (pa_cons pe_int pa_nil))))
  (pss_cons (ps_if (pt_cmpR op_eq (pv 2) pe_int (nomark _)) (pss_one (ps_ret (c_fn O_law_odd hr (by decide) T.g_law_odd pass0 (pa_cons (pv 0) pa_nil))))
  pss_nil)
  (pss_cons (ps_if (pt_cmpR op_eq (pv 2) pe_int (nomark _)) (pss_one (ps_ret pe_non))
  pss_nil)
  (pss_cons (ps_if (pt_cmpR op_eq (pv 2) pe_int (nomark _)) (pss_one (ps_ret (pe_un un_neg pe_int)))
  pss_nil)
  (pss_one (ps_ret (c_fn O_law_take hr (by decide) T.g_law_take pass0 (pa_cons (pv 0) (pa_cons (pe_op op_add (pv 1) pe_int) pa_nil))))))))), ?_⟩
    refine ⟨_, rfl, d, n, 10, rfl, hd, by decide, by decide, fun r m r0 r1 => ?_⟩
    have x1 : SameX d H (upd H d (.lst [.int m])) := SameX.upd
    refine ⟨_, rfl, rfl, _, rfl, ite2 (fun _ => ?_) fun _ => ?_⟩
    · exact ⟨_, rfl, d, m, rfl, upd_same, fun H' m' y x2 hd' o => k H' m' y (x1.trans x2) hd' (.inr o)⟩
    · refine ⟨_, rfl, rfl, _, rfl, ite2 (fun _ => ?_) fun _ => ?_⟩
      · exact k _ m _ x1 upd_same (.inr .non)
      · refine ⟨_, rfl, rfl, _, rfl, ite2 (fun _ => ?_) fun _ => ?_⟩
        · exact ⟨1, rfl, k _ m _ x1 upd_same (.inl ⟨_, rfl⟩)⟩
        · exact ⟨_, rfl, _, rfl, s, 2, rfl, rfl, d, m, s + 2, rfl, upd_same, by omega, by omega, fun q m2 q0 q1 => k _ m2 _ (x1.trans SameX.upd) upd_same (.inl ⟨_, rfl⟩)⟩
abbrev s_law_kept : Stmt := top 21
theorem sc_law_kept : FnScope ["_law_old", "_law_part"] ["_law_old", "_law_part"] (defScope s_law_kept) := ⟨rfl, rfl, rfl, by decide +kernel, rfl, by decide +kernel, by decide +kernel⟩
-- slots: 0 _law_old, 1 _law_part
def spKeptL : Sp := fun vs H Q _ => ∃ a o : V, vs = [o, a] ∧ Any H a ∧ Q (kept a o) H
theorem ok_law_kept {fd : FuncData} (F : FnD K ("_law_kept", none) "_law_kept" "_law_kept" s_law_kept fd) (T : Txt K mg) (O_law_is_integer : OkF P w K mg base CX0 1 "_law_is_integer" ["_law_value_here"] spIsInt) : OkF P w K mg base CX0 2 "_law_kept" ["_law_old", "_law_part"] spKeptL := by
  refine okd F (F.ok sc_law_kept (fun vs H Q E h => ?_) fun cdv A outer s H vs Q E hr h => ?_) fun _ _ _ _ _ _ us hl => match us, hl with | [_, _], _ => rfl
  · obtain ⟨a, o, rfl, _⟩ := h
    rfl
  · obtain ⟨a, o, rfl, h, k⟩ := h
    refine ⟨_, PSs.nox (pss_cons (ps_if (PW.pt (pw_and (pt_val (c_fn O_law_is_integer hr (by decide) T.g_law_is_integer pass0 (pa_cons (pv 1) pa_nil))) (pw_and1 (pt_cmpR op_eq (pv 1) (pe_un un_neg pe_int) (nomark _))))) (pss_one (ps_ret (pv 0)))
  pss_nil)
  (pss_one (ps_ret (pv 1)))), ?_⟩
    rcases h with ⟨n, rfl⟩ | h
    · refine ⟨_, rfl, _, rfl, .inl ⟨⟨n, rfl⟩, true, rfl, iteT ⟨_, rfl, 1, rfl, rfl, _, rfl, ite2 (fun e => ?_) fun e => ?_⟩⟩⟩
      · have e := of_decide_eq_true e
        unfold kept at k
        rw [if_pos e] at k
        exact ⟨_, rfl, k⟩
      · unfold kept at k
        rw [if_neg (fun z => e (decide_eq_true z))] at k
        exact ⟨_, rfl, k⟩
    · rw [kept_odd h] at k
      exact ⟨_, rfl, _, rfl, .inr ⟨h, false, rfl, iteF ⟨_, rfl, k⟩⟩⟩
theorem atI2 {a b c : V} {cs : List V} : atI (a :: b :: c :: cs) 2 = some c := atI_nat (j := 2) rfl
abbrev s_law_due : Stmt := top 17
theorem sc_law_due : FnScope ["_law_spec"] ["_law_spec"] (defScope s_law_due) := ⟨rfl, rfl, rfl, by decide +kernel, rfl, by decide +kernel, by decide +kernel⟩
-- slots: 0 _law_spec
def spDue : Sp := fun vs H Q _ => ∃ (s : Addr) (a b c : V), vs = [.ref s] ∧ H s = some (.lst [a, b, c]) ∧ ((∃ w, SaIn H a b c w ∧ Q (.str w) H) ∨ (∃ n i, SaOk a b c n i ∧ Q (.str "") H))
theorem ok_law_due {fd : FuncData} (F : FnD K ("_law_due", none) "_law_due" "_law_due" s_law_due fd) (T : Txt K mg) (O_law_is_integer : OkF P w K mg base CX0 1 "_law_is_integer" ["_law_value_here"] spIsInt) : OkF P w K mg base CX0 2 "_law_due" ["_law_spec"] spDue := by
  refine okd F (F.ok sc_law_due (fun vs H Q E h => ?_) fun cdv A outer s H vs Q E hr h => ?_) fun _ _ _ _ _ _ us hl => match us, hl with | [_], _ => rfl
  · obtain ⟨s, a, b, c, rfl, _⟩ := h
    rfl
  · obtain ⟨s, a, b, c, rfl, hs, h⟩ := h
    refine ⟨_, PSs.nox (pss_cons (ps_if (PW.pt (pw_or (pt_not (pt_val (c_fn O_law_is_integer hr (by decide) T.g_law_is_integer pass0 (pa_cons (pe_ix ix_list (pv 0) pe_int (fun _ _ => rfl)) pa_nil)))) (pw_or1 (pt_not (pt_chain op_le op_le pe_int (pe_ix ix_list (pv 0) pe_int (fun _ _ => rfl)) pe_int))))) (pss_one (ps_ret pe_str))
  pss_nil)
  (pss_cons (ps_if (PW.pt (pw_or (pt_not (pt_val (c_fn O_law_is_integer hr (by decide) T.g_law_is_integer pass0 (pa_cons (pe_ix ix_list (pv 0) pe_int (fun _ _ => rfl)) pa_nil)))) (pw_or1 (pt_not (pt_chain op_le op_lt pe_int (pe_ix ix_list (pv 0) pe_int (fun _ _ => rfl)) (pe_ix ix_list (pv 0) pe_int (fun _ _ => rfl))))))) (pss_one (ps_ret pe_str))
  pss_nil)
  (pss_cons (ps_if (PW.pt (pw_and (pt_cmpR op_notN (pe_ix ix_list (pv 0) pe_int (fun _ _ => rfl)) pe_non (nomark _)) (pw_and1 (PW.pt (pw_or (pt_not (pt_val (c_fn O_law_is_integer hr (by decide) T.g_law_is_integer pass0 (pa_cons (pe_ix ix_list (pv 0) pe_int (fun _ _ => rfl)) pa_nil)))) (pw_or1 (pt_not (pt_chain op_le op_lt pe_int (pe_ix ix_list (pv 0) pe_int (fun _ _ => rfl)) (pe_ix ix_list (pv 0) pe_int (fun _ _ => rfl)))))))))) (pss_one (ps_ret pe_str))
  pss_nil)
  (pss_one (ps_ret pe_str))))), ?_⟩
    have hS : SqL K H s [a, b, c] := SqL.of hs
    -- the tests that are passed
    have pr : ∀ (n : Int) {Q1 : Prop}, 1 ≤ n → n ≤ 8 → a = .int n → Q1 → True := fun _ _ _ _ _ _ => trivial
    clear pr
    rcases h with ⟨w, hi, q⟩ | ⟨n, i, ⟨rfl, n1, n2, rfl, i0, i1, hf⟩, q⟩
    · cases hi with
      | period h =>
        rcases h with ⟨n, rfl, hn⟩ | o
        · refine ⟨_, rfl, s, _, 0, .int n, rfl, rfl, hS, atI0, _, rfl, .inl ⟨⟨n, rfl⟩, true, rfl, iteF ?_⟩⟩
          by_cases l1 : 1 ≤ n
          · exact ⟨_, rfl, s, _, 0, .int n, rfl, rfl, hS, atI0, 1, n, rfl, rfl, true, congrArg V.bl (decide_eq_true l1), iteT ⟨n, 8, rfl, rfl, false, congrArg V.bl (decide_eq_false fun z => hn ⟨l1, z⟩), iteT q⟩⟩
          · exact ⟨_, rfl, s, _, 0, .int n, rfl, rfl, hS, atI0, 1, n, rfl, rfl, false, congrArg V.bl (decide_eq_false l1), iteF ⟨false, rfl, iteT q⟩⟩
        · exact ⟨_, rfl, s, _, 0, a, rfl, rfl, hS, atI0, _, rfl, .inr ⟨o, false, rfl, iteT q⟩⟩
      | jitter n hx n1 n2 h =>
        subst hx
        refine ⟨_, rfl, s, _, 0, .int n, rfl, rfl, hS, atI0, _, rfl, .inl ⟨⟨n, rfl⟩, true, rfl, iteF ⟨_, rfl, s, _, 0, .int n, rfl, rfl, hS, atI0, 1, n, rfl, rfl, true, congrArg V.bl (decide_eq_true n1), iteT ⟨n, 8, rfl, rfl, true, congrArg V.bl (decide_eq_true n2), iteF ?_⟩⟩⟩⟩
        rcases h with ⟨i, rfl, hn⟩ | o
        · refine ⟨_, rfl, s, _, 1, .int i, rfl, rfl, hS, atI1, _, rfl, .inl ⟨⟨i, rfl⟩, true, rfl, iteF ?_⟩⟩
          by_cases l1 : 0 ≤ i
          · exact ⟨_, rfl, s, _, 1, .int i, rfl, rfl, hS, atI1, 0, i, rfl, rfl, true, congrArg V.bl (decide_eq_true l1), iteT ⟨_, rfl, s, _, 0, .int n, rfl, rfl, hS, atI0, i, n, rfl, rfl, false, congrArg V.bl (decide_eq_false fun z => hn ⟨l1, by omega⟩), iteT q⟩⟩
          · exact ⟨_, rfl, s, _, 1, .int i, rfl, rfl, hS, atI1, 0, i, rfl, rfl, false, congrArg V.bl (decide_eq_false l1), iteF ⟨false, rfl, iteT q⟩⟩
        · exact ⟨_, rfl, s, _, 1, b, rfl, rfl, hS, atI1, _, rfl, .inr ⟨o, false, rfl, iteT q⟩⟩
      | phase n i hx n1 n2 hj i0 i1 hf h =>
        subst hx hj
        refine ⟨_, rfl, s, _, 0, .int n, rfl, rfl, hS, atI0, _, rfl, .inl ⟨⟨n, rfl⟩, true, rfl, iteF ⟨_, rfl, s, _, 0, .int n, rfl, rfl, hS, atI0, 1, n, rfl, rfl, true, congrArg V.bl (decide_eq_true n1), iteT ⟨n, 8, rfl, rfl, true, congrArg V.bl (decide_eq_true n2), iteF ?_⟩⟩⟩⟩
        refine ⟨_, rfl, s, _, 1, .int i, rfl, rfl, hS, atI1, _, rfl, .inl ⟨⟨i, rfl⟩, true, rfl, iteF ⟨_, rfl, s, _, 1, .int i, rfl, rfl, hS, atI1, 0, i, rfl, rfl, true, congrArg V.bl (decide_eq_true i0), iteT ⟨_, rfl, s, _, 0, .int n, rfl, rfl, hS, atI0, i, n, rfl, rfl, true, congrArg V.bl (decide_eq_true (show i < n by omega)), iteF ?_⟩⟩⟩⟩
        refine ⟨_, rfl, s, _, 2, c, rfl, rfl, hS, atI2, rfl, true, by rw [decide_eq_false hf]; rfl, iteT ?_⟩
        rcases h with ⟨k, rfl, hn⟩ | o
        · refine ⟨_, rfl, s, _, 2, .int k, rfl, rfl, hS, atI2, _, rfl, .inl ⟨⟨k, rfl⟩, true, rfl, iteF ?_⟩⟩
          by_cases l1 : 0 ≤ k
          · exact ⟨_, rfl, s, _, 2, .int k, rfl, rfl, hS, atI2, 0, k, rfl, rfl, true, congrArg V.bl (decide_eq_true l1), iteT ⟨_, rfl, s, _, 0, .int n, rfl, rfl, hS, atI0, k, n, rfl, rfl, false, congrArg V.bl (decide_eq_false fun z => hn ⟨l1, by omega⟩), iteT q⟩⟩
          · exact ⟨_, rfl, s, _, 2, .int k, rfl, rfl, hS, atI2, 0, k, rfl, rfl, false, congrArg V.bl (decide_eq_false l1), iteF ⟨false, rfl, iteT q⟩⟩
        · exact ⟨_, rfl, s, _, 2, c, rfl, rfl, hS, atI2, _, rfl, .inr ⟨o, false, rfl, iteT q⟩⟩
    · refine ⟨_, rfl, s, _, 0, .int n, rfl, rfl, hS, atI0, _, rfl, .inl ⟨⟨n, rfl⟩, true, rfl, iteF ⟨_, rfl, s, _, 0, .int n, rfl, rfl, hS, atI0, 1, n, rfl, rfl, true, congrArg V.bl (decide_eq_true n1), iteT ⟨n, 8, rfl, rfl, true, congrArg V.bl (decide_eq_true n2), iteF ?_⟩⟩⟩⟩
      refine ⟨_, rfl, s, _, 1, .int i, rfl, rfl, hS, atI1, _, rfl, .inl ⟨⟨i, rfl⟩, true, rfl, iteF ⟨_, rfl, s, _, 1, .int i, rfl, rfl, hS, atI1, 0, i, rfl, rfl, true, congrArg V.bl (decide_eq_true i0), iteT ⟨_, rfl, s, _, 0, .int n, rfl, rfl, hS, atI0, i, n, rfl, rfl, true, congrArg V.bl (decide_eq_true (show i < n by omega)), iteF ?_⟩⟩⟩⟩
      rcases hf with rfl | ⟨k, rfl, k0, k1⟩
      · exact ⟨_, rfl, s, _, 2, .non, rfl, rfl, hS, atI2, rfl, false, rfl, iteF q⟩
      · exact ⟨_, rfl, s, _, 2, .int k, rfl, rfl, hS, atI2, rfl, true, rfl, iteT ⟨_, rfl, s, _, 2, .int k, rfl, rfl, hS, atI2, _, rfl, .inl ⟨⟨k, rfl⟩, true, rfl, iteF ⟨_, rfl, s, _, 2, .int k, rfl, rfl, hS, atI2, 0, k, rfl, rfl, true, congrArg V.bl (decide_eq_true k0), iteT ⟨_, rfl, s, _, 0, .int n, rfl, rfl, hS, atI0, k, n, rfl, rfl, true, congrArg V.bl (decide_eq_true (show k < n by omega)), iteF q⟩⟩⟩⟩⟩
end
end K10

set_option Elab.async false
set_option linter.all false
set_option maxRecDepth 100000
set_option maxHeartbeats 2000000
namespace K10
open PySem PySem.Spec PyProof.Rows L2 Vf
section
variable {P : Program} {w : World} {K : PySem.W.Frag} {mg : Str → Option Value} {base : Heap}
/-- what an outcome must be that fits a, b, c -/
def Fit (C : Addr) (H : Hp) (o : Addr) (a b c : V) : Prop := (∃ w, SaIn H a b c w ∧ H o = some (.tup [.str "refused", .str w, .bl true, .bl false])) ∨ (∃ n i p, SaOk a b c n i ∧ H o = some (.tup [.str "made", .ref p]) ∧ SaA C H p n i c)
theorem classifyS {H : Hp} {a b c : V} (va : Any H a) (vb : Any H b) (vc : Any H c) : (∃ w, SaIn H a b c w) ∨ ∃ n i, SaOk a b c n i := by
  by_cases h1 : NotFr H a 1 8
  · exact .inl ⟨_, .period h1⟩
  · obtain ⟨n, rfl⟩ : ∃ q : Int, a = .int q := va.resolve_right fun o => h1 (.inr o)
    obtain ⟨n1, n2⟩ : 1 ≤ n ∧ n ≤ 8 := Classical.byContradiction fun h => h1 (.inl ⟨n, rfl, h⟩)
    by_cases h2 : NotFr H b 0 (n - 1)
    · exact .inl ⟨_, .jitter n rfl n1 n2 h2⟩
    · obtain ⟨i, rfl⟩ : ∃ q : Int, b = .int q := vb.resolve_right fun o => h2 (.inr o)
      obtain ⟨i0, i1⟩ : 0 ≤ i ∧ i ≤ n - 1 := Classical.byContradiction fun h => h2 (.inl ⟨i, rfl, h⟩)
      by_cases hc : c = .non
      · exact .inr ⟨n, i, rfl, n1, n2, rfl, i0, i1, .inl hc⟩
      · by_cases h3 : NotFr H c 0 (n - 1)
        · exact .inl ⟨_, .phase n i rfl n1 n2 rfl i0 i1 hc h3⟩
        · obtain ⟨q, rfl⟩ : ∃ q : Int, c = .int q := vc.resolve_right fun o => h3 (.inr o)
          obtain ⟨q0, q1⟩ : 0 ≤ q ∧ q ≤ n - 1 := Classical.byContradiction fun h => h3 (.inl ⟨q, rfl, h⟩)
          exact .inr ⟨n, i, rfl, n1, n2, rfl, i0, i1, .inr ⟨q, rfl, q0, q1⟩⟩
theorem fit_of {C : Addr} {H : Hp} {a b c : V} {Q : VK} (cl : (∃ w, SaIn H a b c w) ∨ ∃ n i, SaOk a b c n i) (k : ∀ (H' : Hp) (o : Addr), Same H H' → Fit C H' o a b c → Q (.ref o) H') :
    (∃ w, SaIn H a b c w ∧ ∀ (H' : Hp) (o : Addr), Same H H' → H' o = some (.tup [.str "refused", .str w, .bl true, .bl false]) → Q (.ref o) H') ∨
    (∃ n i, SaOk a b c n i ∧ ∀ (H' : Hp) (o p : Addr), Same H H' → H' o = some (.tup [.str "made", .ref p]) → SaA C H' p n i c → Q (.ref o) H') :=
  cl.imp (fun ⟨w, hi⟩ => ⟨w, hi, fun H' o s ho => k H' o s (.inl ⟨w, hi.ext s, ho⟩)⟩) fun ⟨n, i, hok⟩ => ⟨n, i, hok, fun H' o p s ho hp => k H' o s (.inr ⟨n, i, p, hok, ho, hp⟩)⟩
theorem kept_any {H : Hp} {a o : V} (va : Any H a) (vo : Any H o) : Any H (kept a o) := by
  unfold kept
  split
  · exact vo
  · exact va
theorem PhOk.any {f : V} {n : Int} (h : PhOk f n) (H : Hp) : Any H f := by
  rcases h with rfl | ⟨q, rfl, _⟩
  · exact .inr .non
  · exact .inl ⟨q, rfl⟩
theorem kept_m {o : V} : kept (.int (-1)) o = o := if_pos rfl
theorem kept_0 {o : V} : kept (.int 0) o = .int 0 := if_neg (by intro h; cases h)
theorem ix_listK {X : Cx} {K : PySem.W.Frag} (h : X.K = K) : IxR X (rIxL K) := h ▸ ix_list
abbrev s_law_made : Stmt := top 18
theorem sc_law_made : FnScope ["_law_spec", "_law_outcome", "e"] ["_law_spec"] (defScope s_law_made) := ⟨rfl, rfl, rfl, by decide +kernel, rfl, by decide +kernel, by decide +kernel⟩
-- slots: 0 _law_spec, 1 _law_outcome, 2 e
def spMade (K : PySem.W.Frag) : Sp := fun vs H Q _ => ∃ (s : Addr) (a b c : V), vs = [.ref s] ∧ H s = some (.lst [a, b, c]) ∧ Any H a ∧ Any H b ∧ Any H c ∧ ∀ (H' : Hp) (o : Addr), Same H H' → Fit (CS K) H' o a b c → Q (.ref o) H'
theorem ok_law_made {fd : FuncData} (F : FnD K ("_law_made", none) "_law_made" "_law_made" s_law_made fd) (T : Txt K mg) (O_Sampler_init2k : OkK P w K mg base (L2.CX P w) 4 ("Sampler", some "__init__") ["self", "period", "jitter", "phase"] 3 ["phase"] (fun vs zs => vs ++ zs) (spSaI K)) : OkF P w K mg base CX0 6 "_law_made" ["_law_spec"] (spMade K) := by
  refine okd F (F.ok sc_law_made (fun vs H Q E h => ?_) fun cdv A outer s H vs Q E hr h => ?_) fun _ _ _ _ _ _ us hl => match us, hl with | [_], _ => rfl
  · obtain ⟨s, a, b, c, rfl, _⟩ := h
    rfl
  · obtain ⟨t, a, b, c, rfl, ht, va, vb, vc, h⟩ := h
    replace h := fit_of (Q := Q) (classifyS va vb vc) h
    refine ⟨_, PSs.nox (pss_cons (ps_try_as (i := 2) (Wout := fun _ _ _ _ => False) rfl rfl sc_law_made.nd rfl rfl ⟨rfl, by decide, Or.inl T.g_BadSampler⟩ takes0 (fun W pn xe tk _ => (pss_one (ps_set (i := 1) sc_law_made.nd rfl (Or.inl rfl) (pe_tup (pa_cons pe_str (pa_cons (c_mkK T.m_Sampler O_Sampler_init2k hr (by decide) T.g_Sampler (passAny 3 tk) (pa_cons (pe_ix (ix_listK (K := K) rfl) (pv 0) pe_int (fun _ _ => rfl)) (pa_cons (pe_ix (ix_listK (K := K) rfl) (pv 0) pe_int (fun _ _ => rfl)) pa_nil)) (pk_cons (pe_ix (ix_listK (K := K) rfl) (pv 0) pe_int (fun _ _ => rfl)) pk_nil)) pa_nil)))))) (fun a oe cls d pn hz hf => (pss_one (ps_set (i := 1) sc_law_made.nd rfl (Or.inl rfl) (pe_tup (pa_cons pe_str (pa_cons (pe_xf T.xf T.x_BadSampler.n hz hf (pv 2)) (pa_cons (pe_callB (call_isiE rfl T.x_BadSampler.d T.hn T.ht hz hf) (by rfl) T.z_isinstance (by decide +kernel) (pa_cons (pv 2) (pa_cons (pe_cl T.g_SeenError) pa_nil))) (pa_cons (pe_callB (call_isiE rfl T.x_BadSampler.d T.hn T.ht hz hf) (by rfl) T.z_isinstance (by decide +kernel) (pa_cons (pv 2) (pa_cons (pe_cl T.g_BadPlace) pa_nil))) pa_nil)))))))))
  (pss_one (ps_ret (pv 1)))), ?_⟩
    have hS : SqL K H t [a, b, c] := SqL.of ht
    have lk : ∀ v : V, List.lookup ("why" : Str) [(("why" : Str), v)] = some v := fun v => by simp [List.lookup]
    refine ⟨_, rfl, t, _, 0, a, rfl, rfl, hS, atI0, _, rfl, t, _, 1, b, rfl, rfl, hS, atI1, _, rfl, t, _, 2, c, rfl, rfl, hS, atI2, rfl, rfl, fun p dx np ndx ne => ⟨p, dx, a, b, c, rfl, upd_same, ?_⟩⟩
    have sm0 := same_make (o1 := .own p) (o2 := .ins (CS K) dx []) np ndx
    rcases h with ⟨w, hi, k⟩ | ⟨n, i, hok, k⟩
    · refine .inl ⟨w, hi.ext sm0, fun d hd σ hσ => ⟨true, T.te, fun _ a na => ?_, fun q => Bool.noConfusion q⟩⟩
      have sm := sm0.trans (same_new (o := .xd [("why", .str w)]) hd)
      have s5 : (σ.set 2 (some (V.ref a)))[2]? = some (some (V.ref a)) := List.getElem?_set_self (by omega)
      refine ⟨_, s5, rfl, rfl, d, _, _, rfl, upd_same, lk _, _, s5, _, _, true, rfl, rfl, .own _, T.k2, ⟨d, _, rfl, upd_same⟩, _, s5, _, _, false, rfl, rfl, .own _, T.k3, ⟨d, _, rfl, upd_same⟩, (by show 4 ≤ sizeLine; decide), fun q nq => ⟨_, ?_, k _ q (sm.trans (same_new nq)) upd_same⟩⟩
      rw [List.getElem?_set_ne (by decide), List.getElem?_set_self (by rw [List.length_set]; omega)]
    · refine .inr ⟨n, i, hok, rfl, (by show 2 ≤ sizeLine; decide), fun o no => ⟨_, rfl, ?_⟩⟩
      have sn := same_new (o := .tup [.str "made", .ref p]) no
      exact k _ o p ((made_pl np ndx (Same.refl _)).trans sn) upd_same ⟨dx, sn _ _ upd_same⟩
abbrev s_law_turned : Stmt := top 19
theorem sc_law_turned : FnScope ["_law_sampler", "_law_parts", "_law_outcome", "e"] ["_law_sampler", "_law_parts"] (defScope s_law_turned) := ⟨rfl, rfl, rfl, by decide +kernel, rfl, by decide +kernel, by decide +kernel⟩
-- slots: 0 _law_sampler, 1 _law_parts, 2 _law_outcome, 3 e
def spTurned (K : PySem.W.Frag) : Sp := fun vs H Q _ => ∃ (p t : Addr) (a b c : V) (n i : Int) (f : V), vs = [.ref p, .ref t] ∧ SaA (CS K) H p n i f ∧ H t = some (.lst [a, b, c]) ∧ Any H a ∧ Any H b ∧ Any H c ∧ Any H f ∧ ∀ (H' : Hp) (o : Addr), Same H H' → Fit (CS K) H' o (kept a (.int n)) (kept b (.int i)) (kept c f) → Q (.ref o) H'
theorem ok_law_turned {fd : FuncData} (F : FnD K ("_law_turned", none) "_law_turned" "_law_turned" s_law_turned fd) (T : Txt K mg) (M : LMeth K) (O_Sampler_with_values3k : OkK P w K mg base (L2.CX P w) 6 ("Sampler", some "with_values") ["self", "period", "jitter", "phase"] 1 ["phase", "period", "jitter"] (fun vs zs => vs ++ (zs.drop 1 ++ zs.take 1)) (spWith K)) : OkF P w K mg base CX0 7 "_law_turned" ["_law_sampler", "_law_parts"] (spTurned K) := by
  refine okd F (F.ok sc_law_turned (fun vs H Q E h => ?_) fun cdv A outer s H vs Q E hr h => ?_) fun _ _ _ _ _ _ us hl => match us, hl with | [_, _], _ => rfl
  · obtain ⟨p, t, a, b, c, n, i, f, rfl, _⟩ := h
    rfl
  · obtain ⟨p, t, a, b, c, n, i, f, rfl, ⟨dp, hp⟩, ht, va, vb, vc, vf, h⟩ := h
    replace h := fit_of (Q := Q) (classifyS (kept_any va (.inl ⟨n, rfl⟩)) (kept_any vb (.inl ⟨i, rfl⟩)) (kept_any vc vf)) h
    refine ⟨_, PSs.nox (pss_cons (ps_try_as (i := 3) (Wout := fun _ _ _ _ => False) rfl rfl sc_law_turned.nd rfl rfl ⟨rfl, by decide, Or.inl T.g_BadSampler⟩ takes0 (fun W pn xe tk _ => (pss_one (ps_set (i := 2) sc_law_turned.nd rfl (Or.inl rfl) (pe_tup (pa_cons pe_str (pa_cons (c_meK rfl (pv 0) T.c_Sampler M.m_with_values O_Sampler_with_values3k hr (by decide) (passAny 4 tk) (pk_cons (pe_ix (ix_listK (K := K) rfl) (pv 1) pe_int (fun _ _ => rfl)) (pk_cons (pe_ix (ix_listK (K := K) rfl) (pv 1) pe_int (fun _ _ => rfl)) (pk_cons (pe_ix (ix_listK (K := K) rfl) (pv 1) pe_int (fun _ _ => rfl)) pk_nil)))) pa_nil)))))) (fun a oe cls d pn hz hf => (pss_one (ps_set (i := 2) sc_law_turned.nd rfl (Or.inl rfl) (pe_tup (pa_cons pe_str (pa_cons (pe_xf T.xf T.x_BadSampler.n hz hf (pv 3)) (pa_cons (pe_callB (call_isiE rfl T.x_BadSampler.d T.hn T.ht hz hf) (by rfl) T.z_isinstance (by decide +kernel) (pa_cons (pv 3) (pa_cons (pe_cl T.g_SeenError) pa_nil))) (pa_cons (pe_callB (call_isiE rfl T.x_BadSampler.d T.hn T.ht hz hf) (by rfl) T.z_isinstance (by decide +kernel) (pa_cons (pv 3) (pa_cons (pe_cl T.g_BadPlace) pa_nil))) pa_nil)))))))))
  (pss_one (ps_ret (pv 2)))), ?_⟩
    have hS : SqL K H t [a, b, c] := SqL.of ht
    have lk : ∀ v : V, List.lookup ("why" : Str) [(("why" : Str), v)] = some v := fun v => by simp [List.lookup]
    refine ⟨_, rfl, p, dp, _, rfl, hp, saf_with .., _, rfl, t, _, 2, c, rfl, rfl, hS, atI2, _, rfl, t, _, 0, a, rfl, rfl, hS, atI0, _, rfl, t, _, 1, b, rfl, rfl, hS, atI1, rfl, p, a, b, c, n, i, f, rfl, ⟨dp, hp⟩, va, vb, vc, ?_⟩
    rcases h with ⟨w, hi, k⟩ | ⟨n', i', hok, k⟩
    · refine .inl ⟨w, hi, fun H1 d s1 hd σ hσ => ⟨true, T.te, fun _ a na => ?_, fun q => Bool.noConfusion q⟩⟩
      have sm := s1.trans (same_new (o := .xd [("why", .str w)]) hd)
      have s5 : (σ.set 3 (some (V.ref a)))[3]? = some (some (V.ref a)) := List.getElem?_set_self (by omega)
      refine ⟨_, s5, rfl, rfl, d, _, _, rfl, upd_same, lk _, _, s5, _, _, true, rfl, rfl, .own _, T.k2, ⟨d, _, rfl, upd_same⟩, _, s5, _, _, false, rfl, rfl, .own _, T.k3, ⟨d, _, rfl, upd_same⟩, (by show 4 ≤ sizeLine; decide), fun q nq => ⟨_, ?_, k _ q (sm.trans (same_new nq)) upd_same⟩⟩
      rw [List.getElem?_set_ne (by decide), List.getElem?_set_self (by rw [List.length_set]; omega)]
    · refine .inr ⟨n', i', hok, fun H1 q s1 hq => ⟨(by show 2 ≤ sizeLine; decide), fun o no => ⟨_, rfl, ?_⟩⟩⟩
      have sn := same_new (o := .tup [.str "made", .ref q]) no
      exact k _ o q (s1.trans sn) upd_same (hq.ext sn)
theorem fin_eq {t : Addr} {H : Hp} {xs : List V} {ds : List PyData} {Q : VK} {o : Addr} (sh : SeqAt.shaped (.tuple ds) = true) (ho : H o = some (.tup xs)) (nt : H t = none) (dp : ∀ H', DpAll K H' xs ds) (k : ∀ H', Same H H' → Q (.bl true) H') : rEqD K (.ref o) (.ref t) (upd H t (.tup xs)) Q := by
  have n2 : o ≠ t := ne_of_none ho nt
  refine ⟨_, _, .tup (SqT.of (by rw [upd_ne n2]; exact ho)) (dp _), .tup (SqT.of upd_same) (dp _), sh, sh, ?_⟩
  rw [SeqAt.eqv_refl _ (SeqAt.canLay_of_shaped sh)]
  exact k _ (same_new nt)
/-- a phase as data -/
def fD : V → PyData
  | .int q => .int q
  | _ => .none
theorem PhV.dp {f : V} (h : PhV f) (H : Hp) : Dp K H f (fD f) := by
  rcases h with rfl | ⟨q, rfl⟩
  · exact .non
  · exact .int q
def sD (n i : Int) (f : V) : PyData := .list [.int n, .int i, fD f]
theorem sD_sh {n i : Int} {f : V} (h : PhV f) : SeqAt.shaped (sD n i f) = true := by
  rcases h with rfl | ⟨q, rfl⟩ <;> rfl
theorem sD_dp {H : Hp} {s : Addr} {n i : Int} {f : V} (h : PhV f) (hs : H s = some (.lst [.int n, .int i, f])) : Dp K H (.ref s) (sD n i f) := .lst (SqL.of hs) (.cons (.int _) (.cons (.int _) (.cons (h.dp H) .nil)))
theorem sD_eq {n i n' i' : Int} {f f' : V} (h : PhV f) (h' : PhV f') : PyData.eqv (sD n i f) (sD n' i' f') = saB n n' i i' f f' := by
  have e : PyData.eqv (fD f) (fD f') = decide (f = f') := by
    rcases h with rfl | ⟨q, rfl⟩ <;> rcases h' with rfl | ⟨q', rfl⟩
    · rfl
    · exact (decide_eq_false (fun z => nomatch z)).symm
    · exact (decide_eq_false (fun z => nomatch z)).symm
    · rw [int_dec]
      show (q == q') = decide (q = q')
      rw [Bool.eq_iff_iff]
      simp
  show ((n == n') && ((i == i') && (PyData.eqv (fD f) (fD f') && true))) = _
  rw [e, Bool.and_true]
  rfl
abbrev s_law_fits : Stmt := top 20
theorem sc_law_fits : FnScope ["_law_outcome", "_law_spec", "_law_due_here"] ["_law_outcome", "_law_spec"] (defScope s_law_fits) := ⟨rfl, rfl, rfl, by decide +kernel, rfl, by decide +kernel, by decide +kernel⟩
-- slots: 0 _law_outcome, 1 _law_spec, 2 _law_due_here
def spFits (K : PySem.W.Frag) : Sp := fun vs H Q _ => ∃ (o s : Addr) (a b c : V), vs = [.ref o, .ref s] ∧ H s = some (.lst [a, b, c]) ∧ (∀ H', Same H H' → Q (.bl true) H') ∧
  ((∃ w, SaIn H a b c w ∧ H o = some (.tup [.str "refused", .str w, .bl true, .bl false])) ∨ (∃ n i p, SaOk a b c n i ∧ H o = some (.tup [.str "made", .ref p]) ∧ SaA (CS K) H p n i c))
theorem ok_law_fits {fd : FuncData} (F : FnD K ("_law_fits", none) "_law_fits" "_law_fits" s_law_fits fd) (T : Txt K mg) (O_law_is_integer : OkF P w K mg base CX0 1 "_law_is_integer" ["_law_value_here"] spIsInt) (O_law_due : OkF P w K mg base CX0 2 "_law_due" ["_law_spec"] spDue) : OkF P w K mg base CX0 3 "_law_fits" ["_law_outcome", "_law_spec"] (spFits K) := by
  refine okd F (F.ok sc_law_fits (fun vs H Q E h => ?_) fun cdv A outer s H vs Q E hr h => ?_) fun _ _ _ _ _ _ us hl => match us, hl with | [_, _], _ => rfl
  · obtain ⟨o, s, a, b, c, rfl, _⟩ := h
    rfl
  · obtain ⟨o, s, a, b, c, rfl, hs, k, h⟩ := h
    refine ⟨_, PSs.nox (pss_cons (ps_set (i := 2) sc_law_fits.nd rfl (Or.inl rfl) (c_fn O_law_due hr (by decide) T.g_law_due pass0 (pa_cons (pv 1) pa_nil)))
  (pss_cons (ps_if (pt_cmpR op_ne (pv 2) pe_str (nomark _)) (pss_one (ps_ret (pe_cmpR (op_eqD hr.units) (pv 0) (pe_tup (pa_cons pe_str (pa_cons (pv 2) (pa_cons pe_bl (pa_cons pe_bl pa_nil))))) (nomark _))))
  pss_nil)
  (pss_cons (ps_if (PW.pt (pw_or (pt_cmpR op_ne (pe_ix ix_tup (pv 0) pe_int (fun _ _ => rfl)) pe_str (nomark _)) (pw_or (pt_not (pt_val (c_fn O_law_is_integer hr (by decide) T.g_law_is_integer pass0 (pa_cons (pe_fld (pe_ix ix_tup (pv 0) pe_int (fun _ _ => rfl)) rfl) pa_nil)))) (pw_or1 (pt_not (pt_val (c_fn O_law_is_integer hr (by decide) T.g_law_is_integer pass0 (pa_cons (pe_fld (pe_ix ix_tup (pv 0) pe_int (fun _ _ => rfl)) rfl) pa_nil)))))))) (pss_one (ps_ret pe_bl))
  pss_nil)
  (pss_cons (ps_if (PW.pt (pw_and (pt_cmpR op_notN (pe_fld (pe_ix ix_tup (pv 0) pe_int (fun _ _ => rfl)) rfl) pe_non (nomark _)) (pw_and1 (pt_not (pt_val (c_fn O_law_is_integer hr (by decide) T.g_law_is_integer pass0 (pa_cons (pe_fld (pe_ix ix_tup (pv 0) pe_int (fun _ _ => rfl)) rfl) pa_nil))))))) (pss_one (ps_ret pe_bl))
  pss_nil)
  (pss_one (ps_ret (pe_cmpR (op_eqD hr.units) (pe_lst (pa_cons (pe_fld (pe_ix ix_tup (pv 0) pe_int (fun _ _ => rfl)) rfl) (pa_cons (pe_fld (pe_ix ix_tup (pv 0) pe_int (fun _ _ => rfl)) rfl) (pa_cons (pe_fld (pe_ix ix_tup (pv 0) pe_int (fun _ _ => rfl)) rfl) pa_nil)))) (pv 1) (nomark _)))))))), ?_⟩
    rcases h with ⟨w, hi, ho⟩ | ⟨n, i, p, hok, ho, ⟨dx, hp⟩⟩
    · have hw : w ≠ "" := by cases hi <;> decide +kernel
      have sh : SeqAt.shaped (.tuple [.str "refused", .str w, .bool true, .bool false]) = true := by cases hi <;> decide +kernel
      refine ⟨_, rfl, s, a, b, c, rfl, hs, .inl ⟨w, hi, ?_⟩⟩
      exact ⟨_, rfl, rfl, true, by rw [decide_eq_false (fun e => hw (V.str.inj e))]; rfl, iteT ⟨_, rfl, _, rfl, (by show 4 ≤ sizeLine; decide), fun tt ntt => fin_eq sh ho ntt (fun _ => .cons (.str _) (.cons (.str _) (.cons (.bl _) (.cons (.bl _) .nil)))) fun H' s' => k H' s'⟩⟩
    · obtain ⟨rfl, n1, n2, rfl, i0, i1, hf⟩ := id hok
      have hv := hf.v
      refine ⟨_, rfl, s, _, _, c, rfl, hs, .inr ⟨n, i, hok, ?_⟩⟩
      refine ⟨_, rfl, rfl, false, by rw [decide_eq_true rfl]; rfl, iteF ?_⟩
      refine ⟨_, rfl, o, _, 0, .str "made", rfl, rfl, SqT.of ho, atI0, rfl, false, by rw [decide_eq_true rfl]; rfl, iteF ?_⟩
      refine ⟨_, rfl, o, _, 1, .ref p, rfl, rfl, SqT.of ho, atI1, p, _, dx, _, _, rfl, hp, T.c_Sampler, T.nP, saf_period .., _, rfl, .inl ⟨⟨n, rfl⟩, true, rfl, iteF ?_⟩⟩
      refine ⟨_, rfl, o, _, 1, .ref p, rfl, rfl, SqT.of ho, atI1, p, _, dx, _, _, rfl, hp, T.c_Sampler, T.nJ, saf_jitter .., _, rfl, .inl ⟨⟨i, rfl⟩, true, rfl, iteF ?_⟩⟩
      have fin : ∀ L : Addr, H L = none → rEqD K (.ref L) (.ref s) (upd H L (.lst [.int n, .int i, c])) Q := fun L nL => by
        have nsL : s ≠ L := ne_of_none hs nL
        refine ⟨_, _, sD_dp hv upd_same, sD_dp hv (by rw [upd_ne nsL]; exact hs), sD_sh hv, sD_sh hv, ?_⟩
        rw [SeqAt.eqv_refl _ (SeqAt.canLay_of_shaped (sD_sh hv))]
        exact k _ (same_new nL)
      have last : ∀ {Z : Prop}, Z → Z := fun z => z
      rcases hv with rfl | ⟨q, rfl⟩
      · refine ⟨_, rfl, o, _, 1, .ref p, rfl, rfl, SqT.of ho, atI1, p, _, dx, _, _, rfl, hp, T.c_Sampler, T.nF, saf_phase .., rfl, false, rfl, iteF ?_⟩
        exact ⟨_, rfl, o, _, 1, .ref p, rfl, rfl, SqT.of ho, atI1, p, _, dx, _, _, rfl, hp, T.c_Sampler, T.nP, saf_period .., _, rfl, o, _, 1, .ref p, rfl, rfl, SqT.of ho, atI1, p, _, dx, _, _, rfl, hp, T.c_Sampler, T.nJ, saf_jitter .., _, rfl, o, _, 1, .ref p, rfl, rfl, SqT.of ho, atI1, p, _, dx, _, _, rfl, hp, T.c_Sampler, T.nF, saf_phase .., (by show 3 ≤ sizeLine; decide), fun L nL => ⟨_, rfl, fin L nL⟩⟩
      · refine ⟨_, rfl, o, _, 1, .ref p, rfl, rfl, SqT.of ho, atI1, p, _, dx, _, _, rfl, hp, T.c_Sampler, T.nF, saf_phase .., rfl, true, rfl, iteT ⟨_, rfl, o, _, 1, .ref p, rfl, rfl, SqT.of ho, atI1, p, _, dx, _, _, rfl, hp, T.c_Sampler, T.nF, saf_phase .., _, rfl, .inl ⟨⟨q, rfl⟩, true, rfl, iteF ?_⟩⟩⟩
        exact ⟨_, rfl, o, _, 1, .ref p, rfl, rfl, SqT.of ho, atI1, p, _, dx, _, _, rfl, hp, T.c_Sampler, T.nP, saf_period .., _, rfl, o, _, 1, .ref p, rfl, rfl, SqT.of ho, atI1, p, _, dx, _, _, rfl, hp, T.c_Sampler, T.nJ, saf_jitter .., _, rfl, o, _, 1, .ref p, rfl, rfl, SqT.of ho, atI1, p, _, dx, _, _, rfl, hp, T.c_Sampler, T.nF, saf_phase .., (by show 3 ≤ sizeLine; decide), fun L nL => ⟨_, rfl, fin L nL⟩⟩
end
end K10

set_option Elab.async false
set_option linter.all false
set_option maxRecDepth 100000
set_option maxHeartbeats 2000000
namespace K10
open PySem PySem.Spec PyProof.Rows L2 Vf
section
variable {P : Program} {w : World} {K : PySem.W.Frag} {mg : Str → Option Value} {base : Heap}
theorem same_app {H H1 H2 : Hp} {D : Addr} {o : HO} (s : Same H H1) (s2 : Same H1 H2) (nD : H D = none) : Same H (upd H2 D o) := fun b u e => by
  rw [upd_ne (ne_of_none e nD)]
  exact s2 _ _ (s _ _ e)
/-- a sampler at p whose values stand in the list at s -/
structure SaSt (C : Addr) (H : Hp) (s p : Addr) (n i : Int) (f : V) : Prop where
  hs : H s = some (.lst [.int n, .int i, f])
  hp : SaA C H p n i f
  ok : SaOk (.int n) (.int i) f n i
theorem SaSt.ext {C : Addr} {H H' : Hp} {s p : Addr} {n i : Int} {f : V} (h : SaSt C H s p n i f) (e : Same H H') : SaSt C H' s p n i f := ⟨e _ _ h.hs, h.hp.ext e, h.ok⟩
theorem saB_comm (n n' i i' : Int) (f f' : V) : saB n n' i i' f f' = saB n' n i' i f' f := by
  unfold saB
  rw [decide_eq_decide.mpr (eq_comm (a := n) (b := n')), decide_eq_decide.mpr (eq_comm (a := i) (b := i')), decide_eq_decide.mpr (eq_comm (a := f) (b := f'))]
theorem saB_refl (n i : Int) (f : V) : saB n n i i f f = true := by
  unfold saB
  simp
theorem bne_self (b : Bool) : (!decide (V.bl b = V.bl b)) = false := by rw [decide_eq_true rfl]; rfl
theorem beq_nself (b : Bool) : decide (V.bl (!b) = V.bl b) = false := by cases b <;> decide
theorem Same.back {H H' : Hp} {a : Addr} (s : Same H H') (n : H' a = none) : H a = none := none_of s n
abbrev s_law : Stmt := top 22
theorem sc_law : FnScope ["_law_script", "_law_draw", "_law_spec", "_law_outcome", "_law_sampler", "_law_k", "_law_parts", "_law_after", "_law_j"] ["_law_script"] (defScope s_law) := ⟨rfl, rfl, rfl, by decide +kernel, rfl, by decide +kernel, by decide +kernel⟩
-- slots: 0 _law_script, 1 _law_draw, 2 _law_spec, 3 _law_outcome, 4 _law_sampler, 5 _law_k, 6 _law_parts, 7 _law_after, 8 _law_j
def spLaw (K : PySem.W.Frag) : Sp := fun vs H Q _ => ∃ (a : Addr) (ns : List Int), vs = [.ref a] ∧ SqL K H a (ns.map V.int) ∧ ns.length ≤ 63 ∧ ∀ H', Q (.bl true) H'
theorem ok_law {fd : FuncData} (F : FnD K ("law", none) "law" "law" s_law fd) (T : Txt K mg) (M : LMeth K) (O_law_cell : OkF P w K mg base CX0 1 "_law_cell" ["_law_script", "_law_k"] (Vf.spCell K)) (O_law_take : OkF P w K mg base CX0 1 "_law_take" ["_law_draw", "_law_size"] spTake)
    (O_law_value : OkF P w K mg base CX0 3 "_law_value" ["_law_draw", "_law_most"] spVal) (O_law_kept : OkF P w K mg base CX0 2 "_law_kept" ["_law_old", "_law_part"] spKeptL) (O_law_made : OkF P w K mg base CX0 6 "_law_made" ["_law_spec"] (spMade K)) (O_law_turned : OkF P w K mg base CX0 7 "_law_turned" ["_law_sampler", "_law_parts"] (spTurned K)) (O_law_fits : OkF P w K mg base CX0 3 "_law_fits" ["_law_outcome", "_law_spec"] (spFits K))
    (O_Sampler_init2k : OkK P w K mg base (L2.CX P w) 4 ("Sampler", some "__init__") ["self", "period", "jitter", "phase"] 3 ["phase"] (fun vs zs => vs ++ zs) (spSaI K)) (O_Sampler_init1 : OkK P w K mg base (L2.CX P w) 4 ("Sampler", some "__init__") ["self", "period", "jitter", "phase"] 2 [] (fun vs _ => vs ++ [.int 0, .int 0]) (spSaI K))
    (O_Sampler_with_values1k : OkK P w K mg base (L2.CX P w) 6 ("Sampler", some "with_values") ["self", "period", "jitter", "phase"] 1 ["jitter"] (fun vs zs => vs ++ (.int (-1) :: (zs ++ [.int (-1)]))) (spWith K)) (O_Sampler_with_values0k : OkK P w K mg base (L2.CX P w) 6 ("Sampler", some "with_values") ["self", "period", "jitter", "phase"] 1 [] (fun vs _ => vs ++ [.int (-1), .int (-1), .int (-1)]) (spWith K))
    (O_eq : OkM P w K mg base CX0 1 "Sampler" "__eq__" ["self", "other"] (spSaE (CS K))) : FnOk P w K mg base CX0 8 (He.ga K "law") fd ["_law_script"] (spLaw K) := by
  refine F.ok sc_law (fun vs H Q E h => ?_) fun cdv A outer s H vs Q E hr h => ?_
  · obtain ⟨a, ns, rfl, _⟩ := h
    rfl
  · obtain ⟨a0, ns, rfl, hS, hlen, k⟩ := h
    refine ⟨_, PSs.nox (pss_cons (ps_set (i := 1) sc_law.nd rfl (Or.inl rfl) (pe_lst (pa_cons (c_fn O_law_cell hr (by decide) T.g_law_cell pass0 (pa_cons (pv 0) (pa_cons pe_int pa_nil))) pa_nil)))
  (pss_cons (ps_set (i := 2) sc_law.nd rfl (Or.inr rfl) (pe_lst (pa_cons (c_fn O_law_value hr (by decide) T.g_law_value pass0 (pa_cons (pv 1) (pa_cons pe_int pa_nil))) (pa_cons (c_fn O_law_value hr (by decide) T.g_law_value pass0 (pa_cons (pv 1) (pa_cons pe_int pa_nil))) (pa_cons (c_fn O_law_value hr (by decide) T.g_law_value pass0 (pa_cons (pv 1) (pa_cons pe_int pa_nil))) pa_nil)))))
  (pss_cons (ps_set (i := 3) sc_law.nd rfl (Or.inl rfl) (c_fn O_law_made hr (by decide) T.g_law_made pass0 (pa_cons (pv 2) pa_nil)))
  (pss_cons (ps_if (pt_not (pt_val (c_fn O_law_fits hr (by decide) T.g_law_fits pass0 (pa_cons (pv 3) (pa_cons (pv 2) pa_nil))))) (pss_one (ps_ret pe_bl))
  pss_nil)
  (C8.pss_cut (ps_if (pt_cmpR op_ne (pe_ix ix_tup (pv 3) pe_int (fun _ _ => rfl)) pe_str (nomark _)) (pss_cons (ps_set (i := 2) sc_law.nd rfl (Or.inr rfl) (pe_lst (pa_cons (pe_op op_add pe_int (c_fn O_law_take hr (by decide) T.g_law_take pass0 (pa_cons (pv 1) (pa_cons pe_int pa_nil)))) (pa_cons pe_int (pa_cons pe_int pa_nil)))))
  (pss_cons (ps_set (i := 3) sc_law.nd rfl (Or.inl rfl) (pe_tup (pa_cons pe_str (pa_cons (c_mkK T.m_Sampler O_Sampler_init1 hr (by decide) T.g_Sampler passL (pa_cons (pe_ix ix_list (pv 2) pe_int (fun _ _ => rfl)) pa_nil) pk_nil) pa_nil))))
  (pss_one (ps_if (pt_not (pt_val (c_fn O_law_fits hr (by decide) T.g_law_fits pass0 (pa_cons (pv 3) (pa_cons (pv 2) pa_nil))))) (pss_one (ps_ret pe_bl))
  pss_nil))))
  pss_nil)
  (pss_cons (ps_set (i := 4) sc_law.nd rfl (Or.inl rfl) (pe_ix ix_tup (pv 3) pe_int (fun _ _ => rfl)))
  (pss_cons (ps_for PassesOwn.never rfl (pi_range1 rfl T.z_range (pa_cons (pe_op op_add pe_int (pe_callB call_len_seq (by rfl) T.z_len (by decide +kernel) (pa_cons (pe_slice sl_list (pv 0) (po_some pe_int) (po_some pe_int)) pa_nil))) pa_nil)) (pg_name (i := 5) sc_law.nd rfl (Or.inl rfl))
  (pss_cons (ps_set (i := 1) sc_law.nd rfl (Or.inl rfl) (pe_lst (pa_cons (c_fn O_law_cell hr (by decide) T.g_law_cell pass0 (pa_cons (pv 0) (pa_cons (pe_op op_add pe_int (pv 5)) pa_nil))) pa_nil)))
  (pss_cons (ps_set (i := 6) sc_law.nd rfl (Or.inr rfl) (pe_lst (pa_cons (c_fn O_law_value hr (by decide) T.g_law_value pass0 (pa_cons (pv 1) (pa_cons pe_int pa_nil))) (pa_cons (c_fn O_law_value hr (by decide) T.g_law_value pass0 (pa_cons (pv 1) (pa_cons (pe_ix ix_list (pv 2) pe_int (fun _ _ => rfl)) pa_nil))) (pa_cons (c_fn O_law_value hr (by decide) T.g_law_value pass0 (pa_cons (pv 1) (pa_cons (pe_ix ix_list (pv 2) pe_int (fun _ _ => rfl)) pa_nil))) pa_nil)))))
  (pss_cons (ps_setLc (i := 7) (own := [("_law_j", 8)]) (g := gName 8) (tt := tYes) (by rfl) sc_law.nd rfl rfl (sw_true rfl rfl rfl (by decide +kernel)) (pi_range1 rfl T.z_range (pa_cons pe_int pa_nil)) (blkOk_by (N := ["_law_script", "_law_draw", "_law_spec", "_law_outcome", "_law_sampler", "_law_k", "_law_parts", "_law_after", "_law_j"]) (sc := defScope s_law) (by decide +kernel)) (fun _ _ _ _ _ => pg_name (i := 8) sc_law.nd rfl (Or.inl rfl)) (fun _ _ _ _ _ => pts_nil) (fun _ _ _ _ _ => (c_fn O_law_kept hr (by decide) T.g_law_kept pass0 (pa_cons (pe_ix (ix_listK (K := K) rfl) (pv 2) (pv 8) (fun _ _ => rfl)) (pa_cons (pe_ix (ix_listK (K := K) rfl) (pv 6) (pv 8) (fun _ _ => rfl)) pa_nil)))))
  (pss_cons (ps_set (i := 3) sc_law.nd rfl (Or.inl rfl) (c_fn O_law_turned hr (by decide) T.g_law_turned pass0 (pa_cons (pv 4) (pa_cons (pv 6) pa_nil))))
  (pss_cons (ps_if (PW.pt (pw_or (pt_not (pt_val (c_fn O_law_fits hr (by decide) T.g_law_fits pass0 (pa_cons (pv 3) (pa_cons (pv 7) pa_nil))))) (pw_or1 (pt_not (pt_val (c_fn O_law_fits hr (by decide) T.g_law_fits pass0 (pa_cons (pe_tup (pa_cons pe_str (pa_cons (pv 4) pa_nil))) (pa_cons (pv 2) pa_nil)))))))) (pss_one (ps_ret pe_bl))
  pss_nil)
  (pss_cons (ps_if (pt_not (pt_val (c_fn O_law_fits hr (by decide) T.g_law_fits pass0 (pa_cons (pe_tup (pa_cons pe_str (pa_cons (c_meK rfl (pv 4) T.c_Sampler M.m_with_values O_Sampler_with_values1k hr (by decide) passL (pk_cons pe_int pk_nil)) pa_nil))) (pa_cons (pe_lst (pa_cons (pe_ix ix_list (pv 2) pe_int (fun _ _ => rfl)) (pa_cons pe_int (pa_cons (pe_ix ix_list (pv 2) pe_int (fun _ _ => rfl)) pa_nil)))) pa_nil))))) (pss_one (ps_ret pe_bl))
  pss_nil)
  (pss_one (ps_if (pt_cmpR op_eq (pe_ix ix_tup (pv 3) pe_int (fun _ _ => rfl)) pe_str (nomark _)) (pss_cons (ps_if (PW.pt (pw_or (pt_cmpR op_ne (pe_cmpR (cmp_oo rfl rfl M.m_eq O_eq hr (by decide) pass0) (pe_ix ix_tup (pv 3) pe_int (fun _ _ => rfl)) (pv 4) (nomark _)) (pe_cmpR (op_eqD hr.units) (pv 2) (pv 7) (nomark _)) (nomark _)) (pw_or1 (pt_cmpR op_eq (pe_cmpR (cmp_neO rfl M.m_eq M.ne T.hm O_eq hr (by decide)) (pv 4) (pe_ix ix_tup (pv 3) pe_int (fun _ _ => rfl)) (nomark _)) (pe_cmpR (op_eqD hr.units) (pv 2) (pv 7) (nomark _)) (nomark _))))) (pss_one (ps_ret pe_bl))
  pss_nil)
  (pss_cons (ps_set (i := 4) sc_law.nd rfl (Or.inl rfl) (pe_ix ix_tup (pv 3) pe_int (fun _ _ => rfl)))
  (pss_one (ps_set (i := 2) sc_law.nd rfl (Or.inr rfl) (pv 7)))))
  pss_nil)))))))))
  (pss_one (ps_ret (pe_and (pe_cmpR (cmp_oo rfl rfl M.m_eq O_eq hr (by decide) pass0) (pv 4) (c_mkK T.m_Sampler O_Sampler_init2k hr (by decide) T.g_Sampler passL (pa_cons (pe_ix ix_list (pv 2) pe_int (fun _ _ => rfl)) (pa_cons (pe_ix ix_list (pv 2) pe_int (fun _ _ => rfl)) pa_nil)) (pk_cons (pe_ix ix_list (pv 2) pe_int (fun _ _ => rfl)) pk_nil)) (nomark _)) (pe_one (pe_cmpR (cmp_oo rfl rfl M.m_eq O_eq hr (by decide) pass0) (pv 4) (c_meK rfl (pv 4) T.c_Sampler M.m_with_values O_Sampler_with_values0k hr (by decide) passL pk_nil) (nomark _))))))))))))), ?_⟩
    refine ⟨_, rfl, a0, ns, 0, rfl, hS, by decide, fun n0 => ⟨(by show 1 ≤ sizeLine; decide), fun d nd => ?_⟩⟩
    have s1 := same_new (o := .lst [.int n0]) nd
    have hd1 : (upd H d (.lst [.int n0])) d = some (.lst [.int n0]) := upd_same
    generalize upd H d (.lst [.int n0]) = H1 at s1 hd1 ⊢
    refine ⟨_, rfl, d, n0, 9, rfl, hd1, by decide, by decide, fun H2 m2 a x2 hd2 va => ⟨_, rfl, d, m2, 3, rfl, hd2, by decide, by decide, fun H3 m3 b x3 hd3 vb => ⟨_, rfl, d, m3, 3, rfl, hd3, by decide, by decide, fun H4 m4 c x4 hd4 vc => ⟨(by show 3 ≤ sizeLine; decide), fun t nt => ?_⟩⟩⟩⟩
    have va4 : Any H4 a := anyX (anyX va x3 hd3) x4 hd4
    have vb4 : Any H4 b := anyX vb x4 hd4
    have s4 := same_x2 s1 ((x2.trans x3).trans x4) nd
    have s5 := same_new (o := .lst [a, b, c]) nt
    have ht : (upd H4 t (.lst [a, b, c])) t = some (.lst [a, b, c]) := upd_same
    have hd5 := s5 _ _ hd4
    have sg := s4.trans s5
    have va5 := va4.ext s5
    have vb5 := vb4.ext s5
    have vc5 := vc.ext s5
    generalize upd H4 t (.lst [a, b, c]) = H5 at ht hd5 sg va5 vb5 vc5 ⊢
    clear va vb vc va4 vb4 s5 s4 x2 x3 x4 hd1 hd2 hd3 hd4 s1 nt H1 H2 H3
    refine ⟨_, rfl, t, a, b, c, rfl, ht, va5, vb5, vc5, fun H6 o s6 ft => ?_⟩
    refine ⟨_, rfl, _, rfl, o, t, a, b, c, rfl, s6 _ _ ht, fun H7 s7 => ⟨true, rfl, iteF ?_⟩, ft⟩
    have s57 := s6.trans s7
    have hd7 := s57 _ _ hd5
    have ht7 := s57 _ _ ht
    have sg7 := sg.trans s57
    refine ⟨fun σ' H' => ∃ (s p o : Addr) (n i : Int) (f : V) (v : V), SaSt (CS K) H' s p n i f ∧ H' o = some (.tup [.str "made", .ref p]) ∧ Same H H' ∧ σ' = [some (.ref a0), some v, some (.ref s), some (.ref o), none, none, none, none, none], ?_, ?_⟩
    · rcases ft with ⟨w, hi, ho⟩ | ⟨n, i, p, hok, ho, hp⟩
      · have ho7 := s7 _ _ ho
        refine ⟨_, rfl, o, _, 0, .str "refused", rfl, rfl, SqT.of ho7, atI0, rfl, true, by rw [decide_eq_false (fun e => absurd (V.str.inj e) (by decide +kernel))]; rfl, iteT ?_⟩
        refine ⟨_, rfl, d, m4, 8, rfl, hd7, by decide, by decide, fun q m5 q0 q1 => ⟨1, q, rfl, rfl, (by show 3 ≤ sizeLine; decide), fun s2 nS2 => ?_⟩⟩
        have x8 := SameX.upd (d := d) (H := H7) (o := .lst [.int m5])
        have sg8 := same_x2 sg7 x8 nd
        have sn8 := same_new (o := .lst [.int (1 + q), .int 0, .int 0]) nS2
        have hs8 : (upd (upd H7 d (.lst [.int m5])) s2 (.lst [.int (1 + q), .int 0, .int 0])) s2 = some (.lst [.int (1 + q), .int 0, .int 0]) := upd_same
        have sg9 := sg8.trans sn8
        generalize hG : upd (upd H7 d (.lst [.int m5])) s2 (.lst [.int (1 + q), .int 0, .int 0]) = H8 at hs8 sg9 ⊢
        clear sn8 hG
        have hok : SaOk (.int (1 + q)) (.int 0) (.int 0) (1 + q) 0 := ⟨rfl, by omega, by omega, rfl, Int.le_refl _, by omega, .inr ⟨0, rfl, Int.le_refl _, by omega⟩⟩
        refine ⟨_, rfl, s2, _, 0, .int (1 + q), rfl, rfl, SqL.of hs8, atI0, rfl, rfl, fun p dx np ndx ne => ⟨p, dx, .int (1 + q), .int 0, .int 0, rfl, upd_same, .inr ⟨1 + q, 0, hok, rfl, (by show 2 ≤ sizeLine; decide), fun o2 no2 => ?_⟩⟩⟩
        have sm := made_pl (C := CS K) (fs := saf (1 + q) 0 (.int 0)) np ndx (Same.refl _)
        have so := same_new (o := .tup [.str "made", .ref p]) no2
        have hp : SaA (CS K) (upd (upd (upd (upd H8 dx (.own p)) p (.ins (CS K) dx [])) p (.ins (CS K) dx (saf (1 + q) 0 (.int 0)))) o2 (.tup [.str "made", .ref p])) p (1 + q) 0 (.int 0) := ⟨dx, so _ _ upd_same⟩
        have ho2 : (upd (upd (upd (upd H8 dx (.own p)) p (.ins (CS K) dx [])) p (.ins (CS K) dx (saf (1 + q) 0 (.int 0)))) o2 (.tup [.str "made", .ref p])) o2 = some (.tup [.str "made", .ref p]) := upd_same
        have s89 := sm.trans so
        generalize upd (upd (upd (upd H8 dx (.own p)) p (.ins (CS K) dx [])) p (.ins (CS K) dx (saf (1 + q) 0 (.int 0)))) o2 (.tup [.str "made", .ref p]) = H9 at hp ho2 s89 ⊢
        refine ⟨_, rfl, _, rfl, o2, s2, .int (1 + q), .int 0, .int 0, rfl, s89 _ _ hs8, fun H10 s10 => ⟨true, rfl, iteF ?_⟩, .inr ⟨1 + q, 0, p, hok, ho2, hp⟩⟩
        exact ⟨s2, p, o2, 1 + q, 0, .int 0, .ref d, ⟨s10 _ _ (s89 _ _ hs8), hp.ext s10, hok⟩, s10 _ _ ho2, sg9.trans (s89.trans s10), rfl⟩
      · obtain ⟨rfl, n1, n2, rfl, i0, i1, hf⟩ := id hok
        have ho7 := s7 _ _ ho
        refine ⟨_, rfl, o, _, 0, .str "made", rfl, rfl, SqT.of ho7, atI0, rfl, false, by rw [decide_eq_true rfl]; rfl, iteF ?_⟩
        exact ⟨t, p, o, n, i, c, .ref d, ⟨ht7, hp.ext s7, hok⟩, ho7, sg7, rfl⟩
    clear ft va5 vb5 vc5 ht hd5 sg s6 s7 s57 hd7 ht7 sg7
    clear H7 H6 H5 H4 o t a b c m2 m3 m4 nd d n0
    rintro σ' H1 ⟨s0, p0, o0, n0, i0, f0, v0, st, ho, sg, rfl⟩
    refine ⟨_, rfl, o0, _, 1, .ref p0, rfl, rfl, SqT.of ho, atI1, ?_⟩
    refine ⟨_, rfl, 1, rfl, 60, rfl, a0, _, rfl, sg.seq hS, fun q nq => ⟨q, _, rfl, .inl (SqL.of upd_same), ?_⟩⟩
    have hcut := cutV_length (ns.map V.int) (some 1) (some 60)
    rw [List.length_map] at hcut
    generalize (cutV (ns.map V.int) (some 1) (some 60)) = cut at hcut ⊢
    have sq := sg.trans (same_new (o := .lst cut) nq)
    have st1 := st.ext (same_new (o := .lst cut) nq)
    generalize upd H1 q (.lst cut) = H2 at sq st1 ⊢
    clear st ho sg nq q
    refine ⟨1, (cut.length : Int), rfl, rfl, _, rfl, by omega, by omega, ?_⟩
    refine for_range (lo := 0) (n := (1 + (cut.length : Int)).toNat) (fun j σ H' => ∃ (s p : Addr) (n i : Int) (f : V) (v1 v3 v5 v6 v7 : Option V), SaSt (CS K) H' s p n i f ∧ Same H H' ∧ σ = [some (.ref a0), v1, some (.ref s), v3, some (.ref p), v5, v6, v7, none]) ⟨s0, p0, n0, i0, f0, _, _, _, _, _, st1, sq, rfl⟩ ?_ ?_
    · clear st1 sq H1 H2 s0 p0 n0 i0 f0 v0 o0
      rintro j σ H1 hj ⟨s, p, n, i, f, v1, v3, v5, v6, v7, st, sg, rfl⟩
      have e1 : (1 : Int) + (0 + (j : Int)) = ((1 + j : Nat) : Int) := by omega
      refine ⟨_, rfl, _, rfl, 1, _, rfl, rfl, a0, ns, 1 + j, (congrArg (fun z => [V.ref a0, V.int z]) e1), sg.seq hS, by omega, fun n0 => ⟨(by show 1 ≤ sizeLine; decide), fun d nd => ?_⟩⟩
      obtain ⟨_, n1, n2, _, i0, i1, hf⟩ := id st.ok
      have hd1 : (upd H1 d (.lst [.int n0])) d = some (.lst [.int n0]) := upd_same
      have nds : s ≠ d := ne_of_none st.hs nd
      have s1 := same_new (o := .lst [.int n0]) nd
      generalize upd H1 d (.lst [.int n0]) = H2 at hd1 s1 ⊢
      have hs1 := s1 _ _ st.hs
      refine ⟨_, rfl, d, n0, 9, rfl, hd1, by decide, by decide, fun H3 m2 a x2 hd2 va => ?_⟩
      have hs2 := x2 _ _ nds hs1
      refine ⟨_, rfl, _, rfl, s, _, 0, .int n, rfl, rfl, SqL.of hs2, atI0, d, m2, n, rfl, hd2, by omega, by omega, fun H4 m3 b x3 hd3 vb => ?_⟩
      have hs3 := x3 _ _ nds hs2
      refine ⟨_, rfl, _, rfl, s, _, 0, .int n, rfl, rfl, SqL.of hs3, atI0, d, m3, n, rfl, hd3, by omega, by omega, fun H5 m4 c x4 hd4 vc => ⟨(by show 3 ≤ sizeLine; decide), fun t nt => ?_⟩⟩
      have va4 : Any H5 a := anyX (anyX va x3 hd3) x4 hd4
      have vb4 : Any H5 b := anyX vb x4 hd4
      have s4 := same_x2 s1 ((x2.trans x3).trans x4) nd
      have s5 := same_new (o := .lst [a, b, c]) nt
      have ht : (upd H5 t (.lst [a, b, c])) t = some (.lst [a, b, c]) := upd_same
      have sg5 := s4.trans s5
      have va5 := va4.ext s5
      have vb5 := vb4.ext s5
      have vc5 := vc.ext s5
      generalize upd H5 t (.lst [a, b, c]) = H6 at ht sg5 va5 vb5 vc5 ⊢
      clear va vb vc va4 vb4 s5 s4 x2 x3 x4 hd1 hd2 hd3 hd4 hs1 hs2 hs3 s1 nt H2 H3 H4 H5 nd nds
      have st5 := st.ext sg5
      have sg6 := sg.trans sg5
      clear sg5 st sg H1
      refine ⟨3, rfl, by decide, by decide, fun D nD => lc_range (lo := 0) (n := 3) (fun j H' => Same H6 H' ∧ H' D = some (.lst ([kept a (.int n), kept b (.int i), kept c f].take j))) ⟨same_new nD, upd_same⟩ ?_ ?_⟩
      · rintro j H' hj ⟨sgj, hD⟩
        have hs' := sgj _ _ st5.hs
        have ht' := sgj _ _ ht
        obtain ⟨o, x, vx, h1, h2, h3⟩ : ∃ o x : V, Any H' x ∧ ([.int n, .int i, f] : List V)[j]? = some o ∧ ([a, b, c] : List V)[j]? = some x ∧ [kept a (.int n), kept b (.int i), kept c f].take j ++ [kept x o] = [kept a (.int n), kept b (.int i), kept c f].take (j + 1) := by
          match j, hj with
          | 0, _ => exact ⟨_, _, va5.ext sgj, rfl, rfl, rfl⟩
          | 1, _ => exact ⟨_, _, vb5.ext sgj, rfl, rfl, rfl⟩
          | 2, _ => exact ⟨_, _, vc5.ext sgj, rfl, rfl, rfl⟩
        have a1 : atI ([.int n, .int i, f] : List V) (0 + (j : Int)) = some o := by rw [Int.zero_add]; exact atI_nat h1
        have a2 : atI ([a, b, c] : List V) (0 + (j : Int)) = some x := by rw [Int.zero_add]; exact atI_nat h2
        refine ⟨rfl, _, rfl, _, rfl, s, _, _, o, rfl, rfl, SqL.of hs', a1, _, rfl, _, rfl, t, _, _, x, rfl, rfl, SqL.of ht', a2, x, o, rfl, vx, ?_⟩
        refine ⟨_, hD, ?_, same_app sgj (Same.refl _) nD, ?_⟩
        · rw [List.length_take]
          exact Nat.lt_of_le_of_lt (Nat.min_le_left _ _) (Nat.lt_of_lt_of_le hj (by decide))
        · rw [upd_same, h3]
      rintro H7 ⟨s67, hD⟩
      have st7 := st5.ext s67
      have ht7 := s67 _ _ ht
      have va7 := va5.ext s67
      have vb7 := vb5.ext s67
      have vc7 := vc5.ext s67
      have sg7 := sg6.trans s67
      replace hD : H7 D = some (.lst [kept a (.int n), kept b (.int i), kept c f]) := hD
      clear s67 st5 ht va5 vb5 vc5 sg6 nD H6
      refine ⟨_, rfl, _, rfl, p, t, a, b, c, n, i, f, rfl, st7.hp, ht7, va7, vb7, vc7, hf.any _, fun H8 o s78 ft => ?_⟩
      have st8 := st7.ext s78
      have hD8 := s78 _ _ hD
      have sg8 := sg7.trans s78
      clear st7 ht7 va7 vb7 vc7 hD sg7 s78 H7
      refine ⟨_, rfl, _, rfl, o, D, _, _, _, rfl, hD8, fun H9 s89 => ⟨true, rfl, iteF ?_⟩, ft⟩
      have st9 := st8.ext s89
      refine ⟨_, rfl, (by show 2 ≤ sizeLine; decide), fun q nq => ⟨_, rfl, q, s, _, _, _, rfl, (same_new nq) _ _ st9.hs, fun H10 s10 => ⟨true, rfl, iteF ?_⟩, .inr ⟨n, i, p, st9.ok, upd_same, st9.hp.ext (same_new nq)⟩⟩⟩
      have s810 := s89.trans ((same_new nq).trans s10)
      clear s10 nq st9 s89 H9
      have st10 := st8.ext s810
      obtain ⟨dp, hp⟩ := id st10.hp
      have ok0 : SaOk (kept (.int (-1)) (.int n)) (kept (.int 0) (.int i)) (kept (.int (-1)) f) n 0 := by
        rw [kept_m, kept_0, kept_m]
        exact ⟨rfl, n1, n2, rfl, Int.le_refl _, by omega, hf⟩
      refine ⟨_, rfl, p, dp, _, rfl, hp, saf_with .., rfl, p, .int (-1), .int 0, .int (-1), n, i, f, rfl, st10.hp, .inl ⟨_, rfl⟩, .inl ⟨_, rfl⟩, .inl ⟨_, rfl⟩, .inr ⟨n, 0, ok0, fun H11 q s11 hq => ?_⟩⟩
      rw [kept_m] at hq
      refine ⟨(by show 2 ≤ sizeLine; decide), fun o3 no3 => ?_⟩
      have so3 := same_new (o := .tup [.str "made", .ref q]) no3
      have hs3 := so3 _ _ (s11 _ _ st10.hs)
      have ho3 : (upd H11 o3 (.tup [.str "made", .ref q])) o3 = some (.tup [.str "made", .ref q]) := upd_same
      have hq3 := hq.ext so3
      have s13 := s810.trans (s11.trans so3)
      generalize upd H11 o3 (.tup [.str "made", .ref q]) = H12 at hs3 ho3 hq3 s13 ⊢
      clear so3 no3 hq s11 hp st10 s810 H11 H10
      refine ⟨_, rfl, s, _, 0, .int n, rfl, rfl, SqL.of hs3, atI0, _, rfl, s, _, 2, f, rfl, rfl, SqL.of hs3, atI2, (by show 3 ≤ sizeLine; decide), fun L nL => ⟨o3, L, .int n, .int 0, f, rfl, upd_same, fun H13 s14 => ⟨true, rfl, iteF ?_⟩, .inr ⟨n, 0, q, ⟨rfl, n1, n2, rfl, Int.le_refl _, by omega, hf⟩, (same_new nL) _ _ ho3, hq3.ext (same_new nL)⟩⟩⟩
      have s15 := s13.trans ((same_new nL).trans s14)
      have st := st8.ext s15
      have hD := s15 _ _ hD8
      have sg := sg8.trans s15
      clear s14 nL hq3 ho3 hs3 s13 o3 q H12
      rcases ft with ⟨w, hi, ho⟩ | ⟨n', i', q, hok, ho, hq⟩
      · have ho := s15 _ _ ho
        refine ⟨_, rfl, o, _, 0, .str "refused", rfl, rfl, SqT.of ho, atI0, rfl, false, by rw [decide_eq_false (fun e => absurd (V.str.inj e) (by decide +kernel))], iteF ?_⟩
        exact ⟨s, p, n, i, f, _, _, _, _, _, st, sg, rfl⟩
      · have ho := s15 _ _ ho
        have hq := hq.ext s15
        clear s15 st8 hD8 sg8
        obtain ⟨dp, hp⟩ := id st.hp
        obtain ⟨dq, hqq⟩ := id hq
        have hv : PhV f := hf.v
        have hw : PhV (kept c f) := hok.2.2.2.2.2.2.v
        have eA := hok.1
        have eB := hok.2.2.2.1
        rw [eA, eB] at hD hok
        refine ⟨_, rfl, o, _, 0, .str "made", rfl, rfl, SqT.of ho, atI0, rfl, true, by rw [decide_eq_true rfl], iteT ?_⟩
        refine ⟨_, rfl, o, _, 1, .ref q, rfl, rfl, SqT.of ho, atI1, _, rfl, q, p, dq, dp, _, _, rfl, rfl, hqq, hp, q, p, n', n, i', i, _, f, rfl, hq, st.hp, hw, hv, _, rfl, _, rfl, _, _, sD_dp hv st.hs, sD_dp hw hD, sD_sh hv, sD_sh hw, ?_⟩
        rw [sD_eq hv hw, saB_comm n n' i i' f (kept c f)]
        refine ⟨rfl, false, congrArg V.bl (bne_self _), iteF ?_⟩
        refine ⟨_, rfl, _, rfl, o, _, 1, .ref q, rfl, rfl, SqT.of ho, atI1, p, q, dp, dq, _, _, rfl, rfl, hp, hqq, p, q, n, n', i, i', f, _, rfl, st.hp, hq, hv, hw, _, rfl, _, rfl, _, rfl, _, _, sD_dp hv st.hs, sD_dp hw hD, sD_sh hv, sD_sh hw, ?_⟩
        rw [sD_eq hv hw]
        refine ⟨rfl, false, congrArg V.bl (beq_nself _), iteF ?_⟩
        refine ⟨_, rfl, o, _, 1, .ref q, rfl, rfl, SqT.of ho, atI1, _, rfl, ?_⟩
        exact ⟨D, q, n', i', kept c f, _, _, _, _, _, ⟨hD, hq, hok⟩, sg, rfl⟩
    · clear st1 sq H1 H2 s0 p0 n0 i0 f0 v0 o0
      rintro σ H1 ⟨s, p, n, i, f, v1, v3, v5, v6, v7, st, sg, rfl⟩
      obtain ⟨_, n1, n2, _, i0, i1, hf⟩ := id st.ok
      obtain ⟨dp, hp⟩ := id st.hp
      refine ⟨_, rfl, _, rfl, s, _, 0, .int n, rfl, rfl, SqL.of st.hs, atI0, _, rfl, s, _, 1, .int i, rfl, rfl, SqL.of st.hs, atI1, _, rfl, s, _, 2, f, rfl, rfl, SqL.of st.hs, atI2, rfl, rfl, fun q dx nq ndx ne => ⟨q, dx, .int n, .int i, f, rfl, upd_same, .inr ⟨n, i, st.ok, rfl, ?_⟩⟩⟩
      have sm := made_pl (C := CS K) (fs := saf n i f) nq ndx (Same.refl _)
      have hq : (upd (upd (upd H1 dx (.own q)) q (.ins (CS K) dx [])) q (.ins (CS K) dx (saf n i f))) q = some (.ins (CS K) dx (saf n i f)) := upd_same
      generalize upd (upd (upd H1 dx (.own q)) q (.ins (CS K) dx [])) q (.ins (CS K) dx (saf n i f)) = H2 at sm hq ⊢
      have st2 := st.ext sm
      have hp2 := sm _ _ hp
      refine ⟨p, q, dp, dx, _, _, rfl, rfl, hp2, hq, p, q, n, n, i, i, f, f, rfl, st2.hp, ⟨dx, hq⟩, hf.v, hf.v, true, by rw [saB_refl], iteT ?_⟩
      have okm : SaOk (kept (.int (-1)) (.int n)) (kept (.int (-1)) (.int i)) (kept (.int (-1)) f) n i := by
        rw [kept_m, kept_m, kept_m]
        exact st.ok
      refine ⟨_, rfl, _, rfl, p, dp, _, rfl, hp2, saf_with .., rfl, p, .int (-1), .int (-1), .int (-1), n, i, f, rfl, st2.hp, .inl ⟨_, rfl⟩, .inl ⟨_, rfl⟩, .inl ⟨_, rfl⟩, .inr ⟨n, i, okm, fun H3 q3 s3 hq3 => ?_⟩⟩
      rw [kept_m] at hq3
      obtain ⟨d3, hq4⟩ := id hq3
      refine ⟨p, q3, dp, d3, _, _, rfl, rfl, s3 _ _ hp2, hq4, p, q3, n, n, i, i, f, f, rfl, st2.hp.ext s3, hq3, hf.v, hf.v, ?_⟩
      rw [saB_refl]
      exact k _
end
end K10

set_option Elab.async false
set_option linter.all false
set_option maxRecDepth 100000
set_option maxHeartbeats 0
namespace K10
open PySem PySem.Spec PyProof.Rows L2 Vf
def fn : List He.DefD := [
  ⟨("is_integer", none), "is_integer", "is_integer", defArgs s_is_integer, defBody s_is_integer, defScope s_is_integer, [], []⟩,
  ⟨("is_integer_from", none), "is_integer_from", "is_integer_from", defArgs s_is_integer_from, defBody s_is_integer_from, defScope s_is_integer_from, [], []⟩,
  ⟨("BadSampler", some "__init__"), "__init__", "BadSampler.__init__", defArgs s_BadSampler_init, defBody s_BadSampler_init, defScope s_BadSampler_init, [], []⟩,
  ⟨("Sampler", some "__init__"), "__init__", "Sampler.__init__", defArgs s_Sampler_init, defBody s_Sampler_init, defScope s_Sampler_init, [.int 0], [("phase", .int 0)]⟩,
  ⟨("Sampler", some "__eq__"), "__eq__", "Sampler.__eq__", defArgs s_Sampler_eq, defBody s_Sampler_eq, defScope s_Sampler_eq, [], []⟩,
  ⟨("Sampler", some "with_values"), "with_values", "Sampler.with_values", defArgs s_Sampler_with_values, defBody s_Sampler_with_values, defScope s_Sampler_with_values, [], [("period", .int (-1)), ("jitter", .int (-1)), ("phase", .int (-1))]⟩,
  ⟨("new_or_kept", none), "new_or_kept", "new_or_kept", defArgs s_new_or_kept, defBody s_new_or_kept, defScope s_new_or_kept, [], []⟩,
  ⟨("_law_is_integer", none), "_law_is_integer", "_law_is_integer", defArgs s_law_is_integer, defBody s_law_is_integer, defScope s_law_is_integer, [], []⟩,
  ⟨("_law_take", none), "_law_take", "_law_take", defArgs s_law_take, defBody s_law_take, defScope s_law_take, [], []⟩,
  ⟨("_law_cell", none), "_law_cell", "_law_cell", defArgs s_law_cell, defBody s_law_cell, defScope s_law_cell, [], []⟩,
  ⟨("_law_odd", none), "_law_odd", "_law_odd", defArgs s_law_odd, defBody s_law_odd, defScope s_law_odd, [], []⟩,
  ⟨("_law_value", none), "_law_value", "_law_value", defArgs s_law_value, defBody s_law_value, defScope s_law_value, [], []⟩,
  ⟨("_law_kept", none), "_law_kept", "_law_kept", defArgs s_law_kept, defBody s_law_kept, defScope s_law_kept, [], []⟩,
  ⟨("_law_due", none), "_law_due", "_law_due", defArgs s_law_due, defBody s_law_due, defScope s_law_due, [], []⟩,
  ⟨("_law_made", none), "_law_made", "_law_made", defArgs s_law_made, defBody s_law_made, defScope s_law_made, [], []⟩,
  ⟨("_law_turned", none), "_law_turned", "_law_turned", defArgs s_law_turned, defBody s_law_turned, defScope s_law_turned, [], []⟩,
  ⟨("_law_fits", none), "_law_fits", "_law_fits", defArgs s_law_fits, defBody s_law_fits, defScope s_law_fits, [], []⟩,
  ⟨("law", none), "law", "law", defArgs s_law, defBody s_law, defScope s_law, [], []⟩]
def fa : List He.Fa := [.free "int", .free "bool", .free "isinstance", .int "MOST_PERIOD" 8, .glo "is_integer", .glo "is_integer_from", .glo "new_or_kept", .glo "Sampler", .glo "BadSampler", .cls "Sampler", .mkr "Sampler", .noat "Sampler" "period", .noat "Sampler" "jitter", .noat "Sampler" "phase", .meth "Sampler" "__eq__", .meth "Sampler" "with_values", .free "range", .free "len", .glo "SeenError", .glo "BadPlace", .glo "_law_cell", .glo "_law_take", .glo "_law_is_integer", .glo "_law_odd", .glo "_law_value", .glo "_law_due", .glo "_law_made", .glo "_law_turned", .glo "_law_fits", .glo "_law_kept", .glo "law"]
def ex2 (K : PySem.W.Frag) : Bool := ((exI K "BadSampler" "why") && ((He.eqO (PySem.W.specialIn K (.builtin "object.__class__") "__get__") (some (some (.builtin "getset_descriptor.__get__")))) && ((decide (PySem.W.takesIn K (.builtin "object.__class__") = some true)) && ((He.eqO (PySem.W.findIn K (.ref (He.ga K "Sampler")) "__class__") (some (some (.builtin "object.__class__")))) && ((decide (PySem.W.mroIn K (He.ga K "Sampler") (.type "object") = some true)) && ((decide (PySem.W.kitOne K (.ref (He.ga K "Sampler")) (.ref (He.ga K "Sampler")) = some true)) && ((He.eqO (PySem.W.findIn K (.ref (He.ga K "Sampler")) "__ne__") (some (some (.builtin "object.__ne__")))) && ((exI K "BadSampler" "why") && ((He.eqO (PySem.W.specialIn K (.builtin "object.__class__") "__get__") (some (some (.builtin "getset_descriptor.__get__")))) && ((decide (PySem.W.takesIn K (.builtin "object.__class__") = some true)) && ((He.eqO (PySem.W.findIn K (.ref (He.ga K "Sampler")) "__class__") (some (some (.builtin "object.__class__")))) && ((decide (PySem.W.mroIn K (He.ga K "Sampler") (.type "object") = some true)) && ((decide (PySem.W.kitOne K (.ref (He.ga K "Sampler")) (.ref (He.ga K "Sampler")) = some true)) && ((decide (PySem.W.kitOne K (.ref (He.ga K "BadSampler")) (.ref (He.ga K "SeenError")) = some true)) && ((decide (PySem.W.kitOne K (.ref (He.ga K "BadSampler")) (.ref (He.ga K "BadPlace")) = some false)) && ((decide (PySem.W.exmOne K (.ref (He.ga K "BadSampler")) (.ref (He.ga K "BadSampler")) = some true)) && true))))))))))))))))
def ex (K : PySem.W.Frag) : Bool := (fa.all fun f => f.ok K) && ex2 K
abbrev R : PySem.W.OpenRow := PySem.W.OpenLaw.row PySem.Challenge.rw_seenshares_k10_sampler
abbrev hk : PySem.W.Hook := hookM 5 ex fn
def ob (s : PySem.W.SharedT) : AlM := obsMG 5 ex fn (HandSHeadRun.getT s)
theorem ob_eq (s : PySem.W.SharedT) : ob s = hk.obs s.abs := obsMG_eq (HandSHeadRun.getT_eq s)
def names : List Str := ["SeenError", "BadPlace", "BadSampler", "is_integer", "is_integer_from", "MOST_PERIOD", "Sampler", "new_or_kept", "_law_cell", "_law_take", "_law_is_integer", "_law_odd", "_law_value", "_law_due", "_law_made", "_law_turned", "_law_fits", "_law_kept"]
theorem run (w : World) : HandSHeadRun.RunEq R (PySem.W.view R.prog [22]) hk ob 100000 names w := by
  intro os
  kernel_rfl
end K10

set_option Elab.async false
set_option linter.all false
set_option maxRecDepth 100000
set_option maxHeartbeats 4000000
namespace K10
open PySem PySem.Spec PyProof.Rows L2 Vf
section
variable {K : PySem.W.Frag} {h : Heap} {mg : Str → Option Value}
theorem mk_STxt (X : K.In h) (G : h.Ns mainGlobals mg) (c : ex K = true) : STxt K mg := by
  obtain ⟨a, c⟩ := He.ba c
  have fact : ∀ (i : Nat) {f : He.Fa}, fa[i]? = some f → f.ok K = true := fun i f e => List.all_eq_true.mp a f (List.mem_of_getElem? e)
  obtain ⟨c0, c⟩ := He.ba c
  obtain ⟨c1, c⟩ := He.ba c
  obtain ⟨c2, c⟩ := He.ba c
  obtain ⟨c3, c⟩ := He.ba c
  obtain ⟨c4, c⟩ := He.ba c
  obtain ⟨c5, c⟩ := He.ba c
  obtain ⟨c6, c⟩ := He.ba c
  obtain ⟨c7, c⟩ := He.ba c
  obtain ⟨c8, c⟩ := He.ba c
  obtain ⟨c9, c⟩ := He.ba c
  obtain ⟨c10, c⟩ := He.ba c
  obtain ⟨c11, c⟩ := He.ba c
  obtain ⟨c12, c⟩ := He.ba c
  obtain ⟨c13, c⟩ := He.ba c
  obtain ⟨c14, c⟩ := He.ba c
  obtain ⟨c15, c⟩ := He.ba c
  exact
  { z_int := He.free_ok X G (fact 0 (f := .free "int") rfl)
    z_bool := He.free_ok X G (fact 1 (f := .free "bool") rfl)
    z_isinstance := He.free_ok X G (fact 2 (f := .free "isinstance") rfl)
    i_MOST_PERIOD := He.int_ok X G (fact 3 (f := .int "MOST_PERIOD" 8) rfl)
    g_is_integer := He.glo_ok X G (fact 4 (f := .glo "is_integer") rfl)
    g_is_integer_from := He.glo_ok X G (fact 5 (f := .glo "is_integer_from") rfl)
    g_new_or_kept := He.glo_ok X G (fact 6 (f := .glo "new_or_kept") rfl)
    g_Sampler := He.glo_ok X G (fact 7 (f := .glo "Sampler") rfl)
    g_BadSampler := He.glo_ok X G (fact 8 (f := .glo "BadSampler") rfl)
    c_Sampler := cls_of (fact 9 (f := .cls "Sampler") rfl)
    m_Sampler := mk_of (fact 10 (f := .mkr "Sampler") rfl)
    nP := noat_of (fact 11 (f := .noat "Sampler" "period") rfl)
    nJ := noat_of (fact 12 (f := .noat "Sampler" "jitter") rfl)
    nF := noat_of (fact 13 (f := .noat "Sampler" "phase") rfl)
    x_BadSampler := exI_ok c0
    hn := He.eqO_ok c1
    ht := of_decide_eq_true c2
    ha := He.eqO_ok c3
    hm := of_decide_eq_true c4
    k1 := of_decide_eq_true c5 }
theorem mk_LMeth (X : K.In h) (G : h.Ns mainGlobals mg) (c : ex K = true) : LMeth K := by
  obtain ⟨a, c⟩ := He.ba c
  have fact : ∀ (i : Nat) {f : He.Fa}, fa[i]? = some f → f.ok K = true := fun i f e => List.all_eq_true.mp a f (List.mem_of_getElem? e)
  obtain ⟨c0, c⟩ := He.ba c
  obtain ⟨c1, c⟩ := He.ba c
  obtain ⟨c2, c⟩ := He.ba c
  obtain ⟨c3, c⟩ := He.ba c
  obtain ⟨c4, c⟩ := He.ba c
  obtain ⟨c5, c⟩ := He.ba c
  obtain ⟨c6, c⟩ := He.ba c
  obtain ⟨c7, c⟩ := He.ba c
  obtain ⟨c8, c⟩ := He.ba c
  obtain ⟨c9, c⟩ := He.ba c
  obtain ⟨c10, c⟩ := He.ba c
  obtain ⟨c11, c⟩ := He.ba c
  obtain ⟨c12, c⟩ := He.ba c
  obtain ⟨c13, c⟩ := He.ba c
  obtain ⟨c14, c⟩ := He.ba c
  obtain ⟨c15, c⟩ := He.ba c
  exact
  { m_eq := meth_of (fact 14 (f := .meth "Sampler" "__eq__") rfl)
    m_with_values := meth_of (fact 15 (f := .meth "Sampler" "with_values") rfl)
    ne := He.eqO_ok c6 }
theorem mk_Txt (X : K.In h) (G : h.Ns mainGlobals mg) (c : ex K = true) : Txt K mg := by
  obtain ⟨a, c⟩ := He.ba c
  have fact : ∀ (i : Nat) {f : He.Fa}, fa[i]? = some f → f.ok K = true := fun i f e => List.all_eq_true.mp a f (List.mem_of_getElem? e)
  obtain ⟨c0, c⟩ := He.ba c
  obtain ⟨c1, c⟩ := He.ba c
  obtain ⟨c2, c⟩ := He.ba c
  obtain ⟨c3, c⟩ := He.ba c
  obtain ⟨c4, c⟩ := He.ba c
  obtain ⟨c5, c⟩ := He.ba c
  obtain ⟨c6, c⟩ := He.ba c
  obtain ⟨c7, c⟩ := He.ba c
  obtain ⟨c8, c⟩ := He.ba c
  obtain ⟨c9, c⟩ := He.ba c
  obtain ⟨c10, c⟩ := He.ba c
  obtain ⟨c11, c⟩ := He.ba c
  obtain ⟨c12, c⟩ := He.ba c
  obtain ⟨c13, c⟩ := He.ba c
  obtain ⟨c14, c⟩ := He.ba c
  obtain ⟨c15, c⟩ := He.ba c
  exact
  { z_int := He.free_ok X G (fact 0 (f := .free "int") rfl)
    z_bool := He.free_ok X G (fact 1 (f := .free "bool") rfl)
    z_isinstance := He.free_ok X G (fact 2 (f := .free "isinstance") rfl)
    i_MOST_PERIOD := He.int_ok X G (fact 3 (f := .int "MOST_PERIOD" 8) rfl)
    g_is_integer := He.glo_ok X G (fact 4 (f := .glo "is_integer") rfl)
    g_is_integer_from := He.glo_ok X G (fact 5 (f := .glo "is_integer_from") rfl)
    g_new_or_kept := He.glo_ok X G (fact 6 (f := .glo "new_or_kept") rfl)
    g_Sampler := He.glo_ok X G (fact 7 (f := .glo "Sampler") rfl)
    g_BadSampler := He.glo_ok X G (fact 8 (f := .glo "BadSampler") rfl)
    c_Sampler := cls_of (fact 9 (f := .cls "Sampler") rfl)
    m_Sampler := mk_of (fact 10 (f := .mkr "Sampler") rfl)
    nP := noat_of (fact 11 (f := .noat "Sampler" "period") rfl)
    nJ := noat_of (fact 12 (f := .noat "Sampler" "jitter") rfl)
    nF := noat_of (fact 13 (f := .noat "Sampler" "phase") rfl)
    x_BadSampler := exI_ok c7
    hn := He.eqO_ok c8
    ht := of_decide_eq_true c9
    ha := He.eqO_ok c10
    hm := of_decide_eq_true c11
    k1 := of_decide_eq_true c12
    z_range := He.free_ok X G (fact 16 (f := .free "range") rfl)
    z_len := He.free_ok X G (fact 17 (f := .free "len") rfl)
    g_SeenError := He.glo_ok X G (fact 18 (f := .glo "SeenError") rfl)
    g_BadPlace := He.glo_ok X G (fact 19 (f := .glo "BadPlace") rfl)
    k2 := of_decide_eq_true c13
    k3 := of_decide_eq_true c14
    te := of_decide_eq_true c15
    g_law_cell := He.glo_ok X G (fact 20 (f := .glo "_law_cell") rfl)
    g_law_take := He.glo_ok X G (fact 21 (f := .glo "_law_take") rfl)
    g_law_is_integer := He.glo_ok X G (fact 22 (f := .glo "_law_is_integer") rfl)
    g_law_odd := He.glo_ok X G (fact 23 (f := .glo "_law_odd") rfl)
    g_law_value := He.glo_ok X G (fact 24 (f := .glo "_law_value") rfl)
    g_law_due := He.glo_ok X G (fact 25 (f := .glo "_law_due") rfl)
    g_law_made := He.glo_ok X G (fact 26 (f := .glo "_law_made") rfl)
    g_law_turned := He.glo_ok X G (fact 27 (f := .glo "_law_turned") rfl)
    g_law_fits := He.glo_ok X G (fact 28 (f := .glo "_law_fits") rfl)
    g_law_kept := He.glo_ok X G (fact 29 (f := .glo "_law_kept") rfl) }
theorem facts {P : Program} {w : World} {f : Addr} (X : K.In h) (G : h.Ns mainGlobals mg) (hfa : mg ("law" : Str) = some (.ref f)) (c : SaysM ex fn K) :
    ∃ fd : FuncData, (∀ (s : Shared) (v : Value), BindsTo s fd ⟨[v], []⟩ [("_law_script", v)]) ∧ ∀ base : Heap, K.In base → base.Ns mainGlobals mg → FnOk P w K mg base CX0 8 f fd ["_law_script"] (spLaw K) := by
  obtain ⟨d0, F0⟩ := c.fn 0
  obtain ⟨d1, F1⟩ := c.fn 1
  obtain ⟨d2, F2⟩ := c.fn 2
  obtain ⟨d3, F3⟩ := c.fn 3
  obtain ⟨d4, F4⟩ := c.fn 4
  obtain ⟨d5, F5⟩ := c.fn 5
  obtain ⟨d6, F6⟩ := c.fn 6
  obtain ⟨d7, F7⟩ := c.fn 7
  obtain ⟨d8, F8⟩ := c.fn 8
  obtain ⟨d9, F9⟩ := c.fn 9
  obtain ⟨d10, F10⟩ := c.fn 10
  obtain ⟨d11, F11⟩ := c.fn 11
  obtain ⟨d12, F12⟩ := c.fn 12
  obtain ⟨d13, F13⟩ := c.fn 13
  obtain ⟨d14, F14⟩ := c.fn 14
  obtain ⟨d15, F15⟩ := c.fn 15
  obtain ⟨d16, F16⟩ := c.fn 16
  obtain ⟨d17, F17⟩ := c.fn 17
  have hl : He.ga K "law" = f := by
    have e := He.glo_ok X G (List.all_eq_true.mp (He.ba c.ex).1 (.glo "law") (List.mem_of_getElem? (i := 30) rfl))
    rw [hfa] at e
    cases e
    rfl
  have b := FunD.bindsA (ps := ["_law_script"]) F17 fun _ _ _ _ _ _ us hl => match us, hl with | [_], _ => rfl
  refine ⟨d17, fun s v => b s [v] rfl, fun base _ _ => ?_⟩
  have T := mk_Txt X G c.ex
  have M := mk_LMeth X G c.ex
  have S := T.toSTxt
  have A0 := ok_is_integer (P := P) (w := w) (base := base) F0 S
  have A1 := ok_is_integer_from F1 S A0
  have A2 := ok_BadSampler_init (P := P) (w := w) (mg := mg) (base := base) F2
  have G3 := ok_Sampler_init F3 S A1 A2
  have I2 := O_Sampler2k F3 G3
  have I1 := O_Sampler1 F3 G3
  have A4 := ok_Sampler_eq (P := P) (w := w) (base := base) F4 S
  have A6 := ok_new_or_kept F6 S A0
  have G5 := ok_Sampler_with F5 S A6 I2
  have W3 := O_with3 F5 G5
  have W1 := O_with1 F5 G5
  have W0 := O_with0 F5 G5
  have B0 := ok_law_is_integer (P := P) (w := w) (base := base) F7 T
  have B1 := ok_law_take (P := P) (w := w) (base := base) F8 T
  have B2 := ok_law_cell (P := P) (w := w) (base := base) F9 T
  have B3 := ok_law_odd F10 T B1
  have B4 := ok_law_value F11 T B1 B3
  have B5 := ok_law_kept F12 T B0
  have B6 := ok_law_due F13 T B0
  have B7 := ok_law_made F14 T I2
  have B8 := ok_law_turned F15 T M W3
  have B9 := ok_law_fits F16 T B0 B6
  have r := ok_law F17 T M B2 B1 B4 B5 B7 B8 B9 I2 I1 W1 W0 A4
  rw [← hl]
  exact r
end
end K10
open PySem PySem.W PySem.Calls PyProof.Rows
theorem PySem.Challenge.cw_seenshares_k10_sampler_holds : PySem.Challenge.rw_seenshares_k10_sampler.Holds := by
  w_on; o_law
  refine HandSHeadRun.head_any (r := OpenLaw.row PySem.Challenge.rw_seenshares_k10_sampler) (q := view (OpenLaw.row PySem.Challenge.rw_seenshares_k10_sampler).prog [22]) (H := K10.hk) (ob := K10.ob) (M := 100000) (loose := K10.names)
    (d := HandSHeadRun.topDef (OpenLaw.row PySem.Challenge.rw_seenshares_k10_sampler).prog 22) (kwd := []) K10.ob_eq (by kernel_rfl) (fun s => by kernel_rfl) K10.run (by kernel_rfl) (by kernel_rfl) (by kernel_rfl) (by rfl) (by first | assumption | decide +kernel) (by decide +kernel) ⟨rfl, rfl, rfl, rfl, rfl, by decide +kernel⟩ ?hw ?hc
  case hw => w_witness2
  case hc =>
    refine L2.walk_ofE (l := PySem.Challenge.rw_seenshares_k10_sampler) (n := 63) (k := 8) (x := "_law_script") (CX := L2.CX0) rfl (by decide) (by kernel_rfl) ⟨rfl, by decide, by decide⟩ ?F (fun _ _ _ _ z => z)
    intro w mg fa h Y G hmg0
    obtain ⟨K, KX, c⟩ := Y
    have hmg : mg ("law" : PySem.Str) = some (.ref fa) := by
      have e : (HandSHeadRun.topDef (OpenLaw.row PySem.Challenge.rw_seenshares_k10_sampler).prog 22).name = ("law" : PySem.Str) := by kernel_rfl
      rw [← e]
      exact hmg0
    obtain ⟨fd, hb, hF⟩ := K10.facts (P := (PySem.Challenge.rw_seenshares_k10_sampler).prog) (w := w) KX G hmg c
    exact ⟨K, fd, K10.spLaw K, KX, hb, fun H a ns hl _ hS => ⟨a, ns, rfl, hS, hl, fun _ => rfl⟩, hF⟩
#print axioms PySem.Challenge.cw_seenshares_k10_sampler_holds
