import PyProof.Rows.All
import Wide.All
import OpenK.AllK
import Wide.FinOn
import PyProof.EqAt
import PyProof.EqKinds
import PyProof.TupleCall
import KE.KStateDown
import KE.KCallOwn
import HandS.ForExc
import HandS.Wide
import HandS.Gcd
import HandS.Defaults
import HandS.IsInst
import HandS.ExcInit
import HandS.ExcField
import HandS.ExcIs
import HandS.FStr
import HandS.Codes
import HandS.Dict
import HandS.Head0
import HandS.Head1
import HandS.Head2
import HandS.Head3
import HandS.HeadEnd
import HandS.HeadHook1
import HandS.HeadHook2
import KE.KExcIs
import KE.KOpsOwn
import PyProof.FactsAll.int_1
import PyProof.FactsAll.int_2
import PyProof.FactsAll.int_3
import PyProof.FactsAll.int_5
import HandS.TryOnly
import HandS.Small
import PyProof.FactsAll.str_1
import PyProof.FactsAll.tuple_1
import PyProof.FactsAll.list_1
import PyProof.FactsAll.dict_1
import PyProof.FactsAll.bool_1
import PyProof.FactsAll.NoneType_1
import HandS.OwnEq
import HandS.Comp
import HandS.Walk
import HandS.MakeKwOnly
import HandS.MakeKw
import PyProof.Rows.StrIn
import KE.GoesMore
import HandS.DictComp
import HandS.Property
import HandS.DeepEq
import KE.KEqDict
import PyProof.NeKinds
import HandS.Exc
import HandS.SetFor
import HandS.Conv
import PyProof.CompUse
import KE.GoesEnumKw
import PyProof.Rows.CallKwBuiltin
import HandS.Sort
import PyProof.DictCopy
import PyProof.StrOps2
import PySem.Challenge.RW_seenshares_k39_read_run_refusals
set_option Elab.async false
set_option linter.all false
set_option maxRecDepth 100000
set_option maxHeartbeats 2000000
namespace Vf
open PySem PySem.Spec PyProof.Rows L2
/-! ### defs at their places -/
abbrev Pl : Type := Str × Option Str
structure OkD (P : Program) (w : World) (K : PySem.W.Frag) (mg : Str → Option Value) (base : Heap) (CX : CXT) (k : Nat) (p : Pl) (ps : List Str) (dvs : List V) (sp : Sp) : Prop where
  ex : ∃ fd ds, FnOk P w K mg base CX k (He.fAd K p) fd ps sp ∧ Binds K fd ps ds ∧ Vals dvs ds
  kp : PySem.W.keepIn K (.ref (He.fAd K p)) = true
section
variable {X : Cx} {CX : CXT} {k j : Nat} {ps : List Str} {sp : Sp} {dvs : List V} {x m : Str} {p pos apos : Pos} {e o : Expr} {es : List Expr} {ta : TE} {t : TA}
theorem c_fn {E : XK} (O : OkD X.prog X.w X.K X.mg X.base CX k (x, none) ps dvs sp) (hr : Room j X.A) (hj : k ≤ j) (hm : X.mg x = some (.ref (He.ga X.K x))) (hx : Passes CX X E) (ha : PA X (e :: es) t) (hg : Gl X x := by rfl)
    (hdb : (x == ("__debug__" : Str)) = false := by decide) (he : starEach (e :: es) X.env = (false, eval e X.env) :: starEach es X.env := by rfl) (hpl : (backTo pos (starEach es X.env)).any (·.1) = false := by rfl) :
    PE X (.Call (.Name x p) (e :: es) [] pos) (tCall sp dvs E t) := by
  obtain ⟨fd, ds, F, b, v⟩ := O.ex
  exact pe_call F (hr.mono hj) hg hm O.kp b v hx ha hdb he hpl
theorem c_fnS {E : L2.St → XK} (O : OkD X.prog X.w X.K X.mg X.base CX k (x, none) ps [] sp) (hr : Room j X.A) (hj : k ≤ j) (hm : X.mg x = some (.ref (He.ga X.K x))) (hx : ∀ σ, PassesAt CX X σ (E σ)) (ha : PA X (e :: es) t) (hg : Gl X x := by rfl)
    (hdb : (x == ("__debug__" : Str)) = false := by decide) (he : starEach (e :: es) X.env = (false, eval e X.env) :: starEach es X.env := by rfl) (hpl : (backTo pos (starEach es X.env)).any (·.1) = false := by rfl) :
    PE X (.Call (.Name x p) (e :: es) [] pos) (tCallS sp E t) := by
  obtain ⟨fd, ds, F, b, v⟩ := O.ex
  cases v
  exact pe_callS F (hr.mono hj) hg hm O.kp b hx ha hdb he hpl
theorem mk_of {K : PySem.W.Frag} {x : Str} (c : (He.Fa.mkr x).ok K = true) : Mk K (He.ga K x) (He.fAd K (x, some "__init__")) := by
  obtain ⟨h1, h2⟩ := He.ba c
  obtain ⟨h2, h3⟩ := He.ba h2
  obtain ⟨h3, h4⟩ := He.ba h3
  exact ⟨h1, He.eqO_ok h2, h3, h4⟩
theorem meth_of {K : PySem.W.Frag} {x m : Str} (c : (He.Fa.meth x m).ok K = true) : Meth K (He.ga K x) m (He.fAd K (x, some m)) := by
  obtain ⟨h1, h2⟩ := He.ba c
  obtain ⟨h2, h3⟩ := He.ba h2
  exact ⟨He.eqO_ok h1, h2, h3⟩
theorem cls_of {K : PySem.W.Frag} {x : Str} (c : (He.Fa.cls x).ok K = true) : Cls K (He.ga K x) := by
  obtain ⟨h1, h2⟩ := He.ba c
  obtain ⟨h2, h3⟩ := He.ba h2
  obtain ⟨h3, h4⟩ := He.ba h3
  exact ⟨h1, h2, h3, He.eqO_ok h4⟩
theorem noat_of {K : PySem.W.Frag} {x f : Str} (c : (He.Fa.noat x f).ok K = true) : NoAttr K (He.ga K x) f := He.eqO_ok c
/-- C(e, ..) -/
theorem c_mk {E : XK} {C : Addr} (M : Mk X.K C (He.fAd X.K (x, some "__init__"))) (O : OkD X.prog X.w X.K X.mg X.base CX k (x, some "__init__") ps dvs sp) (hr : Room j X.A) (hj : k + 1 ≤ j) (hm : X.mg x = some (.ref C)) (hx : Passes CX X E) (ha : PA X (e :: es) t) (hg : Gl X x := by rfl)
    (hdb : (x == ("__debug__" : Str)) = false := by decide) (he : starEach (e :: es) X.env = (false, eval e X.env) :: starEach es X.env := by rfl) (hpl : (backTo pos (starEach es X.env)).any (·.1) = false := by rfl) :
    PE X (.Call (.Name x p) (e :: es) [] pos) (tMake C sp dvs E t) := by
  obtain ⟨fd, ds, F, b, v⟩ := O.ex
  exact pe_make M F (hr.mono hj) hg hm b v hx ha hdb he hpl
/-- o.m() -/
theorem c_me0 {E : XK} {C : Addr} {cn : Str} (hC : C = He.ga X.K cn) (he : PE X o ta) (c : Cls X.K C) (hm : Meth X.K C m (He.fAd X.K (cn, some m))) (O : OkD X.prog X.w X.K X.mg X.base CX k (cn, some m) ps dvs sp) (hr : Room j X.A) (hj : k ≤ j) (hx : Passes CX X E) {pl : Sem Bool}
    (ht : eval (.Call (.Attribute o m apos) [] [] pos) X.env = (do
      let ov ← eval o X.env
      standAt apos.atName
      let (f, first) ← holding [ov] (getMethod ov m pl)
      callWith pos f first (backTo pos (starEach [] X.env)) (backToKw pos (keywordEach [] X.env))) := by rfl) :
    PE X (.Call (.Attribute o m apos) [] [] pos) (tMeth C m sp dvs E ta tNil) := by
  obtain ⟨fd, ds, F, b, v⟩ := O.ex
  exact pe_meth0 he c hm F (hr.mono hj) b v hx ht
theorem c_me {E : XK} {C : Addr} {cn : Str} (hC : C = He.ga X.K cn) (hb : PE X o ta) (c : Cls X.K C) (hm : Meth X.K C m (He.fAd X.K (cn, some m))) (O : OkD X.prog X.w X.K X.mg X.base CX k (cn, some m) ps dvs sp) (hr : Room j X.A) (hj : k ≤ j) (hx : Passes CX X E) (ha : PA X (e :: es) t) {pl : Sem Bool}
    (hst : starEach (e :: es) X.env = (false, eval e X.env) :: starEach es X.env := by rfl) (hpl : (backTo pos (starEach es X.env)).any (·.1) = false := by rfl)
    (ht : eval (.Call (.Attribute o m apos) (e :: es) [] pos) X.env = (do
      let ov ← eval o X.env
      standAt apos.atName
      let (f, first) ← holding [ov] (getMethod ov m pl)
      callWith pos f first (backTo pos (starEach (e :: es) X.env)) (backToKw pos (keywordEach [] X.env))) := by rfl) :
    PE X (.Call (.Attribute o m apos) (e :: es) [] pos) (tMeth C m sp dvs E ta t) := by
  obtain ⟨fd, ds, F, b, v⟩ := O.ex
  exact pe_meth hb c hm F (hr.mono hj) b v hx ha hst hpl ht
end
/-! ### a try's body whose errors are wished for at any slots -/
theorem passAny {X : Cx} {W : WX} (n : Nat) (tk : Takes X W) (hn : X.N.length = n := by rfl) : Passes (L2.CX X.prog X.w) X (fun cls d H => ∀ σ : L2.St, σ.length = n → W cls d σ H) :=
  fun _ σ _ _ e s' I c => tk e s' (XE.of_call I (fun _ _ _ h => h σ (I.len.trans hn)) c)
/-! ### operators -/
section
variable {X : Cx}
/-- // by any divisor but 0 below 2 ^ 9000 -/
theorem op_fdivG : OpR X (binaryOp .FloorDiv) (rI (fun _ j => j ≠ 0 ∧ j.natAbs.log2 < 9000) fun i j => .int (i.fdiv j)) := opI fun i j _ _ _ _ _ hc q => floordiv_int hc.1 q (.inl (PyProof.noPylong_of_log2 hc.2))
/-- a built-in class as a value -/
theorem pe_ty {x : Str} {n : String} {pos : Pos} (hm : X.mg x = none) (hv : bootBuiltins x = some (.type n)) (hg : Gl X x := by rfl) (hn : x ≠ "__name__" := by decide) (hd : (x == ("__debug__" : Str)) = false := by decide) : PE X (.Name x pos) (tC (.ty n)) := pe_bltn hg hm hv rfl hn hd
/-- a class of the text as a value -/
theorem pe_cl {x : Str} {a : Addr} {pos : Pos} (hm : X.mg x = some (.ref a)) (hg : Gl X x := by rfl) (hd : (x == ("__debug__" : Str)) = false := by decide) : PE X (.Name x pos) (tC (.ref a)) := pe_glob hg hm rfl hd
/-- str(o), o of a class of the text that has its own __str__ -/
def rStrO (C : Addr) (sp : Sp) : List V → Hp → VK → Prop := fun xs H Q => ∃ a dx fs, xs = [.ref a] ∧ H a = some (.ins C dx fs) ∧ sp [.ref a] H (fun v H' => ∃ z, v = .str z ∧ Q (.str z) H') fun _ _ _ => False
theorem call_strO {k j : Nat} {C : Addr} {cn : Str} {ps : List Str} {sp : Sp} (hC : C = He.ga X.K cn) (hm : Meth X.K C "__str__" (He.fAd X.K (cn, some "__str__"))) (O : OkD X.prog X.w X.K X.mg X.base CX0 k (cn, some "__str__") ps [] sp) (hr : Room j X.A) (hj : k + 2 ≤ j) :
    CallR X (.type "str") (rStrO C sp) := by
  obtain ⟨fd, ds, F, b, v⟩ := O.ex
  cases v
  intro pins s σ H xs us Q I r h
  obtain ⟨a, dx, fs, rfl, ha, hsp⟩ := h
  obtain ⟨u, rfl, ru⟩ : ∃ u, us = [u] ∧ RelV (.ref a) u := by
    cases r with
    | cons p q => cases q; exact ⟨_, rfl, p⟩
  cases ru
  obtain ⟨mA, J, _⟩ := ins_get I.hok ha
  obtain ⟨od, J, _⟩ := J.look
  have hr2 : Room k X.A.in1.in1 := ((hr.mono hj).in1).in1
  refine PySem.W.kso_call hr2.units0 I.kIn J hm.at_ hm.fn ?_
  have hl := F.len _ _ _ _ hsp
  have hb := b s [.ref a] I.kIn (by simpa using hl)
  simp only [List.append_nil] at hb
  refine wpAny_call (codeAny_mono (F.run X.A.in1.in1 X.stack s H ⟨[.ref a], []⟩ [.ref a] [.ref a] _ _ hr2 I.env0.in1.in1 hb (.cons rfl .nil) hsp) fun r s' hq => ?_)
  cases r with
  | error e => exact hq.elim
  | ok fl =>
    cases fl with
    | ret w =>
      obtain ⟨z, H', I', rz, y, ez, q⟩ := I.after hq
      subst ez
      obtain ⟨tk, rfl⟩ := rz
      exact ⟨.str y, H', I', ⟨tk, rfl⟩, q⟩
    | next => exact False.elim hq
    | brk => exact False.elim hq
    | cont => exact False.elim hq
end
end Vf

set_option Elab.async false
set_option linter.all false
set_option maxRecDepth 100000
set_option maxHeartbeats 2000000
namespace Vf
open PySem PySem.Spec PyProof.Rows L2
/-! ### ints and other values -/
/-- a value that is no integer -/
inductive Odd (H : Hp) : V → Prop where
  | bl (b : Bool) : Odd H (.bl b)
  | non : Odd H .non
  | str (z : Str) : Odd H (.str z)
  | tup {a : Addr} {xs : List V} (h : H a = some (.tup xs)) : Odd H (.ref a)
  | lst {a : Addr} {xs : List V} (h : H a = some (.lst xs)) : Odd H (.ref a)
  | dic {a : Addr} {kvs : List (Key × V)} (h : H a = some (.dK kvs)) : Odd H (.ref a)
theorem Odd.ext {H H' : Hp} {x : V} (o : Odd H x) (s : Same H H') : Odd H' x := by
  cases o with
  | bl b => exact .bl b
  | non => exact .non
  | str z => exact .str z
  | tup h => exact .tup (s _ _ h)
  | lst h => exact .lst (s _ _ h)
  | dic h => exact .dic (s _ _ h)
theorem odd_ty (K : PySem.W.Frag) {H : Hp} {x : V} (o : Odd H x) : ∃ (n : String) (b1 b2 : Bool), TyX K H x (.type n) ∧ kitB n "int" = some b1 ∧ kitB n "bool" = some b2 ∧ (b1 && !b2) = false := by
  cases o with
  | bl b => exact ⟨"bool", true, true, .base (.bl b), by decide +kernel, by decide +kernel, rfl⟩
  | non => exact ⟨"NoneType", false, false, .base .non, by decide +kernel, by decide +kernel, rfl⟩
  | str z => exact ⟨"str", false, false, .base (.str z), by decide +kernel, by decide +kernel, rfl⟩
  | tup h => exact ⟨"tuple", false, false, .base (.tup h), by decide +kernel, by decide +kernel, rfl⟩
  | lst h => exact ⟨"list", false, false, .base (.lst h), by decide +kernel, by decide +kernel, rfl⟩
  | dic h => exact ⟨"dict", false, false, .base (.dK h), by decide +kernel, by decide +kernel, rfl⟩
theorem int_ty (K : PySem.W.Frag) (H : Hp) (n : Int) : TyX K H (.int n) (.type "int") ∧ kitB "int" "int" = some true ∧ kitB "int" "bool" = some false :=
  ⟨.base (.int n), by decide +kernel, by decide +kernel⟩
/-- is_integer(x) -/
def spIsInt : Sp := fun vs H Q _ => ∃ x, vs = [x] ∧ (((∃ n, x = .int n) ∧ Q (.bl true) H) ∨ (Odd H x ∧ Q (.bl false) H))
def t_isint (K : PySem.W.Frag) : TS := tRet (tAndV (tCB (rIsi K) (tCons (tVar 0) (tCons (tC (.ty "int")) tNil))) (tNotV (tCB (rIsi K) (tCons (tVar 0) (tCons (tC (.ty "bool")) tNil)))))
theorem run_isint {K : PySem.W.Frag} {N : List Str} {vs : List V} {H : Hp} {Q : VK} {E : XK} (h : spIsInt vs H Q E) : t_isint K { nx := fun _ H' => Q .non H', rt := Q } (start N vs) H := by
  obtain ⟨x, rfl, h⟩ := h
  have s0 : (start N [x])[0]? = some (some x) := rfl
  rcases h with ⟨⟨n, rfl⟩, q⟩ | ⟨o, q⟩
  · obtain ⟨t1, k1, k2⟩ := int_ty K H n
    refine ⟨_, s0, _, .ty "int", _, .type "int", true, rfl, .ty _, t1, kit_ty k1, true, rfl, ?_⟩
    refine iteT ?_
    exact ⟨_, s0, _, .ty "bool", _, .type "bool", false, rfl, .ty _, t1, kit_ty k2, false, rfl, q⟩
  · obtain ⟨n, b1, b2, t1, k1, k2, e⟩ := odd_ty K o
    refine ⟨_, s0, _, .ty "int", _, .type "int", b1, rfl, .ty _, t1, kit_ty k1, b1, rfl, ?_⟩
    cases b1 with
    | false => exact iteF q
    | true =>
      cases b2 with
      | false => cases e
      | true =>
        refine iteT ?_
        exact ⟨_, s0, _, .ty "bool", _, .type "bool", true, rfl, .ty _, t1, kit_ty k2, true, rfl, q⟩
/-! ### the draws -/
/-- _law_cell(script, k): some int -/
def spCell (K : PySem.W.Frag) : Sp := fun vs H Q _ => ∃ (l : Addr) (ns : List Int) (j : Nat), vs = [.ref l, .int (j : Int)] ∧ SqL K H l (ns.map V.int) ∧ j < 1000 ∧ ∀ n : Int, Q (.int n) H
/-- _law_take(draw, size) -/
def spTake : Sp := fun vs H Q _ => ∃ (d : Addr) (n s : Int), vs = [.ref d, .int s] ∧ H d = some (.lst [.int n]) ∧ 0 < s ∧ s < 1073741824 ∧ ∀ r m : Int, 0 ≤ r → r < s → Q (.int r) (upd H d (.lst [.int m]))
theorem atI0 {α : Type} {x : α} {xs : List α} : atI (x :: xs) 0 = some x := by simp [atI, ixN]
theorem atI1 {α : Type} {x y : α} {xs : List α} : atI (x :: y :: xs) 1 = some y := by
  have h : ixN (x :: y :: xs).length 1 = some 1 := by
    unfold ixN
    rw [if_pos (by omega), if_pos (by simp only [List.length_cons]; omega)]
    rfl
  unfold atI
  rw [h]
  rfl
theorem ixN0 {n : Nat} : ixN (n + 1) 0 = some 0 := by
  unfold ixN
  rw [if_pos (by omega), if_pos (by omega)]
  all_goals rfl
abbrev rAddI : R2 := rI0 fun i j => .int (i + j)
abbrev rModI : R2 := rI (fun _ j => 0 < j) fun i j => .int (i % j)
end Vf

set_option Elab.async false
set_option linter.all false
set_option maxRecDepth 100000
set_option maxHeartbeats 2000000
namespace Vf
open PySem PySem.Spec PyProof.Rows L2
/-! ### own errors: class C(..): def __init__(self, f): self.f = f -/
def oexB (K : PySem.W.Frag) (C : Addr) : Bool := match K.lookup C with
  | some ⟨.type "type", _, .cls cd, sl⟩ => (match cd.mro, sl.toList with
    | .ref C' :: bm, [_, _, _, _, some (.builtin n), _] => C' == C && n == "ValueError.__new__" && !cd.hasDel && cd.hasDict && PySem.HandSPX.refsVE bm
    | _, _ => false)
  | _ => false
theorem oexB_ok {K : PySem.W.Frag} {C : Addr} (q : oexB K C = true) : ∃ nm qn N bs bm sn sub ab col dd k0 k1 k2 k3 k5, K.lookup C = some (excClassObj nm qn C N bs bm true sn sub ab col dd k0 k1 k2 k3 k5 "ValueError.__new__") ∧ PySem.HandSPX.refsVE bm = true := by
  unfold oexB at q
  split at q
  · rename_i dd cd sl ho
    split at q
    · rename_i C' bm k0 k1 k2 k3 n k5 hm hs
      simp only [Bool.and_eq_true, beq_iff_eq, Bool.not_eq_true'] at q
      obtain ⟨⟨⟨⟨e1, e2⟩, hdel⟩, hh⟩, hbm⟩ := q
      obtain ⟨nm, bs, mro, ns, qn, hd, sn, sub, ab, col, del⟩ := cd
      obtain ⟨l⟩ := sl
      dsimp only at hm hdel hh hs
      subst hm hdel hh hs e1 e2
      exact ⟨nm, qn, ns, bs, bm, sn, sub, ab, col, dd, k0, k1, k2, k3, k5, ho, hbm⟩
    · cases q
  · cases q
/-- what is told of the error class x whose __init__ keeps its argument as f -/
structure ExD (K : PySem.W.Frag) (x : Str) : Prop where
  o : OexC K (He.ga K x)
  gg : PySem.W.findIn K (.ref (He.ga K x)) "__getattr__" = some none
  ga : PySem.W.findIn K (.ref (He.ga K x)) "__getattribute__" = some (some (.builtin "BaseException.__getattribute__"))
  ha : PySem.W.findIn K (.ref (He.ga K x)) "__class__" = some (some (.builtin "object.__class__"))
  hm : PySem.W.mroIn K (He.ga K x) (.type "object") = some true
  hd : PySem.W.hasDictIn K (He.ga K x) = true
  hcl : (PySem.W.clsIn K (He.ga K x)).isSome = true
def exD (K : PySem.W.Frag) (x : Str) : Bool :=
  oexB K (He.ga K x) && (He.eqO (PySem.W.findIn K (.ref (He.ga K x)) "__setattr__") (some (some (.builtin "object.__setattr__"))) && (decide (PySem.W.subIn K (.ref (He.ga K x)) (.type "BaseException") = some true) && (decide (PySem.W.typeIn K (.ref (He.ga K x)) = some (.type "type")) && (PySem.W.keepIn K (.ref (He.ga K x)) &&
  (He.eqO (PySem.W.findIn K (.ref (He.ga K x)) "__getattr__") (some none) && (He.eqO (PySem.W.findIn K (.ref (He.ga K x)) "__getattribute__") (some (some (.builtin "BaseException.__getattribute__"))) && (He.eqO (PySem.W.findIn K (.ref (He.ga K x)) "__class__") (some (some (.builtin "object.__class__"))) &&
  (decide (PySem.W.mroIn K (He.ga K x) (.type "object") = some true) && (PySem.W.hasDictIn K (He.ga K x) && (PySem.W.clsIn K (He.ga K x)).isSome)))))))))
theorem exD_ok {K : PySem.W.Frag} {x : Str} (h : exD K x = true) : ExD K x := by
  obtain ⟨h1, h⟩ := He.ba h
  obtain ⟨h2, h⟩ := He.ba h
  obtain ⟨h3, h⟩ := He.ba h
  obtain ⟨h4, h⟩ := He.ba h
  obtain ⟨h5, h⟩ := He.ba h
  obtain ⟨h6, h⟩ := He.ba h
  obtain ⟨h7, h⟩ := He.ba h
  obtain ⟨h8, h⟩ := He.ba h
  obtain ⟨h9, h⟩ := He.ba h
  obtain ⟨h10, h11⟩ := He.ba h
  exact ⟨⟨oexB_ok h1, He.eqO_ok h2, of_decide_eq_true h3, of_decide_eq_true h4, h5⟩, He.eqO_ok h6, He.eqO_ok h7, He.eqO_ok h8, of_decide_eq_true h9, h10, h11⟩
/-- .. with its __init__ and its field f -/
structure ExI (K : PySem.W.Frag) (x f : Str) : Prop where
  d : ExD K x
  i : PySem.W.findIn K (.ref (He.ga K x)) "__init__" = some (some (.ref (He.fAd K (x, some "__init__"))))
  t : PySem.W.typeIn K (.ref (He.fAd K (x, some "__init__"))) = some (.type "function")
  n : PySem.W.findIn K (.ref (He.ga K x)) f = some none
def exI (K : PySem.W.Frag) (x f : Str) : Bool :=
  exD K x && (He.eqO (PySem.W.findIn K (.ref (He.ga K x)) "__init__") (some (some (.ref (He.fAd K (x, some "__init__"))))) && (decide (PySem.W.typeIn K (.ref (He.fAd K (x, some "__init__"))) = some (.type "function")) && He.eqO (PySem.W.findIn K (.ref (He.ga K x)) f) (some none)))
theorem exI_ok {K : PySem.W.Frag} {x f : Str} (h : exI K x f = true) : ExI K x f := by
  obtain ⟨h1, h⟩ := He.ba h
  obtain ⟨h2, h⟩ := He.ba h
  obtain ⟨h3, h4⟩ := He.ba h
  exact ⟨exD_ok h1, He.eqO_ok h2, of_decide_eq_true h3, He.eqO_ok h4⟩
/-- the __init__: self.f = v -/
def spExI (K : PySem.W.Frag) (C : Addr) (f : Str) : Sp := fun vs H Q _ => ∃ (a : Addr) (v : V), vs = [.ref a, v] ∧ OexC K C ∧ PySem.W.findIn K (.ref C) f = some none ∧ H a = some (exo a C none) ∧
  ∀ dx, H dx = none → dx ≠ a → Q .non (upd (upd H dx (exd dx [(f, v)])) a (exo a C (some dx)))
theorem run_exI {K : PySem.W.Frag} {C : Addr} {f : Str} {N : List Str} {vs : List V} {H : Hp} {Q : VK} {E : XK} (h : spExI K C f vs H Q E) : tOst K f (tVar 0) (tVar 1) { nx := fun _ H' => Q .non H', rt := Q } (start N vs) H := by
  obtain ⟨a, v, rfl, T, hn, ea, q⟩ := h
  have s0 : (start N [.ref a, v])[0]? = some (some (.ref a)) := rfl
  have s1 : (start N [.ref a, v])[1]? = some (some v) := rfl
  exact ⟨_, s1, _, s0, a, C, rfl, T, hn, .inl ⟨ea, fun dx h1 h2 => q dx h1 h2⟩⟩
/-- the heap behind the making: the error's own dict alone is new -/
theorem exc_heap {H : Hp} {a d : Addr} {o1 o2 o3 o4 : HO} (ha : H a = none) (hda : d ≠ a) : upd (del (upd (upd (upd H a o1) d o2) a o3) a) d o4 = upd H d o4 := by
  funext b
  by_cases h1 : b = d
  · rw [h1, upd_same, upd_same]
  · rw [upd_ne h1, upd_ne h1]
    by_cases h2 : b = a
    · rw [h2, del_same, ha]
    · rw [del_ne h2, upd_ne h2, upd_ne h1, upd_ne h2]
theorem pa_weak {X : Cx} {es : List Expr} {ta : TA} (ha : PA X es ta) : PA X es (fun σ H Q => ∃ R, ta σ H R ∧ ∀ vs H1, R vs H1 → Q vs H1) := ⟨fun pos pins s σ H Q I h => by
  obtain ⟨R, h1, h2⟩ := h
  exact thn (ha.run pos pins s σ H R I h1) fun us s1 ⟨vs, H1, I1, r, q⟩ => ⟨vs, H1, I1, r, h2 _ _ q⟩⟩
section
variable {X : Cx} {CX : CXT} {k j : Nat} {ps : List Str} {x f : Str} {p pos pos2 : Pos} {e : Expr} {es : List Expr} {ta : TA} {W : WX}
/-- raise C(e): the error's dict, new, holds f -/
def tRaiseI (C : Addr) (f : Str) (W : WX) (ta : TA) : TS := fun _ σ H => ta σ H fun vs H1 => ∃ v, vs = [v] ∧ ∀ d, H1 d = none → W (.ref C) (some d) σ (upd H1 d (.xd [(f, v)]))
theorem c_raise (T : ExI X.K x f) (O : OkD X.prog X.w X.K X.mg X.base CX0 k (x, some "__init__") ps [] (spExI X.K (He.ga X.K x) f)) (hr : Room j X.A) (hj : k + 1 ≤ j) (hm : X.mg x = some (.ref (He.ga X.K x))) (tk : Takes X W) (ha : PA X (e :: es) ta) (hc : X.calm = true := by rfl) (hg : Gl X x := by rfl)
    (hdb : (x == ("__debug__" : Str)) = false := by decide) (he : starEach (e :: es) X.env = (false, eval e X.env) :: starEach es X.env := by rfl) (hpl : (backTo pos (starEach es X.env)).any (·.1) = false := by rfl) :
    PS X (.Raise (some (.Call (.Name x p) (e :: es) [] pos)) none pos2) (tRaiseI (He.ga X.K x) f W ta) := by
  obtain ⟨fd, ds, F, b, v⟩ := O.ex
  cases v
  refine ⟨fun pins s σ H D I h => (ps_raise hc tk (pmk_oex (p := p) T.d.o T.i T.t F (hr.mono hj) b .nil pass0 hg hm (pa_weak ha) hdb he hpl)).run pins s σ H D I ?_⟩
  refine ⟨_, h, fun vs H1 z => ?_⟩
  obtain ⟨v, rfl, q⟩ := z
  refine ⟨(by show 1 ≤ 1000; decide), fun a na => ⟨a, v, rfl, T.d.o, T.n, upd_same, fun dx h1 h2 => ?_⟩⟩
  have hdx : H1 dx = none := by
    rw [upd_ne h2] at h1
    exact h1
  refine ⟨rfl, dx, [(f, v)], upd_same, ?_, hdx, ?_⟩
  · rw [upd_ne h2, upd_same]
  · rw [exc_heap na h2]
    exact q dx hdx
end
/-! ### isinstance(e, c) of a caught error -/
section
variable {X : Cx}
theorem call_isiE {a D : Addr} {d : Option Addr} {oe : Obj} {pn : List (Addr × Obj)} {x : Str} (hD : D = He.ga X.K x) (T : ExD X.K x) (hn : PySem.W.specialIn X.K (.builtin "object.__class__") "__get__" = some (some (.builtin "getset_descriptor.__get__")))
    (ht : PySem.W.takesIn X.K (.builtin "object.__class__") = some true) {cls : Value} (hz : Zc cls d oe) (hf : ∃ vs, oe.data = .fields vs) : CallR (X.suite a ((a, oe) :: pn)) (.builtin "isinstance")
      (fun xs H Q => ∃ (c : V) (cv : Value) (b : Bool), xs = [.ref a, c] ∧ cls = .ref D ∧ ClsV c cv ∧ PySem.W.kitOne X.K (.ref D) cv = some b ∧ (∃ dd fs, d = some dd ∧ H dd = some (.xd fs)) ∧ Q (.bl b) H) := by
  subst hD
  intro pins s σ H xs us Q I r h
  obtain ⟨c, cv, b, rfl, ec, hcv, e, ⟨dd, fs, ed, hdd⟩, q⟩ := h
  obtain ⟨u1, u2, rfl, r1, r2⟩ := vals2 r
  have e2 := hcv.eq r2
  subst e2
  cases r1
  obtain ⟨hget, _⟩ := I.pin (a, oe) (List.mem_append.mpr (.inl List.mem_cons_self))
  obtain ⟨vs, hv⟩ := hf
  subst ed ec
  obtain ⟨mA, ⟨od, es, ep, ho, _⟩, _⟩ := (show ObjOk X.prog X.w H s.heap dd (.xd fs) from I.hok dd _ hdd)
  have J : PySem.W.InstAt s.heap a oe (He.ga X.K x) (some od) := by
    obtain ⟨oc, odd, oda, osl⟩ := oe
    obtain ⟨h1, h2⟩ := hz
    dsimp only at h1 h2 hv
    subst h1 h2 hv
    exact ⟨hget, rfl, rfl, ho⟩
  exact PySem.W.kia_one (PySem.W.kitx_exc T.hcl T.ga T.gg T.o.exC T.ha hn ht T.hm) I.kIn J e (fun z => nomatch z) fun tk => ⟨.bl b, H, I.kept (t' := tk) fun _ _ z => z, rfl, q⟩
end
/-! ### the head's hook: any Bool over the written part, the defs -/
abbrev AlM : Type := Bool × List He.FnW
def obsM (ex : PySem.W.Frag → Bool) (fn : List He.DefD) (K : PySem.W.Frag) : AlM := (ex K && fn.all fun d => d.ok K, fn.map fun d => He.fnW K d.at_)
def SaysM (ex : PySem.W.Frag → Bool) (fn : List He.DefD) (K : PySem.W.Frag) : Prop := obsM ex fn K = (true, fn.map He.DefD.val)
def obsMG (n : Nat) (ex : PySem.W.Frag → Bool) (fn : List He.DefD) (g : Addr → Option Obj) : AlM := obsM ex fn (He.frG g (He.asD g n))
def hookM (n : Nat) (ex : PySem.W.Frag → Bool) (fn : List He.DefD) : PySem.W.Hook where
  α := AlM
  obs := fun s => obsMG n ex fn s.heap.get?
  val := fun _ => (true, fn.map He.DefD.val)
  says := fun _ h => ∃ K : PySem.W.Frag, K.In h ∧ SaysM ex fn K
  of := fun _ _ e => ⟨_, He.frG_in, e⟩
  keeps := fun _ _ _ ⟨K, hK, c⟩ k => ⟨K, PySem.W.Frag.In.keeps hK k, c⟩
theorem obsMG_eq {n : Nat} {ex : PySem.W.Frag → Bool} {fn : List He.DefD} {g : Addr → Option Obj} {s : Shared} (h : ∀ a, g a = s.heap.get? a) : obsMG n ex fn g = (hookM n ex fn).obs s := by
  have e : g = s.heap.get? := funext h
  rw [e]
  rfl
theorem SaysM.ex {ex : PySem.W.Frag → Bool} {fn : List He.DefD} {K : PySem.W.Frag} (c : SaysM ex fn K) : ex K = true := (He.ba (congrArg (fun z : AlM => z.1) c)).1
theorem SaysM.fn {ex : PySem.W.Frag → Bool} {fn : List He.DefD} {K : PySem.W.Frag} (c : SaysM ex fn K) (i : Nat) {d : He.DefD} (h : fn[i]? = some d := by rfl) : ∃ fd, FunD K d.name d.qual d.params d.body d.scope (d.dvs K) (d.kws K) (He.fAd K d.at_) fd := by
  have c2 := (He.ba (congrArg (fun z : AlM => z.1) c)).2
  have e : fn.map (fun d => He.fnW K d.at_) = fn.map He.DefD.val := congrArg (fun z : AlM => z.2) c
  have e2 : He.fnW K d.at_ = d.val := by
    have e3 : (fn.map fun d => He.fnW K d.at_)[i]? = (fn.map He.DefD.val)[i]? := by rw [e]
    simp only [List.getElem?_map, h, Option.map_some] at e3
    exact Option.some.inj e3
  exact He.DefD.funD e2 (List.all_eq_true.mp c2 d (List.mem_of_getElem? h))

end Vf

set_option Elab.async false
set_option linter.all false
set_option maxRecDepth 100000
set_option maxHeartbeats 2000000
namespace Vf
open PySem PySem.Spec PyProof.Rows L2
/-! ### Euclid's loop -/
def Eu (g B i x y : Nat) : Prop := Nat.gcd x y = g ∧ ((i % 2 = 0 ∧ y * 2 ^ (i / 2) ≤ B) ∨ (i % 2 = 1 ∧ y < x ∧ x * 2 ^ (i / 2) ≤ B))
theorem Eu.start (x y : Nat) : Eu (Nat.gcd x y) y 0 x y := ⟨rfl, .inl ⟨rfl, by simp⟩⟩
theorem Eu.step {g B i x y : Nat} (h : Eu g B i x y) (hy : y ≠ 0) : Eu g B (i + 1) y (x % y) := by
  obtain ⟨hg, h⟩ := h
  have hg2 : Nat.gcd y (x % y) = g := by
    rw [← hg, Nat.gcd_comm x y, Nat.gcd_rec y x, Nat.gcd_comm]
  have hlt : x % y < y := Nat.mod_lt x (by omega)
  refine ⟨hg2, ?_⟩
  rcases h with ⟨he, hb⟩ | ⟨ho, hxy, hb⟩
  · refine .inr ⟨by omega, hlt, ?_⟩
    have e : (i + 1) / 2 = i / 2 := by omega
    rw [e]
    exact hb
  · refine .inl ⟨by omega, ?_⟩
    have e : (i + 1) / 2 = i / 2 + 1 := by omega
    have hd := Nat.div_add_mod x y
    have h1 : 1 ≤ x / y := Nat.div_pos (by omega) (by omega)
    have h2 : y * 1 ≤ y * (x / y) := Nat.mul_le_mul_left y h1
    have h3 : 2 * (x % y) ≤ x := by omega
    rw [e, Nat.pow_succ]
    calc x % y * (2 ^ (i / 2) * 2) = (2 * (x % y)) * 2 ^ (i / 2) := by rw [Nat.mul_comm (2 ^ (i / 2)) 2, ← Nat.mul_assoc, Nat.mul_comm (x % y) 2]
      _ ≤ x * 2 ^ (i / 2) := Nat.mul_le_mul_right _ h3
      _ ≤ B := hb
theorem Eu.last {g B x y : Nat} (h : Eu g B 500 x y) (hB : B < 2 ^ 250) : x = g := by
  obtain ⟨hg, h⟩ := h
  rcases h with ⟨_, hb⟩ | ⟨ho, _⟩
  · have e : (500 : Nat) / 2 = 250 := rfl
    rw [e] at hb
    have hy : y = 0 := by
      rcases Nat.eq_zero_or_pos y with h0 | h0
      · exact h0
      · exfalso
        have : 1 * 2 ^ 250 ≤ y * 2 ^ 250 := Nat.mul_le_mul_right _ h0
        omega
    rw [hy, Nat.gcd_zero_right] at hg
    exact hg
  · omega
theorem Eu.zero {g B i x : Nat} (h : Eu g B i x 0) : x = g := by
  have hg := h.1
  rw [Nat.gcd_zero_right] at hg
  exact hg
/-! ### lowest terms -/
def nG (t b : Int) : Int := ((Nat.gcd t.natAbs b.natAbs : Nat) : Int)
def nC (t b : Int) : Int := if b < 0 then -(nG t b) else nG t b
def nT (t b : Int) : Int := t.fdiv (nC t b)
def nB (t b : Int) : Int := b.fdiv (nC t b)
/-- a and b are t over b' in lowest terms -/
structure Nf (a b : Int) : Prop where
  pos : 0 < b
  cop : Nat.gcd a.natAbs b.natAbs = 1
structure NfOf (t u a b : Int) : Prop extends Nf a b where
  eq : a * u = t * b
  le1 : a.natAbs ≤ t.natAbs
  le2 : b.natAbs ≤ u.natAbs
theorem nG_pos {t b : Int} (hb : b ≠ 0) : 0 < nG t b := by
  have : 0 < Nat.gcd t.natAbs b.natAbs := Nat.gcd_pos_of_pos_right _ (by omega)
  unfold nG
  omega
theorem nC_abs (t b : Int) : (nC t b).natAbs = Nat.gcd t.natAbs b.natAbs := by
  unfold nC nG
  split <;> omega
theorem nC_ne {t b : Int} (hb : b ≠ 0) : nC t b ≠ 0 := by
  have := nG_pos (t := t) hb
  unfold nC
  split <;> omega
theorem nC_dvd1 (t b : Int) : nC t b ∣ t := by
  rw [← Int.natAbs_dvd_natAbs, nC_abs]
  exact Nat.gcd_dvd_left _ _
theorem nC_dvd2 (t b : Int) : nC t b ∣ b := by
  rw [← Int.natAbs_dvd_natAbs, nC_abs]
  exact Nat.gcd_dvd_right _ _
theorem nT_mul (t b : Int) : nT t b * nC t b = t := Int.fdiv_mul_cancel (nC_dvd1 t b)
theorem nB_mul (t b : Int) : nB t b * nC t b = b := Int.fdiv_mul_cancel (nC_dvd2 t b)
theorem nf_of (t : Int) {b : Int} (hb : b ≠ 0) : NfOf t b (nT t b) (nB t b) := by
  have e1 := nT_mul t b
  have e2 := nB_mul t b
  have hc := nC_ne (t := t) hb
  have ga := nC_abs t b
  have g0 : 0 < Nat.gcd t.natAbs b.natAbs := Nat.gcd_pos_of_pos_right _ (by omega)
  have a1 : (nT t b).natAbs * Nat.gcd t.natAbs b.natAbs = t.natAbs := by rw [← ga, ← Int.natAbs_mul, e1]
  have a2 : (nB t b).natAbs * Nat.gcd t.natAbs b.natAbs = b.natAbs := by rw [← ga, ← Int.natAbs_mul, e2]
  refine ⟨⟨?_, ?_⟩, ?_, ?_, ?_⟩
  · rcases (show 0 < nB t b ∨ nB t b ≤ 0 by omega) with h | h
    · exact h
    · exfalso
      by_cases hn : b < 0
      · have hc2 : nC t b < 0 := by
          have := nG_pos (t := t) hb
          unfold nC
          rw [if_pos hn]
          omega
        have := Int.mul_nonneg_of_nonpos_of_nonpos h (Int.le_of_lt hc2)
        omega
      · have hc2 : 0 < nC t b := by
          have := nG_pos (t := t) hb
          unfold nC
          rw [if_neg hn]
          omega
        have := Int.mul_nonpos_of_nonpos_of_nonneg h (Int.le_of_lt hc2)
        omega
  · have h := Nat.gcd_mul_right (nT t b).natAbs (Nat.gcd t.natAbs b.natAbs) (nB t b).natAbs
    rw [a1, a2] at h
    have h2 : 1 * Nat.gcd t.natAbs b.natAbs = Nat.gcd (nT t b).natAbs (nB t b).natAbs * Nat.gcd t.natAbs b.natAbs := by rw [Nat.one_mul]; exact h
    exact (Nat.eq_of_mul_eq_mul_right g0 h2).symm
  · calc nT t b * b = nT t b * (nB t b * nC t b) := by rw [e2]
      _ = (nT t b * nC t b) * nB t b := by rw [Int.mul_comm (nB t b), Int.mul_assoc]
      _ = t * nB t b := by rw [e1]
  · calc (nT t b).natAbs = (nT t b).natAbs * 1 := by rw [Nat.mul_one]
      _ ≤ (nT t b).natAbs * Nat.gcd t.natAbs b.natAbs := Nat.mul_le_mul_left _ g0
      _ = t.natAbs := a1
  · calc (nB t b).natAbs = (nB t b).natAbs * 1 := by rw [Nat.mul_one]
      _ ≤ (nB t b).natAbs * Nat.gcd t.natAbs b.natAbs := Nat.mul_le_mul_left _ g0
      _ = b.natAbs := a2
/-- bits: below 2 ^ n -/
def Bit (n : Nat) (x : Int) : Prop := x.natAbs < 2 ^ n
theorem Bit.mono {n m : Nat} {x : Int} (h : Bit n x) (l : n ≤ m) : Bit m x := Nat.lt_of_lt_of_le h (Nat.pow_le_pow_right (by decide) l)
theorem Bit.le {n : Nat} {x y : Int} (h : Bit n y) (l : x.natAbs ≤ y.natAbs) : Bit n x := Nat.lt_of_le_of_lt l h
theorem Bit.mul {n m : Nat} {x y : Int} (h : Bit n x) (h' : Bit m y) : Bit (n + m) (x * y) := by
  unfold Bit
  rw [Int.natAbs_mul, Nat.pow_add]
  exact Nat.mul_lt_mul'' h h'
theorem Bit.add {n : Nat} {x y : Int} (h : Bit n x) (h' : Bit n y) : Bit (n + 1) (x + y) := by
  unfold Bit at *
  rw [Nat.pow_succ]
  omega
theorem Bit.sub {n : Nat} {x y : Int} (h : Bit n x) (h' : Bit n y) : Bit (n + 1) (x - y) := by
  unfold Bit at *
  rw [Nat.pow_succ]
  omega
theorem Bit.neg {n : Nat} {x : Int} (h : Bit n x) : Bit n (-x) := by
  unfold Bit at *
  omega
theorem Bit.log {n m : Nat} {x : Int} (h : Bit n x) (h0 : 0 < n) (hm : n ≤ m) : x.natAbs.log2 < m := Nat.lt_of_lt_of_le (PySem.Flt.log2_lt_of h0 h) hm
theorem Bit.wm {n m : Nat} {x y : Int} (h : Bit n x) (h' : Bit m y) (h0 : 0 < n) (h1 : 0 < m) (l : n + m ≤ 1000000) : CMulW x y := wide_mul h h' h0 h1 l
end Vf

set_option Elab.async false
set_option linter.all false
set_option maxRecDepth 100000
set_option maxHeartbeats 2000000
namespace Vf
open PySem PySem.Spec PyProof.Rows L2
section
open PySem.W PySem.Calls
variable {prog : Program} {w : World} {A : Around} {E : Value → Shared → Prop} {s : Shared} {K : Frag} {x C f f0 L : Addr} {h₀ : Heap} {m : Str → Option Value} {ox : Obj} {od : Option Obj} {nm : String}
/-- a slot of int that is handed an instance of the text's own declines -/
theorem int_no {n : Int} {t : Tok} {name : String} {g : Int → Int → Sem Fin} {refl : Bool} (hd : ox.data = .plain) (hx : s.heap.get? x = some ox) {Q : Fin → Shared → Prop}
    (h : Q (.done (.ret .notImplemented)) s) : wpAny (model prog w) A (PySem.Builtin.Int.intBinary name g refl ⟨[.int n t, .ref x], []⟩) Q E s := by
  obtain ⟨hp, gg, d, tk, os⟩ := s
  obtain ⟨oc, odd, oda, osl⟩ := ox
  dsimp only at hd
  subst hd
  unfold PySem.Builtin.Int.intBinary
  wp_walk using AutoSeq1.wpAny_loadPart' hx
  exact h
/-- B declines an instance of the text's own -/
def Declines (B : Builtin) : Prop := ∀ (prog : Program) (w : World) (A : Around) (E : Value → Shared → Prop) (s : Shared) (n : Int) (t : Tok) (x : Addr) (ox : Obj) (Q : Fin → Shared → Prop), ox.data = .plain → s.heap.get? x = some ox → Q (.done (.ret .notImplemented)) s → wpAny (model prog w) A (B ⟨[.int n t, .ref x], []⟩) Q E s
theorem decl_bin (name : String) (g : Int → Int → Sem Fin) (r : Bool) : Declines (PySem.Builtin.Int.intBinary name g r) := fun _ _ _ _ _ _ _ _ _ _ hd hx h => int_no hd hx h
theorem decl_fdv : Declines PySem.Builtin.«int.__floordiv__» := fun prog w A E s n t x ox Q hd hx h => by
  obtain ⟨hp, gg, d, tk, os⟩ := s
  obtain ⟨oc, odd, oda, osl⟩ := ox
  dsimp only at hd
  subst hd
  unfold PySem.Builtin.«int.__floordiv__» PySem.Builtin.exactOperandsForPylong
  have k := fun g => int_no (prog := prog) (w := w) (A := A) (E := E) (n := n) (t := t) (name := "__floordiv__") (g := g) (refl := false) (s := ⟨hp, gg, d, tk, os⟩) rfl hx h
  wp_walk using AutoSeq1.wpAny_loadPart' hx
  all_goals first | exact k _ | exact h
/-- n op x, n an int, x an instance of the text's own: int's slot declines, the reflected one of x's class is asked -/
theorem bin_int_own {op : Operator} {n : Int} {t : Tok} {id : String} {B : Builtin} {Q : Value → Shared → Prop} (X : K.In s.heap) (I : InstAt s.heap x ox C od) (hp : ox.data = .plain) (hc : selfFirst K C = true)
    (hs : findIn K (.ref C) (PySem.dunder op.info.2) = some (some (.ref f0))) (hr : findIn K (.ref C) (dunderR op.info.2) = some (some (.ref f))) (hf : isFn K (.ref f) = true) (hm : mroIn K C (.type "int") = some false)
    (hfT : fillsNumberSlot (.type "int") op.info.2 = pure true) (slot : Slot "int" (PySem.dunder op.info.2) id) (entry : entryFor table id = some B) (ha : argsOk id ⟨[.int n t, .ref x], []⟩)
    (hB : Declines B)
    (h : wpAny (model prog w) A (call (.ref f) [.ref x, .int n t]) (PySem.W.CmpBack Q) E s) : wpAny (model prog w) A (binaryOp op (.int n t) (.ref x)) Q E s := by
  obtain ⟨cd, rest, hcd, hmro⟩ := ksp_first hc
  rcases hi : op.info with ⟨sym, nm'⟩
  rw [hi] at hs hr slot hfT
  dsimp only at hs hr slot hfT
  have one := ksp_try X I hr hf h
  have two : wpAny (model prog w) A (tryMethod (.int n t) (PySem.dunder nm') (.ref x)) (fun r s' => r = none ∧ s' = s) E s :=
    wpAny_tryMethod_declines (typeIs_int s n t) slot (wpAny_call_entry slot (typeIs_int s n t) entry (hB _ _ _ _ _ _ _ _ _ _ hp I.at_ ⟨_, rfl, rfl, rfl, rfl⟩) ha)
  obtain ⟨hh, gg, d, tt, os⟩ := s
  have L1 : Looks (model prog w) hh (typeOf (.int n t)) (.type "int") := Looks.of_pure rfl
  have L2 : Looks (model prog w) hh (typeOf (.ref x)) (.ref C) := I.type
  have L3 : Looks (model prog w) hh (fillsNumberSlot (.type "int") nm') true := Looks.of_pure hfT
  have L4 : Looks (model prog w) hh (fillsNumberSlot (.ref C) nm') true := fills_K X hcd hmro hs
  have L5 : Looks (model prog w) hh (isSubtype (.ref C) (.type "int")) false := looks_mroIn X hm
  have L6 : Looks (model prog w) hh (numberSlotInPython (.type "int") nm') false := Looks.of_pure rfl
  have hne : (Value.type "int" == Value.ref C) = false := Bool.eq_false_iff.mpr fun q => by cases beq_iff_eq.mp q
  simp only [binaryOp, hi]
  refine wpAny_holding (wpAny_bind ?_)
  unfold binaryOp1
  refine wpAny_bind (L1.at (wpAny_bind (L2.at (wpAny_bind (L3.at ?_)))))
  simp only [hne, Bool.false_eq_true, if_false]
  ksp_lk
  refine wpAny_mono two (fun r s' hr' => ?_) fun _ _ e => e
  obtain ⟨rfl, rfl⟩ := hr'
  ksp_lk
  refine wpAny_mono one (fun r s' hr' => ?_) fun _ _ e => e
  obtain ⟨v, rfl, hq⟩ := hr'
  ksp_lk
  exact hq
/-- n ? x for a comparison: int's slot declines, the swapped one of x's class is asked -/
theorem cmp_int_own {op : CmpOp} {n : Int} {t : Tok} {id : String} {B : Builtin} {Q : Value → Shared → Prop} (hu : A.units < cLine) (X : K.In s.heap) (I : InstAt s.heap x ox C od) (hp : ox.data = .plain)
    (hr : findIn K (.ref C) (cmpInfo op).2.2 = some (some (.ref f))) (hf : isFn K (.ref f) = true) (hm : mroIn K C (.type "int") = some false)
    (slot : Slot "int" (cmpInfo op).2.1 id) (entry : entryFor table id = some B) (ha : argsOk id ⟨[.int n t, .ref x], []⟩) (hB : Declines B)
    (h : wpAny (model prog w) A (call (.ref f) [.ref x, .int n t]) (PySem.W.CmpBack Q) E s) : wpAny (model prog w) A (richCompare op (.int n t) (.ref x)) Q E s := by
  have one : wpAny (model prog w) A (tryCompare (.ref x) (cmpInfo op).2.2 (.int n t)) (fun r s' => ∃ v, r = some v ∧ Q v s') E s := by
    unfold tryCompare
    refine wpAny_bind (ifBound_K X I hr hf (wpAny_mono h (fun v s' hv => ?_) fun _ _ e => e))
    cases v <;> first | exact hv.elim | exact wpAny_pure ⟨_, rfl, hv⟩
  have two : wpAny (model prog w) A (tryCompare (.int n t) (cmpInfo op).2.1 (.ref x)) (fun r s' => r = none ∧ s' = s) E s :=
    wpAny_tryCompare_declines (typeIs_int s n t) slot (wpAny_call_entry slot (typeIs_int s n t) entry (hB _ _ _ _ _ _ _ _ _ _ hp I.at_ ⟨_, rfl, rfl, rfl, rfl⟩) ha)
  have ot : oneThing? op (.int n t) (.ref x) = none := rfl
  have hne : (Value.type "int" != Value.ref C) = true := bne_iff_ne.mpr fun q => by cases q
  unfold richCompare
  simp only [ot]
  refine wpAny_holding (wpAny_bind (wpAny_cRoomFor hu ?_))
  refine wpAny_bind ((Looks.of_pure rfl : Looks (model prog w) s.heap (typeOf (.int n t)) (.type "int")).here (wpAny_bind (I.type.here ?_)))
  simp only [hne, if_true]
  refine wpAny_bind ((looks_mroIn X hm).here ?_)
  simp only [Bool.false_eq_true, if_false]
  refine wpAny_bind (wpAny_mono two (fun r s' z => ?_) fun _ _ e => e)
  obtain ⟨rfl, rfl⟩ := z
  simp only [Bool.not_false, if_true]
  refine wpAny_bind (wpAny_mono one (fun r s' z => ?_) fun _ _ e => e)
  obtain ⟨v, rfl, hq⟩ := z
  exact wpAny_pure hq
end
/-! ### readings over the layer -/
section
variable {X : Cx} {CX : CXT} {k j : Nat} {C : Addr} {cn m : Str} {ps : List Str} {sp : Sp} {E : XK}
theorem back_of {pins : List (Addr × Obj)} {σ : L2.St} {Q : VK} {u : Value} {s' : Shared} (h : EP X pins σ Q u s') : PySem.W.CmpBack (EP X pins σ Q) u s' := by
  obtain ⟨v, H', I, r, q⟩ := id h
  cases v with
  | non => cases (show u = Value.none from r); exact h
  | bl b => cases (show u = Value.bool b from r); exact h
  | int i => obtain ⟨t, e⟩ := (show ∃ t, u = Value.int i t from r); cases e; exact h
  | str z => obtain ⟨t, e⟩ := (show ∃ t, u = Value.str z t from r); cases e; exact h
  | byt z => obtain ⟨t, e⟩ := (show ∃ t, u = Value.bytes z t from r); cases e; exact h
  | flt z => obtain ⟨t, e⟩ := (show ∃ t, u = Value.float z t from r); cases e; exact h
  | ref a => cases (show u = Value.ref a from r); exact h
  | ty n => cases (show u = Value.type n from r); exact h
/-- a method of the text's own asked by the machine, at the running body's own depth -/
theorem run_own {f : Addr} {fd : FuncData} {pins : List (Addr × Obj)} {σ : L2.St} {H : Hp} {s : Shared} {Q : VK} {us : List Value} {vs : List V} (F : FnOk X.prog X.w X.K X.mg X.base CX k f fd ps sp) (hr : Room k X.A) (hb : L2.Binds X.K fd ps []) (hx : Passes CX X E)
    (I : L2.Inv X pins σ H s) (r : Vals vs us) (h : sp vs H Q E) : wpAny (model X.prog X.w) X.A (call (.ref f) us) (PySem.W.CmpBack (EP X pins σ Q)) X.xe s :=
  wpAny_mono (run_fn F hr hb .nil hx I r (by rw [List.append_nil]; exact h)) (fun _ _ z => back_of z) fun _ _ z => z
/-- o op p, both of the class at C -/
def rOO (C : Addr) (sp : Sp) (E : XK) : R2 := fun x y H Q => ∃ a b dx dy fs gs, x = .ref a ∧ y = .ref b ∧ H a = some (.ins C dx fs) ∧ H b = some (.ins C dy gs) ∧ sp [x, y] H Q E
/-- o op n, n an int -/
def rOI (C : Addr) (sp : Sp) (E : XK) : R2 := fun x y H Q => ∃ a n dx fs, x = .ref a ∧ y = .int n ∧ H a = some (.ins C dx fs) ∧ sp [x, y] H Q E
/-- n op o, n an int: the reflected method -/
def rIO (C : Addr) (sp : Sp) (E : XK) : R2 := fun x y H Q => ∃ n b dx fs, x = .int n ∧ y = .ref b ∧ H b = some (.ins C dx fs) ∧ sp [y, x] H Q E
theorem op_oo {op : Operator} (hd : PySem.dunder op.info.2 = m) (M : Meth X.K C m (He.fAd X.K (cn, some m))) (hc : PySem.W.selfFirst X.K C = true) (O : OkD X.prog X.w X.K X.mg X.base CX k (cn, some m) ps [] sp) (hr : Room j X.A) (hj : k ≤ j) (hx : Passes CX X E) : OpR X (binaryOp op) (rOO C sp E) := by
  obtain ⟨fd, ds, F, b, v⟩ := O.ex
  cases v
  intro pins s σ H x y v u Q I rx ry h
  obtain ⟨a, b', dx, dy, fs, gs, rfl, rfl, ha, hb, hsp⟩ := h
  cases rx
  cases ry
  obtain ⟨mA, J, _⟩ := ins_get I.hok ha
  obtain ⟨mB, J', _⟩ := ins_get I.hok hb
  obtain ⟨od, J, _⟩ := J.look
  obtain ⟨od', J', _⟩ := J'.look
  obtain ⟨mm, hF⟩ := I.fr
  exact PySem.W.binop_K hF I.ok.mod.kin J J'.type hc (by rw [hd]; exact M.at_) M.fn (run_own (vs := [V.ref a, V.ref b']) F (hr.mono hj) b hx I (.cons rfl (.cons rfl .nil)) hsp)
theorem op_oi {op : Operator} {fo ro rc : Option Value} (hd : PySem.dunder op.info.2 = m) (M : Meth X.K C m (He.fAd X.K (cn, some m))) (hc : PySem.W.selfFirst X.K C = true) (h2 : PySem.W.findIn X.K (.ref C) (dunderR op.info.2) = some rc) (hp : rc = none ∨ ∃ g : Addr, rc = some (.ref g))
    (h3 : PySem.W.findIn X.K (.type "int") (PySem.dunder op.info.2) = some fo) (h4 : PySem.W.findIn X.K (.type "int") (dunderR op.info.2) = some ro) (h5 : PySem.W.subIn X.K (.type "int") (.ref C) = some false)
    (O : OkD X.prog X.w X.K X.mg X.base CX k (cn, some m) ps [] sp) (hr : Room j X.A) (hj : k ≤ j) (hx : Passes CX X E) : OpR X (binaryOp op) (rOI C sp E) := by
  obtain ⟨fd, ds, F, b, v⟩ := O.ex
  cases v
  intro pins s σ H x y v u Q I rx ry h
  obtain ⟨a, n, dx, fs, rfl, rfl, ha, hsp⟩ := h
  cases rx
  obtain ⟨t, rfl⟩ := ry
  obtain ⟨mA, J, _⟩ := ins_get I.hok ha
  obtain ⟨od, J, _⟩ := J.look
  obtain ⟨mm, hF⟩ := I.fr
  exact PySem.W.ksp_binT hF I.ok.mod.kin J rfl hc (by rw [hd]; exact M.at_) M.fn h2 hp h3 h4 h5 (run_own (vs := [V.ref a, V.int n]) F (hr.mono hj) b hx I (.cons rfl (.cons ⟨t, rfl⟩ .nil)) hsp)
theorem op_io {op : Operator} {f0 : Addr} {id : String} {B : Builtin} (hd : dunderR op.info.2 = m) (M : Meth X.K C m (He.fAd X.K (cn, some m))) (hc : PySem.W.selfFirst X.K C = true) (h2 : PySem.W.findIn X.K (.ref C) (PySem.dunder op.info.2) = some (some (.ref f0))) (hm : PySem.W.mroIn X.K C (.type "int") = some false)
    (hfT : fillsNumberSlot (.type "int") op.info.2 = pure true) (slot : Slot "int" (PySem.dunder op.info.2) id) (entry : entryFor table id = some B) (ha : ∀ a b, argsOk id ⟨[a, b], []⟩) (hB : Declines B)
    (O : OkD X.prog X.w X.K X.mg X.base CX k (cn, some m) ps [] sp) (hr : Room j X.A) (hj : k ≤ j) (hx : Passes CX X E) : OpR X (binaryOp op) (rIO C sp E) := by
  obtain ⟨fd, ds, F, b, v⟩ := O.ex
  cases v
  intro pins s σ H x y v u Q I rx ry h
  obtain ⟨n, b', dx, fs, rfl, rfl, hb, hsp⟩ := h
  obtain ⟨t, rfl⟩ := rx
  cases ry
  obtain ⟨mA, J, _⟩ := ins_get I.hok hb
  obtain ⟨od, J, _⟩ := J.look
  exact bin_int_own I.kIn J rfl hc h2 (by rw [hd]; exact M.at_) M.fn hm hfT slot entry (ha _ _) hB (run_own (vs := [V.ref b', V.int n]) F (hr.mono hj) b hx I (.cons rfl (.cons ⟨t, rfl⟩ .nil)) hsp)
/-- -o -/
def rUO (C : Addr) (sp : Sp) (E : XK) : V → Hp → VK → Prop := fun x H Q => ∃ a dx fs, x = .ref a ∧ H a = some (.ins C dx fs) ∧ sp [x] H Q E
theorem un_negO (M : Meth X.K C "__neg__" (He.fAd X.K (cn, some "__neg__"))) (O : OkD X.prog X.w X.K X.mg X.base CX k (cn, some "__neg__") ps [] sp) (hr : Room j X.A) (hj : k ≤ j) (hx : Passes CX X E) : UnR X (unaryOp .USub) (rUO C sp E) := by
  obtain ⟨fd, ds, F, b, v⟩ := O.ex
  cases v
  intro pins s σ H x v Q I rx h
  obtain ⟨a, dx, fs, rfl, ha, hsp⟩ := h
  cases rx
  obtain ⟨mA, J, _⟩ := ins_get I.hok ha
  obtain ⟨od, J, _⟩ := J.look
  obtain ⟨mm, hF⟩ := I.fr
  exact PySem.W.ksp_neg hF I.ok.mod.kin J M.at_ M.fn (run_fn (vs := [V.ref a]) F (hr.mono hj) b .nil hx I (.cons rfl .nil) hsp)
/-- abs(o) -/
def rAbsO (C : Addr) (sp : Sp) : List V → Hp → VK → Prop := fun xs H Q => ∃ a dx fs, xs = [.ref a] ∧ H a = some (.ins C dx fs) ∧ sp xs H Q fun _ _ _ => False
theorem call_absO (M : Meth X.K C "__abs__" (He.fAd X.K (cn, some "__abs__"))) (O : OkD X.prog X.w X.K X.mg X.base CX0 k (cn, some "__abs__") ps [] sp) (hr : Room j X.A) (hj : k + 2 ≤ j) : CallR X (.builtin "abs") (rAbsO C sp) := by
  obtain ⟨fd, ds, F, b, v⟩ := O.ex
  cases v
  intro pins s σ H xs us Q I r h
  obtain ⟨a, dx, fs, rfl, ha, hsp⟩ := h
  obtain ⟨u, rfl, ru⟩ : ∃ u, us = [u] ∧ RelV (.ref a) u := by
    cases r with
    | cons p q => cases q; exact ⟨_, rfl, p⟩
  cases ru
  obtain ⟨mA, J, _⟩ := ins_get I.hok ha
  obtain ⟨od, J, _⟩ := J.look
  have hr2 : Room (k + 1) X.A.in1 := (hr.mono hj).in1
  have hr3 : Room k X.A.in1 := hr2.mono (by omega)
  have hl := F.len _ _ _ _ hsp
  have hb := b s [.ref a] I.kIn (by simpa using hl)
  simp only [List.append_nil] at hb
  refine PySem.Calls.call_function_entry PyProof.Rows.kind_abs PyProof.Rows.plain_abs PyProof.Rows.entry_abs (PyProof.Rows.args_abs _) ?_
  unfold PySem.Builtin.«abs»
  refine wpAny_bind (wpAny_pure ?_)
  refine wpAny_bind (m := callSpecial? (.ref a) (Str.ofString "__abs__")) (PySem.W.special_fn I.kIn J M.at_ (beq_iff_eq.mp M.fn) ?_)
  refine wpAny_call (codeAny_mono (F.run X.A.in1 X.stack s H ⟨[.ref a], []⟩ [.ref a] [.ref a] _ _ hr3 I.env0.in1 hb (.cons rfl .nil) hsp) fun r s' hq => ?_)
  cases r with
  | error e => exact hq.elim
  | ok fl =>
    cases fl with
    | ret w => exact wpAny_pure ⟨_, rfl, I.after hq⟩
    | next => exact False.elim hq
    | brk => exact False.elim hq
    | cont => exact False.elim hq
/-- comparisons -/
theorem cmp_oo {op : CmpOp} (hd : (cmpInfo op).2.1 = m) (hop : compareOp op = richCompare op) (M : Meth X.K C m (He.fAd X.K (cn, some m))) (O : OkD X.prog X.w X.K X.mg X.base CX k (cn, some m) ps [] sp) (hr : Room j X.A) (hj : k ≤ j) (hx : Passes CX X E) : OpR X (compareOp op) (rOO C sp E) := by
  obtain ⟨fd, ds, F, b, v⟩ := O.ex
  cases v
  intro pins s σ H x y v u Q I rx ry h
  obtain ⟨a, b', dx, dy, fs, gs, rfl, rfl, ha, hb, hsp⟩ := h
  cases rx
  cases ry
  obtain ⟨mA, J, _⟩ := ins_get I.hok ha
  obtain ⟨mB, J', _⟩ := ins_get I.hok hb
  obtain ⟨od, J, _⟩ := J.look
  obtain ⟨od', J', _⟩ := J'.look
  obtain ⟨mm, hF⟩ := I.fr
  rw [hop]
  exact PySem.W.cmp_K (tb := .ref C) hr.units0 hF I.ok.mod.kin J J'.type (by simp [PySem.W.notFirst]) (by rw [hd]; exact M.at_) M.fn (run_own (vs := [V.ref a, V.ref b']) F (hr.mono hj) b hx I (.cons rfl (.cons rfl .nil)) hsp)
theorem cmp_oi {op : CmpOp} (hd : (cmpInfo op).2.1 = m) (hop : compareOp op = richCompare op) (M : Meth X.K C m (He.fAd X.K (cn, some m))) (h5 : PySem.W.subIn X.K (.type "int") (.ref C) = some false)
    (O : OkD X.prog X.w X.K X.mg X.base CX k (cn, some m) ps [] sp) (hr : Room j X.A) (hj : k ≤ j) (hx : Passes CX X E) : OpR X (compareOp op) (rOI C sp E) := by
  obtain ⟨fd, ds, F, b, v⟩ := O.ex
  cases v
  intro pins s σ H x y v u Q I rx ry h
  obtain ⟨a, n, dx, fs, rfl, rfl, ha, hsp⟩ := h
  cases rx
  obtain ⟨t, rfl⟩ := ry
  obtain ⟨mA, J, _⟩ := ins_get I.hok ha
  obtain ⟨od, J, _⟩ := J.look
  obtain ⟨mm, hF⟩ := I.fr
  rw [hop]
  exact PySem.W.cmp_K (tb := .type "int") hr.units0 hF I.ok.mod.kin J (PySem.W.Looks.of_pure rfl) (by unfold PySem.W.notFirst; rw [h5]; simp) (by rw [hd]; exact M.at_) M.fn (run_own (vs := [V.ref a, V.int n]) F (hr.mono hj) b hx I (.cons rfl (.cons ⟨t, rfl⟩ .nil)) hsp)
theorem cmp_io {op : CmpOp} {id : String} {B : Builtin} (hd : (cmpInfo op).2.2 = m) (hop : compareOp op = richCompare op) (M : Meth X.K C m (He.fAd X.K (cn, some m))) (hm : PySem.W.mroIn X.K C (.type "int") = some false)
    (slot : Slot "int" (cmpInfo op).2.1 id) (entry : entryFor table id = some B) (ha : ∀ a b, argsOk id ⟨[a, b], []⟩) (hB : Declines B)
    (O : OkD X.prog X.w X.K X.mg X.base CX k (cn, some m) ps [] sp) (hr : Room j X.A) (hj : k ≤ j) (hx : Passes CX X E) : OpR X (compareOp op) (rIO C sp E) := by
  obtain ⟨fd, ds, F, b, v⟩ := O.ex
  cases v
  intro pins s σ H x y v u Q I rx ry h
  obtain ⟨n, b', dx, fs, rfl, rfl, hb, hsp⟩ := h
  obtain ⟨t, rfl⟩ := rx
  cases ry
  obtain ⟨mA, J, _⟩ := ins_get I.hok hb
  obtain ⟨od, J, _⟩ := J.look
  rw [hop]
  exact cmp_int_own hr.units0 I.kIn J rfl (by rw [hd]; exact M.at_) M.fn hm slot entry (ha _ _) hB (run_own (vs := [V.ref b', V.int n]) F (hr.mono hj) b hx I (.cons rfl (.cons ⟨t, rfl⟩ .nil)) hsp)
end
end Vf

set_option Elab.async false
set_option linter.all false
set_option maxRecDepth 100000
set_option maxHeartbeats 2000000
namespace Vf
open PySem PySem.Spec PyProof.Rows L2
section
variable {X : Cx} {C : Addr} {bmB : List Value} {B newId initId : String}
/-- X(), X an error of the text's own without an __init__ -/
theorem pmk_own0 {x : Str} {p pos : Pos} (F : ExcBaseFacts B newId initId bmB) (q : PySem.W.excIn X.K C bmB newId = true) (gC : X.mg x = some (.ref C)) (kC : PySem.W.keepIn X.K (.ref C) = true) (r : Raises X (.ref C)) (hg : Gl X x)
    (hdb : (x == ("__debug__" : Str)) = false := by decide) : PMk X (.Call (.Name x p) [] [] pos) (fun _ H Q => Q (.ref C) none H) := by
  intro pins s σ H Q I h
  refine wpAny_Call_Name_kw (ld_glob I hg gC ?_ hdb)
  refine PySem.W.callWith_K0 I.kIn kC ?_
  obtain ⟨_, _, _, _, _, _, _, _, _, _, _, _, _, _, _, _, _, hC, hN, hni, T⟩ := exc_obj I.kIn q
  show wpAny _ _ (call (.ref C) []) _ _ _
  exact wpAny_call_exc_subT F T hC hN hni (fun h' e hm => L2.mk_of I hm r h (I.hok.gone hm.new)) (Nat.zero_le _)
end
theorem c_raise0 {X : Cx} {x : Str} {p pos pos2 : Pos} {W : WX} (c : (He.Fa.exc x).ok X.K = true) (hm : X.mg x = some (.ref (He.ga X.K x))) (tk : Takes X W) (hc : X.calm = true := by rfl) (hg : Gl X x := by rfl) (hdb : (x == ("__debug__" : Str)) = false := by decide) :
    PS X (.Raise (some (.Call (.Name x p) [] [] pos)) none pos2) (fun _ σ H => W (.ref (He.ga X.K x)) none σ H) := by
  obtain ⟨h1, h2, h3, h4⟩ := He.exc_ok c
  exact ps_raise hc tk (pmk_own0 PySem.F.excBase_ValueError h1 hm h2 (raises_own h3 h4) hg hdb)
theorem passX {X : Cx} {E : XK} (tk : Takes X (fun cls d _ H => E cls d H)) : Passes (L2.CX X.prog X.w) X E := passes_call tk fun _ _ _ _ h => h
theorem opr_or {X : Cx} {f : Value → Value → Sem Value} {r1 r2 : R2} (h1 : OpR X f r1) (h2 : OpR X f r2) : OpR X f (fun x y H Q => r1 x y H Q ∨ r2 x y H Q) := fun pins s σ H x y v u Q I rx ry h => by
  rcases h with h | h
  · exact h1 pins s σ H x y v u Q I rx ry h
  · exact h2 pins s σ H x y v u Q I rx ry h
section
variable (K : PySem.W.Frag)
theorem int_add : PySem.W.findIn K (.type "int") (PySem.dunder "add") = some (some (.builtin "int.__add__")) := by kernel_rfl
theorem int_sub : PySem.W.findIn K (.type "int") (PySem.dunder "sub") = some (some (.builtin "int.__sub__")) := by kernel_rfl
theorem int_mul : PySem.W.findIn K (.type "int") (PySem.dunder "mul") = some (some (.builtin "int.__mul__")) := by kernel_rfl
theorem int_fdv : PySem.W.findIn K (.type "int") (PySem.dunder "floordiv") = some (some (.builtin "int.__floordiv__")) := by kernel_rfl
theorem int_radd : PySem.W.findIn K (.type "int") (dunderR "add") = some (some (.builtin "int.__radd__")) := by kernel_rfl
theorem int_rsub : PySem.W.findIn K (.type "int") (dunderR "sub") = some (some (.builtin "int.__rsub__")) := by kernel_rfl
theorem int_rmul : PySem.W.findIn K (.type "int") (dunderR "mul") = some (some (.builtin "int.__rmul__")) := by kernel_rfl
theorem int_rfdv : PySem.W.findIn K (.type "int") (dunderR "floordiv") = some (some (.builtin "int.__rfloordiv__")) := by kernel_rfl
end
end Vf

set_option Elab.async false
set_option linter.all false
set_option maxRecDepth 100000
set_option maxHeartbeats 2000000
namespace Vf
open PySem PySem.Spec PyProof.Rows L2
section
open PySem.W PySem.Calls
variable {prog : Program} {w : World} {A : Around} {E : Value → Shared → Prop} {s : Shared} {K : Frag} {x C f L : Addr} {h₀ : Heap} {m : Str → Option Value} {ox : Obj} {od : Option Obj}
/-- x, an instance of the text's own, is of no built-in type T -/
theorem inst_not {T : String} {Q : Bool → Shared → Prop} (X : K.In s.heap) (I : InstAt s.heap x ox C od) (hm : mroIn K C (.type T) = some false) (h : Q false s) : wpAny (model prog w) A (isInstance (.ref x) (.type T)) Q E s := by
  unfold isInstance
  exact wpAny_bind (I.type.here ((looks_mroIn X hm).here h))
theorem eq_no_none {Q : Fin → Shared → Prop} (h : Q (.done (.ret .notImplemented)) s) : wpAny (model prog w) A (PySem.Builtin.«NoneType.__eq__» ⟨[.none, .ref x], []⟩) Q E s := by
  unfold PySem.Builtin.«NoneType.__eq__»
  wp_walk
  exact h
theorem eq_no_int {n : Value} (hn : (∃ b, n = .bool b) ∨ ∃ i t, n = .int i t) (hd : ox.data = .plain) (hx : s.heap.get? x = some ox) {Q : Fin → Shared → Prop} (h : Q (.done (.ret .notImplemented)) s) : wpAny (model prog w) A (PySem.Builtin.«int.__eq__» ⟨[n, .ref x], []⟩) Q E s := by
  obtain ⟨hp, gg, d, tk, os⟩ := s
  obtain ⟨oc, odd, oda, osl⟩ := ox
  dsimp only at hd
  subst hd
  rcases hn with ⟨b, rfl⟩ | ⟨i, t, rfl⟩
  · wp_walk using AutoSeq1.wpAny_loadPart' hx
    exact h
  · wp_walk using AutoSeq1.wpAny_loadPart' hx
    exact h
theorem eq_no_str {z : Str} {t : Tok} (hd : ox.data = .plain) (hx : s.heap.get? x = some ox) {Q : Fin → Shared → Prop} (h : Q (.done (.ret .notImplemented)) s) : wpAny (model prog w) A (PySem.Builtin.«str.__eq__» ⟨[.str z t, .ref x], []⟩) Q E s := by
  obtain ⟨hp, gg, d, tk, os⟩ := s
  obtain ⟨oc, odd, oda, osl⟩ := ox
  dsimp only at hd
  subst hd
  wp_walk using AutoSeq1.wpAny_loadPart' hx
  exact h
theorem eq_no_tup {a : Addr} (X : K.In s.heap) (I : InstAt s.heap x ox C od) (hm : mroIn K C (.type "tuple") = some false) {Q : Fin → Shared → Prop} (h : Q (.done (.ret .notImplemented)) s) : wpAny (model prog w) A (PySem.Builtin.«tuple.__eq__» ⟨[.ref a, .ref x], []⟩) Q E s := by
  wp_walk using inst_not X I hm
  exact h
theorem eq_no_lst {a : Addr} (X : K.In s.heap) (I : InstAt s.heap x ox C od) (hm : mroIn K C (.type "list") = some false) {Q : Fin → Shared → Prop} (h : Q (.done (.ret .notImplemented)) s) : wpAny (model prog w) A (PySem.Builtin.«list.__eq__» ⟨[.ref a, .ref x], []⟩) Q E s := by
  wp_walk using inst_not X I hm
  exact h
theorem eq_no_dic {a : Addr} {oa : Obj} (ha : s.heap.get? a = some oa) (X : K.In s.heap) (I : InstAt s.heap x ox C od) (hm : mroIn K C (.type "dict") = some false) {Q : Fin → Shared → Prop} (h : Q (.done (.ret .notImplemented)) s) : wpAny (model prog w) A (PySem.Builtin.«dict.__eq__» ⟨[.ref a, .ref x], []⟩) Q E s := by
  wp_walk using inst_not X I hm
  exact h
/-- v == x: v's slot declines, x's own is asked -/
theorem eq_any_own {v : Value} {T id : String} {B : Builtin} {Q : Value → Shared → Prop} (hT : s.TypeIs v T) (hu : A.units < cLine) (X : K.In s.heap) (I : InstAt s.heap x ox C od)
    (hr : findIn K (.ref C) "__eq__" = some (some (.ref f))) (hf : isFn K (.ref f) = true) (hm : mroIn K C (.type T) = some false)
    (slot : Slot T (cmpInfo .Eq).2.1 id) (entry : entryFor table id = some B) (ha : argsOk id ⟨[v, .ref x], []⟩) (hB : ∀ Q : Fin → Shared → Prop, Q (.done (.ret .notImplemented)) s → wpAny (model prog w) A.in1 (B ⟨[v, .ref x], []⟩) Q E s)
    (h : wpAny (model prog w) A (call (.ref f) [.ref x, v]) (PySem.W.CmpBack Q) E s) : wpAny (model prog w) A (richCompare .Eq v (.ref x)) Q E s := by
  have one : wpAny (model prog w) A (tryCompare (.ref x) "__eq__" v) (fun r s' => ∃ z, r = some z ∧ Q z s') E s := by
    unfold tryCompare
    refine wpAny_bind (ifBound_K X I hr hf (wpAny_mono h (fun z s' hv => ?_) fun _ _ e => e))
    cases z <;> first | exact hv.elim | exact wpAny_pure ⟨_, rfl, hv⟩
  have two : wpAny (model prog w) A (tryCompare v (cmpInfo .Eq).2.1 (.ref x)) (fun r s' => r = none ∧ s' = s) E s :=
    wpAny_tryCompare_declines hT slot (wpAny_call_entry slot hT entry (hB _ ⟨_, rfl, rfl, rfl, rfl⟩) ha)
  have hne : (Value.type T != Value.ref C) = true := bne_iff_ne.mpr fun q => by cases q
  unfold richCompare
  simp only [hT.oneThing_none]
  refine wpAny_holding (wpAny_bind (wpAny_cRoomFor hu ?_))
  refine wpAny_bind (wpAny_typeOf hT (wpAny_bind (I.type.here ?_)))
  simp only [hne, if_true]
  refine wpAny_bind ((looks_mroIn X hm).here ?_)
  simp only [Bool.false_eq_true, if_false]
  refine wpAny_bind (wpAny_mono two (fun r s' z => ?_) fun _ _ e => e)
  obtain ⟨rfl, rfl⟩ := z
  simp only [Bool.not_false, if_true]
  refine wpAny_bind (wpAny_mono one (fun r s' z => ?_) fun _ _ e => e)
  obtain ⟨z, rfl, hq⟩ := z
  exact wpAny_pure hq
theorem sub_not {n : String} {l : List Value} (e : fastBuiltinMro n = some l) (h : ∀ a, l.contains (.ref a) = false) : subIn K (.type n) (.ref C) = some false := by
  show (fastBuiltinMro n).map (·.contains (.ref C)) = some false
  rw [e, Option.map_some, h]
end
theorem looks_ty {M : Model} {s : Shared} {u : Value} {n : String} (h : s.TypeIs u n) : PySem.W.Looks M s.heap (typeOf u) (.type n) := fun A Q E s' k q => by
  refine wpAny_typeOf (T := n) ?_ q
  cases u with
  | ref a =>
    obtain ⟨o, h1, h2⟩ := h
    exact ⟨o, k _ _ h1, h2⟩
  | _ => exact h
/-! ### odd values beside an own object -/
def oddK : List String := ["bool", "NoneType", "str", "tuple", "list", "dict"]
section
variable {X : Cx} {CX : CXT} {k j : Nat} {C : Addr} {cn m : Str} {ps : List Str} {sp : Sp} {E : XK}
/-- a built-in type none of our classes is over, nor they over it -/
theorem odd_is {pins : List (Addr × Obj)} {s : Shared} {σ : L2.St} {H : Hp} {x : V} {u : Value} (I : L2.Inv X pins σ H s) (o : Odd H x) (r : RelV x u) :
    ∃ n ∈ oddK, s.TypeIs u n := by
  cases o with
  | bl b => cases r; exact ⟨"bool", by simp [oddK], rfl⟩
  | non => cases r; exact ⟨"NoneType", by simp [oddK], rfl⟩
  | str z => obtain ⟨t, rfl⟩ := r; exact ⟨"str", by simp [oddK], rfl⟩
  | tup h =>
    cases r
    obtain ⟨_, _, _, o, h1, h2, _⟩ := (show ObjOk X.prog X.w H s.heap _ (.tup _) from I.hok _ _ h)
    exact ⟨"tuple", by simp [oddK], o, h1, h2⟩
  | lst h =>
    cases r
    obtain ⟨_, _, n, _, h1⟩ := (show ObjOk X.prog X.w H s.heap _ (.lst _) from I.hok _ _ h)
    exact ⟨"list", by simp [oddK], _, h1, rfl⟩
  | dic h =>
    cases r
    obtain ⟨_, _, vs, _, o, es, ep, h1, h2, _⟩ := (show ObjOk X.prog X.w H s.heap _ (.dK _) from I.hok _ _ h)
    exact ⟨"dict", by simp [oddK], o, h1, h2.1⟩
theorem odd_first {n : String} (h : n ∈ oddK) : PySem.W.subIn X.K (.type n) (.ref C) = some false := by
  simp only [oddK, List.mem_cons, List.not_mem_nil, or_false] at h
  rcases h with rfl | rfl | rfl | rfl | rfl | rfl
  · exact sub_not (l := [.type "bool", .type "int", .type "object"]) (by decide +kernel) fun a => by simp
  · exact sub_not (l := [.type "NoneType", .type "object"]) (by decide +kernel) fun a => by simp
  · exact sub_not (l := [.type "str", .type "object"]) (by decide +kernel) fun a => by simp
  · exact sub_not (l := [.type "tuple", .type "object"]) (by decide +kernel) fun a => by simp
  · exact sub_not (l := [.type "list", .type "object"]) (by decide +kernel) fun a => by simp
  · exact sub_not (l := [.type "dict", .type "object"]) (by decide +kernel) fun a => by simp
/-- a method of the text's own asked by the machine, somewhere below the running body -/
theorem run_ownA {A : Around} {f : Addr} {fd : FuncData} {pins : List (Addr × Obj)} {σ : L2.St} {H : Hp} {s : Shared} {Q : VK} {us : List Value} {vs : List V} (F : FnOk X.prog X.w X.K X.mg X.base CX k f fd ps sp) (sb : Sub X k A) (hb : L2.Binds X.K fd ps []) (hx : Passes CX X E)
    (I : L2.Inv X pins σ H s) (r : Vals vs us) (h : sp vs H Q E) : wpAny (model X.prog X.w) A (call (.ref f) us) (PySem.W.CmpBack (EP X pins σ Q)) X.xe s := by
  have e0 : Env0 X.prog X.w X.K X.mg X.base A X.stack s H := by
    have e := I.env0
    exact ⟨by rw [sb.fr]; exact e.frames, e.mod, e.bs, e.bsz, e.funs, e.frf, e.hok, e.bare⟩
  have hl := F.len _ _ _ _ h
  refine wpAny_call (codeAny_mono (F.run A X.stack s H ⟨us, []⟩ us vs _ E sb.room e0 (by
    have := hb s us I.kIn (by rw [List.append_nil, ← r.length, hl])
    simpa using this) r h) fun r s' hq => ?_)
  cases r with
  | error e => exact hx pins σ H s e s' I hq
  | ok fl =>
    cases fl with
    | ret w => exact back_of (I.after hq)
    | next => exact False.elim hq
    | brk => exact False.elim hq
    | cont => exact False.elim hq
/-- x == y, x odd, y of the class at C: its own == is asked -/
theorem rc_odd {A : Around} {pins : List (Addr × Obj)} {s : Shared} {σ : L2.St} {H : Hp} {x : V} {u : Value} {b dx : Addr} {fs : List (Str × V)} {Q : VK} (sb : Sub X k A) (M : Meth X.K C "__eq__" (He.fAd X.K (cn, some "__eq__")))
    (hm : ∀ n ∈ oddK, PySem.W.mroIn X.K C (.type n) = some false) (O : OkD X.prog X.w X.K X.mg X.base CX k (cn, some "__eq__") ps [] sp) (hx : Passes CX X E) (I : L2.Inv X pins σ H s) (o : Odd H x) (rx : RelV x u) (hb : H b = some (.ins C dx fs)) (h0 : sp [.ref b, x] H Q E) :
    wpAny (model X.prog X.w) A (richCompare .Eq u (.ref b)) (EP X pins σ Q) X.xe s := by
  obtain ⟨fd, ds, F, bi, v⟩ := O.ex
  cases v
  obtain ⟨mA, J, _⟩ := ins_get I.hok hb
  obtain ⟨od, J, _⟩ := J.look
  have go := run_ownA (vs := [V.ref b, x]) (us := [.ref b, u]) F sb bi hx I (.cons rfl (.cons rx .nil)) h0
  have hu := sb.room.units0
  cases o with
  | bl y =>
    cases rx
    exact eq_any_own (T := "bool") rfl hu I.kIn J M.at_ M.fn (hm _ (by simp [oddK])) PySem.F.slot_bool_eq PySem.F.entry_int_eq (PySem.F.args_int_eq_2 _ _) (fun Q q => eq_no_int (.inl ⟨_, rfl⟩) rfl J.at_ q) go
  | non =>
    cases rx
    exact eq_any_own (T := "NoneType") rfl hu I.kIn J M.at_ M.fn (hm _ (by simp [oddK])) PySem.F.slot_NoneType_eq PySem.F.entry_NoneType_eq (PySem.F.args_NoneType_eq_2 _ _) (fun Q q => eq_no_none q) go
  | str z =>
    obtain ⟨t, rfl⟩ := rx
    exact eq_any_own (T := "str") rfl hu I.kIn J M.at_ M.fn (hm _ (by simp [oddK])) PySem.F.slot_str_eq PySem.F.entry_str_eq (PySem.F.args_str_eq_2 _ _) (fun Q q => eq_no_str rfl J.at_ q) go
  | tup h =>
    cases rx
    obtain ⟨_, _, _, o, h1, h2, _⟩ := (show ObjOk X.prog X.w H s.heap _ (.tup _) from I.hok _ _ h)
    exact eq_any_own (T := "tuple") ⟨o, h1, h2⟩ hu I.kIn J M.at_ M.fn (hm _ (by simp [oddK])) PySem.F.slot_tuple_eq PySem.F.entry_tuple_eq (PySem.F.args_tuple_eq_2 _ _) (fun Q q => eq_no_tup I.kIn J (hm _ (by simp [oddK])) q) go
  | lst h =>
    cases rx
    obtain ⟨_, _, n, _, h1⟩ := (show ObjOk X.prog X.w H s.heap _ (.lst _) from I.hok _ _ h)
    exact eq_any_own (T := "list") ⟨_, h1, rfl⟩ hu I.kIn J M.at_ M.fn (hm _ (by simp [oddK])) PySem.F.slot_list_eq PySem.F.entry_list_eq (PySem.F.args_list_eq_2 _ _) (fun Q q => eq_no_lst I.kIn J (hm _ (by simp [oddK])) q) go
  | dic h =>
    cases rx
    obtain ⟨_, _, vs, _, o, es, ep, h1, h2, _⟩ := (show ObjOk X.prog X.w H s.heap _ (.dK _) from I.hok _ _ h)
    exact eq_any_own (T := "dict") ⟨o, h1, h2.1⟩ hu I.kIn J M.at_ M.fn (hm _ (by simp [oddK])) PySem.F.slot_dict_eq PySem.F.entry_dict_eq (PySem.F.args_dict_eq_2 _ _) (fun Q q => eq_no_dic h1 I.kIn J (hm _ (by simp [oddK])) q) go
/-- odd == o -/
def rDO (C : Addr) (sp : Sp) (E : XK) : R2 := fun x y H Q => ∃ b dx fs, Odd H x ∧ y = .ref b ∧ H b = some (.ins C dx fs) ∧ sp [y, x] H Q E
theorem eq_do (M : Meth X.K C "__eq__" (He.fAd X.K (cn, some "__eq__"))) (hm : ∀ n ∈ oddK, PySem.W.mroIn X.K C (.type n) = some false) (O : OkD X.prog X.w X.K X.mg X.base CX k (cn, some "__eq__") ps [] sp) (hr : Room j X.A) (hj : k ≤ j) (hx : Passes CX X E) : OpR X (compareOp .Eq) (rDO C sp E) := by
  intro pins s σ H x y v u Q I rx ry h
  obtain ⟨b, dx, fs, o, rfl, hb, hsp⟩ := h
  cases ry
  exact rc_odd ⟨hr.mono hj, rfl⟩ M hm O hx I o rx hb hsp
/-- o ? odd -/
def rOD (C : Addr) (sp : Sp) (E : XK) : R2 := fun x y H Q => ∃ a dx fs, x = .ref a ∧ H a = some (.ins C dx fs) ∧ Odd H y ∧ sp [x, y] H Q E
theorem cmp_od {op : CmpOp} (hd : (cmpInfo op).2.1 = m) (hop : compareOp op = richCompare op) (M : Meth X.K C m (He.fAd X.K (cn, some m))) (O : OkD X.prog X.w X.K X.mg X.base CX k (cn, some m) ps [] sp) (hr : Room j X.A) (hj : k ≤ j) (hx : Passes CX X E) : OpR X (compareOp op) (rOD C sp E) := by
  obtain ⟨fd, ds, F, b, v⟩ := O.ex
  cases v
  intro pins s σ H x y v u Q I rx ry h
  obtain ⟨a, dx, fs, rfl, ha, o, hsp⟩ := h
  cases rx
  obtain ⟨mA, J, _⟩ := ins_get I.hok ha
  obtain ⟨od, J, _⟩ := J.look
  obtain ⟨mm, hF⟩ := I.fr
  obtain ⟨n, hn, ht⟩ := odd_is I o ry
  rw [hop]
  exact PySem.W.cmp_K (tb := .type n) hr.units0 hF I.ok.mod.kin J (looks_ty ht) (by unfold PySem.W.notFirst; rw [odd_first hn]; simp) (by rw [hd]; exact M.at_) M.fn (run_own (vs := [V.ref a, y]) F (hr.mono hj) b hx I (.cons rfl (.cons ry .nil)) hsp)
/-! ### x in a list, where == is the text's own -/
/-- == inside a built-in's body: its answer; it only makes objects -/
abbrev Eqb := V → V → Hp → Bool → Prop
def EqB (X : Cx) (n : Nat) (D : Eqb) : Prop :=
  ∀ (A : Around) (pins : List (Addr × Obj)) (s : Shared) (σ : L2.St) (H : Hp) (x y : V) (u v : Value) (b : Bool), Sub X n A → L2.Inv X pins σ H s → RelV x u → RelV y v → D x y H b →
    wpAny (model X.prog X.w) A (eqBool u v) (fun r s' => r = b ∧ ∃ H', L2.Inv X pins σ H' s' ∧ Ext H H') X.xe s
theorem EqB.or {n : Nat} {D D' : Eqb} (h : EqB X n D) (h' : EqB X n D') : EqB X n (fun x y H b => D x y H b ∨ D' x y H b) := fun A pins s σ H x y u v b sb I rx ry d => by
  rcases d with d | d
  · exact h A pins s σ H x y u v b sb I rx ry d
  · exact h' A pins s σ H x y u v b sb I rx ry d
def DOO (C : Addr) (sp : Sp) (E : XK) : Eqb := fun x y H b => ∃ a c dx dy fs gs, x = .ref a ∧ y = .ref c ∧ H a = some (.ins C dx fs) ∧ H c = some (.ins C dy gs) ∧ (a = c → b = true) ∧ sp [x, y] H (fun v H' => v = .bl b ∧ Ext H H') E
def DDO (C : Addr) (sp : Sp) (E : XK) : Eqb := fun x y H b => ∃ c dy gs, Odd H x ∧ y = .ref c ∧ H c = some (.ins C dy gs) ∧ (x = y → b = true) ∧ sp [y, x] H (fun v H' => v = .bl b ∧ Ext H H') E
theorem eqB_of_rc {A : Around} {pins : List (Addr × Obj)} {s : Shared} {σ : L2.St} {H : Hp} {u v : Value} {b : Bool} (hs : (u == v) = true → b = true) (hf : ∀ i t, u ≠ .float i t) (I : L2.Inv X pins σ H s)
    (h : wpAny (model X.prog X.w) A (richCompare .Eq u v) (EP X pins σ (fun v H' => v = .bl b ∧ Ext H H')) X.xe s) : wpAny (model X.prog X.w) A (eqBool u v) (fun r s' => r = b ∧ ∃ H', L2.Inv X pins σ H' s' ∧ Ext H H') X.xe s := by
  unfold eqBool
  refine wpAny_holding ?_
  refine wpAny_ite_split (fun hab => ?_) (fun _ => ?_)
  · refine wpAny_bind (wpAny_rule ?_)
    exact wpAny_pure ⟨(hs hab).symm, H, I, Ext.rfl'⟩
  · have tail : wpAny (model X.prog X.w) A (richCompare .Eq u v >>= truthOfDropped) (fun r s' => r = b ∧ ∃ H', L2.Inv X pins σ H' s' ∧ Ext H H') X.xe s := by
      refine wpAny_bind (wpAny_mono h (fun z s' hz => ?_) fun _ _ x => x)
      obtain ⟨v', H', I', rz, e, ex⟩ := hz
      subst e
      cases rz
      exact wpAny_truthy_bool ⟨rfl, H', I', ex⟩
    cases u with
    | float i t => exact absurd rfl (hf i t)
    | _ => exact tail
theorem eqB_oo {n : Nat} (M : Meth X.K C "__eq__" (He.fAd X.K (cn, some "__eq__"))) (O : OkD X.prog X.w X.K X.mg X.base CX n (cn, some "__eq__") ps [] sp) (hx : Passes CX X E) : EqB X n (DOO C sp E) := by
  obtain ⟨fd, ds, F, bi, v⟩ := O.ex
  cases v
  intro A pins s σ H x y u v b sb I rx ry d
  obtain ⟨a, c, dx, dy, fs, gs, rfl, rfl, ha, hc, he, hsp⟩ := d
  cases rx
  cases ry
  obtain ⟨mA, J, _⟩ := ins_get I.hok ha
  obtain ⟨mB, J', _⟩ := ins_get I.hok hc
  obtain ⟨od, J, _⟩ := J.look
  obtain ⟨od', J', _⟩ := J'.look
  obtain ⟨mm, hF⟩ := I.fr
  refine eqB_of_rc (fun h => he (by have := eq_of_beq h; injection this)) (fun _ _ z => nomatch z) I ?_
  exact PySem.W.cmp_K (op := .Eq) (tb := .ref C) sb.room.units0 hF I.ok.mod.kin J J'.type (by simp [PySem.W.notFirst]) M.at_ M.fn (run_ownA (vs := [V.ref a, V.ref c]) F sb bi hx I (.cons rfl (.cons rfl .nil)) hsp)
theorem eqB_do {n : Nat} (M : Meth X.K C "__eq__" (He.fAd X.K (cn, some "__eq__"))) (hm : ∀ n ∈ oddK, PySem.W.mroIn X.K C (.type n) = some false) (O : OkD X.prog X.w X.K X.mg X.base CX n (cn, some "__eq__") ps [] sp) (hx : Passes CX X E) : EqB X n (DDO C sp E) := by
  intro A pins s σ H x y u v b sb I rx ry d
  obtain ⟨c, dy, gs, o, rfl, hc, he, hsp⟩ := d
  cases ry
  refine eqB_of_rc (fun h => he ?_) (fun i t z => ?_) I (rc_odd sb M hm O hx I o rx hc hsp)
  · have := eq_of_beq h
    subst this
    cases x with
    | ref a => cases rx; rfl
    | int i => obtain ⟨t, h⟩ := rx; cases h
    | str i => obtain ⟨t, h⟩ := rx; cases h
    | byt i => obtain ⟨t, h⟩ := rx; cases h
    | flt i => obtain ⟨t, h⟩ := rx; cases h
    | _ => cases rx
  · subst z
    cases o with
    | bl => cases rx
    | non => cases rx
    | str => obtain ⟨t, h⟩ := rx; cases h
    | tup => cases rx
    | lst => cases rx
    | dic => cases rx
/-- the loop of list.__contains__; at each turn the list is read anew -/
theorem in_loop {P : Program} {w : World} {A : Around} {R : Result → Shared → Prop} {l : Addr} {N : Nat} {x : Value} (J : Shared → Prop) (e : Nat → Bool)
    (hl : ∀ i s, J s → ∃ (its : List Value) (n : Nat) (dd : Option Addr) (sl : Array (Option Value)), s.heap.get? l = some { cls := .type "list", dict := dd, data := .seq its.toArray n, slots := sl } ∧ its.length = N ∧ ∀ h : i < its.length, wpAny (model P w) A.in1 (eqBool its[i] x) (fun r s' => r = e i ∧ J s') (fun e s' => R (.error e) s') s) (k : Nat) :
    ∀ i : Nat, N - i = k → i ≤ N → ∀ s, J s → (∀ s', J s' → R (.ok (.ret (.bool ((List.range' i k).any e)))) s') →
      wpAny (model P w) A.in1 (Builtin.«list.__contains__.loop» ⟨[.ref l, x, rawInt i], []⟩) (GQ.FinOf P w A R) (fun e s' => R (.error e) s') s := by
  induction k with
  | zero =>
    intro i hk hi s h fin
    obtain ⟨items, n, dd, sl, ho, hn, _⟩ := hl i s h
    have q := fin s h
    obtain ⟨hp, g, d, tk, os⟩ := s
    wp_walk using AutoSeq1.wpAny_loadPart' ho
    have hi : items.toArray[((i : Nat) : Int).toNat]? = none := by simp; omega
    rw [hi]
    wp_walk
    exact q
  | succ k ih =>
    intro i hk hi s h fin
    obtain ⟨items, n, dd, sl, ho, hn, turn⟩ := hl i s h
    have hlt : i < items.length := by omega
    have t := turn hlt
    obtain ⟨hp, g, d, tk, os⟩ := s
    wp_walk using AutoSeq1.wpAny_loadPart' ho
    have hi : items.toArray[((i : Nat) : Int).toNat]? = some items[i] := by simp [hlt]
    rw [hi]
    refine wpAny_bind (wpAny_mono t (fun r s2 q => ?_) fun _ _ z => z)
    obtain ⟨rfl, h2⟩ := q
    rw [List.range'_succ, List.any_cons] at fin
    cases hb : e i with
    | true =>
      rw [hb] at fin
      have q := fin s2 h2
      obtain ⟨hp2, g2, d2, tk2, os2⟩ := s2
      wp_walk
      exact q
    | false =>
      rw [hb] at fin
      have hc : ((i : Int) + 1) = ((i + 1 : Nat) : Int) := by push_cast; rfl
      have go := ih (i + 1) (by omega) (by omega) s2 h2 (fun s' h' => by simpa using fin s' h')
      obtain ⟨hp2, g2, d2, tk2, os2⟩ := s2
      wp_walk
      rw [hc]
      exact ⟨plainId_quiet MeetsSeq.plain_contains_loop _, codeAny_builtin MeetsSeq.entry_contains_loop (by
        rw [Around.under_plainId MeetsSeq.plain_contains_loop _]
        exact go)⟩
/-- x in the list at y: item by item D says how they compare -/
def rInB (K : PySem.W.Frag) (neg : Bool) (D : Eqb) : R2 := fun x y H Q => ∃ (p : Addr) (xs : List V) (bs : List Bool), y = .ref p ∧ SqL K H p xs ∧ Paired (fun z b => ∀ H', Ext H H' → D z x H' b) xs bs ∧ ∀ H', Ext H H' → Q (.bl (if neg then !bs.any id else bs.any id)) H'
theorem any_range (bs : List Bool) : (List.range' 0 bs.length).any (fun i => bs.getD i false) = bs.any id := by
  rw [← List.range_eq_range']
  rw [Bool.eq_iff_iff, List.any_eq_true, List.any_eq_true]
  constructor
  · rintro ⟨i, hi, e⟩
    have h := List.mem_range.mp hi
    refine ⟨bs[i], List.getElem_mem h, ?_⟩
    simpa [List.getD_eq_getElem?_getD, List.getElem?_eq_getElem h] using e
  · rintro ⟨b, hb, e⟩
    obtain ⟨i, h, rfl⟩ := List.mem_iff_getElem.mp hb
    exact ⟨i, List.mem_range.mpr h, by simpa [List.getD_eq_getElem?_getD, List.getElem?_eq_getElem h] using e⟩
theorem paired_get {α β : Type} {R : α → β → Prop} : ∀ {xs : List α} {bs : List β}, Paired R xs bs → ∀ i (h : i < xs.length), ∃ b, bs[i]? = some b ∧ R xs[i] b
  | _, _, .nil, i, h => absurd h (Nat.not_lt_zero _)
  | _ :: _, _ :: _, .cons r p, 0, _ => ⟨_, rfl, r⟩
  | _ :: _, _ :: _, .cons r p, i + 1, h => paired_get p i (by simpa using h)
theorem paired_len {α β : Type} {R : α → β → Prop} : ∀ {xs : List α} {bs : List β}, Paired R xs bs → xs.length = bs.length
  | _, _, .nil => rfl
  | _, _, .cons _ p => congrArg (· + 1) (paired_len p)
theorem in_body {n : Nat} {D : Eqb} {neg : Bool} (h : EqB X n D) (hr : Room (n + 1) X.A) {pins : List (Addr × Obj)} {s : Shared} {σ : L2.St} {H : Hp} {x y : V} {u v : Value} {Q : VK} (I : L2.Inv X pins σ H s) (rx : RelV x u) (ry : RelV y v) (hq : rInB X.K neg D x y H Q) :
    wpAny (model X.prog X.w) X.A (contains v u) (fun r s' => EP X pins σ Q (.bool (if neg then !r else r)) s') X.xe s := by
  obtain ⟨p, xs, bs, rfl, hS, pr, q⟩ := hq
  cases ry
  obtain ⟨its, r, pl, hz⟩ := I.list hS
  have hT : s.TypeIs (.ref p) "list" := by
    obtain ⟨⟨cls, dd, data, sl⟩, n', ho, hc, _⟩ := id pl
    exact ⟨_, ho, hc⟩
  have J0 : (fun s' => ∃ H', L2.Inv X pins σ H' s' ∧ Ext H H') s := ⟨H, I, Ext.rfl'⟩
  refine wpAny_contains_slot hT PySem.F.slot_list_contains ?_
  refine GQ.call_here PySem.F.slot_list_contains hT PySem.F.entry_list_contains (PySem.F.args_list_contains_2 _ _) ?_
  have lp := in_loop (P := X.prog) (w := X.w) (A := X.A) (R := wants (fun r s' => wpAny (model X.prog X.w) X.A (truthy r) (fun r s' => EP X pins σ Q (Value.bool (if neg = true then !r else r)) s') X.xe s') X.xe) (l := p) (N := xs.length) (x := u) (fun s' => ∃ H', L2.Inv X pins σ H' s' ∧ Ext H H') (fun i => bs.getD i false) ?hl bs.length 0 (by rw [paired_len pr]; rfl) (Nat.zero_le _) s J0 ?fin
  case hl =>
    rintro i s' ⟨H', I', e⟩
    obtain ⟨its', r', pl', _⟩ := I'.list (SqL.ext hS e)
    obtain ⟨o, n', ho, hc, hd, hs⟩ := pl'
    obtain ⟨cls, dd, data, sl⟩ := o
    dsimp only at hc hd hs
    refine ⟨its', n', dd, sl, by first | (rw [ho, hc, hs]) | (rw [ho]; subst hc; subst hs; rfl), r'.length.symm, fun hi => ?_⟩
    have hx : i < xs.length := by rw [r'.length]; exact hi
    obtain ⟨z, hz', rz⟩ := r'.get (List.getElem?_eq_getElem hx)
    rw [List.getElem?_eq_getElem hi] at hz'
    obtain ⟨b, hb, hd'⟩ := paired_get pr i hx
    have eb : bs.getD i false = b := by simp [List.getD_eq_getElem?_getD, hb]
    rw [Option.some.inj hz', eb]
    refine wpAny_mono (h X.A.in1 pins s' σ H' _ x _ u b ⟨hr.in1, rfl⟩ I' rz rx (hd' _ e)) (fun r2 s2 q2 => ?_) fun _ _ z => z
    obtain ⟨h2, H2, I2, e2⟩ := q2
    exact ⟨h2, H2, I2, e.trans e2⟩
  case fin =>
    rintro s' ⟨H', I', e⟩
    rw [any_range]
    exact wpAny_truthy_bool ⟨.bl _, H', I', rfl, q H' e⟩
  obtain ⟨hp, g, d, tk, os⟩ := s
  wp_walk
  exact ⟨plainId_quiet MeetsSeq.plain_contains_loop _, codeAny_builtin MeetsSeq.entry_contains_loop (by
    rw [Around.under_plainId MeetsSeq.plain_contains_loop _]
    exact lp)⟩
theorem op_inB {n : Nat} {D : Eqb} (h : EqB X n D) (hr : Room (n + 1) X.A) : OpR X (compareOp .In) (rInB X.K false D) := fun pins s σ H x y v u Q I rx ry hq => by
  show wpAny (model X.prog X.w) X.A (do return Value.bool (← contains u v)) (EP X pins σ Q) X.xe s
  exact wpAny_bind (wpAny_mono (in_body h hr I rx ry hq) (fun _ _ z => wpAny_pure z) fun _ _ z => z)
theorem op_notInB {n : Nat} {D : Eqb} (h : EqB X n D) (hr : Room (n + 1) X.A) : OpR X (compareOp .NotIn) (rInB X.K true D) := fun pins s σ H x y v u Q I rx ry hq => by
  show wpAny (model X.prog X.w) X.A (do return Value.bool (!(← contains u v))) (EP X pins σ Q) X.xe s
  exact wpAny_bind (wpAny_mono (in_body h hr I rx ry hq) (fun _ _ z => wpAny_pure z) fun _ _ z => z)
end
end Vf

set_option Elab.async false
set_option linter.all false
set_option maxRecDepth 100000
set_option maxHeartbeats 2000000
namespace Vf
open PySem PySem.Spec PyProof.Rows L2
/-! ### names of the text that stand for an int, a text, a tuple of texts -/
section
variable {X : Cx}
theorem c_gint {x : Str} {i : Int} {pos : Pos} (hm : ∃ t, X.mg x = some (.int i t)) (hg : Gl X x := by rfl) (hd : (x == ("__debug__" : Str)) = false := by decide) : PE X (.Name x pos) (tC (.int i)) := by
  obtain ⟨t, h⟩ := hm
  exact pe_glob hg h ⟨t, rfl⟩ hd
theorem c_gstr {x z : Str} {pos : Pos} (hm : ∃ t, X.mg x = some (.str z t)) (hg : Gl X x := by rfl) (hd : (x == ("__debug__" : Str)) = false := by decide) : PE X (.Name x pos) (tC (.str z)) := by
  obtain ⟨t, h⟩ := hm
  exact pe_glob hg h ⟨t, rfl⟩ hd
end
def strsB : List Value → List Str → Bool
  | [], [] => true
  | .str y _ :: us, z :: zs => decide (y = z) && strsB us zs
  | _, _ => false
theorem strsB_ok : ∀ {us : List Value} {zs : List Str}, strsB us zs = true → Vals (zs.map V.str) us
  | [], [], _ => .nil
  | .str y t :: us, z :: zs, h => by
    obtain ⟨h1, h2⟩ := He.ba h
    have e := of_decide_eq_true h1
    subst e
    exact .cons ⟨t, rfl⟩ (strsB_ok h2)
/-- at a a tuple of the texts zs -/
def kTup (K : PySem.W.Frag) (a : Addr) (zs : List Str) : Bool := match K.lookup a with
  | some ⟨.type n, _, .seq its _, _⟩ => decide (n = "tuple") && (decide (its.size ≤ sizeLine) && strsB its.toList zs)
  | _ => false
theorem kTup_ok {K : PySem.W.Frag} {a : Addr} {zs : List Str} (h : kTup K a zs = true) (H : Hp) : SqT K H a (zs.map V.str) := by
  unfold kTup at h
  split at h
  · rename_i n od its m sl e
    obtain ⟨h1, h2⟩ := He.ba h
    obtain ⟨h2, h3⟩ := He.ba h2
    have e1 := of_decide_eq_true h1
    subst e1
    exact .inr ⟨_, its, m, e, rfl, rfl, of_decide_eq_true h2, strsB_ok h3⟩
  · cases h
/-! ### C(.., k = v, ..) -/
structure OkK (P : Program) (w : World) (K : PySem.W.Frag) (mg : Str → Option Value) (base : Heap) (CX : CXT) (k : Nat) (p : Pl) (ps : List Str) (n : Nat) (ks : List Str) (gV : List V → List V → List V) (sp : Sp) : Prop where
  ex : ∃ fd g, FnOk P w K mg base CX k (He.fAd K p) fd ps sp ∧ KBn K fd ps n ks g gV
theorem c_mkK {X : Cx} {CX : CXT} {k j n : Nat} {ps ks : List Str} {sp : Sp} {x : Str} {p pos : Pos} {e : Expr} {es : List Expr} {kws : List Keyword} {t tk : TA} {gV : List V → List V → List V} {E : XK} {C : Addr} (M : Mk X.K C (He.fAd X.K (x, some "__init__"))) (O : OkK X.prog X.w X.K X.mg X.base CX k (x, some "__init__") ps (n + 1) ks gV sp) (hr : Room j X.A) (hj : k + 1 ≤ j) (hm : X.mg x = some (.ref C)) (hx : Passes CX X E) (ha : PA X (e :: es) t) (hkw : PK X kws tk) (hg : Gl X x := by rfl)
    (hall : (backToKw pos (keywordEach kws X.env)).all (·.1.isSome) = true := by rfl) (hks : (backToKw pos (keywordEach kws X.env)).filterMap (·.1) = ks := by rfl) (hdb : (x == ("__debug__" : Str)) = false := by decide)
    (he : starEach (e :: es) X.env = (false, eval e X.env) :: starEach es X.env := by rfl) (hpl : ((backTo pos (starEach (e :: es) X.env)).any (·.1) || (backToKw pos (keywordEach kws X.env)).any (·.1.isNone)) = false := by rfl) :
    PE X (.Call (.Name x p) (e :: es) kws pos) (tMakeK C n ks.length sp gV E t tk) := by
  obtain ⟨fd, g, F, b⟩ := O.ex
  exact pe_makeK M F (hr.mono hj) hg hm b hx ha hkw hall hks hdb he hpl
/-! ### texts -/
/-- one sign in a text -/
theorem sign_in (x : Str) (c : Nat) : (!(Builtin.Str.occurrences x ⟨#[c]⟩ 0 x.length 1).isEmpty) = decide (c ∈ x.cps.toList) := PySem.StrLaws.found_one x c
/-- a value that is no text -/
inductive OddS (H : Hp) : V → Prop where
  | bl (b : Bool) : OddS H (.bl b)
  | non : OddS H .non
  | int (i : Int) : OddS H (.int i)
  | tup {a : Addr} {xs : List V} (h : H a = some (.tup xs)) : OddS H (.ref a)
  | lst {a : Addr} {xs : List V} (h : H a = some (.lst xs)) : OddS H (.ref a)
  | dic {a : Addr} {kvs : List (Key × V)} (h : H a = some (.dK kvs)) : OddS H (.ref a)
theorem oddS_ty (K : PySem.W.Frag) {H : Hp} {x : V} (o : OddS H x) : ∃ n : String, TyX K H x (.type n) ∧ kitB n "str" = some false := by
  cases o with
  | bl b => exact ⟨"bool", .base (.bl b), by decide +kernel⟩
  | non => exact ⟨"NoneType", .base .non, by decide +kernel⟩
  | int i => exact ⟨"int", .base (.int i), by decide +kernel⟩
  | tup h => exact ⟨"tuple", .base (.tup h), by decide +kernel⟩
  | lst h => exact ⟨"list", .base (.lst h), by decide +kernel⟩
  | dic h => exact ⟨"dict", .base (.dK h), by decide +kernel⟩
/-- a value that is no bool -/
inductive OddB (H : Hp) : V → Prop where
  | str (z : Str) : OddB H (.str z)
  | non : OddB H .non
  | int (i : Int) : OddB H (.int i)
  | tup {a : Addr} {xs : List V} (h : H a = some (.tup xs)) : OddB H (.ref a)
  | lst {a : Addr} {xs : List V} (h : H a = some (.lst xs)) : OddB H (.ref a)
  | dic {a : Addr} {kvs : List (Key × V)} (h : H a = some (.dK kvs)) : OddB H (.ref a)
theorem oddB_ty (K : PySem.W.Frag) {H : Hp} {x : V} (o : OddB H x) : ∃ n : String, TyX K H x (.type n) ∧ kitB n "bool" = some false := by
  cases o with
  | str z => exact ⟨"str", .base (.str z), by decide +kernel⟩
  | non => exact ⟨"NoneType", .base .non, by decide +kernel⟩
  | int i => exact ⟨"int", .base (.int i), by decide +kernel⟩
  | tup h => exact ⟨"tuple", .base (.tup h), by decide +kernel⟩
  | lst h => exact ⟨"list", .base (.lst h), by decide +kernel⟩
  | dic h => exact ⟨"dict", .base (.dK h), by decide +kernel⟩
end Vf

set_option Elab.async false
set_option linter.all false
set_option maxRecDepth 100000
set_option maxHeartbeats 2000000
namespace Vf
open PySem PySem.Spec PyProof.Rows L2
/-- the callee's errors are the def's own -/
theorem passE {X : Cx} {E : XK} (hs : X.stack = X.env :: X.outer) (hf : X.env.frame = some X.env.locals) (hex : X.ex = []) {E₁ : Value → Shared → Prop}
    (hx : X.xe = fun e s' => wpAny (model X.prog X.w) X.A (leaving X.env e) (fun _ s'' => L2.CX X.prog X.w X.outer X.H_0 X.s_0 E e s'') E₁ s') : Passes (L2.CX X.prog X.w) X E :=
  passes_call (takes_of hs hf hex hx) fun _ _ _ _ h => h
/-! ### o.m(k = v, ..) -/
def tMethK (C : Addr) (m : Str) (n : Nat) (sp : Sp) (gV : List V → List V → List V) (E : XK) (ta : TE) (tk : TA) : TE := fun σ H Q => ta σ H fun x H1 => ∃ a dx fs, x = .ref a ∧ H1 a = some (.ins C dx fs) ∧ fs.lookup m = none ∧
  tk σ H1 fun zs H2 => zs.length = n ∧ sp (gV [.ref a] zs) H2 Q E
theorem c_meK {X : Cx} {CX : CXT} {k j : Nat} {ps ks : List Str} {sp : Sp} {m cn : Str} {o : Expr} {pos apos : Pos} {kws : List Keyword} {ta : TE} {tk : TA} {gV : List V → List V → List V} {E : XK} {C : Addr} (hC : C = He.ga X.K cn) (hb : PE X o ta) (c : Cls X.K C) (hm : Meth X.K C m (He.fAd X.K (cn, some m)))
    (O : OkK X.prog X.w X.K X.mg X.base CX k (cn, some m) ps 1 ks gV sp) (hr : Room j X.A) (hj : k ≤ j) (hx : Passes CX X E) (hkw : PK X kws tk) {pl : Sem Bool}
    (hall : (backToKw pos (keywordEach kws X.env)).all (·.1.isSome) = true := by rfl) (hks : (backToKw pos (keywordEach kws X.env)).filterMap (·.1) = ks := by rfl)
    (hpl : ((backTo pos (starEach [] X.env)).any (·.1) || (backToKw pos (keywordEach kws X.env)).any (·.1.isNone)) = false := by rfl)
    (ht : eval (.Call (.Attribute o m apos) [] kws pos) X.env = (do
      let ov ← eval o X.env
      standAt apos.atName
      let (f, first) ← holding [ov] (getMethod ov m pl)
      callWith pos f first (backTo pos (starEach [] X.env)) (backToKw pos (keywordEach kws X.env))) := by rfl) :
    PE X (.Call (.Attribute o m apos) [] kws pos) (tMethK C m ks.length sp gV E ta tk) := by
  obtain ⟨fd, g, F, b⟩ := O.ex
  refine ⟨fun pins s σ H Q I h => ?_⟩
  refine PySem.W.methodCall_KW (pl := pl) (thn (hb.run pins s σ H _ I h) fun u s1 ⟨x, H1, I1, rx, a, dx, fs, ex, ea, l, q⟩ => ?_) ht
  subst ex
  obtain rfl : u = Value.ref a := rx
  refine getmeth_ok I1 ea c hm l ?_
  refine PySem.W.callWith_KW0 (first := [.ref a]) (h₀ := X.base) I.ok.mod.kin hm.kp hall ?_ hpl
  refine thn (hkw.run pos pins s1 σ H1 _ I1 q) fun ws s2 ⟨zs, H2, I2, rz, l2, q2⟩ => ⟨I2.kIn, ?_⟩
  rw [hks]
  exact run_fnN (us := [.ref a]) (vs := [.ref a]) F (hr.mono hj) b hx I2 (.cons rfl .nil) rz rfl l2 q2
/-! ### o != o of a class with an own == alone -/
section
open PySem.W PySem.Calls
variable {M : Model} {prog : Program} {w : World} {A : Around} {E : Value → Shared → Prop} {s : Shared} {K : Frag} {x y C f : Addr} {ox oy : Obj} {od od' : Option Obj}
theorem ifBound_objNe {args : List Value} {Q : Option Value → Shared → Prop} (X : K.In s.heap) (I : InstAt s.heap x ox C od) (hs : findIn K (.ref C) "__ne__" = some (some (.builtin "object.__ne__")))
    (h : wpAny M A (call (.builtin "object.__ne__") (.ref x :: args)) (fun v => Q (some v)) E s) : wpAny M A (callSpecialIfBound? (.ref x) "__ne__" args) Q E s := by
  simp only [callSpecialIfBound?, bindSpecialIfBound?]
  refine wpAny_holding (wpAny_bind (wpAny_bind (wpAny_bind (I.type.here ((looks_findIn X hs).here ?_)))))
  refine wpAny_bind (wpAny_askSetting (wpAny_ite ?_))
  have fin : wpAny M A (call (.builtin "object.__ne__") ([.ref x] ++ args) >>= fun v => pure (some v)) Q E s := wpAny_bind (wpAny_mono h (fun v s' h' => wpAny_pure h') fun _ _ h' => h')
  split
  · exact wpAny_bind (wpAny_of_eq (F.cmp_object.ne.bind _) (wpAny_pure (by exact fin)))
  · exact wpAny_tryCatch (wpAny_bind (wpAny_of_eq (F.cmp_object.ne.bind _) (wpAny_pure (by exact fin))))
def NeBack (Q : Value → Shared → Prop) (v : Value) (s' : Shared) : Prop := ∃ t, v = .bool t ∧ Q (.bool (!t)) s'
theorem entry_ne {Q : Fin → Shared → Prop} (hu : A.units < cLine) (X : K.In s.heap) (I : InstAt s.heap x ox C od) (hs : findIn K (.ref C) "__eq__" = some (some (.ref f))) (hf : isFn K (.ref f) = true)
    (h : wpAny (model prog w) A (call (.ref f) [.ref x, .ref y]) (NeBack fun v => Q (.done (.ret v))) E s) : wpAny (model prog w) A (Builtin.«object.__ne__» ⟨[.ref x, .ref y], []⟩) Q E s := by
  have e : wpAny (model prog w) A (callSpecialIfBound? (.ref x) "__eq__" [.ref y]) (fun r s' => ∃ t, r = some (.bool t) ∧ Q (.done (.ret (.bool (!t)))) s') E s :=
    ifBound_K X I hs hf (wpAny_mono h (fun v s' hv => by obtain ⟨t, rfl, q⟩ := hv; exact ⟨t, rfl, q⟩) fun _ _ e => e)
  unfold Builtin.«object.__ne__»
  repeat (first | with_reducible refine wpAny_cRoomFor hu ?_ | with_reducible refine wpAny_mono e ?_ (fun _ _ e => e) | wp_step)
  rintro r s' ⟨t, rfl, q⟩
  refine wpAny_bind (wpAny_truthy_bool ?_)
  exact wpAny_pure q
theorem call_ne {Q : Value → Shared → Prop} (hu : A.in1.units < cLine) (X : K.In s.heap) (I : InstAt s.heap x ox C od) (hm : mroIn K C (.type "object") = some true) (hs : findIn K (.ref C) "__eq__" = some (some (.ref f))) (hf : isFn K (.ref f) = true)
    (h : wpAny (model prog w) A.in1 (call (.ref f) [.ref x, .ref y]) (NeBack Q) E s) :
    wpAny (model prog w) A (call (.builtin "object.__ne__") [.ref x, .ref y]) Q E s :=
  wpAny_call (codeAny_call_builtin F.cmp_object.ne.plain F.cmpEntry_ne (check_slot F.cmpKind_ne F.cmpSplit_ne (I.type.andThen (looks_mroIn X hm)) (F.cmpArgs_ne _ _) (entry_ne hu X I hs hf h)))
theorem rc_ne {Q : Value → Shared → Prop} (hu : A.units < cLine) (hu1 : A.in1.units < cLine) (X : K.In s.heap) (I : InstAt s.heap x ox C od) (I' : InstAt s.heap y oy C od') (hm : mroIn K C (.type "object") = some true)
    (hn : findIn K (.ref C) "__ne__" = some (some (.builtin "object.__ne__"))) (hs : findIn K (.ref C) "__eq__" = some (some (.ref f))) (hf : isFn K (.ref f) = true)
    (h : wpAny (model prog w) A.in1 (call (.ref f) [.ref x, .ref y]) (NeBack Q) E s) : wpAny (model prog w) A (richCompare .NotEq (.ref x) (.ref y)) Q E s := by
  have one : wpAny (model prog w) A (tryCompare (.ref x) "__ne__" (.ref y)) (fun r s' => ∃ v, r = some v ∧ Q v s') E s := by
    unfold tryCompare
    refine wpAny_bind (ifBound_objNe X I hn (call_ne hu1 X I hm hs hf (wpAny_mono h (fun v s' hv => ?_) fun _ _ e => e)))
    obtain ⟨t, rfl, q⟩ := hv
    exact ⟨t, rfl, wpAny_pure ⟨_, rfl, q⟩⟩
  unfold richCompare
  simp only [oneThing_ref]
  refine wpAny_holding (wpAny_bind (wpAny_cRoomFor hu ?_))
  refine wpAny_bind (I.type.here (wpAny_bind (I'.type.here ?_)))
  split
  · rename_i q
    exact absurd q (by simp)
  · refine wpAny_bind (wpAny_pure ?_)
    simp only [Bool.false_eq_true, if_false]
    refine wpAny_bind (wpAny_mono one (fun r s' z => ?_) fun _ _ e => e)
    obtain ⟨v, rfl, hq⟩ := z
    exact wpAny_pure hq
end
def rNeO (C : Addr) (sp : Sp) : R2 := fun x y H Q => ∃ a b dx dy fs gs, x = .ref a ∧ y = .ref b ∧ H a = some (.ins C dx fs) ∧ H b = some (.ins C dy gs) ∧ sp [.ref a, .ref b] H (fun v H' => ∃ t, v = .bl t ∧ Q (.bl (!t)) H') fun _ _ _ => False
theorem cmp_neO {X : Cx} {k j : Nat} {C : Addr} {cn : Str} {ps : List Str} {sp : Sp} (hC : C = He.ga X.K cn) (M : Meth X.K C "__eq__" (He.fAd X.K (cn, some "__eq__"))) (hn : PySem.W.findIn X.K (.ref C) "__ne__" = some (some (.builtin "object.__ne__"))) (hm : PySem.W.mroIn X.K C (.type "object") = some true)
    (O : OkD X.prog X.w X.K X.mg X.base CX0 k (cn, some "__eq__") ps [] sp) (hr : Room j X.A) (hj : k + 1 ≤ j) : OpR X (compareOp .NotEq) (rNeO C sp) := by
  obtain ⟨fd, ds, F, b, v⟩ := O.ex
  cases v
  intro pins s σ H x y v u Q I rx ry h
  obtain ⟨a, b', dx, dy, fs, gs, rfl, rfl, ha, hb, hsp⟩ := h
  cases rx
  cases ry
  obtain ⟨mA, J, _⟩ := ins_get I.hok ha
  obtain ⟨mB, J', _⟩ := ins_get I.hok hb
  obtain ⟨od, J, _⟩ := J.look
  obtain ⟨od', J', _⟩ := J'.look
  have hr1 : Room k X.A.in1 := (hr.mono hj).in1
  refine rc_ne hr.units0 hr1.units0 I.kIn J J' hm hn M.at_ M.fn ?_
  have hl := F.len _ _ _ _ hsp
  have hbb := b s [.ref a, .ref b'] I.kIn (by simpa using hl)
  simp only [List.append_nil] at hbb
  refine wpAny_call (codeAny_mono (F.run X.A.in1 X.stack s H ⟨[.ref a, .ref b'], []⟩ [.ref a, .ref b'] [.ref a, .ref b'] _ _ hr1 I.env0.in1 hbb (.cons rfl (.cons rfl .nil)) hsp) fun r s' hq => ?_)
  cases r with
  | error e => exact hq.elim
  | ok fl =>
    cases fl with
    | ret w =>
      obtain ⟨z, H', I', rz, t, ez, q⟩ := I.after hq
      subst ez
      cases rz
      exact ⟨t, rfl, .bl (!t), H', I', rfl, q⟩
    | next => exact False.elim hq
    | brk => exact False.elim hq
    | cont => exact False.elim hq
end Vf

set_option Elab.async false
set_option linter.all false
set_option maxRecDepth 100000
set_option maxHeartbeats 2000000
/-! ### enumerate over a tuple -/
namespace PySem
open Sem (wp)
open AutoSeq1 (wpAny_loadPart')
theorem vf_enum_newT (l : Addr) (items : Array Value) (n : Nat) (dct : Option Addr) (sl : Array (Option Value)) :
    Meets (Builtin.«enumerate.__new__» ⟨[.type "enumerate", .ref l], []⟩) (fun _ R s => s.heap.get? l = some { cls := .type "tuple", dict := dct, data := .seq items n, slots := sl } ∧
      R (.ok (.ret (.ref (s.heap.push { cls := .type "tuple_iterator", data := .fields #[.ref l, .int 0 0] }).objs.size)))
        { s with heap := (s.heap.push { cls := .type "tuple_iterator", data := .fields #[.ref l, .int 0 0] }).push { cls := .type "enumerate", data := .fields #[.none, .bool false, .ref s.heap.objs.size, rawInt 0, .none, .none] } }) :=
  .of_wp fun prog w A R s h => by
    obtain ⟨hp, g, d, tk, os⟩ := s; obtain ⟨hl, h⟩ := h
    have hsub := sub_enumerate
    have hL : Heap.IsTuple (Shared.heap ⟨hp, g, d, tk, os⟩) l items := ⟨_, hl, rfl, n, rfl⟩
    wp_walk using wpAny_loadPart' hl
    refine wpAny_stack_any fun st => wpAny_pure ?_
    split
    · rename_i c _ _ _ _ _
      cases (c == Value.type "enumerate")
      · wp_walk using wpAny_loadPart' hl, wpAny_pyIter_tuple hL
        exact ⟨_, rfl, h⟩
      · wp_walk using wpAny_loadPart' hl, wpAny_pyIter_tuple hL
        exact ⟨_, rfl, h⟩
    · wp_walk using wpAny_loadPart' hl, wpAny_pyIter_tuple hL
      exact ⟨_, rfl, h⟩
section
variable {prog : Program} {w : World} {A : Around} {E : Value → Shared → Prop} {s : Shared}
theorem vf_call_enumT {l : Addr} {items : Array Value} {Q : Value → Shared → Prop} (hL : s.heap.IsTuple l items)
    (h : ∀ h', IsEnum h' (s.heap.objs.size + 1) s.heap.objs.size 0 .none → h'.IsTupleIter s.heap.objs.size l 0 → h'.objs.size = s.heap.objs.size + 2 →
      (∀ b o, s.heap.get? b = some o → h'.get? b = some o) → Q (.ref (s.heap.objs.size + 1)) { s with heap := h' }) :
    wpAny (model prog w) A (call (.type "enumerate") [.ref l]) Q E s := by
  obtain ⟨⟨c, dct, dt, sl⟩, hl, hc, n, hd⟩ := hL
  replace hc : c = .type "tuple" := hc
  replace hd : dt = .seq items n := hd
  subst hc hd
  refine callType_new F.called_enumerate (by decide) (F.typeCall_enumerate_1 _) (F.newCall_enumerate_1 _) (fun obj => F.args_object_init_2 obj _) F.entry_enumerate_new
    (vf_enum_newT l items n dct sl) ⟨hl, ?_⟩
  have hz : (s.heap.push { cls := .type "tuple_iterator", data := .fields #[.ref l, .int 0 0] }).objs.size = s.heap.objs.size + 1 := Heap.size_push ..
  show _ ∧ _
  rw [hz]
  have he : IsEnum ((s.heap.push { cls := .type "tuple_iterator", data := .fields #[.ref l, .int 0 0] }).push
      { cls := .type "enumerate", data := .fields #[.none, .bool false, .ref s.heap.objs.size, rawInt 0, .none, .none] }) (s.heap.objs.size + 1) s.heap.objs.size 0 .none := by
    have := Heap.get?_push_size (s.heap.push { cls := .type "tuple_iterator", data := .fields #[.ref l, .int 0 0] })
      (o := { cls := .type "enumerate", data := .fields #[.none, .bool false, .ref s.heap.objs.size, rawInt 0, .none, .none] }) rfl
    rw [hz] at this; exact this
  refine ⟨⟨_, he, rfl⟩, h _ he ⟨_, Heap.get?_push_of_some _ (Heap.get?_push_size _ rfl), rfl, rfl⟩ (by rw [Heap.size_push, hz]) fun b o x => Heap.get?_push_of_some _ (Heap.get?_push_of_some _ x)⟩
end
end PySem
namespace Vf
open PySem PySem.Spec PyProof.Rows L2
/-- the tuple at a, each item in a new pair -/
def IteT (K : PySem.W.Frag) (a : Addr) : It :=
  ⟨fun i H => ∃ (xs : List V) (x : V), SqT K H a xs ∧ xs[i]? = some x, fun i H v H' => ∃ T x, v = .ref T ∧ H T = none ∧ H' = upd H T (.tup [.int (i : Nat), x]) ∧ ∀ xs, SqT K H a xs → xs[i]? = some x, fun i H => ∃ xs : List V, SqT K H a xs ∧ xs.length = i⟩
theorem turn_enumT {P : Program} {w : World} {K : PySem.W.Frag} {elts : List Expr} {kk : Nat} {tpos : Pos} (a e it : Addr) :
    Turn P w K (.Tuple elts kk tpos) (IteT K a) [e, it] e (fun i h => (∃ old, IsEnum h e it ((i : Nat) : Int) old) ∧ h.IsTupleIter it a i ∧ e ≠ it) where
  mem := by simp
  obj := fun i h st b hb => by
    obtain ⟨⟨old, he⟩, ⟨o, ho, hc, hd⟩, _⟩ := st
    have e' : b = e ∨ b = it := by simpa using hb
    rcases e' with z | z
    · rw [z]; exact ⟨_, he, fun v q => nomatch q⟩
    · rw [z]; exact ⟨o, ho, fun v q => by rw [hd] at q; cases q⟩
  keep := fun i h h' st k => let ⟨⟨old, he⟩, hi, hne⟩ := st; ⟨⟨old, k e (by simp) _ he⟩, hi.at fun o q => k it (by simp) o q, hne⟩
  item := by
    intro X hP hw hK hc i pins s σ H E I hf st hg
    subst hP hw hK
    obtain ⟨⟨old, he⟩, hit, hne⟩ := st
    obtain ⟨xs, x, hq, hx⟩ := hg
    obtain ⟨its, rv, p, hz⟩ := I.tuple hq
    obtain ⟨u, hu, ru⟩ := rv.get hx
    have pT : s.heap.IsTuple a its.toArray := p
    have hel : e < s.heap.objs.size := Heap.lt_size he
    have hil : it < s.heap.objs.size := by obtain ⟨_, q, _⟩ := hit; exact Heap.lt_size q
    have nai : a ≠ it := fun z => by
      subst z
      obtain ⟨o1, h1, c1, _⟩ := pT
      obtain ⟨o2, h2, c2, _⟩ := hit
      rw [h1] at h2
      cases h2
      rw [c1] at c2
      injection c2 with c2
      exact absurd c2 (by decide)
    have nae : a ≠ e := fun z => by
      subst z
      obtain ⟨o1, h1, c1, _⟩ := pT
      rw [show s.heap.get? a = _ from he] at h1
      cases h1
      injection c1 with c1
      exact absurd c1 (by decide)
    have hli : i < its.toArray.size := by
      have := (List.getElem?_eq_some_iff.mp hu).1
      simpa using this
    have hh : X.A.in1.handled = none := I.ok.hd hc
    refine wpAny_pyNext_enum_itemD (Draws.tuple hh it a nai its.toArray) he ⟨hit, pT⟩ hli hne (by simp [hne, nae.symm]) fun v h' tk hv ho hit' hT hsz hk => ?_
    have ev : v = u := by
      have h1 : its[i]? = some v := by simpa using hv
      rw [hu] at h1
      exact (Option.some.inj h1).symm
    subst ev
    refine ⟨_, rfl, wpAny_letOwnedTupleGo_enum (s := { s with heap := h', toks := tk + 1 }) ho fun h'' he' sb => ?_⟩
    have hT2 : h''.get? s.heap.objs.size = some { cls := .type "tuple", data := .seq #[.int i tk, v] } := (sb.2 _ (Nat.ne_of_gt hel)).trans hT
    have new : ObjOk X.prog X.w (upd H s.heap.objs.size (.tup [.int (i : Nat), x])) h'' s.heap.objs.size (.tup [.int (i : Nat), x]) :=
      ⟨by show 2 ≤ sizeLine; decide, [.int i tk, v], .cons ⟨_, rfl⟩ (.cons ru .nil), ⟨_, hT2, rfl, _, rfl⟩⟩
    have I1 : Inv X pins σ (upd H s.heap.objs.size (.tup [.int (i : Nat), x])) { s with heap := h'', toks := tk + 1 } :=
      I.turnedNew (ch := [e, it]) (fun b ob hb q => (sb.2 b (fun z => hb (by simp [z]))).trans (hk b ob (fun z => hb (by simp [z])) (fun z => hb (by simp [z])) q)) hf (Nat.le_refl _) new
    refine ⟨.ref s.heap.objs.size, _, I1, rfl, ⟨_, x, rfl, I.hok.fresh (Nat.le_refl _), rfl, fun ys hy => by rw [I.tuple_inj hy hq]; exact hx⟩, ⟨⟨v, ?_⟩, hit'.1.at fun o q => (sb.2 it (Ne.symm hne)).trans q, hne⟩, fun b hb => ?_⟩
    · have e1 : ((i + 1 : Nat) : Int) = (i : Int) + 1 := by omega
      rw [e1]; exact he'
    · have hb' : b < s.heap.objs.size := by
        have e' : b = e ∨ b = it := by simpa using hb
        rcases e' with z | z
        · rw [z]; exact hel
        · rw [z]; exact hil
      rw [upd_ne (Nat.ne_of_lt hb')]
      exact (hf b hb).1
  done := by
    intro X hP hw hK hc i pins s σ H E I hf st hg
    subst hP hw hK
    obtain ⟨⟨old, he⟩, hit, hne⟩ := st
    obtain ⟨xs, hq, hx⟩ := hg
    obtain ⟨its, rv, p, hz⟩ := I.tuple hq
    have pT : s.heap.IsTuple a its.toArray := p
    obtain ⟨f0, f1, f2, f3, f4, f5⟩ := hf it (by simp)
    have hl := rv.length
    have nai : a ≠ it := fun z => by
      subst z
      obtain ⟨o1, h1, c1, _⟩ := pT
      obtain ⟨o2, h2, c2, _⟩ := hit
      rw [h1] at h2
      cases h2
      rw [c1] at c2
      injection c2 with c2
      exact absurd c2 (by decide)
    have hh : X.A.in1.handled = none := I.ok.hd hc
    have hin : its.toArray.size = i := by simp; omega
    subst hin
    exact wpAny_pyNext_enum_endD (Draws.tuple hh it a nai its.toArray) he ⟨hit, pT⟩ fun h' eb => ⟨rfl, I.turned (t' := s.toks) (fun b o hb q => eb b o hb q) f0 f1 f3 f4 f5⟩
  self := fun A i s Q E st h => let ⟨⟨_, he⟩, _⟩ := st; wpAny_pyIter_enum he h
def iEnumT (K : PySem.W.Frag) (ta : TA) : TI := fun σ H R => ta σ H fun vs H1 => ∃ a xs, vs = [.ref a] ∧ SqT K H1 a xs ∧ R (IteT K a) H1
theorem pi_enumT {X : Cx} {e : Expr} {ta : TA} {p pos tpos : Pos} {elts : List Expr} {kk : Nat} (hg : Gl X "enumerate") (hm : X.mg "enumerate" = none) (ha : PA X [e] ta) (hs : starEach [e] X.env = [(false, eval e X.env)] := by rfl) :
    PI X (.Tuple elts kk tpos) (.Call (.Name "enumerate" p) [e] [] pos) (iEnumT X.K ta) := by
  refine ⟨fun pins s σ H R I h => ?_⟩
  refine Call_ (ld_blt I hg hm boot_enumerate (PyProof.Rows.callWith_type1 (thn (ha.run pos pins s σ H _ I h) fun us s1 ⟨vs, H1, I1, r1, q1⟩ => ?_) hs rfl))
  obtain ⟨a, xs, ex, hq, q⟩ := q1
  subst ex
  cases r1 with
  | cons r rr =>
    cases rr
    cases r
    obtain ⟨its, rv, p', hz⟩ := I1.tuple hq
    refine vf_call_enumT (show s1.heap.IsTuple a its.toArray from p') fun h' he hit hsz hk => wpAny_pyIter_enum he ?_
    have I2 : Inv X pins σ H1 { s1 with heap := h' } := I1.kept (t' := s1.toks) hk
    refine ⟨s1.heap.objs.size + 1, [s1.heap.objs.size + 1, s1.heap.objs.size], _, _, H1, rfl, I2, turn_enumT a (s1.heap.objs.size + 1) s1.heap.objs.size, ⟨⟨.none, he⟩, hit, Nat.succ_ne_self _⟩, fun b hb => ?_, q⟩
    have e' : b = s1.heap.objs.size + 1 ∨ b = s1.heap.objs.size := by simpa using hb
    have hle : s1.heap.objs.size ≤ b := by
      rcases e' with z | z
      · rw [z]; exact Nat.le_add_right _ _
      · rw [z]; exact Nat.le_refl _
    exact I1.fpOk hle (I1.hok.fresh hle)
theorem walk_enumT {K : PySem.W.Frag} {a : Addr} {xs : List V} : Walk (IteT K a) xs.length (fun H => SqT K H a xs) (YPair (fun i => some (.int (i : Nat))) (fun i => xs[i]?)) := by
  refine ⟨fun i _ hi q => ⟨xs, xs[i], q, by simp [hi]⟩, fun _ q => ⟨xs, q, rfl⟩, fun i H v H' _ q y => ?_⟩
  obtain ⟨T, x, h1, h2, h3, h4⟩ := y
  exact ⟨T, .int (i : Nat), x, h1, h2, h3, rfl, h4 xs q⟩
theorem ix_listK {X : Cx} {K : PySem.W.Frag} (h : X.K = K) : IxR X (rIxL K) := h ▸ ix_list
theorem ix_tupK {X : Cx} {K : PySem.W.Frag} (h : X.K = K) : IxR X (rIxT K) := h ▸ ix_tup
/-- a dict comprehension over any walk -/
theorem dc_it {J : It} {n : Nat} {G : Hp → Prop} {Y : Nat → Hp → V → Hp → Prop} (w : Walk J n G Y) {g : TG} {tt : TT} {tk tv : TE} {vs : List Nat} {σ : L2.St} {H1 : Hp} {D : Addr} {Qd : Hp → Prop} (Pv : Nat → Hp → Prop) (h0 : Pv 0 (upd H1 D (.dK []))) (hG : ∀ i H, i ≤ n → Pv i H → G H)
    (hs : ∀ i x H H', i < n → Pv i H → Y i H x H' → g x (wipe σ vs) H' fun σ2 H2 => wipe σ2 vs = wipe σ vs ∧ tt σ2 H2 fun b H3 =>
      if b = true then tk σ2 H3 fun y H4 => tv σ2 H4 fun z H5 => ∃ kvs k, y = kV k ∧ H5 D = some (.dK kvs) ∧ kvs.length < sizeLine ∧ Pv (i + 1) (upd H5 D (.dK (putK kvs k z))) else Pv (i + 1) H3) (hd : ∀ H, Pv n H → Qd H) :
    ∃ W : Nat → Nat → Hp → Prop, (∃ m, W 0 m (upd H1 D (.dK []))) ∧ ∀ i m H, W i m H →
      (J.stop i H ∧ Qd H) ∨ (J.go i H ∧ ∃ Nx : Hp → Prop, (∀ H', Nx H' → ∃ m', m' < m ∧ W (i + 1) m' H') ∧ ∀ x H', J.yld i H x H' → g x (wipe σ vs) H' fun σ2 H2 => wipe σ2 vs = wipe σ vs ∧ tt σ2 H2 fun b H3 =>
        if b = true then tk σ2 H3 fun y H4 => tv σ2 H4 fun z H5 => ∃ kvs k, y = kV k ∧ H5 D = some (.dK kvs) ∧ kvs.length < sizeLine ∧ Nx (upd H5 D (.dK (putK kvs k z))) else Nx H3) := by
  refine ⟨fun i m H => m = n - i ∧ i ≤ n ∧ Pv i H, ⟨n, by simp, Nat.zero_le _, h0⟩, ?_⟩
  rintro i m H ⟨rfl, hi, p⟩
  have q := hG i H hi p
  by_cases hlt : i < n
  · exact .inr ⟨w.goes i H hlt q, Pv (i + 1), fun H' p' => ⟨n - (i + 1), by omega, rfl, hlt, p'⟩, fun x H' y => hs i x H H' hlt p (w.yields i H x H' hlt q y)⟩
  · have e : i = n := by omega
    subst e
    exact .inl ⟨w.stops H q, hd H p⟩
end Vf

set_option Elab.async false
set_option linter.all false
set_option maxRecDepth 100000
set_option maxHeartbeats 2000000
namespace Vf
open PySem PySem.Spec PyProof.Rows L2
/-! ### x in o, o[x], len(o) of a class of the text's own -/
section
variable {X : Cx} {k j : Nat} {C : Addr} {cn : Str} {ps : List Str} {sp : Sp}
def rInO (neg : Bool) (C : Addr) (sp : Sp) : R2 := fun x y H Q => ∃ b dx fs, y = .ref b ∧ H b = some (.ins C dx fs) ∧ sp [.ref b, x] H (fun v H' => ∃ t, v = .bl t ∧ Q (.bl (if neg then !t else t)) H') fun _ _ _ => False
theorem in_run (M : Meth X.K C "__contains__" (He.fAd X.K (cn, some "__contains__"))) (O : OkD X.prog X.w X.K X.mg X.base CX0 k (cn, some "__contains__") ps [] sp) (hr : Room j X.A) (hj : k ≤ j) {pins : List (Addr × Obj)} {σ : L2.St} {H : Hp} {s : Shared} {x : V} {u : Value} {b : Addr} {Qv : VK}
    (I : L2.Inv X pins σ H s) (rx : RelV x u) (hsp : sp [.ref b, x] H (fun v H' => ∃ t, v = .bl t ∧ Qv (.bl t) H') fun _ _ _ => False) {Q : Value → Shared → Prop} (hq : ∀ t s' H', L2.Inv X pins σ H' s' → Qv (.bl t) H' → wpAny (model X.prog X.w) X.A (truthy (.bool t)) (fun b => Q (.bool b)) X.xe s') :
    wpAny (model X.prog X.w) X.A (call (.ref (He.fAd X.K (cn, some "__contains__"))) [.ref b, u]) (fun r s' => wpAny (model X.prog X.w) X.A (truthy r) (fun b => Q (.bool b)) X.xe s') X.xe s := by
  obtain ⟨fd, ds, F, bi, v⟩ := O.ex
  cases v
  have hl := F.len _ _ _ _ hsp
  have hb := bi s [.ref b, u] I.kIn (by simpa using hl)
  simp only [List.append_nil] at hb
  refine wpAny_call (codeAny_mono (F.run X.A X.stack s H ⟨[.ref b, u], []⟩ [.ref b, u] [.ref b, x] _ _ (hr.mono hj) I.env0 hb (.cons rfl (.cons rx .nil)) hsp) fun r s' hq' => ?_)
  cases r with
  | error e => exact hq'.elim
  | ok fl =>
    cases fl with
    | ret w =>
      obtain ⟨z, H', I', rz, t, ez, q⟩ := I.after hq'
      subst ez
      cases rz
      exact hq t s' H' I' q
    | next => exact False.elim hq'
    | brk => exact False.elim hq'
    | cont => exact False.elim hq'
theorem op_inO (M : Meth X.K C "__contains__" (He.fAd X.K (cn, some "__contains__"))) (O : OkD X.prog X.w X.K X.mg X.base CX0 k (cn, some "__contains__") ps [] sp) (hr : Room j X.A) (hj : k ≤ j) : OpR X (compareOp .In) (rInO false C sp) := by
  intro pins s σ H x y v u Q I rx ry h
  obtain ⟨b, dx, fs, rfl, hb, hsp⟩ := h
  cases ry
  obtain ⟨mA, J, _⟩ := ins_get I.hok hb
  obtain ⟨od, J, _⟩ := J.look
  obtain ⟨mm, hF⟩ := I.fr
  exact PySem.W.in_K hF I.ok.mod.kin J M.at_ M.fn (in_run (cn := cn) M O hr hj I rx hsp fun t s' H' I' q => wpAny_truthy_bool ⟨.bl t, H', I', rfl, q⟩)
theorem op_notInO (M : Meth X.K C "__contains__" (He.fAd X.K (cn, some "__contains__"))) (O : OkD X.prog X.w X.K X.mg X.base CX0 k (cn, some "__contains__") ps [] sp) (hr : Room j X.A) (hj : k ≤ j) : OpR X (compareOp .NotIn) (rInO true C sp) := by
  obtain ⟨fd, ds, F, bi, vd⟩ := O.ex
  cases vd
  intro pins s σ H x y v u Q I rx ry h
  obtain ⟨b, dx, fs, rfl, hb, hsp⟩ := h
  cases ry
  obtain ⟨mA, J, _⟩ := ins_get I.hok hb
  obtain ⟨od, J, _⟩ := J.look
  obtain ⟨mm, hF⟩ := I.fr
  have hl := F.len _ _ _ _ hsp
  have hb := bi s [.ref b, v] I.kIn (by simpa using hl)
  simp only [List.append_nil] at hb
  refine PySem.W.notIn_K hF I.ok.mod.kin J M.at_ M.fn (wpAny_call (codeAny_mono (F.run X.A X.stack s H ⟨[.ref b, v], []⟩ [.ref b, v] [.ref b, x] _ _ (hr.mono hj) I.env0 hb (.cons rfl (.cons rx .nil)) hsp) fun r s' hq' => ?_))
  cases r with
  | error e => exact hq'.elim
  | ok fl =>
    cases fl with
    | ret w =>
      obtain ⟨z, H', I', rz, t, ez, q⟩ := I.after hq'
      subst ez
      cases rz
      exact wpAny_truthy_bool ⟨.bl (!t), H', I', rfl, q⟩
    | next => exact False.elim hq'
    | brk => exact False.elim hq'
    | cont => exact False.elim hq'
/-- o[x] -/
def rSubO (C : Addr) (sp : Sp) (E : XK) : R2 := fun x y H Q => ∃ a dx fs, x = .ref a ∧ H a = some (.ins C dx fs) ∧ sp [.ref a, y] H Q E
theorem pe_subO {CX : CXT} {E : XK} {a b : Expr} {pos : Pos} {ta tb : TE} (ha : PE X a ta) (hb : PE X b tb) (M : Meth X.K C "__getitem__" (He.fAd X.K (cn, some "__getitem__"))) (hfn : PySem.W.fnIn X.K (He.fAd X.K (cn, some "__getitem__")) = true)
    (O : OkD X.prog X.w X.K X.mg X.base CX k (cn, some "__getitem__") ps [] sp) (hr : Room j X.A) (hj : k + 1 ≤ j) (hx : Passes CX X E)
    (hsl : ∀ x i, subscripted b true (.ref x) i = runValue (.builtin "lifetime.subscript" ⟨[.ref x, i], []⟩) := by intro _ _; rfl) : PE X (.Subscript a b pos) (tOp (rSubO C sp E) ta tb) := by
  obtain ⟨fd, ds, F, bi, v⟩ := O.ex
  cases v
  refine ⟨fun pins s σ H Q I h => ?_⟩
  refine Subscript_ (binT ha hb I h fun v u s2 x y H2 I2 rx ry q => ?_)
  obtain ⟨p, dx, fs, rfl, hp, hsp⟩ := q
  cases rx
  obtain ⟨mA, J, _⟩ := ins_get I2.hok hp
  obtain ⟨od, J, _⟩ := J.look
  obtain ⟨mm, hF⟩ := I2.fr
  have hl := F.len _ _ _ _ hsp
  have hbb := bi s2 [.ref p, u] I2.kIn (by simpa using hl)
  simp only [List.append_nil] at hbb
  refine PySem.W.sub_K hF I2.ok.mod.kin J M.at_ hfn M.fn (wpAny_call (codeAny_mono (F.run X.A.in1 X.stack s2 H2 ⟨[.ref p, u], []⟩ [.ref p, u] [.ref p, y] _ _ ((hr.mono hj).in1) I2.env0.in1 hbb (.cons rfl (.cons ry .nil)) hsp) fun r s' hq => ?_)) (hsl _ _)
  cases r with
  | error e => exact hx pins σ H2 s2 e s' I2 hq
  | ok fl =>
    cases fl with
    | ret w => exact I2.after hq
    | next => exact False.elim hq
    | brk => exact False.elim hq
    | cont => exact False.elim hq
/-- len(o) -/
def rLenO (C : Addr) (sp : Sp) : List V → Hp → VK → Prop := fun xs H Q => ∃ a dx fs, xs = [.ref a] ∧ H a = some (.ins C dx fs) ∧ sp [.ref a] H (fun v H' => ∃ n : Int, v = .int n ∧ 0 ≤ n ∧ n < 2 ^ 62 ∧ Q (.int n) H') fun _ _ _ => False
theorem call_lenO (M : Meth X.K C "__len__" (He.fAd X.K (cn, some "__len__"))) (O : OkD X.prog X.w X.K X.mg X.base CX0 k (cn, some "__len__") ps [] sp) (hr : Room j X.A) (hj : k + 1 ≤ j) : CallR X (.builtin "len") (rLenO C sp) := by
  obtain ⟨fd, ds, F, bi, v⟩ := O.ex
  cases v
  intro pins s σ H xs us Q I r h
  obtain ⟨a, dx, fs, rfl, ha, hsp⟩ := h
  obtain ⟨u, rfl, ru⟩ : ∃ u, us = [u] ∧ RelV (.ref a) u := by
    cases r with
    | cons p q => cases q; exact ⟨_, rfl, p⟩
  cases ru
  obtain ⟨mA, J, _⟩ := ins_get I.hok ha
  obtain ⟨od, J, _⟩ := J.look
  obtain ⟨mm, hF⟩ := I.fr
  have hl := F.len _ _ _ _ hsp
  have hb := bi s [.ref a] I.kIn (by simpa using hl)
  simp only [List.append_nil] at hb
  refine PySem.W.len_K hF I.ok.mod.kin J M.at_ M.fn (wpAny_call (codeAny_mono (F.run X.A.in1 X.stack s H ⟨[.ref a], []⟩ [.ref a] [.ref a] _ _ ((hr.mono hj).in1) I.env0.in1 hb (.cons rfl .nil) hsp) fun r s' hq => ?_))
  cases r with
  | error e => exact hq.elim
  | ok fl =>
    cases fl with
    | ret w =>
      obtain ⟨z, H', I', rz, n, ez, n0, n1, q⟩ := I.after hq
      subst ez
      obtain ⟨t, rfl⟩ := rz
      exact ⟨⟨n0, by omega⟩, .int n, H', I'.tok _, ⟨_, rfl⟩, q⟩
    | next => exact False.elim hq
    | brk => exact False.elim hq
    | cont => exact False.elim hq
end
end Vf
/-! ### == of dicts whose values have an == that runs -/
namespace PySem.W
open Lean Elab Tactic Meta PySem PySem.Calls PyProof.Rows PyProof.V PySem.Spec
section
variable {prog : Program} {w : World} {K : Type} [DecidableEq K] {knd : KeyKind prog w K} {A : Around} {E : Value → Shared → Prop} {s : Shared}
def VfEqJ (prog : Program) (w : World) (A : Around) (E : Value → Shared → Prop) (J : Shared → Prop) (v y : Value) (e : Bool) : Prop := ∀ (s : Shared) (Q : Bool → Shared → Prop), J s → (∀ s', J s' → Q e s') → wpAny (model prog w) A (eqBool v y) Q E s
inductive VfHits {K : Type} [DecidableEq K] (prog : Program) (w : World) (A : Around) (E : Value → Shared → Prop) (J : Shared → Prop) (kb : List (K × Value)) : List (K × Value) → Bool → Prop
  | nil : VfHits prog w A E J kb [] true
  | miss {k : K} {v : Value} {r : List (K × Value)} : valueAt kb k = none → VfHits prog w A E J kb ((k, v) :: r) false
  | hit {k : K} {v y : Value} {r : List (K × Value)} {e b : Bool} : valueAt kb k = some y → VfEqJ prog w A E J v y e → VfHits prog w A E J kb r b → VfHits prog w A E J kb ((k, v) :: r) (e && b)
theorem VfHits.inv {J : Shared → Prop} {kb : List (K × Value)} {k : K} {v : Value} {r : List (K × Value)} {b : Bool} (h : VfHits prog w A E J kb ((k, v) :: r) b) :
    (valueAt kb k = none ∧ b = false) ∨ ∃ y e b', valueAt kb k = some y ∧ VfEqJ prog w A E J v y e ∧ VfHits prog w A E J kb r b' ∧ b = (e && b') := by
  cases h with
  | miss hn => exact .inl ⟨hn, rfl⟩
  | hit hy he hr => exact .inr ⟨_, _, _, hy, he, hr, rfl⟩
theorem vf_samePairs {J : Shared → Prop} {nm : String} {a b : Addr} {ka kb : List (K × Value)} {r : Bool} {Q : Bool → Shared → Prop} (ha : (a == sysModules) = false) (hb : (b == sysModules) = false)
    (hJ : ∀ s', J s' → s'.heap.get? a = s.heap.get? a ∧ s'.heap.get? b = s.heap.get? b) (h0 : J s) (da : s.heap.DictOf knd a ka) (db : s.heap.DictOf knd b kb) (hits : ka.length = kb.length → VfHits prog w A E J kb ka r) (h : ∀ s', J s' → Q (ka.length == kb.length && r) s') :
    wpAny (model prog w) A (Builtin.Dict.samePairs nm a b) Q E s := by
  obtain ⟨oa, es, ep, hoa, _, hda, hka, hpa, _⟩ := da
  obtain ⟨ob, es', ep', hob, _, hdb, hkb, hpb, _⟩ := db
  have hla : ka.length = es.size := by rw [← hpa.length]; exact Array.length_toList
  have hlb : kb.length = es'.size := by rw [← hpb.length]; exact Array.length_toList
  have hfind : ∀ k, findBy knd.is es' k = valueAt kb k := fun k => by
    rw [← hpb.find k]
    clear hlb hpb hkb hdb hob
    obtain ⟨l⟩ := es'
    simp [findBy]
  have hA : ∀ {s'}, J s' → s'.heap.get? a = some oa := fun j => (hJ _ j).1.trans hoa
  have hB : ∀ {s'}, J s' → s'.heap.get? b = some ob := fun j => (hJ _ j).2.trans hob
  rw [hla, hlb] at h
  unfold Builtin.Dict.samePairs Builtin.Dict.showsAll
  rw [if_neg (show ¬ (a == sysModules) = true by rw [ha]; exact Bool.false_ne_true), if_neg (show ¬ (b == sysModules) = true by rw [hb]; exact Bool.false_ne_true)]
  refine wpAny_bind (wpAny_pure (wpAny_bind (wpAny_pure ?_)))
  refine wpAny_bind (wpAny_dictEntries hoa hda ?_)
  dsimp only
  refine wpAny_bind (wpAny_dictEntries hob hdb ?_)
  by_cases hsz : es.size = es'.size
  case neg =>
    rw [if_pos (by simpa using hsz)]
    have hbf : (es.size == es'.size) = false := by simpa using hsz
    rw [hbf, Bool.false_and] at h
    exact wpAny_bind (wpAny_rule (wpAny_pure (h _ h0)))
  case pos =>
    have h' : ∀ s', J s' → Q r s' := fun s' j => by simpa [hsz] using h s' j
    have hits' := hits (by rw [hla, hlb]; exact hsz)
    rw [if_neg (by rw [hsz]; simp)]
    refine wpAny_bind (wpAny_dictEpoch hoa hda ?_)
    refine wpAny_bind ?_
    rw [Std.Legacy.Range.forIn_eq_forIn_range']
    simp only [Std.Legacy.Range.size, Nat.sub_zero, Nat.add_sub_cancel, Nat.div_one]
    refine wpAny_forIn_list _
      (fun rest q s' => J s' ∧ q = (none, ()) ∧ ∃ i, rest = List.range' i (es.size - i) ∧ i ≤ es.size ∧ VfHits prog w A E J kb (ka.drop i) r)
      _ ?_ ?_ _ _ ⟨h0, rfl, 0, by simp, Nat.zero_le _, hits'⟩
    · rintro x rest q s' ⟨js, rfl, i, hr, hi, hpre⟩
      have hlt : i < es.size := by
        rcases Nat.lt_or_ge i es.size with h | h
        · exact h
        · rw [Nat.sub_eq_zero_of_le h] at hr; simp at hr
      obtain ⟨rfl, hrest⟩ : x = i ∧ rest = List.range' (i + 1) (es.size - (i + 1)) := by
        have e : es.size - i = (es.size - (i + 1)) + 1 := by omega
        rw [e, List.range'_succ] at hr
        injection hr with h1 h2
        exact ⟨h1, h2⟩
      refine wpAny_bind (wpAny_dictEntries (hA js) hda ?_)
      rw [Array.getElem?_eq_getElem hlt]
      have hlt' : x < ka.length := by rw [hla]; exact hlt
      obtain ⟨k, v, hkv⟩ : ∃ k v, ka[x] = (k, v) := ⟨_, _, rfl⟩
      have hdrop : ka.drop x = (k, v) :: ka.drop (x + 1) := by rw [← hkv]; exact List.drop_eq_getElem_cons hlt'
      obtain ⟨hkey, hval⟩ := hpa.get? (i := x) (e := es[x]) (k := k) (v := v) (by rw [Array.getElem?_toList]; exact Array.getElem?_eq_getElem hlt) (by rw [List.getElem?_eq_getElem hlt', hkv])
      obtain ⟨k', hk', hh⟩ := hka es[x] (Array.getElem_mem hlt)
      have ekk : k' = k := knd.inj _ _ _ hk' hkey
      rw [ekk] at hh
      rw [hdrop] at hpre
      show wpAny _ _ (holding [es[x].key, es[x].val] _ >>= _) _ _ _
      rw [hh]
      refine wpAny_bind (wpAny_holding (wpAny_bind (wpAny_dictFind_of hkey (hB js) hdb hkb ?_)))
      cases hj : es'.findIdx? fun e => knd.is k e.key with
      | none =>
        have hn : valueAt kb k = none := by rw [← hfind k, findBy_of_findIdx?, hj]
        rcases hpre.inv with ⟨_, er⟩ | ⟨y, _, _, hy, _⟩
        · rw [er] at h'
          refine wpAny_pure ?_
          show wpAny _ _ (if (!false) = true then _ else _) _ _ _
          rw [if_pos (by decide)]
          exact wpAny_pure (wpAny_pure (h' _ js))
        · rw [hn] at hy; exact nomatch hy
      | some j =>
        obtain ⟨hjlt, _, _⟩ := Array.findIdx?_eq_some_iff_getElem.mp hj
        have hv' : valueAt kb k = some es'[j].val := by
          rw [← hfind k, findBy_of_findIdx?, hj]
          simp [Array.getElem?_eq_getElem hjlt]
        refine wpAny_bind (wpAny_dictEntries (hB js) hdb ?_)
        rw [Array.getElem?_eq_getElem hjlt]
        rcases hpre.inv with ⟨hn, _⟩ | ⟨y, e, b', hy, he, hrr, er⟩
        · rw [hv'] at hn; exact nomatch hn
        · have ey : es'[j].val = y := Option.some.inj (hv'.symm.trans hy)
          rw [← ey, ← hval] at he
          refine wpAny_holding (he _ _ js fun s2 js2 => ?_)
          cases e with
          | false =>
            rw [er, Bool.false_and] at h'
            show wpAny _ _ (if (!false) = true then _ else _) _ _ _
            rw [if_pos (by decide)]
            exact wpAny_pure (wpAny_pure (h' _ js2))
          | true =>
            rw [Bool.true_and] at er
            rw [← er] at hrr
            show wpAny _ _ (if (!true) = true then _ else _) _ _ _
            rw [if_neg (by decide)]
            refine wpAny_bind (wpAny_dictEpoch (hA js2) hda ?_)
            rw [if_neg (by simp)]
            exact wpAny_pure ⟨js2, rfl, x + 1, hrest, hlt, hrr⟩
    · rintro q s' ⟨js, rfl, i, hr, hi, hpre⟩
      have hin : i = es.size := by
        rcases Nat.lt_or_ge i es.size with h | h
        · have e : es.size - i = (es.size - (i + 1)) + 1 := by omega
          rw [e, List.range'_succ] at hr; exact nomatch hr
        · exact Nat.le_antisymm hi h
      refine wpAny_pure ?_
      rw [hin, ← hla, List.drop_length] at hpre
      cases hpre
      exact h' _ js
theorem vf_rcDicts {J : Shared → Prop} {a b : Addr} {ka kb : List (K × Value)} {r : Bool} (ha : (a == sysModules) = false) (hb : (b == sysModules) = false)
    (hJ : ∀ s', J s' → s'.heap.get? a = s.heap.get? a ∧ s'.heap.get? b = s.heap.get? b) (h0 : J s) (da : s.heap.DictOf knd a ka) (db : s.heap.DictOf knd b kb) (hu : A.units < cLine) (hits : ka.length = kb.length → VfHits prog w A.in1 E J kb ka r) {Q : Value → Shared → Prop} (h : ∀ s', J s' → Q (.bool (ka.length == kb.length && r)) s') : wpAny (model prog w) A (compareOp .Eq (.ref a) (.ref b)) Q E s := by
  refine wpAny_richCompare_same_room (op := .Eq) da.typeIs db.typeIs PySem.F.slot_dict_eq (wpAny_call_entry PySem.F.slot_dict_eq da.typeIs PySem.F.entry_dict_eq ?_ (PySem.F.args_dict_eq_2 _ _)) hu
  show wpAny _ _ (Builtin.Dict.dictSlotArgs "__eq__" ⟨[.ref a, .ref b], []⟩ >>= _) _ _ s
  refine wpAny_bind ?_
  unfold Builtin.Dict.dictSlotArgs
  refine wpAny_bind (wpAny_notOrdered_dict da.typeIs ?_)
  show wpAny _ _ (pure (Value.ref a, Value.ref b)) _ _ s
  refine wpAny_pure ?_
  refine wpAny_bind (wpAny_isInstance (T := "dict") db.typeIs PySem.F.sub_dict_dict ?_)
  simp only [Bool.not_true, Bool.false_eq_true, if_false]
  refine wpAny_bind (wpAny_pure (wpAny_bind (wpAny_pure ?_)))
  refine wpAny_bind (vf_samePairs ha hb hJ h0 da db hits fun s' js => ?_)
  refine wpAny_pure ⟨_, rfl, ?_, ?_⟩
  · exact fun x => nomatch x
  · simpa using h s' js
end
end PySem.W
namespace Vf
open PySem PySem.Spec PyProof.Rows L2
/-- the entries of a dict against another dict; ls: the other one -/
inductive DHits (D : V → V → Bool → Prop) (ls : List (Key × V)) : List (Key × V) → Bool → Prop
  | nil : DHits D ls [] true
  | miss {k : Key} {v : V} {r : List (Key × V)} : valV ls k = none → DHits D ls ((k, v) :: r) false
  | hit {k : Key} {v y : V} {r : List (Key × V)} {e b : Bool} : valV ls k = some y → D v y e → DHits D ls r b → DHits D ls ((k, v) :: r) (e && b)
theorem DHits.vf {P : Program} {w : World} {A : Around} {E : Value → Shared → Prop} {J : Shared → Prop} {D : V → V → Bool → Prop} {ls : List (Key × V)} {vb : List (Key × Value)} (rb : KV ls vb)
    (hD : ∀ {x y u v b}, D x y b → RelV x u → RelV y v → PySem.W.VfEqJ P w A E J u v b) : ∀ {ks : List (Key × V)} {va : List (Key × Value)} {r : Bool}, KV ks va → DHits D ls ks r → PySem.W.VfHits P w A E J vb va r
  | [], _, _, ra, h => by
    cases h
    cases ra
    exact .nil
  | (k, x) :: ks, va, r, ra, h => by
    cases ra with
    | @cons _ q _ qs h1 h2 =>
      obtain ⟨e, rx⟩ := h1
      obtain ⟨k', u⟩ := q
      dsimp only at e
      subst e
      have hv := rb.val k
      cases h with
      | miss hn =>
        rw [hn] at hv
        refine .miss ?_
        cases hq : valueAt vb k with
        | none => rfl
        | some z =>
          rw [hq] at hv
          exact hv.elim
      | hit hy he hr =>
        rw [hy] at hv
        obtain ⟨z, hz, rz⟩ := hv.some_of
        exact .hit hz (hD he rx rz) (DHits.vf rb hD h2 hr)
section
variable {X : Cx}
/-- == of two dicts by the values' own == -/
def rEqDB (D : Eqb) : R2 := fun x y H Q => ∃ a b ks ls r, x = .ref a ∧ y = .ref b ∧ a ≠ b ∧ H a = some (.dK ks) ∧ H b = some (.dK ls) ∧
  (ks.length = ls.length → DHits (fun v y e => ∀ H', (∀ c o, c ≠ a → c ≠ b → H c = some o → H' c = some o) → D v y H' e) ls ks r) ∧ ∀ H', Ext H H' → Q (.bl (ks.length == ls.length && r)) H'
theorem op_eqDB {n : Nat} {D : Eqb} (h : EqB X n D) (hr : Room (n + 1) X.A) : OpR X (compareOp .Eq) (rEqDB D) := by
  intro pins s σ H x y v u Q I rx ry hq
  obtain ⟨a, b, ks, ls, r, rfl, rfl, nab, ea, eb, hits, q⟩ := hq
  cases rx
  cases ry
  obtain ⟨_, ya, va, ra, da⟩ := (show ObjOk X.prog X.w H s.heap a (.dK ks) from I.hok a _ ea)
  obtain ⟨_, yb, vb, rb, db⟩ := (show ObjOk X.prog X.w H s.heap b (.dK ls) from I.hok b _ eb)
  obtain ⟨oa, Ia⟩ := I.lock ea trivial
  have eb1 : (upd H a (.frz oa (.dK ks))) b = some (.dK ls) := by rw [upd_ne nab.symm]; exact eb
  obtain ⟨ob, Ib⟩ := Ia.lock eb1 trivial
  have fa : (upd (upd H a (.frz oa (.dK ks))) b (.frz ob (.dK ls))) a = some (.frz oa (.dK ks)) := by rw [upd_ne nab, upd_same]
  have fb : (upd (upd H a (.frz oa (.dK ks))) b (.frz ob (.dK ls))) b = some (.frz ob (.dK ls)) := upd_same
  have out : ∀ c o, c ≠ a → c ≠ b → H c = some o → (upd (upd H a (.frz oa (.dK ks))) b (.frz ob (.dK ls))) c = some o := fun c o h1 h2 e => by rw [upd_ne h2, upd_ne h1]; exact e
  have noa := I.nofrz ea trivial
  have nob := Ia.nofrz eb1 trivial
  generalize upd (upd H a (.frz oa (.dK ks))) b (.frz ob (.dK ls)) = H2 at Ib fa fb out
  refine PySem.W.vf_rcDicts (knd := mixKind X.prog X.w) (r := r) (J := fun s' => ∃ H', L2.Inv X pins σ H' s' ∧ Ext H2 H') ya yb (fun s' js => ?_) ⟨H2, Ib, Ext.rfl'⟩ da db hr.units0 (fun hl => ?_) fun s' js => ?_
  · obtain ⟨H', I', e⟩ := js
    exact ⟨(I'.frzK (e _ _ fa)).2.1.trans (Ib.frzK fa).2.1.symm, (I'.frzK (e _ _ fb)).2.1.trans (Ib.frzK fb).2.1.symm⟩
  · refine DHits.vf rb (fun {x y u v bb} hd rx ry s2 Q2 js k => ?_) ra (hits (by rw [ra.length, rb.length]; exact hl))
    obtain ⟨H', I', e⟩ := js
    refine wpAny_mono (h X.A.in1 pins s2 σ H' x y u v bb ⟨hr.in1, rfl⟩ I' rx ry (hd H' fun c o h1 h2 hc => e _ _ (out c o h1 h2 hc))) (fun r2 s3 q2 => ?_) fun _ _ z => z
    obtain ⟨h2, H3, I3, e2⟩ := q2
    subst h2
    exact k s3 ⟨H3, I3, e.trans e2⟩
  · obtain ⟨H', I', e⟩ := js
    have fa' := e _ _ fa
    have fb' := e _ _ fb
    have I2 := I'.unlock fb' nob
    have fa2 : (upd H' b (.dK ls)) a = some (.frz oa (.dK ks)) := by rw [upd_ne nab]; exact fa'
    have I3 := I2.unlock fa2 noa
    refine ⟨.bl _, _, I3, by rw [← ra.length, ← rb.length]; rfl, q _ fun c o hc => ?_⟩
    by_cases h1 : c = a
    · subst h1
      rw [ea] at hc
      cases hc
      exact upd_same
    · rw [upd_ne h1]
      by_cases h2 : c = b
      · subst h2
        rw [eb] at hc
        cases hc
        exact upd_same
      · rw [upd_ne h2]
        exact e _ _ (out c o h1 h2 hc)
/-- data beside data -/
def DDat (K : PySem.W.Frag) : Eqb := fun x y H b => ∃ d e, Dp K H x d ∧ Dp K H y e ∧ SeqAt.shaped d = true ∧ SeqAt.shaped e = true ∧ b = PyData.eqv d e ∧ (x = y → b = true)
theorem eqB_dat {n : Nat} : EqB X n (DDat X.K) := fun A pins s σ H x y u v b sb I rx ry hd => by
  obtain ⟨d, e, h1, h2, sd, se, rfl, hid⟩ := hd
  obtain ⟨as, r1⟩ := Dp.reads I d x u h1 rx
  obtain ⟨bs, r2⟩ := Dp.reads I e y v h2 ry
  have hf : ∀ i t, u ≠ .float i t := fun i t z => by
    subst z
    cases h1 <;> first | (cases rx; done) | (obtain ⟨_, z⟩ := rx; cases z; done)
  have hxy : (u == v) = true → x = y := fun z => by
    have euv := eq_of_beq z
    subst euv
    cases h1 <;> cases h2 <;> first
      | (cases rx; cases ry; rfl)
      | (cases rx; cases ry; done)
      | (obtain ⟨t, q⟩ := rx; obtain ⟨t', q'⟩ := ry; rw [q] at q'; injection q' with q1 q2; rw [q1])
      | (obtain ⟨t, q⟩ := rx; obtain ⟨t', q'⟩ := ry; rw [q] at q'; cases q'; done)
      | (cases rx; obtain ⟨t, q⟩ := ry; cases q; done)
      | (obtain ⟨t, q⟩ := rx; cases ry; cases q; done)
  exact eqB_of_rc (fun z => hid (hxy z)) hf I (SeqAt.compareEq_shaped (A := A) r1 r2 sd se sb.room.units ⟨.bl _, H, I, rfl, rfl, Ext.rfl'⟩)
end
end Vf

set_option Elab.async false
set_option linter.all false
set_option maxRecDepth 100000
set_option maxHeartbeats 2000000
namespace PySem.W
open PySem PySem.SeqAt MeetsSeq
section
variable {prog : Program} {w : World} {A : Around} {E : Value → Shared → Prop} {s : Shared} {a : Addr} {o : Obj}
theorem vf_no_dic_str {z : Str} {t : Tok} (ha : s.heap.get? a = some o) (hc : o.cls = .type "dict") {Q : Fin → Shared → Prop} (h : Q (.done (.ret .notImplemented)) s) : wpAny (model prog w) A (PySem.Builtin.«dict.__eq__» ⟨[.ref a, .str z t], []⟩) Q E s := by
  have f1 := PySem.F.sub_str_dict
  wp_walk
  exact h
theorem vf_no_str_dic {z : Str} {t : Tok} {es : Array DictEntry} {ep : Nat} (ha : s.heap.get? a = some o) (hd : o.data = .dict es ep) {Q : Fin → Shared → Prop} (h : Q (.done (.ret .notImplemented)) s) : wpAny (model prog w) A (PySem.Builtin.«str.__eq__» ⟨[.str z t, .ref a], []⟩) Q E s := by
  obtain ⟨hp, gg, d, tk, os⟩ := s
  obtain ⟨oc, odd, oda, osl⟩ := o
  dsimp only at hd
  subst hd
  wp_walk using AutoSeq1.wpAny_loadPart' ha
  exact h
theorem vf_rc_str_dict {b : Str} {u : Tok} {es : Array DictEntry} {ep : Nat} (ho : s.heap.get? a = some o) (hc : o.cls = .type "dict") (hd : o.data = .dict es ep) (hu : A.units < cLine) : RcAt A s (.str b u) (.ref a) false := fun prog w E Q h => by
  have tb : s.TypeIs (.ref a) "dict" := ⟨o, ho, hc⟩
  exact rc_eq_decline_or (k := false) (typeIs_str s b u) tb (by decide) PySem.F.sub_dict_str PySem.F.slot_str_eq PySem.F.slot_dict_eq_refl
    (fun _ hq => wpAny_call_entry PySem.F.slot_str_eq (typeIs_str s b u) PySem.F.entry_str_eq (vf_no_str_dic ho hd ⟨_, rfl, hq⟩) (PySem.F.args_str_eq_2 _ _))
    (fun _ hq => wpAny_call_entry PySem.F.slot_dict_eq_refl tb PySem.F.entry_dict_eq (vf_no_dic_str ho hc ⟨_, rfl, hq⟩) (PySem.F.args_dict_eq_2 _ _))
    (fun _ hq => wpAny_of_eq (rfl : isSame (.str b u) (.ref a) = pure false) hq) (.inr hu) h
theorem vf_str_dict {b : Str} {u : Tok} {es : Array DictEntry} {ep : Nat} (ho : s.heap.get? a = some o) (hc : o.cls = .type "dict") (hd : o.data = .dict es ep) (hu : A.units < cLine) : EqAt A s (.str b u) (.ref a) false := fun prog w E Q h => by
  unfold eqBool
  refine wpAny_holding ?_
  refine wpAny_ite_split (fun hab => absurd (eq_of_beq hab) nofun) (fun _ => ?_)
  exact wpAny_bind (vf_rc_str_dict ho hc hd hu prog w E _ (wpAny_truthy_bool h))
end
end PySem.W
namespace Vf
open PySem PySem.Spec PyProof.Rows L2
/-- == of two items, in place -/
inductive EqI (K : PySem.W.Frag) (H : Hp) : V → V → Bool → Prop
  | flat {x y : V} : flatV x = true → flatV y = true → EqI K H x y (eqV x y)
  | same (a : Addr) : EqI K H (.ref a) (.ref a) true
  | strT {z : Str} {a : Addr} {xs : List V} : SqT K H a xs → EqI K H (.str z) (.ref a) false
  | strL {z : Str} {a : Addr} {xs : List V} : SqL K H a xs → EqI K H (.str z) (.ref a) false
  | strD {z : Str} {a : Addr} {ks : List (Key × V)} : H a = some (.dK ks) → EqI K H (.str z) (.ref a) false
section
variable {X : Cx} {pins : List (Addr × Obj)} {σ : L2.St} {H : Hp} {s : Shared}
theorem EqI.at (I : L2.Inv X pins σ H s) {A : Around} {x y : V} {u v : Value} {b : Bool} (h : EqI X.K H x y b) (rx : RelV x u) (ry : RelV y v) (hu : A.units < cLine) : SeqAt.EqAt A s u v b := by
  cases h with
  | flat fx fy => exact eqAt_V rx ry fx fy
  | same a =>
    cases rx
    cases ry
    exact SeqAt.EqAt.same _
  | strT h =>
    obtain ⟨t, rfl⟩ := rx
    cases ry
    obtain ⟨its, r, p, _⟩ := I.tuple h
    exact SeqAt.EqAt.str_tuple _ _ p hu
  | strL h =>
    obtain ⟨t, rfl⟩ := rx
    cases ry
    obtain ⟨its, r, p, _⟩ := I.list h
    exact SeqAt.EqAt.str_list _ _ p.isList hu
  | strD h =>
    obtain ⟨t, rfl⟩ := rx
    cases ry
    obtain ⟨_, _, vs, _, o, es, ep, h1, h2, h3, _⟩ := (show ObjOk X.prog X.w H s.heap _ (.dK _) from I.hok _ _ h)
    exact PySem.W.vf_str_dict h1 h2.1 h3 hu
end
theorem vals_mem : ∀ {xs : List V} {us : List Value} {w : Value}, Vals xs us → w ∈ us → ∃ z ∈ xs, RelV z w
  | _, _, _, .nil, h => nomatch h
  | _, _, _, .cons r t, h => by
    rcases List.mem_cons.mp h with rfl | h
    · exact ⟨_, List.mem_cons_self, r⟩
    · obtain ⟨z, hz, rz⟩ := vals_mem t h
      exact ⟨z, List.mem_cons_of_mem _ hz, rz⟩
def answ (e : V → Bool) (w : Value) : Bool := match absV w with | some z => e z | none => false
theorem answ_of (e : V → Bool) {z : V} {w : Value} (r : RelV z w) : answ e w = e z := by
  unfold answ
  rw [r.abs]
theorem any_answ (e : V → Bool) : ∀ {xs : List V} {us : List Value}, Vals xs us → us.any (answ e) = xs.any e
  | _, _, .nil => rfl
  | _, _, .cons r t => by
    rw [List.any_cons, List.any_cons, answ_of e r, any_answ e t]
theorem items_at {A : Around} {s : Shared} {F : V → V → Prop} (ih : ∀ {x y v u}, RelV x v → RelV y u → F x y → SeqAt.EqAt A s v u true) {xs ys : List V} (hp : Paired F xs ys) :
    ∀ {us ws : List Value}, Vals xs us → Vals ys ws → ∀ j (h1 : j < us.length) (h2 : j < ws.length), SeqAt.EqAt A s us[j] ws[j] true := by
  induction hp with
  | nil =>
    intro us ws r1 r2 j h1 h2
    cases r1
    exact absurd h1 (Nat.not_lt_zero j)
  | cons h _ k =>
    intro us ws r1 r2 j h1 h2
    cases r1 with
    | cons a1 b1 =>
      cases r2 with
      | cons a2 b2 =>
        cases j with
        | zero => exact ih a1 a2 h
        | succ j => exact k b1 b2 j (Nat.lt_of_succ_lt_succ h1) (Nat.lt_of_succ_lt_succ h2)
section
variable {X : Cx}
/-- x not in l, l a list, item by item -/
def rNotInI (K : PySem.W.Frag) : R2 := fun x y H Q => ∃ (p : Addr) (xs : List V) (e : V → Bool), y = .ref p ∧ SqL K H p xs ∧ (∀ z ∈ xs, EqI K H z x (e z)) ∧ Q (.bl (!xs.any e)) H
theorem op_notInI (hu : X.A.units + 64 < cLine) : OpR X (compareOp .NotIn) (rNotInI X.K) := by
  intro pins s σ H x y v u Q I rx ry h
  obtain ⟨p, xs, e, rfl, hx, hall, q⟩ := h
  cases ry
  obtain ⟨its, r, pl, hz⟩ := I.list hx
  refine SeqAt.notIn_listAt (answ e) pl.isList (fun w hw => ?_) ⟨.bl _, H, I, rfl, ?_⟩
  · obtain ⟨z, hz, rz⟩ := vals_mem r (by simpa using hw)
    rw [answ_of e rz]
    exact (hall z hz).at I rz rx (by show X.A.units + 1 < cLine; omega)
  · rw [List.any_toArray, any_answ e r]
    exact q
/-- l != m, two lists or two tuples of equal items -/
def rNe0 (K : PySem.W.Frag) : R2 := fun x y H Q => ∃ (a b : Addr) (xs ys : List V), x = .ref a ∧ y = .ref b ∧ ((SqT K H a xs ∧ SqT K H b ys) ∨ (SqL K H a xs ∧ SqL K H b ys)) ∧ Paired (fun z z' => EqI K H z z' true) xs ys ∧ Q (.bl false) H
theorem op_ne0 (hu : X.A.units + 64 < cLine) : OpR X (compareOp .NotEq) (rNe0 X.K) := by
  intro pins s σ H x y v u Q I rx ry h
  obtain ⟨a, b, xs, ys, rfl, rfl, hq, hp, q⟩ := h
  cases rx
  cases ry
  have hu1 : X.A.in1.units < cLine := by show X.A.units + 1 < cLine; omega
  rcases hq with ⟨ha, hb⟩ | ⟨ha, hb⟩
  · obtain ⟨us, r1, p1, _⟩ := I.tuple ha
    obtain ⟨ws, r2, p2, _⟩ := I.tuple hb
    have hs : us.toArray.size = ws.toArray.size := by rw [List.size_toArray, List.size_toArray, ← r1.length, ← r2.length]; exact Paired.length hp
    refine SeqAt.RcNeAt.tuples (e := fun _ => true) p1 p2 (by omega) (fun j h1 h2 => ?_) _ _ _ _ ?_
    · have := items_at (fun r1 r2 k => EqI.at I k r1 r2 hu1) hp r1 r2 j (by simpa using h1) (by simpa using h2)
      simpa using this
    · rw [hs, show ((List.range (min ws.toArray.size ws.toArray.size)).all fun _ => true) = true from List.all_eq_true.mpr fun _ _ => rfl, beq_self_eq_true]
      exact ⟨.bl false, H, I, rfl, q⟩
  · obtain ⟨us, r1, p1, _⟩ := I.list ha
    obtain ⟨ws, r2, p2, _⟩ := I.list hb
    have hs : us.toArray.size = ws.toArray.size := by rw [List.size_toArray, List.size_toArray, ← r1.length, ← r2.length]; exact Paired.length hp
    refine SeqAt.RcNeAt.lists (e := fun _ => true) p1.isList p2.isList hs (by omega) (fun j h1 h2 => ?_) _ _ _ _ ?_
    · have := items_at (fun r1 r2 k => EqI.at I k r1 r2 hu1) hp r1 r2 j (by simpa using h1) (by simpa using h2)
      simpa using this
    · rw [show ((List.range us.toArray.size).all fun _ => true) = true from List.all_eq_true.mpr fun _ _ => rfl]
      exact ⟨.bl false, H, I, rfl, q⟩
/-- d != e, two dicts of equal items -/
def rNe0D (K : PySem.W.Frag) : R2 := fun x y H Q => ∃ (a b : Addr) (ks ls : List (Key × V)), x = .ref a ∧ y = .ref b ∧ H a = some (.dK ks) ∧ H b = some (.dK ls) ∧ ks.length = ls.length ∧ (∀ p ∈ ks, ∃ u, valV ls p.1 = some u ∧ EqI K H p.2 u true) ∧ Q (.bl false) H
theorem op_ne0D (hu : X.A.units + 64 < cLine) : OpR X (compareOp .NotEq) (rNe0D X.K) := by
  intro pins s σ H x y v u Q I rx ry h
  obtain ⟨a, b, ks, ls, rfl, rfl, ha, hb, hl, hp, q⟩ := h
  cases rx
  cases ry
  have hu1 : X.A.in1.units < cLine := by show X.A.units + 1 < cLine; omega
  obtain ⟨_, ya, va, ra, da⟩ := (show ObjOk X.prog X.w H s.heap a (.dK ks) from I.hok a _ ha)
  obtain ⟨_, yb, vb, rb, db⟩ := (show ObjOk X.prog X.w H s.heap b (.dK ls) from I.hok b _ hb)
  have e : va.length = vb.length := by rw [← ra.length, ← rb.length]; exact hl
  refine PySem.W.keq_ne (knd := mixKind X.prog X.w) (r := true) ya yb da db (by omega) (fun _ => ?_) ?_
  · have go : ∀ {ks : List (Key × V)} {va : List (Key × Value)}, KV ks va → (∀ p ∈ ks, ∃ u, valV ls p.1 = some u ∧ EqI X.K H p.2 u true) → PySem.W.KeqHits X.A.in1 s vb va true := by
      intro ks va ra
      unfold KV at ra
      induction ra with
      | nil => intro _; exact .nil
      | @cons p q ps qs h t k =>
        intro hp
        obtain ⟨h1, h2⟩ := h
        obtain ⟨u, e, f⟩ := hp p List.mem_cons_self
        have rr : RelO (some u) (valueAt vb p.1) := by rw [← e]; exact rb.val p.1
        obtain ⟨y, hy, ry⟩ := rr.some_of
        obtain ⟨key, v⟩ := q
        have h1' : p.1 = key := h1
        rw [h1'] at hy
        show PySem.W.KeqHits X.A.in1 s vb ((key, v) :: qs) (true && true)
        exact .hit hy (f.at I h2 ry hu1) (k fun p' hm => hp p' (List.mem_cons_of_mem _ hm))
    exact go ra hp
  · rw [show (!(va.length == vb.length && true)) = false from by rw [e]; simp]
    exact ⟨.bl false, H, I, rfl, q⟩
end
end Vf

set_option Elab.async false
set_option linter.all false
set_option maxRecDepth 100000
set_option maxHeartbeats 2000000
namespace Vf
open PySem PySem.Spec PyProof.Rows L2
/-! ### properties: their getters, found by the class and the name -/
def gAd (K : PySem.W.Frag) (c m : Str) : Addr := match PySem.W.recIn K (He.ma K (He.ga K c) m) "property" with
  | some (.ref f :: _) => f
  | _ => 0
structure GetD where
  cls : Str
  attr : Str
  d : He.DefD
def GetD.val (g : GetD) : He.FnW := g.d.val
def gnW (K : PySem.W.Frag) (g : GetD) : He.FnW := match K.lookup (gAd K g.cls g.attr) with
  | some ⟨_, _, .func fd, _⟩ => some (fd.name, fd.qualname, fd.params, fd.body, fd.scope, fd.globals, fd.closure, fd.builtins)
  | _ => none
def propB (K : PySem.W.Frag) (C : Addr) (m : Str) : Bool := He.eqO (PySem.W.findIn K (.ref C) m) (some (some (.ref (He.ma K C m)))) && (He.eqO (PySem.W.specialIn K (.ref (He.ma K C m)) "__get__") (some (some (.builtin "property.__get__"))) &&
  (decide (PySem.W.takesIn K (.ref (He.ma K C m)) = some true) && (match PySem.W.recIn K (He.ma K C m) "property" with
    | some (.ref _ :: _) => true
    | _ => false)))
def GetD.ok (K : PySem.W.Frag) (g : GetD) : Bool := propB K (He.ga K g.cls) g.attr && (PySem.W.keepIn K (.ref (gAd K g.cls g.attr)) && (match K.lookup (gAd K g.cls g.attr) with
  | some ⟨_, _, .func fd, _⟩ => PySem.W.codeIn K fd.code g.d.qual && (He.dflB K fd.defaults (g.d.dvs K) && He.kwdB K fd.kwdefaults (g.d.kws K))
  | _ => false))
theorem propB_ok {K : PySem.W.Frag} {c m : Str} (h : propB K (He.ga K c) m = true) : PropOf K (He.ga K c) m (He.ma K (He.ga K c) m) (gAd K c m) := by
  obtain ⟨h1, h⟩ := He.ba h
  obtain ⟨h2, h⟩ := He.ba h
  obtain ⟨h3, h4⟩ := He.ba h
  refine ⟨He.eqO_ok h1, He.eqO_ok h2, of_decide_eq_true h3, ?_⟩
  unfold gAd
  split at h4
  · rename_i f r e
    exact ⟨r, by rw [e]⟩
  · cases h4
theorem GetD.funD {K : PySem.W.Frag} {g : GetD} (e : gnW K g = g.d.val) (c : g.ok K = true) : (∃ fd, FunD K g.d.name g.d.qual g.d.params g.d.body g.d.scope (g.d.dvs K) (g.d.kws K) (gAd K g.cls g.attr) fd) ∧ PropOf K (He.ga K g.cls) g.attr (He.ma K (He.ga K g.cls) g.attr) (gAd K g.cls g.attr) := by
  obtain ⟨pr, c⟩ := He.ba c
  refine ⟨?_, propB_ok pr⟩
  obtain ⟨kp, c2⟩ := He.ba c
  unfold gnW at e
  cases q : K.lookup (gAd K g.cls g.attr) with
  | none =>
    rw [q] at c2
    cases c2
  | some o =>
    obtain ⟨oc, od, dt, osl⟩ := o
    rw [q] at c2 e
    cases dt with
    | func fd =>
      obtain ⟨n1, n2, n3, n4, n5, n6, n7, n8, n9, n10, n11, n12, n13, n14, n15⟩ := fd
      have e2 : (some (n1, n2, n3, n4, n5, n6, n7, n15) : He.FnW) = some (g.d.name, g.d.qual, g.d.params, .stmts g.d.body, g.d.scope, mainGlobals, [], builtinsNs) := e
      simp only [Option.some.injEq, Prod.mk.injEq] at e2
      obtain ⟨h1, h2, h3, h4, h5, h6, h7, h8⟩ := e2
      subst h1 h2 h3 h4 h5 h6 h7 h8
      have c3 : (PySem.W.codeIn K n13 g.d.qual && (He.dflB K n8 (g.d.dvs K) && He.kwdB K n9 (g.d.kws K))) = true := c2
      obtain ⟨k1, k2⟩ := He.ba c3
      obtain ⟨k3, k4⟩ := He.ba k2
      exact ⟨_, ⟨oc, od, n8, n9, n10, n11, n12, n13, n14, osl, rfl, q, k1, He.dflB_ok k3, He.kwdB_ok k4⟩, kp⟩
    | _ => cases c2
/-! ### the head's hook, with properties -/
abbrev AlP : Type := Bool × List He.FnW × List He.FnW
def obsP (ex : PySem.W.Frag → Bool) (fn : List He.DefD) (gs : List GetD) (K : PySem.W.Frag) : AlP := (ex K && ((fn.all fun d => d.ok K) && gs.all fun g => g.ok K), fn.map fun d => He.fnW K d.at_, gs.map (gnW K))
def SaysP (ex : PySem.W.Frag → Bool) (fn : List He.DefD) (gs : List GetD) (K : PySem.W.Frag) : Prop := obsP ex fn gs K = (true, fn.map He.DefD.val, gs.map GetD.val)
def obsPG (n : Nat) (ex : PySem.W.Frag → Bool) (fn : List He.DefD) (gs : List GetD) (g : Addr → Option Obj) : AlP := obsP ex fn gs (He.frG g (He.asD g n))
def hookP (n : Nat) (ex : PySem.W.Frag → Bool) (fn : List He.DefD) (gs : List GetD) : PySem.W.Hook where
  α := AlP
  obs := fun s => obsPG n ex fn gs s.heap.get?
  val := fun _ => (true, fn.map He.DefD.val, gs.map GetD.val)
  says := fun _ h => ∃ K : PySem.W.Frag, K.In h ∧ SaysP ex fn gs K
  of := fun _ _ e => ⟨_, He.frG_in, e⟩
  keeps := fun _ _ _ ⟨K, hK, c⟩ k => ⟨K, PySem.W.Frag.In.keeps hK k, c⟩
theorem obsPG_eq {n : Nat} {ex : PySem.W.Frag → Bool} {fn : List He.DefD} {gs : List GetD} {g : Addr → Option Obj} {s : Shared} (h : ∀ a, g a = s.heap.get? a) : obsPG n ex fn gs g = (hookP n ex fn gs).obs s := by
  have e : g = s.heap.get? := funext h
  rw [e]
  rfl
theorem SaysP.ex {ex : PySem.W.Frag → Bool} {fn : List He.DefD} {gs : List GetD} {K : PySem.W.Frag} (c : SaysP ex fn gs K) : ex K = true := (He.ba (congrArg (fun z : AlP => z.1) c)).1
theorem SaysP.fn {ex : PySem.W.Frag → Bool} {fn : List He.DefD} {gs : List GetD} {K : PySem.W.Frag} (c : SaysP ex fn gs K) (i : Nat) {d : He.DefD} (h : fn[i]? = some d := by rfl) : ∃ fd, FunD K d.name d.qual d.params d.body d.scope (d.dvs K) (d.kws K) (He.fAd K d.at_) fd := by
  have c2 := (He.ba (He.ba (congrArg (fun z : AlP => z.1) c)).2).1
  have e : fn.map (fun d => He.fnW K d.at_) = fn.map He.DefD.val := congrArg (fun z : AlP => z.2.1) c
  have e2 : He.fnW K d.at_ = d.val := by
    have e3 : (fn.map fun d => He.fnW K d.at_)[i]? = (fn.map He.DefD.val)[i]? := by rw [e]
    simp only [List.getElem?_map, h, Option.map_some] at e3
    exact Option.some.inj e3
  exact He.DefD.funD e2 (List.all_eq_true.mp c2 d (List.mem_of_getElem? h))
theorem SaysP.gt {ex : PySem.W.Frag → Bool} {fn : List He.DefD} {gs : List GetD} {K : PySem.W.Frag} (c : SaysP ex fn gs K) (i : Nat) {g : GetD} (h : gs[i]? = some g := by rfl) : (∃ fd, FunD K g.d.name g.d.qual g.d.params g.d.body g.d.scope (g.d.dvs K) (g.d.kws K) (gAd K g.cls g.attr) fd) ∧ PropOf K (He.ga K g.cls) g.attr (He.ma K (He.ga K g.cls) g.attr) (gAd K g.cls g.attr) := by
  have c2 := (He.ba (He.ba (congrArg (fun z : AlP => z.1) c)).2).2
  have e : (gs.map (gnW K)) = gs.map GetD.val := congrArg (fun z : AlP => z.2.2) c
  have e2 : gnW K g = g.val := by
    have e3 : (gs.map (gnW K))[i]? = (gs.map GetD.val)[i]? := by rw [e]
    simp only [List.getElem?_map, h, Option.map_some] at e3
    exact Option.some.inj e3
  exact GetD.funD e2 (List.all_eq_true.mp c2 g (List.mem_of_getElem? h))
/-- the getter keeps its promise -/
structure OkG (P : Program) (w : World) (K : PySem.W.Frag) (mg : Str → Option Value) (base : Heap) (CX : CXT) (k : Nat) (c m : Str) (sp : Sp) : Prop where
  ex : ∃ fd, FnOk P w K mg base CX k (gAd K c m) fd ["self"] sp ∧ Binds K fd ["self"] []
  pr : PropOf K (He.ga K c) m (He.ma K (He.ga K c) m) (gAd K c m)
theorem pe_propG {X : Cx} {k j : Nat} {c m : Str} {sp : Sp} {e : Expr} {pos : Pos} {ta : TE} (he : PE X e ta) (cl : Cls X.K (He.ga X.K c)) (O : OkG X.prog X.w X.K X.mg X.base CX0 k c m sp) (hr : Room j X.A) (hj : k + 1 ≤ j)
    (hab : attributeBase e m X.env (eval e X.env) = eval e X.env) : PE X (.Attribute e m pos) (tProp (He.ga X.K c) sp [] E0 ta) := by
  obtain ⟨fd, F, b⟩ := O.ex
  exact pe_prop he cl O.pr F (hr.mono hj) b .nil pass0 hab
end Vf

set_option Elab.async false
set_option linter.all false
set_option maxRecDepth 100000
set_option maxHeartbeats 2000000
namespace PySem.W
open PySem PySem.SeqAt MeetsSeq
section
variable {prog : Program} {w : World} {A : Around} {E : Value → Shared → Prop} {s : Shared} {a b : Addr} {o : Obj}
/-- a dict's slot declines what is no dict -/
theorem vf_dic_no {v : Value} {T : String} (ha : s.TypeIs (.ref a) "dict") (hT : s.TypeIs v T) (hs : isSubtype (.type T) (.type "dict") = pure false) {Q : Fin → Shared → Prop} (h : Q (.done (.ret .notImplemented)) s) : wpAny (model prog w) A (PySem.Builtin.«dict.__eq__» ⟨[.ref a, v], []⟩) Q E s := by
  wp_walk using wpAny_isInstance hT hs
  exact h
theorem vf_none_no {Q : Fin → Shared → Prop} (h : Q (.done (.ret .notImplemented)) s) : wpAny (model prog w) A (PySem.Builtin.«NoneType.__eq__» ⟨[.none, .ref a], []⟩) Q E s := by
  wp_walk
  exact h
theorem vf_int_no {v : Value} {es : Array DictEntry} {ep : Nat} (hv : (∃ c, v = .bool c) ∨ ∃ i t, v = .int i t) (ha : s.heap.get? a = some o) (hd : o.data = .dict es ep) {Q : Fin → Shared → Prop} (h : Q (.done (.ret .notImplemented)) s) : wpAny (model prog w) A (PySem.Builtin.«int.__eq__» ⟨[v, .ref a], []⟩) Q E s := by
  obtain ⟨hp, gg, d, tk, os⟩ := s
  obtain ⟨oc, odd, oda, osl⟩ := o
  dsimp only at hd
  subst hd
  rcases hv with ⟨c, rfl⟩ | ⟨i, t, rfl⟩
  · wp_walk using AutoSeq1.wpAny_loadPart' ha
    exact h
  · wp_walk using AutoSeq1.wpAny_loadPart' ha
    exact h
theorem vf_tup_no {T : String} (hT : s.TypeIs (.ref a) T) (hs : isSubtype (.type T) (.type "tuple") = pure false) {Q : Fin → Shared → Prop} (h : Q (.done (.ret .notImplemented)) s) : wpAny (model prog w) A (PySem.Builtin.«tuple.__eq__» ⟨[.ref b, .ref a], []⟩) Q E s := by
  wp_walk using wpAny_isInstance hT hs
  exact h
theorem vf_lst_no {T : String} (hT : s.TypeIs (.ref a) T) (hs : isSubtype (.type T) (.type "list") = pure false) {Q : Fin → Shared → Prop} (h : Q (.done (.ret .notImplemented)) s) : wpAny (model prog w) A (PySem.Builtin.«list.__eq__» ⟨[.ref b, .ref a], []⟩) Q E s := by
  wp_walk using wpAny_isInstance hT hs
  exact h
end
end PySem.W
namespace PySem.W
open PySem PySem.SeqAt MeetsSeq
/-- == answers no, asked either way -/
structure NoAt (A : Around) (s : Shared) (x y : Value) : Prop where
  rc : RcAt A s x y false
  eq : EqAt A s x y false
theorem eq_of_rc {A : Around} {s : Shared} {x y : Value} {b : Bool} (hxy : (x == y) = true → b = true) (hf : ∀ i t, x ≠ .float i t) (rc : RcAt A s x y b) : EqAt A s x y b := fun prog w E Q h => by
  unfold eqBool
  refine wpAny_holding ?_
  refine wpAny_ite_split (fun hab => ?_) (fun _ => ?_)
  · rw [hxy hab] at h
    first
      | exact wpAny_pure h
      | exact wpAny_bind (wpAny_rule (wpAny_pure h))
  · cases x with
    | float i t => exact absurd rfl (hf i t)
    | _ => exact wpAny_bind (rc prog w E _ (wpAny_truthy_bool h))
/-- both slots decline: not equal -/
theorem vf_no {A : Around} {s : Shared} {x y : Value} {Tx Ty idx idy : String} {Bx By : Builtin} (hx : s.TypeIs x Tx) (hy : s.TypeIs y Ty) (hne : (Value.type Tx != Value.type Ty) = true) (hxy : (x == y) = false) (hsub : isSubtype (.type Ty) (.type Tx) = pure false)
    (sx : Slot Tx (cmpInfo .Eq).2.1 idx) (sy : Slot Ty (cmpInfo .Eq).2.2 idy) (sy1 : Slot Ty (cmpInfo .Eq).2.1 idy) (ex : entryFor table idx = some Bx) (ey : entryFor table idy = some By) (ax : argsOk idx ⟨[x, y], []⟩) (ay : argsOk idy ⟨[y, x], []⟩)
    (bx : ∀ (prog : Program) (w : World) (A : Around) (E : Value → Shared → Prop) (Q : Fin → Shared → Prop), Q (.done (.ret .notImplemented)) s → wpAny (model prog w) A (Bx ⟨[x, y], []⟩) Q E s)
    (by_ : ∀ (prog : Program) (w : World) (A : Around) (E : Value → Shared → Prop) (Q : Fin → Shared → Prop), Q (.done (.ret .notImplemented)) s → wpAny (model prog w) A (By ⟨[y, x], []⟩) Q E s)
    (hs : ∀ (prog : Program) (w : World) (A : Around) (E : Value → Shared → Prop) (Q : Bool → Shared → Prop), Q false s → wpAny (model prog w) A (isSame x y) Q E s) (hf : ∀ i t, x ≠ .float i t) (hu : A.units < cLine) : NoAt A s x y := by
  have rc : RcAt A s x y false := fun prog w E Q h =>
    rc_eq_decline_or (k := false) hx hy hne hsub sx sy
      (fun _ hq => wpAny_call_entry sx hx ex (bx _ _ _ _ _ ⟨_, rfl, hq⟩) ax)
      (fun _ hq => wpAny_call_entry sy1 hy ey (by_ _ _ _ _ _ ⟨_, rfl, hq⟩) ay)
      (fun _ hq => hs _ _ _ _ _ hq) (.inr hu) h
  exact ⟨rc, eq_of_rc (fun z => absurd (z.symm.trans hxy) (by decide)) hf rc⟩
end PySem.W
namespace Vf
open PySem PySem.Spec PyProof.Rows L2 PySem.W
/-- == of two values: data, or a dict beside what is none, or two empty dicts -/
inductive EqW (K : PySem.W.Frag) (H : Hp) : V → V → Bool → Prop
  | dat {x y : V} {d e : PyData} : Dp K H x d → Dp K H y e → SeqAt.shaped d = true → SeqAt.shaped e = true → EqW K H x y (PyData.eqv d e)
  | dicL {y : V} {e : PyData} {a : Addr} {ks : List (Key × V)} : H a = some (.dK ks) → Dp K H y e → EqW K H (.ref a) y false
  | dicR {x : V} {d : PyData} {a : Addr} {ks : List (Key × V)} : Dp K H x d → H a = some (.dK ks) → EqW K H x (.ref a) false
  | dd {a b : Addr} : H a = some (.dK []) → H b = some (.dK []) → EqW K H (.ref a) (.ref b) true
section
variable {X : Cx} {pins : List (Addr × Obj)} {σ : L2.St} {H : Hp} {s : Shared}
theorem dic_obj (I : L2.Inv X pins σ H s) {a : Addr} {ks : List (Key × V)} (h : H a = some (.dK ks)) : ∃ o es ep, s.heap.get? a = some o ∧ o.cls = .type "dict" ∧ o.data = .dict es ep := by
  obtain ⟨_, _, vs, _, o, es, ep, h1, h2, h3, _⟩ := (show ObjOk X.prog X.w H s.heap _ (.dK _) from I.hok _ _ h)
  exact ⟨o, es, ep, h1, h2.1, h3⟩
theorem eqW_dicR (I : L2.Inv X pins σ H s) {A : Around} {x : V} {u : Value} {d : PyData} {a : Addr} {ks : List (Key × V)} (h : Dp X.K H x d) (ha : H a = some (.dK ks)) (rx : RelV x u) (hu : A.units < cLine) : NoAt A s u (.ref a) := by
  obtain ⟨o, es, ep, ho, hc, hd⟩ := dic_obj I ha
  have ta : s.TypeIs (.ref a) "dict" := ⟨o, ho, hc⟩
  cases h with
  | non =>
    cases rx
    exact vf_no (rfl : s.TypeIs .none "NoneType") ta (by decide) rfl PySem.F.sub_dict_NoneType PySem.F.slot_NoneType_eq PySem.F.slot_dict_eq_refl PySem.F.slot_dict_eq PySem.F.entry_NoneType_eq PySem.F.entry_dict_eq (PySem.F.args_NoneType_eq_2 _ _) (PySem.F.args_dict_eq_2 _ _)
      (fun _ _ _ _ _ q => vf_none_no q) (fun _ _ _ _ _ q => vf_dic_no (v := .none) (T := "NoneType") ta rfl PySem.F.sub_NoneType_dict q) (fun _ _ _ _ _ q => wpAny_of_eq (rfl : isSame .none (.ref a) = pure false) q) (fun _ _ z => nomatch z) hu
  | bl b =>
    cases rx
    exact vf_no (rfl : s.TypeIs (.bool b) "bool") ta (by decide) rfl PySem.F.sub_dict_bool PySem.F.slot_bool_eq PySem.F.slot_dict_eq_refl PySem.F.slot_dict_eq PySem.F.entry_int_eq PySem.F.entry_dict_eq (PySem.F.args_int_eq_2 _ _) (PySem.F.args_dict_eq_2 _ _)
      (fun _ _ _ _ _ q => vf_int_no (.inl ⟨_, rfl⟩) ho hd q) (fun _ _ _ _ _ q => vf_dic_no (v := .bool b) (T := "bool") ta rfl PySem.F.sub_bool_dict q) (fun _ _ _ _ _ q => wpAny_of_eq (rfl : isSame (.bool b) (.ref a) = pure false) q) (fun _ _ z => nomatch z) hu
  | int i =>
    obtain ⟨t, rfl⟩ := rx
    exact vf_no (rfl : s.TypeIs (.int i t) "int") ta (by decide) rfl PySem.F.sub_dict_int PySem.F.slot_int_eq PySem.F.slot_dict_eq_refl PySem.F.slot_dict_eq PySem.F.entry_int_eq PySem.F.entry_dict_eq (PySem.F.args_int_eq_2 _ _) (PySem.F.args_dict_eq_2 _ _)
      (fun _ _ _ _ _ q => vf_int_no (.inr ⟨_, _, rfl⟩) ho hd q) (fun _ _ _ _ _ q => vf_dic_no (v := .int i t) (T := "int") ta rfl PySem.F.sub_int_dict q) (fun _ _ _ _ _ q => wpAny_of_eq (rfl : isSame (.int i t) (.ref a) = pure false) q) (fun _ _ z => nomatch z) hu
  | str z =>
    obtain ⟨t, rfl⟩ := rx
    exact ⟨vf_rc_str_dict ho hc hd hu, vf_str_dict ho hc hd hu⟩
  | @lst l _ _ hs _ =>
    cases rx
    obtain ⟨its, r, p, _⟩ := I.list hs
    obtain ⟨ol, n, hl, hlc, hld, hlx⟩ := p
    have tl : s.TypeIs (.ref l) "list" := ⟨_, hl, hlc⟩
    have hne : l ≠ a := fun e => by
      rw [e, ho] at hl
      cases hl
      rw [hc] at hlc
      exact absurd hlc (by simp)
    exact vf_no tl ta (by decide) (by simpa using hne) PySem.F.sub_dict_list PySem.F.slot_list_eq PySem.F.slot_dict_eq_refl PySem.F.slot_dict_eq PySem.F.entry_list_eq PySem.F.entry_dict_eq (PySem.F.args_list_eq_2 _ _) (PySem.F.args_dict_eq_2 _ _)
      (fun _ _ _ _ _ q => vf_lst_no ta PySem.F.sub_dict_list q) (fun _ _ _ _ _ q => vf_dic_no ta tl PySem.F.sub_list_dict q) (fun _ _ _ _ _ q => SeqAt.wpAny_isSame_ref_other' hne hl ho (by rw [hc]; simp) q) (fun _ _ z => nomatch z) hu
  | @tup l _ _ hs _ =>
    cases rx
    obtain ⟨its, r, p, _⟩ := I.tuple hs
    obtain ⟨ol, hl, hlc, hld⟩ := p
    have tl : s.TypeIs (.ref l) "tuple" := ⟨_, hl, hlc⟩
    have hne : l ≠ a := fun e => by
      rw [e, ho] at hl
      cases hl
      rw [hc] at hlc
      exact absurd hlc (by simp)
    exact vf_no tl ta (by decide) (by simpa using hne) PySem.F.sub_dict_tuple PySem.F.slot_tuple_eq PySem.F.slot_dict_eq_refl PySem.F.slot_dict_eq PySem.F.entry_tuple_eq PySem.F.entry_dict_eq (PySem.F.args_tuple_eq_2 _ _) (PySem.F.args_dict_eq_2 _ _)
      (fun _ _ _ _ _ q => vf_tup_no ta PySem.F.sub_dict_tuple q) (fun _ _ _ _ _ q => vf_dic_no ta tl PySem.F.sub_tuple_dict q) (fun _ _ _ _ _ q => SeqAt.wpAny_isSame_ref_other' hne hl ho (by rw [hc]; simp) q) (fun _ _ z => nomatch z) hu
theorem eqW_dicL (I : L2.Inv X pins σ H s) {A : Around} {x : V} {u : Value} {d : PyData} {a : Addr} {ks : List (Key × V)} (h : Dp X.K H x d) (ha : H a = some (.dK ks)) (rx : RelV x u) (hu : A.units < cLine) : NoAt A s (.ref a) u := by
  obtain ⟨o, es, ep, ho, hc, hd⟩ := dic_obj I ha
  have ta : s.TypeIs (.ref a) "dict" := ⟨o, ho, hc⟩
  cases h with
  | non =>
    cases rx
    exact vf_no ta (show s.TypeIs .none "NoneType" from rfl) (by decide) rfl PySem.F.sub_NoneType_dict PySem.F.slot_dict_eq PySem.F.slot_NoneType_eq_refl PySem.F.slot_NoneType_eq PySem.F.entry_dict_eq PySem.F.entry_NoneType_eq (PySem.F.args_dict_eq_2 _ _) (PySem.F.args_NoneType_eq_2 _ _)
      (fun _ _ _ _ _ q => vf_dic_no (v := .none) (T := "NoneType") ta rfl PySem.F.sub_NoneType_dict q) (fun _ _ _ _ _ q => vf_none_no q) (fun _ _ _ _ _ q => wpAny_of_eq (rfl : isSame (.ref a) .none = pure false) q) (fun _ _ z => nomatch z) hu
  | bl b =>
    cases rx
    exact vf_no ta (show s.TypeIs (.bool b) "bool" from rfl) (by decide) rfl PySem.F.sub_bool_dict PySem.F.slot_dict_eq PySem.F.slot_bool_eq_refl PySem.F.slot_bool_eq PySem.F.entry_dict_eq PySem.F.entry_int_eq (PySem.F.args_dict_eq_2 _ _) (PySem.F.args_int_eq_2 _ _)
      (fun _ _ _ _ _ q => vf_dic_no (v := .bool b) (T := "bool") ta rfl PySem.F.sub_bool_dict q) (fun _ _ _ _ _ q => vf_int_no (.inl ⟨_, rfl⟩) ho hd q) (fun _ _ _ _ _ q => wpAny_of_eq (rfl : isSame (.ref a) (.bool b) = pure false) q) (fun _ _ z => nomatch z) hu
  | int i =>
    obtain ⟨t, rfl⟩ := rx
    exact vf_no ta (show s.TypeIs (.int i t) "int" from rfl) (by decide) rfl PySem.F.sub_int_dict PySem.F.slot_dict_eq PySem.F.slot_int_eq_refl PySem.F.slot_int_eq PySem.F.entry_dict_eq PySem.F.entry_int_eq (PySem.F.args_dict_eq_2 _ _) (PySem.F.args_int_eq_2 _ _)
      (fun _ _ _ _ _ q => vf_dic_no (v := .int i t) (T := "int") ta rfl PySem.F.sub_int_dict q) (fun _ _ _ _ _ q => vf_int_no (.inr ⟨_, _, rfl⟩) ho hd q) (fun _ _ _ _ _ q => wpAny_of_eq (rfl : isSame (.ref a) (.int i t) = pure false) q) (fun _ _ z => nomatch z) hu
  | str z =>
    obtain ⟨t, rfl⟩ := rx
    exact vf_no ta (show s.TypeIs (.str z t) "str" from rfl) (by decide) rfl PySem.F.sub_str_dict PySem.F.slot_dict_eq PySem.F.slot_str_eq_refl PySem.F.slot_str_eq PySem.F.entry_dict_eq PySem.F.entry_str_eq (PySem.F.args_dict_eq_2 _ _) (PySem.F.args_str_eq_2 _ _)
      (fun _ _ _ _ _ q => vf_dic_no (v := .str z t) (T := "str") ta rfl PySem.F.sub_str_dict q) (fun _ _ _ _ _ q => vf_no_str_dic ho hd q) (fun _ _ _ _ _ q => wpAny_of_eq (rfl : isSame (.ref a) (.str z t) = pure false) q) (fun _ _ z => nomatch z) hu
  | @lst l _ _ hs _ =>
    cases rx
    obtain ⟨its, r, p, _⟩ := I.list hs
    obtain ⟨ol, n, hl, hlc, hld, hlx⟩ := p
    have tl : s.TypeIs (.ref l) "list" := ⟨_, hl, hlc⟩
    have hne : a ≠ l := fun e => by
      rw [← e, ho] at hl
      cases hl
      rw [hc] at hlc
      exact absurd hlc (by simp)
    exact vf_no ta tl (by decide) (by simpa using hne) PySem.F.sub_list_dict PySem.F.slot_dict_eq PySem.F.slot_list_eq_refl PySem.F.slot_list_eq PySem.F.entry_dict_eq PySem.F.entry_list_eq (PySem.F.args_dict_eq_2 _ _) (PySem.F.args_list_eq_2 _ _)
      (fun _ _ _ _ _ q => vf_dic_no ta tl PySem.F.sub_list_dict q) (fun _ _ _ _ _ q => vf_lst_no ta PySem.F.sub_dict_list q) (fun _ _ _ _ _ q => wpAny_isSame_ref_other hne ho hl (by rw [hc]; simp) q) (fun _ _ z => nomatch z) hu
  | @tup l _ _ hs _ =>
    cases rx
    obtain ⟨its, r, p, _⟩ := I.tuple hs
    obtain ⟨ol, hl, hlc, hld⟩ := p
    have tl : s.TypeIs (.ref l) "tuple" := ⟨_, hl, hlc⟩
    have hne : a ≠ l := fun e => by
      rw [← e, ho] at hl
      cases hl
      rw [hc] at hlc
      exact absurd hlc (by simp)
    exact vf_no ta tl (by decide) (by simpa using hne) PySem.F.sub_tuple_dict PySem.F.slot_dict_eq PySem.F.slot_tuple_eq_refl PySem.F.slot_tuple_eq PySem.F.entry_dict_eq PySem.F.entry_tuple_eq (PySem.F.args_dict_eq_2 _ _) (PySem.F.args_tuple_eq_2 _ _)
      (fun _ _ _ _ _ q => vf_dic_no ta tl PySem.F.sub_tuple_dict q) (fun _ _ _ _ _ q => vf_tup_no ta PySem.F.sub_dict_tuple q) (fun _ _ _ _ _ q => wpAny_isSame_ref_other hne ho hl (by rw [hc]; simp) q) (fun _ _ z => nomatch z) hu
theorem EqW.run (I : L2.Inv X pins σ H s) {A : Around} {x y : V} {u v : Value} {b : Bool} (h : EqW X.K H x y b) (rx : RelV x u) (ry : RelV y v) (hu : A.units + 64 < cLine) :
    (∀ E Q : Value → Shared → Prop, Q (.bool b) s → wpAny (model X.prog X.w) A (richCompare .Eq u v) Q E s) ∧ SeqAt.EqP X.prog X.w A s u v b := by
  cases h with
  | dat h1 h2 sd se =>
    obtain ⟨as, r1⟩ := Dp.reads I _ x u h1 rx
    obtain ⟨bs, r2⟩ := Dp.reads I _ y v h2 ry
    exact ⟨fun E Q q => SeqAt.compareEq_shaped r1 r2 sd se hu q, (SeqAt.eqAt_reads _ _ A s u v as bs r1 r2 (SeqAt.canLay_of_shaped sd) (SeqAt.canLay_of_shaped se) (SeqAt.room_of_shaped sd hu)).eqP⟩
  | dicL h1 h2 =>
    cases rx
    have := eqW_dicL I (A := A) h2 h1 ry (by omega)
    exact ⟨this.rc X.prog X.w, this.eq.eqP⟩
  | dicR h1 h2 =>
    cases ry
    have := eqW_dicR I (A := A) h1 h2 rx (by omega)
    exact ⟨this.rc X.prog X.w, this.eq.eqP⟩
  | @dd a b h1 h2 =>
    cases rx
    cases ry
    obtain ⟨_, ya, va, ra, da⟩ := (show ObjOk X.prog X.w H s.heap a (.dK []) from I.hok a _ h1)
    obtain ⟨_, yb, vb, rb, db⟩ := (show ObjOk X.prog X.w H s.heap b (.dK []) from I.hok b _ h2)
    cases ra
    cases rb
    have rc : ∀ E Q : Value → Shared → Prop, Q (.bool true) s → wpAny (model X.prog X.w) A (richCompare .Eq (.ref a) (.ref b)) Q E s := fun E Q q =>
      PySem.W.rcP_dicts (knd := mixKind X.prog X.w) (r := true) ya yb da db (by omega) (fun _ => .nil) E Q q
    refine ⟨rc, ?_⟩
    by_cases e : a = b
    · subst e
      exact (SeqAt.EqAt.same _).eqP
    · exact SeqAt.eqP_refs e rc
/-- x == y of such values -/
def rEqW (K : PySem.W.Frag) : R2 := fun x y H Q => ∃ b, EqW K H x y b ∧ Q (.bl b) H
theorem op_eqW (hu : X.A.units + 64 < cLine) : OpR X (compareOp .Eq) (rEqW X.K) := by
  intro pins s σ H x y v u Q I rx ry h
  obtain ⟨b, h, q⟩ := h
  exact (h.run I rx ry hu).1 _ _ ⟨.bl b, H, I, rfl, q⟩
/-- in, not in: such values -/
def DW (K : PySem.W.Frag) : Eqb := fun x y H b => EqW K H x y b
theorem eqB_w {n : Nat} : EqB X n (DW X.K) := fun A pins s σ H x y u v b sb I rx ry hd => (hd.run I rx ry sb.room.units).2 _ _ ⟨rfl, H, I, Ext.rfl'⟩
mutual
theorem Dp_ext {K : PySem.W.Frag} {H H' : Hp} (sm : Same H H') : ∀ (d : PyData) (x : V), Dp K H x d → Dp K H' x d
  | _, _, .non => .non
  | _, _, .bl b => .bl b
  | _, _, .int i => .int i
  | _, _, .str z => .str z
  | .list ds, _, .lst h hs => .lst (sm.seq h) (DpAll_ext sm ds _ hs)
  | .tuple ds, _, .tup h hs => .tup (SqT.ext h sm) (DpAll_ext sm ds _ hs)
theorem DpAll_ext {K : PySem.W.Frag} {H H' : Hp} (sm : Same H H') : ∀ (ds : List PyData) (xs : List V), DpAll K H xs ds → DpAll K H' xs ds
  | _, _, .nil => .nil
  | d :: ds, _, .cons h hs => .cons (Dp_ext sm d _ h) (DpAll_ext sm ds _ hs)
end
theorem EqW.ext {K : PySem.W.Frag} {H H' : Hp} (sm : Same H H') {x y : V} {b : Bool} (h : EqW K H x y b) : EqW K H' x y b := by
  cases h with
  | dat h1 h2 sd se => exact .dat (Dp_ext sm _ _ h1) (Dp_ext sm _ _ h2) sd se
  | dicL h1 h2 => exact .dicL (sm _ _ h1) (Dp_ext sm _ _ h2)
  | dicR h1 h2 => exact .dicR (Dp_ext sm _ _ h1) (sm _ _ h2)
  | dd h1 h2 => exact .dd (sm _ _ h1) (sm _ _ h2)
end
end Vf

set_option Elab.async false
set_option linter.all false
set_option maxRecDepth 100000
set_option maxHeartbeats 2000000
/-! try with several clauses that bind their error; over the library's readings of one clause and of clauses without names. -/
namespace Vf
open PySem PySem.Spec PyProof.Rows L2
abbrev Clause : Type := Value × Nat × (Addr → Value → Option Addr → TS)
/-- the ends of a clause: its name goes -/
def goneE (i : Nat) (D : Ends) : Ends := { nx := fun τ G => D.nx (τ.set i none) G, rt := D.rt, bk := fun τ G => D.bk (τ.set i none) G, ct := fun τ G => D.ct (τ.set i none) G }
def wClauses (K : PySem.W.Frag) (Wout : WX) (D : Ends) : List Clause → WX
  | [] => Wout
  | (c, i, ts) :: r => fun cls d τ G => ∃ t, PySem.W.exmOne K cls c = some t ∧ (t = true → ∀ a, G a = none → ts a cls d (goneE i D) (τ.set i (some (.ref a))) G) ∧ (t = false → wClauses K Wout D r cls d τ G)
inductive Clauses (X : Cx) : List ExceptHandler → List Clause → Prop
  | nil : Clauses X [] []
  | cons {x n : Str} {c : Value} {i : Nat} {ts : Addr → Value → Option Addr → TS} {b₀ : Stmt} {suite : List Stmt} {np np' : Pos} {hds : List ExceptHandler} {l : List Clause} (hi : X.N[i]? = some n) (hl : X.env.kindOf n = some .local) (hc : Names X x c)
      (hsu : ∀ (a : Addr) (oe : Obj) (cls : Value) (d : Option Addr) (pn : List (Addr × Obj)), Zc cls d oe → (∃ vs, oe.data = .fields vs) → PSs (X.suite a ((a, oe) :: pn)) (b₀ :: suite) (ts a cls d)) (r : Clauses X hds l) :
      Clauses X (.ExceptHandler (some (.Name x np)) (some n) (b₀ :: suite) np' :: hds) ((c, i, ts) :: l)
section
variable {X : Cx} {body : List Stmt} {h₀ : ExceptHandler} {hds : List ExceptHandler} {l : List Clause} {pos : Pos} {tb : WX → TS} {Wout : WX}
theorem ps_try_clauses (hst : X.stack = X.env :: X.outer) (hfr0 : X.env.frame = some X.env.locals) (hN : X.N.Nodup) (tk : Takes X Wout)
    (hb : ∀ (W : WX) (pn : List (Addr × Obj)) (xe : Value → Shared → Prop), Takes (X.tr pn xe) W → PassesOwn (model X.prog X.w) X.A X.env xe → PSs (X.tr pn xe) body (tb W))
    (hh : Clauses X (h₀ :: hds) l) : PS X (.Try body (h₀ :: hds) [] [] pos) (fun D σ H => tb (wClauses X.K Wout D l) D σ H) := by
  refine ⟨fun pins s σ H D I hyp => ?_⟩
  have iok := I.ok
  have hframes : X.A.frames = some (X.env :: X.outer) := by rw [iok.frames, hst]
  refine wpAny_Try_except (wpAny_mono ((hb (wClauses X.K Wout D l) (X.pn ++ pins) (fun er t1 => wpAny (model X.prog X.w) X.A (noteFrame er X.env) (fun _ t2 => wpAny (model X.prog X.w) X.A (setFlight er none) (fun _ t3 =>
    wpAny (model X.prog X.w) X.A (handleBy er X.env (h₀ :: hds)) (SP X pins D) X.xe t3) X.xe t2) X.xe t1) (fun u s' air => ?_) PassesOwn.looking).run [] s σ H D (I.toTry _) hyp) (fun fl t1 done => ?_) (fun er t1 q => q))
  · obtain ⟨a, B, sI, pins', τ, G, cls, d, rfl, Ja, newB, upA, sky, gNone, osEq, bare, wish⟩ := air
    have Jb : Inv X pins τ G sI := Ja.ofTry iok
    have skyB : Sky B (X.env :: X.outer) a (Zc cls d) X.env.locals s'.heap := by rw [← hst]; exact sky
    show wpAny (model X.prog X.w) X.A (noteFrame (.ref a) X.env) _ _ _
    refine Sky.land Zc.steady hframes hfr0 skyB fun hp3 fly3 up3 => ?_
    have J3 : Inv X pins τ G { s' with heap := hp3 } := Jb.landed newB fly3.1 (upA.trans up3) osEq bare
    obtain ⟨o3, w3, there3, zc3, dat3⟩ := fly3.there
    have off : a ∉ frs (X.env :: X.outer) := fun hm => by
      obtain ⟨_, o', e', hno⟩ := fly3.2.2.1.mem hm
      rw [there3] at e'
      cases e'
      exact hno _ dat3
    have offL : a ≠ X.env.locals := fun z => off (List.mem_filterMap.mpr ⟨X.env, List.mem_cons_self, by rw [hfr0, z]⟩)
    have offF : a ∉ X.fs := fun hm => by
      obtain ⟨en, hen, q⟩ := List.mem_filterMap.mp hm
      exact off (List.mem_filterMap.mpr ⟨en, List.mem_cons_of_mem _ hen, q⟩)
    have S3 := J3.suite there3 dat3 gNone offL offF
    have walk : ∀ {hs2 : List ExceptHandler} {l2 : List Clause}, Clauses X hs2 l2 → wClauses X.K Wout D l2 cls d τ G → wpAny (model X.prog X.w) X.A (handleBy (.ref a) X.env hs2) (SP X pins D) X.xe { s' with heap := hp3 } := by
      intro hs2 l2 hk
      induction hk with
      | nil =>
        intro out
        refine wpAny_handleBy_nil ?_
        obtain ⟨_, _, _, oe, vs, T, oT, _, there, zc, dat, v1, _⟩ := id fly3
        unfold PySem.passOn
        refine wpAny_bind (wpAny_field there dat v1 ?_)
        rw [if_neg (by simp : ¬ ((Value.ref T == Value.none) = true))]
        have last : wpAny (model X.prog X.w) X.A (setFlight (.ref a) X.env.frame) (fun _ t4 => wpAny (model X.prog X.w) X.A (throw (.ref a) : Sem Flow) (SP X pins D) X.xe t4) X.xe { s' with heap := hp3 } := by
          rw [hfr0]
          refine HandSPX.setFlight_upZ fly3 fun hp4 fly4 up4 => wpAny_throw (tk _ _ ⟨a, B, sI, pins, τ, G, cls, d, rfl, Jb, newB, (upA.trans up3).trans up4, .inr (.inr (by rw [hst]; exact fly4)), gNone, osEq, bare, out⟩)
        first
          | exact wpAny_bind (wpAny_pure (wpAny_bind last))
          | exact wpAny_bind last
      | @cons x n c i ts b₀ suite np np' hds2 l2 hi hl hc hsu r ih =>
        rintro ⟨t, et, yes, no⟩
        refine wpAny_handleBy_cons (codeAny_handlers_test ?_) (by intro q; cases q)
        have look : PySem.W.Looks (model X.prog X.w) hp3 (typeOf (.ref a)) cls := fun A Q E t keep q => wpAny_typeOf_ref (keep _ _ there3) (by rw [zc3.1]; exact q)
        have match_ := PySem.W.exm_one (M := model X.prog X.w) (J3.kIn) look et
        have name : ∀ {Q E : Value → Shared → Prop}, Q c { s' with heap := hp3 } → wpAny (model X.prog X.w) (X.A.mark (some (.ref a))) (eval (.Name x np) X.env) Q E { s' with heap := hp3 } := fun {Q E} q => by
          obtain ⟨g1, g2, g3 | ⟨g3, g4, g5⟩⟩ := hc
          · exact ld_glob (X := X.suite a ((a, o3) :: (X.pn ++ pins))) S3 g1 g3 q g2
          · exact ld_blt (X := X.suite a ((a, o3) :: (X.pn ++ pins))) S3 g1 g3 g4 q g5 g2
        refine name (match_.here ?_)
        cases t with
        | false =>
          show wpAny _ X.A (handleBy (.ref a) X.env hds2) _ _ _
          exact ih (no rfl)
        | true =>
          refine codeAny_handlers_suite_as (HandSPX.lands_againZ fly3 fun hp4 fly4 up4 => ?_)
          have J4 : Inv X pins τ G { s' with heap := hp4 } := Jb.landed newB fly4.1 ((upA.trans up3).trans up4) osEq bare
          obtain ⟨o4, w4, there4, zc4, dat4⟩ := fly4.there
          refine store_ok (X := X.suite a ((a, o4) :: (X.pn ++ pins))) (v := .ref a) (J4.suite there4 dat4 gNone offL offF) hN hi (.inl hl) rfl (fun t5 S5 => ?_) (.inr hl)
          refine wpAny_mono ((hsu a o4 cls d (X.pn ++ pins) zc4 ⟨_, dat4⟩).run [] t5 _ G _ S5 (yes rfl a gNone)) (fun fl t6 done => ?_) (fun _ _ z => False.elim z)
          have bye : ∀ {τ6 : L2.St} {G6 : Hp} {Q : Shared → Prop}, Inv (X.suite a ((a, o4) :: (X.pn ++ pins))) [] τ6 G6 t6 → (∀ t7, Inv X pins (τ6.set i none) G6 t7 → Q t7) →
              wpAny (model X.prog X.w) X.A (do bindName X.env n .none; unbindBehindTheSuite X.env n np') (fun _ t7 => Q t7) X.xe t6 := fun {τ6 G6 Q} S6 q => gone_ok (S6.unsuite iok) hN hi hl q
          cases fl with
          | ret u =>
            obtain ⟨v6, τ6, G6, S6, r6, q6⟩ := done
            exact bye S6 fun t7 J7 => ⟨_, _, _, J7, r6, q6⟩
          | _ =>
            obtain ⟨τ6, G6, S6, q6⟩ := done
            exact bye S6 fun t7 J7 => ⟨_, _, J7, q6⟩
    exact walk hh wish
  · cases fl with
    | ret u =>
      obtain ⟨v, τ, G, Ja, rv, q⟩ := done
      exact ⟨v, τ, G, Ja.ofTry iok, rv, q⟩
    | next =>
      obtain ⟨τ, G, Ja, q⟩ := done
      exact wpAny_execs_nil ⟨τ, G, Ja.ofTry iok, q⟩
    | _ =>
      obtain ⟨τ, G, Ja, q⟩ := done
      exact ⟨τ, G, Ja.ofTry iok, q⟩
end
end Vf

set_option Elab.async false
set_option linter.all false
set_option maxRecDepth 100000
set_option maxHeartbeats 2000000
namespace Vf
open PySem PySem.Spec PyProof.Rows L2
section
variable {X : Cx}
/-- xs.count(y), flat items -/
def rCntV (K : PySem.W.Frag) : V → List V → Hp → VK → Prop := fun x xs H Q => ∃ (p : Addr) (ys : List V) (y : V), x = .ref p ∧ xs = [y] ∧ SqL K H p ys ∧ flatV y = true ∧ ys.all flatV = true ∧ Q (.int ((ys.countP fun z => eqV z y : Nat) : Int)) H
theorem count_answ (e : V → Bool) : ∀ {xs : List V} {us : List Value}, Vals xs us → us.countP (answ e) = xs.countP e
  | _, _, .nil => rfl
  | _, _, .cons r t => by
    rw [List.countP_cons, List.countP_cons, answ_of e r, count_answ e t]
theorem mt_lcountV : MtR X "list.count" (rCntV X.K) := by
  intro pins s σ H x xs v us Q I rx rxs h
  obtain ⟨p, ys, y, rfl, rfl, hs, fy, fs, q⟩ := h
  cases rx
  obtain ⟨u, rfl, ru⟩ := rxs.one
  obtain ⟨its, rv, ⟨⟨cls, dd, data, sl⟩, n, ho, hc, hdn, hd⟩, hlen⟩ := I.list hs
  simp only at hc hd
  subst hc hd
  refine call_meets PySem.F.slot_list_count ⟨_, ho, rfl⟩ PySem.F.entry_list_count (PySem.F.args_list_count_2 _ _)
    (SeqAt.list_countAt p its.toArray n dd sl u (answ fun z => eqV z y)) ⟨ho, fun w hw => ?_, ?_⟩
  · obtain ⟨z, hz, rz⟩ := vals_mem rv (by simpa using hw)
    rw [answ_of _ rz]
    exact eqAt_V rz ru (List.all_eq_true.mp fs z hz) fy
  · have ec : its.toArray.toList.countP (answ fun z => eqV z y) = ys.countP fun z => eqV z y := count_answ _ rv
    refine ⟨.int ((ys.countP fun z => eqV z y : Nat) : Int), H, I.tok _, ⟨s.toks, ?_⟩, q⟩
    show Value.int ((its.toArray.toList.countP (answ fun z => eqV z y) : Nat) : Int) s.toks = Value.int ((ys.countP fun z => eqV z y : Nat) : Int) s.toks
    rw [ec]
/-! ### readings over a given K -/
theorem mt_lcountVK {K : PySem.W.Frag} (h : X.K = K) : MtR X "list.count" (rCntV K) := h ▸ mt_lcountV
theorem sl_listK {K : PySem.W.Frag} (h : X.K = K) : SlR X (rSlL K) := h ▸ sl_list
theorem sl_tupK {K : PySem.W.Frag} (h : X.K = K) : SlR X (rSlT K) := h ▸ sl_tup
theorem op_in_seqK {K : PySem.W.Frag} (hK : X.K = K) : OpR X (compareOp .In) (rIn K false) := hK ▸ op_in_seq
theorem op_notIn_seqK {K : PySem.W.Frag} (hK : X.K = K) : OpR X (compareOp .NotIn) (rIn K true) := hK ▸ op_notIn_seq
theorem op_notInIK {K : PySem.W.Frag} (hK : X.K = K) (hu : X.A.units + 64 < cLine) : OpR X (compareOp .NotIn) (rNotInI K) := hK ▸ op_notInI hu
theorem op_inBK {K : PySem.W.Frag} {n : Nat} (hK : X.K = K) (hr : Room (n + 1) X.A) : OpR X (compareOp .In) (rInB K false (DW K)) := hK ▸ op_inB (n := n) eqB_w hr
end
section
variable {X : Cx} {o e : Expr} {es : List Expr} {to : TE} {t : TA} {name : Str} {apos cpos : Pos} {T id : String} {r : V → List V → Hp → VK → Prop}
theorem pe_bmK {K : PySem.W.Frag} (hK : X.K = K) (pa : PlainAttrs T) (slot : Slot T name id) (hty : typeOf (.builtin id) = pure (.type "method_descriptor")) (hm : MtR X id r) (ho : PE X o to) (ha : PA X (e :: es) t)
    (hbase : attributeBase o name X.env (eval o X.env) = eval o X.env := by rfl)
    (hfew : ((backTo cpos (starEach (e :: es) X.env)).all (fun x => !x.1) && (backToKw cpos (keywordEach [] X.env)).all (fun x => x.1.isSome)
      && decide ((e :: es).length + ([] : List Keyword).length + (if ([] : List Keyword).isEmpty then 0 else 1) < 30)) = true := by rfl)
    (hline : (apos.endLine == cpos.line) = true := by rfl) (hs : starEach (e :: es) X.env = (false, eval e X.env) :: starEach es X.env := by rfl) (hplain : (backTo cpos (starEach es X.env)).any (·.1) = false := by rfl) :
    PE X (.Call (.Attribute o name apos) (e :: es) [] cpos) (tBM K T r to t) := hK ▸ pe_bm pa slot hty hm ho ha hbase hfew hline hs hplain
end
/-! ### a comprehension of two walks -/
theorem lc2_it {J : It} {n : Nat} {G : Hp → Prop} {Y : Nat → Hp → V → Hp → Prop} (w : Walk J n G Y) {g g1 : TG} {tt tt1 : TT} {wi1 : TI} {te : TE} {vs vs1 : List Nat} {σ : L2.St} {H1 : Hp} {D : Addr} {Qd : Hp → Prop} (Pv : Nat → Hp → Prop) (h0 : Pv 0 (upd H1 D (.lst []))) (hG : ∀ i H, i ≤ n → Pv i H → G H)
    (hs : ∀ i x H H', i < n → Pv i H → Y i H x H' → g x (wipe σ vs) H' fun σ2 H2 => wipe σ2 vs = wipe σ vs ∧ tt σ2 H2 fun b H3 =>
      if b = true then wi1 σ2 H3 fun J1 H4 => ∃ W1 : Nat → Nat → Hp → Prop, (∃ m, W1 0 m H4) ∧ ∀ j k H, W1 j k H →
        (J1.stop j H ∧ Pv (i + 1) H) ∨ (J1.go j H ∧ ∃ Nx1 : Hp → Prop, (∀ H', Nx1 H' → ∃ k', k' < k ∧ W1 (j + 1) k' H') ∧ ∀ x H', J1.yld j H x H' → g1 x (wipe σ2 vs1) H' fun σ3 H5 => wipe σ3 vs1 = wipe σ2 vs1 ∧ tt1 σ3 H5 fun b H6 =>
          if b = true then te σ3 H6 fun y H7 => ∃ acc, H7 D = some (.lst acc) ∧ acc.length < sizeLine ∧ Nx1 (upd H7 D (.lst (acc ++ [y]))) else Nx1 H6)
      else Pv (i + 1) H3) (hd : ∀ H, Pv n H → Qd H) :
    ∃ W : Nat → Nat → Hp → Prop, (∃ m, W 0 m (upd H1 D (.lst []))) ∧ ∀ i m H, W i m H →
      (J.stop i H ∧ Qd H) ∨ (J.go i H ∧ ∃ Nx : Hp → Prop, (∀ H', Nx H' → ∃ m', m' < m ∧ W (i + 1) m' H') ∧ ∀ x H', J.yld i H x H' → g x (wipe σ vs) H' fun σ2 H2 => wipe σ2 vs = wipe σ vs ∧ tt σ2 H2 fun b H3 =>
        if b = true then wi1 σ2 H3 fun J1 H4 => ∃ W1 : Nat → Nat → Hp → Prop, (∃ m, W1 0 m H4) ∧ ∀ j k H, W1 j k H →
          (J1.stop j H ∧ Nx H) ∨ (J1.go j H ∧ ∃ Nx1 : Hp → Prop, (∀ H', Nx1 H' → ∃ k', k' < k ∧ W1 (j + 1) k' H') ∧ ∀ x H', J1.yld j H x H' → g1 x (wipe σ2 vs1) H' fun σ3 H5 => wipe σ3 vs1 = wipe σ2 vs1 ∧ tt1 σ3 H5 fun b H6 =>
            if b = true then te σ3 H6 fun y H7 => ∃ acc, H7 D = some (.lst acc) ∧ acc.length < sizeLine ∧ Nx1 (upd H7 D (.lst (acc ++ [y]))) else Nx1 H6)
        else Nx H3) := by
  refine ⟨fun i m H => m = n - i ∧ i ≤ n ∧ Pv i H, ⟨n, by simp, Nat.zero_le _, h0⟩, ?_⟩
  rintro i m H ⟨rfl, hi, p⟩
  have q := hG i H hi p
  by_cases hlt : i < n
  · exact .inr ⟨w.goes i H hlt q, Pv (i + 1), fun H' p' => ⟨n - (i + 1), by omega, rfl, hlt, p'⟩, fun x H' y => hs i x H H' hlt p (w.yields i H x H' hlt q y)⟩
  · have e : i = n := by omega
    subst e
    exact .inl ⟨w.stops H q, hd H p⟩
/-- its inner walk -/
theorem lc2_in {J1 : It} {n : Nat} {G : Hp → Prop} {Y : Nat → Hp → V → Hp → Prop} (w : Walk J1 n G Y) {g1 : TG} {tt1 : TT} {te : TE} {vs1 : List Nat} {σ2 : L2.St} {H4 : Hp} {D : Addr} {Qd : Hp → Prop} (Pv : Nat → Hp → Prop) (h0 : Pv 0 H4) (hG : ∀ i H, i ≤ n → Pv i H → G H)
    (hs : ∀ i x H H', i < n → Pv i H → Y i H x H' → g1 x (wipe σ2 vs1) H' fun σ3 H5 => wipe σ3 vs1 = wipe σ2 vs1 ∧ tt1 σ3 H5 fun b H6 =>
      if b = true then te σ3 H6 fun y H7 => ∃ acc, H7 D = some (.lst acc) ∧ acc.length < sizeLine ∧ Pv (i + 1) (upd H7 D (.lst (acc ++ [y]))) else Pv (i + 1) H6) (hd : ∀ H, Pv n H → Qd H) :
    ∃ W1 : Nat → Nat → Hp → Prop, (∃ m, W1 0 m H4) ∧ ∀ j k H, W1 j k H →
      (J1.stop j H ∧ Qd H) ∨ (J1.go j H ∧ ∃ Nx1 : Hp → Prop, (∀ H', Nx1 H' → ∃ k', k' < k ∧ W1 (j + 1) k' H') ∧ ∀ x H', J1.yld j H x H' → g1 x (wipe σ2 vs1) H' fun σ3 H5 => wipe σ3 vs1 = wipe σ2 vs1 ∧ tt1 σ3 H5 fun b H6 =>
        if b = true then te σ3 H6 fun y H7 => ∃ acc, H7 D = some (.lst acc) ∧ acc.length < sizeLine ∧ Nx1 (upd H7 D (.lst (acc ++ [y]))) else Nx1 H6) := by
  refine ⟨fun i m H => m = n - i ∧ i ≤ n ∧ Pv i H, ⟨n, by simp, Nat.zero_le _, h0⟩, ?_⟩
  rintro i m H ⟨rfl, hi, p⟩
  have q := hG i H hi p
  by_cases hlt : i < n
  · exact .inr ⟨w.goes i H hlt q, Pv (i + 1), fun H' p' => ⟨n - (i + 1), by omega, rfl, hlt, p'⟩, fun x H' y => hs i x H H' hlt p (w.yields i H x H' hlt q y)⟩
  · have e : i = n := by omega
    subst e
    exact .inl ⟨w.stops H q, hd H p⟩
/-! ### name = {..: .. for ..} on one line -/
section
variable {X : Cx}
theorem sw_trueD {kx vx : Expr} {gs : List Comprehension} {scope : Scope} {pos py : Pos} {y : Str} {l : Nat} {env : Env} (hk : env.scope.kind = .function) (hy : env.scope.names.lookup y = some .local) (hl : (py.line == pos.line) = true)
    (ha : (scope.names.any fun (n, k) => n == y && (k == .local || k == .cell)) = false) : swapsWith (.DictComp kx vx gs scope pos) (some (.Name y py)) l env = pure true := by
  have ky : env.kindOf y = some .local := hy
  have hb : env.blockKind = .function := by unfold Env.blockKind; rw [hk]; rfl
  unfold swapsWith
  simp only [hb, ky, ha, Expr.pos, hl]
  rfl
theorem ps_setDc {i : Nat} {y : Str} {py : Pos} {kx vx tg iter : Expr} {ifs : List Expr} {scope : Scope} {own : List (Str × Nat)} {pos spos : Pos} {wi : TI} {g : TG} {tt : TT} {tk tv : TE} (hc : X.calm = true) (hN : X.N.Nodup) (hy : X.N[i]? = some y) (hyl : X.env.scope.names.lookup y = some .local)
    (hsw : swapsWith (.DictComp kx vx [⟨tg, iter, ifs, 0⟩] scope pos) (some (.Name y py)) spos.line X.env = pure true) (hi : PI X tg iter wi) (ok : BlkOk X.N X.env.scope scope own)
    (hg : ∀ (s : Shared) (H : Hp) (C : Addr) (cl : List (Str × Addr)) (fp : List Addr), PG (X.blk s H scope (compEnvC scope cl C X.env) fp) tg g) (ht : ∀ (s : Shared) (H : Hp) (C : Addr) (cl : List (Str × Addr)) (fp : List Addr), PTs (X.blk s H scope (compEnvC scope cl C X.env) fp) ifs tt)
    (hk : ∀ (s : Shared) (H : Hp) (C : Addr) (cl : List (Str × Addr)) (fp : List Addr), PE (X.blk s H scope (compEnvC scope cl C X.env) fp) kx tk)
    (he : ∀ (s : Shared) (H : Hp) (C : Addr) (cl : List (Str × Addr)) (fp : List Addr), PE (X.blk s H scope (compEnvC scope cl C X.env) fp) vx tv) (hs : ∀ x, foldedSetIterable iter X.env x = pure x := by intro _; rfl) :
    PS X (.Assign [.Name y py] (.DictComp kx vx [⟨tg, iter, ifs, 0⟩] scope pos) spos) (tAsg (tDc wi g tt tk tv (own.map (·.2))) (gName i)) := by
  refine ⟨fun pins s σ H D I h => ?_⟩
  rw [PySem.exec_Assign_Name_used _ _ _ _ hsw]
  refine wpAny_bind (wpAny_standAt (wpAny_bind ?_))
  show wpAny _ X.A (do let _ ← comprehension (.DictComp kx vx [⟨tg, iter, ifs, 0⟩] scope pos) scope X.env (firstIterPos [⟨tg, iter, ifs, 0⟩] pos) newDict false (eval iter X.env) (some (assign (.Name y py) X.env))) _ _ s
  have h : tDc wi g tt tk tv (own.map (·.2)) σ H (fun x H1 => gName i x σ H1 D.nx) := h
  refine wpAny_bind (thn (dc_core (Qf := fun _ s' => SP X pins D .next s') hc hN I hi ok hg ht hk he hs h fun L C s' m H' I' q hn f => ?_) fun _ s' hq => wpAny_pure (wpAny_pure hq))
  show wpAny _ _ (assign (.Name y py) X.env (.ref L)) _ _ _
  refine wpAny_assign_Name (store_ok2 (v := V.ref L) I' hN hy (.inl hyl) rfl (fun s2 I2 ⟨a, sb, ha⟩ => ?_) (.inr hyl))
  obtain ⟨f0, f1, f2, f3, f4, f5⟩ := f
  have haC : C ≠ a := by
    rcases ha with z | z
    · rw [z]; exact f1
    · exact fun e => f4 y a z e.symm
  refine ⟨m, hn.sameBut sb haC, fun h3 sb3 => ?_⟩
  exact ⟨_, H', I2.turned (t' := s2.toks) (fun b o hb e => (sb3.2 b hb).trans e) f0 f1 f3 f4 f5, q⟩
end
end Vf

set_option Elab.async false
set_option linter.all false
set_option maxRecDepth 100000
set_option maxHeartbeats 2000000
namespace Vf
open PySem PySem.Spec PyProof.Rows L2
/-! ### and, or: one way on, whatever the parts answer -/
section
variable {X : Cx} {e a b : Expr} {rest : List Expr} {pos : Pos}
def tWk (t : TE) : TE := fun σ H Q => ∃ R : VK, t σ H R ∧ ∀ v H', R v H' → Q v H'
def tTWk (t : TT) : TT := fun σ H Q => ∃ R : Bool → Hp → Prop, t σ H R ∧ ∀ c H', R c H' → Q c H'
theorem pe_weak {t : TE} (h : PE X e t) : PE X e (tWk t) := ⟨fun pins s σ H Q I ⟨R, h1, k⟩ =>
  PySem.wpAny_mono (h.run pins s σ H R I h1) (fun v s' ⟨x, H', I', r, q⟩ => ⟨x, H', I', r, k _ _ q⟩) fun _ _ z => z⟩
theorem pt_weak {t : TT} (h : PT X e t) : PT X e (tTWk t) := ⟨fun pins s σ H Q I ⟨R, h1, k⟩ =>
  PySem.wpAny_mono (h.run pins s σ H R I h1) (fun v s' ⟨H', I', q⟩ => ⟨H', I', k _ _ q⟩) fun _ _ z => z⟩
theorem pw_weak {t : TT} (h : PW X e t) : PW X e (tTWk t) := ⟨fun wh pins s σ H Q I ⟨R, h1, k⟩ =>
  PySem.wpAny_mono (h.run wh pins s σ H R I h1) (fun v s' ⟨H', I', q⟩ => ⟨H', I', k _ _ q⟩) fun _ _ z => z⟩
def tAndB (t u : TT) : TT := fun σ H Q => t σ H fun c H1 => ∃ (d : Bool) (R : Hp → Prop), (c = true → u σ H1 fun b H2 => b = d ∧ R H2) ∧ (c = false → R H1) ∧ ∀ H2, R H2 → Q (c && d) H2
def tOrB (t u : TT) : TT := fun σ H Q => t σ H fun c H1 => ∃ (d : Bool) (R : Hp → Prop), (c = false → u σ H1 fun b H2 => b = d ∧ R H2) ∧ (c = true → R H1) ∧ ∀ H2, R H2 → Q (c || d) H2
def tAndVB (t u : TE) : TE := fun σ H Q => t σ H fun x H1 => ∃ (c d : Bool) (R : Hp → Prop), x = .bl c ∧ (c = true → u σ H1 fun b H2 => b = .bl d ∧ R H2) ∧ (c = false → R H1) ∧ ∀ H2, R H2 → Q (.bl (c && d)) H2
def tOrVB (t u : TE) : TE := fun σ H Q => t σ H fun x H1 => ∃ (c d : Bool) (R : Hp → Prop), x = .bl c ∧ (c = false → u σ H1 fun b H2 => b = .bl d ∧ R H2) ∧ (c = true → R H1) ∧ ∀ H2, R H2 → Q (.bl (c || d)) H2
theorem pw_andB {t u : TT} (ha : PT X a t) (hb : PW X (.BoolOp .And (b :: rest) pos) u) : PW X (.BoolOp .And (a :: b :: rest) pos) (tAndB t u) :=
  ⟨fun wh pins s σ H Q I h => (pw_and (pt_weak ha) (pw_weak hb)).run wh pins s σ H Q I ⟨_, h, fun c H1 ⟨d, R, h1, h2, k⟩ => by
    cases c with
    | true => exact iteT ⟨_, h1 rfl, fun b H2 ⟨e, r⟩ => e ▸ k H2 r⟩
    | false => exact iteF (k H1 (h2 rfl))⟩⟩
theorem pw_orB {t u : TT} (ha : PT X a t) (hb : PW X (.BoolOp .Or (b :: rest) pos) u) : PW X (.BoolOp .Or (a :: b :: rest) pos) (tOrB t u) :=
  ⟨fun wh pins s σ H Q I h => (pw_or (pt_weak ha) (pw_weak hb)).run wh pins s σ H Q I ⟨_, h, fun c H1 ⟨d, R, h1, h2, k⟩ => by
    cases c with
    | true => exact iteT (k H1 (h2 rfl))
    | false => exact iteF ⟨_, h1 rfl, fun b H2 ⟨e, r⟩ => e ▸ k H2 r⟩⟩⟩
theorem pe_andB {t u : TE} (ha : PE X a t) (hb : PE X (.BoolOp .And (b :: rest) pos) u) : PE X (.BoolOp .And (a :: b :: rest) pos) (tAndVB t u) :=
  ⟨fun pins s σ H Q I h => (pe_and (pe_weak ha) (pe_weak hb)).run pins s σ H Q I ⟨_, h, fun x H1 ⟨c, d, R, e, h1, h2, k⟩ => ⟨c, e, by
    cases c with
    | true => exact iteT ⟨_, h1 rfl, fun b H2 ⟨e, r⟩ => e ▸ k H2 r⟩
    | false => exact iteF (k H1 (h2 rfl))⟩⟩⟩
theorem pe_orB {t u : TE} (ha : PE X a t) (hb : PE X (.BoolOp .Or (b :: rest) pos) u) : PE X (.BoolOp .Or (a :: b :: rest) pos) (tOrVB t u) :=
  ⟨fun pins s σ H Q I h => (pe_or (pe_weak ha) (pe_weak hb)).run pins s σ H Q I ⟨_, h, fun x H1 ⟨c, d, R, e, h1, h2, k⟩ => ⟨c, e, by
    cases c with
    | true => exact iteT (k H1 (h2 rfl))
    | false => exact iteF ⟨_, h1 rfl, fun b H2 ⟨e, r⟩ => e ▸ k H2 r⟩⟩⟩⟩
/-- a if t else b: one value -/
def tIfB (t : TT) (u v : TE) : TE := fun σ H Q => t σ H fun c H1 => ∃ (x : V) (R : Hp → Prop), (c = true → u σ H1 fun y H2 => y = x ∧ R H2) ∧ (c = false → v σ H1 fun y H2 => y = x ∧ R H2) ∧ ∀ H2, R H2 → Q x H2
theorem pe_ifExpB {c : Expr} {t : TT} {u v : TE} (hc : PT X c t) (ha : PE X a u) (hb : PE X b v) : PE X (.IfExp c a b pos) (tIfB t u v) :=
  ⟨fun pins s σ H Q I h => (pe_ifExp (pt_weak hc) (pe_weak ha) (pe_weak hb)).run pins s σ H Q I ⟨_, h, fun c H1 ⟨x, R, h1, h2, k⟩ => by
    cases c with
    | true => exact iteT ⟨_, h1 rfl, fun y H2 ⟨e, r⟩ => e ▸ k H2 r⟩
    | false => exact iteF ⟨_, h2 rfl, fun y H2 ⟨e, r⟩ => e ▸ k H2 r⟩⟩⟩
/-- a tuple as target, within a comprehension -/
theorem pg_tupK {K : PySem.W.Frag} {es : List Expr} {k : Nat} {t : TGs} (hK : X.K = K) (n : Nat) (hc : X.calm = true) (h : PGs X es t)
    (hn : (assignEach es X.env).length = n := by rfl) (hst : (assignEach es X.env).findIdx? (·.1) = none := by rfl) : PG X (.Tuple es k pos) (gTup K n t) := hK ▸ pg_tup hc h hn hst
/-- a test whose two ways are told by one -/
theorem ite_one {c : Bool} {A B : Prop} (h1 : c = true → A) (h2 : c = false → B) : if c = true then A else B := by
  cases c with
  | true => exact iteT (h1 rfl)
  | false => exact iteF (h2 rfl)
end
/-! ### f(e, .., k = v, ..) of a def with defaults -/
def tFnK (n m : Nat) (sp : Sp) (gV : List V → List V → List V) (E : XK) (t tk : TA) : TE := fun σ H Q => t σ H fun vs H1 => tk σ H1 fun zs H2 => vs.length = n ∧ zs.length = m ∧ sp (gV vs zs) H2 Q E
theorem c_fnK {X : Cx} {CX : CXT} {k j n : Nat} {ps ks : List Str} {sp : Sp} {x : Str} {p pos : Pos} {e : Expr} {es : List Expr} {kws : List Keyword} {t tk : TA} {gV : List V → List V → List V} {E : XK} (O : OkK X.prog X.w X.K X.mg X.base CX k (x, none) ps n ks gV sp) (hr : Room j X.A) (hj : k ≤ j) (kp : PySem.W.keepIn X.K (.ref (He.fAd X.K (x, none))) = true)
    (hm : X.mg x = some (.ref (He.ga X.K x))) (hx : Passes CX X E) (ha : PA X (e :: es) t) (hkw : PK X kws tk) (hg : Gl X x := by rfl) (hall : (backToKw pos (keywordEach kws X.env)).all (·.1.isSome) = true := by rfl) (hks : (backToKw pos (keywordEach kws X.env)).filterMap (·.1) = ks := by rfl)
    (hdb : (x == ("__debug__" : Str)) = false := by decide) (he : starEach (e :: es) X.env = (false, eval e X.env) :: starEach es X.env := by rfl) (hpl : ((backTo pos (starEach (e :: es) X.env)).any (·.1) || (backToKw pos (keywordEach kws X.env)).any (·.1.isNone)) = false := by rfl) :
    PE X (.Call (.Name x p) (e :: es) kws pos) (tFnK n ks.length sp gV E t tk) := by
  obtain ⟨fd, g, F, b⟩ := O.ex
  refine ⟨fun pins s σ H Q I h => wpAny_Call_Name_kw (ld_glob I hg hm ?_ hdb)⟩
  refine PySem.W.callWith_KW (h₀ := X.base) I.ok.mod.kin kp hall (thn (ha.run pos pins s σ H _ I h) fun us s1 ⟨vs, H1, I1, r, q⟩ => thn (hkw.run pos pins s1 σ H1 _ I1 q) fun ws s2 ⟨zs, H2, I2, rz, l1, l2, q2⟩ => ⟨I2.kIn, ?_⟩) hpl he
  rw [hks]
  refine wpAny_call (codeAny_mono (F.run X.A X.stack s2 H2 ⟨us, ks.zip ws⟩ (g us ws) (gV vs zs) Q E (hr.mono hj) I2.env0 (b.to s2 us ws I2.kIn (r.length.symm.trans l1) (rz.length.symm.trans l2)) (b.rel r rz) q2) fun r s' hq => ?_)
  match r, hq with
  | .error e, hq => exact hx pins σ H2 s2 e s' I2 hq
  | .ok (.ret u), hq => exact I2.after hq
end Vf

set_option Elab.async false
set_option linter.all false
set_option maxRecDepth 100000
set_option maxHeartbeats 2000000
/-! ### enumerate(list, start = c) -/
namespace Vf
open PySem PySem.Spec PyProof.Rows L2
section
variable {M : Model} {A : Around} {E : Value → Shared → Prop} {s : Shared} {env : Env}
theorem callWith_type_kwB {pos : Pos} {T : String} {first : List Value} {args : List (Bool × Sem Value)} {keywords : List (Option Str × Sem Value)} {Q : Value → Shared → Prop}
    (hplain : args.any (·.1) = false) (hkw : keywords.any (·.1.isNone) = false)
    (h : wpAny M A (evalArgs (.type T) true args keywords) (fun a s₁ => wpAny M A (call (.type T) (first ++ a.pos) a.kw) Q E s₁) E s) :
    wpAny M A (callWith pos (.type T) first args keywords) Q E s := by
  unfold callWith
  refine wpAny_bind (wpAny_holding (wpAny_mono h (fun a s₁ h₁ => wpAny_bind (wpAny_standAt ?_)) fun _ _ x => x))
  simp only [hplain, hkw, Bool.or_false]
  refine wpAny_bind (wpAny_pure ?_)
  exact wpAny_bind (wpAny_mono h₁ (fun r s₂ hr => wpAny_bind (wpAny_holding (wpAny_point (wpAny_pure hr)))) fun _ _ x => x)
theorem callWith_typeKw {pos : Pos} {T : String} {e : Expr} {rest : List Expr} {kws : List Keyword} {Q : Value → Shared → Prop}
    (h : wpAny M A (spliced (backTo pos (starEach (e :: rest) env))) (fun vs s₁ => wpAny M A (evalAll ((backToKw pos (keywordEach kws env)).map (·.2)))
      (fun kvs s₂ => wpAny M A (call (.type T) vs (((backToKw pos (keywordEach kws env)).filterMap (·.1)).zip kvs)) Q E s₂) E s₁) E s)
    (he : backTo pos (starEach (e :: rest) env) = (false, eval e env) :: backTo pos (starEach rest env) := by rfl)
    (hplain : (backTo pos (starEach (e :: rest) env)).any (·.1) = false := by rfl)
    (hall : (backToKw pos (keywordEach kws env)).all (·.1.isSome) = true := by rfl)
    (hkw : (backToKw pos (keywordEach kws env)).any (·.1.isNone) = false := by rfl) :
    wpAny M A (callWith pos (.type T) [] (backTo pos (starEach (e :: rest) env)) (backToKw pos (keywordEach kws env))) Q E s := by
  refine callWith_type_kwB hplain hkw ?_
  rw [he] at h ⊢
  exact PyProof.Rows.evalArgs_kwB hall h
end
/-- the list at a, each item in a new pair, counted from c on -/
def IteS (K : PySem.W.Frag) (c : Int) (a : Addr) : It :=
  ⟨fun i H => ∃ (xs : List V) (x : V), SqL K H a xs ∧ xs[i]? = some x, fun i H v H' => ∃ T x, v = .ref T ∧ H T = none ∧ H' = upd H T (.tup [.int (c + (i : Nat)), x]) ∧ ∀ xs, SqL K H a xs → xs[i]? = some x, fun i H => ∃ xs : List V, SqL K H a xs ∧ xs.length = i⟩
theorem turn_enumS {P : Program} {w : World} {K : PySem.W.Frag} {elts : List Expr} {kk : Nat} {tpos : Pos} (c : Int) (a e it : Addr) :
    Turn P w K (.Tuple elts kk tpos) (IteS K c a) [e, it] e (fun i h => (∃ old, IsEnum h e it (c + ((i : Nat) : Int)) old) ∧ h.IsListIter it a i ∧ e ≠ it) where
  mem := by simp
  obj := fun i h st b hb => by
    obtain ⟨⟨old, he⟩, ⟨o, ho, hc, hd⟩, _⟩ := st
    have e' : b = e ∨ b = it := by simpa using hb
    rcases e' with z | z
    · rw [z]; exact ⟨_, he, fun v q => nomatch q⟩
    · rw [z]; exact ⟨o, ho, fun v q => by rw [hd] at q; cases q⟩
  keep := fun i h h' st k => let ⟨⟨old, he⟩, hi, hne⟩ := st; ⟨⟨old, k e (by simp) _ he⟩, hi.at fun o q => k it (by simp) o q, hne⟩
  item := by
    intro X hP hw hK hc i pins s σ H E I hf st hg
    subst hP hw hK
    obtain ⟨⟨old, he⟩, hit, hne⟩ := st
    obtain ⟨xs, x, hq, hx⟩ := hg
    obtain ⟨its, rv, p, hz⟩ := I.list hq
    obtain ⟨u, hu, ru⟩ := rv.get hx
    have pT : s.heap.IsList a its.toArray := p.isList
    have hel : e < s.heap.objs.size := Heap.lt_size he
    have hil : it < s.heap.objs.size := by obtain ⟨_, q, _⟩ := hit; exact Heap.lt_size q
    have nai : a ≠ it := fun z => by
      subst z
      obtain ⟨o1, h1, c1, _⟩ := pT
      obtain ⟨o2, h2, c2, _⟩ := hit
      rw [h1] at h2
      cases h2
      rw [c1] at c2
      injection c2 with c2
      exact absurd c2 (by decide)
    have nae : a ≠ e := fun z => by
      subst z
      obtain ⟨o1, h1, c1, _⟩ := pT
      rw [show s.heap.get? a = _ from he] at h1
      cases h1
      injection c1 with c1
      exact absurd c1 (by decide)
    have hli : i < its.toArray.size := by
      have := (List.getElem?_eq_some_iff.mp hu).1
      simpa using this
    have hh : X.A.in1.handled = none := I.ok.hd hc
    refine wpAny_pyNext_enum_itemC (Draws.list hh it a nai its.toArray) he ⟨hit, pT⟩ hli hne (by simp [hne, nae.symm]) fun v h' tk hv ho hit' hT hsz hk => ?_
    have ev : v = u := by
      have h1 : its[i]? = some v := by simpa using hv
      rw [hu] at h1
      exact (Option.some.inj h1).symm
    subst ev
    refine ⟨_, rfl, wpAny_letOwnedTupleGo_enum (s := { s with heap := h', toks := tk + 1 }) ho fun h'' he' sb => ?_⟩
    have hT2 : h''.get? s.heap.objs.size = some { cls := .type "tuple", data := .seq #[.int (c + (i : Nat)) tk, v] } := (sb.2 _ (Nat.ne_of_gt hel)).trans hT
    have new : ObjOk X.prog X.w (upd H s.heap.objs.size (.tup [.int (c + (i : Nat)), x])) h'' s.heap.objs.size (.tup [.int (c + (i : Nat)), x]) :=
      ⟨by show 2 ≤ sizeLine; decide, [.int (c + (i : Nat)) tk, v], .cons ⟨_, rfl⟩ (.cons ru .nil), ⟨_, hT2, rfl, _, rfl⟩⟩
    have I1 : Inv X pins σ (upd H s.heap.objs.size (.tup [.int (c + (i : Nat)), x])) { s with heap := h'', toks := tk + 1 } :=
      I.turnedNew (ch := [e, it]) (fun b ob hb q => (sb.2 b (fun z => hb (by simp [z]))).trans (hk b ob (fun z => hb (by simp [z])) (fun z => hb (by simp [z])) q)) hf (Nat.le_refl _) new
    refine ⟨.ref s.heap.objs.size, _, I1, rfl, ⟨_, x, rfl, I.hok.fresh (Nat.le_refl _), rfl, fun ys hy => by rw [I.list_inj hy hq]; exact hx⟩, ⟨⟨v, ?_⟩, hit'.1.at fun o q => (sb.2 it (Ne.symm hne)).trans q, hne⟩, fun b hb => ?_⟩
    · have e1 : c + ((i + 1 : Nat) : Int) = c + (i : Int) + 1 := by omega
      rw [e1]; exact he'
    · have hb' : b < s.heap.objs.size := by
        have e' : b = e ∨ b = it := by simpa using hb
        rcases e' with z | z
        · rw [z]; exact hel
        · rw [z]; exact hil
      rw [upd_ne (Nat.ne_of_lt hb')]
      exact (hf b hb).1
  done := by
    intro X hP hw hK hc i pins s σ H E I hf st hg
    subst hP hw hK
    obtain ⟨⟨old, he⟩, hit, hne⟩ := st
    obtain ⟨xs, hq, hx⟩ := hg
    obtain ⟨its, rv, p, hz⟩ := I.list hq
    have pT : s.heap.IsList a its.toArray := p.isList
    obtain ⟨f0, f1, f2, f3, f4, f5⟩ := hf it (by simp)
    have hl := rv.length
    have nai : a ≠ it := fun z => by
      subst z
      obtain ⟨o1, h1, c1, _⟩ := pT
      obtain ⟨o2, h2, c2, _⟩ := hit
      rw [h1] at h2
      cases h2
      rw [c1] at c2
      injection c2 with c2
      exact absurd c2 (by decide)
    have hh : X.A.in1.handled = none := I.ok.hd hc
    have hin : its.toArray.size = i := by simp; omega
    subst hin
    exact wpAny_pyNext_enum_endD (Draws.list hh it a nai its.toArray) he ⟨hit, pT⟩ fun h' eb => ⟨rfl, I.turned (t' := s.toks) (fun b o hb q => eb b o hb q) f0 f1 f3 f4 f5⟩
  self := fun A i s Q E st h => let ⟨⟨_, he⟩, _⟩ := st; wpAny_pyIter_enum he h
def iEnumS (K : PySem.W.Frag) (ta tk : TA) : TI := fun σ H R => ta σ H fun vs H1 => tk σ H1 fun ks H2 => ∃ a xs c, vs = [.ref a] ∧ ks = [.int c] ∧ -(2 ^ 63) ≤ c ∧ c < 2 ^ 63 ∧ SqL K H2 a xs ∧ R (IteS K c a) H2
theorem pi_enumS {X : Cx} {e : Expr} {ta tk : TA} {kws : List Keyword} {p pos tpos : Pos} {elts : List Expr} {kk : Nat} (hg : Gl X "enumerate") (hm : X.mg "enumerate" = none) (ha : PA X [e] ta) (hkw : PK X kws tk)
    (hks : (backToKw pos (keywordEach kws X.env)).filterMap (·.1) = [Str.ofString "start"] := by rfl) (he : backTo pos (starEach [e] X.env) = (false, eval e X.env) :: backTo pos (starEach [] X.env) := by rfl)
    (hplain : (backTo pos (starEach [e] X.env)).any (·.1) = false := by rfl) (hall : (backToKw pos (keywordEach kws X.env)).all (·.1.isSome) = true := by rfl) (hnone : (backToKw pos (keywordEach kws X.env)).any (·.1.isNone) = false := by rfl) :
    PI X (.Tuple elts kk tpos) (.Call (.Name "enumerate" p) [e] kws pos) (iEnumS X.K ta tk) := by
  refine ⟨fun pins s σ H R I h => ?_⟩
  refine PySem.wpAny_Call_Name_kw (ld_blt I hg hm boot_enumerate (callWith_typeKw (thn (ha.run pos pins s σ H _ I h) fun us s1 ⟨vs, H1, I1, r1, q1⟩ => ?_) he hplain hall hnone))
  refine thn (hkw.run pos pins s1 σ H1 _ I1 q1) fun ws s2 ⟨zs, H2, I2, rz, q2⟩ => ?_
  obtain ⟨a, xs, c, ex, ez, c0, c1, hq, q⟩ := q2
  subst ex ez
  rw [hks]
  cases r1 with
  | cons r rr =>
    cases rr
    cases r
    cases rz with
    | cons rc rr =>
      cases rr
      obtain ⟨t, rfl⟩ := rc
      obtain ⟨its, rv, p', hz⟩ := I2.list hq
      refine enum_begins_start (begins_list a its.toArray) p'.isList c0 c1 fun h' he hit hsz hk => wpAny_pyIter_enum he ?_
      have I3 : Inv X pins σ H2 { s2 with heap := h' } := I2.kept (t' := s2.toks) hk
      refine ⟨s2.heap.objs.size + 1, [s2.heap.objs.size + 1, s2.heap.objs.size], _, _, H2, rfl, I3, turn_enumS c a (s2.heap.objs.size + 1) s2.heap.objs.size, ⟨⟨.none, by simpa using he⟩, ⟨_, hit, rfl, rfl⟩, Nat.succ_ne_self _⟩, fun b hb => ?_, q⟩
      have e' : b = s2.heap.objs.size + 1 ∨ b = s2.heap.objs.size := by simpa using hb
      have hle : s2.heap.objs.size ≤ b := by
        rcases e' with z | z
        · rw [z]; exact Nat.le_add_right _ _
        · rw [z]; exact Nat.le_refl _
      exact I2.fpOk hle (I2.hok.fresh hle)
theorem walk_enumS {K : PySem.W.Frag} {c : Int} {a : Addr} {xs : List V} : Walk (IteS K c a) xs.length (fun H => SqL K H a xs) (YPair (fun i => some (.int (c + (i : Nat)))) (fun i => xs[i]?)) := by
  refine ⟨fun i _ hi q => ⟨xs, xs[i], q, by simp [hi]⟩, fun _ q => ⟨xs, q, rfl⟩, fun i H v H' _ q y => ?_⟩
  obtain ⟨T, x, h1, h2, h3, h4⟩ := y
  exact ⟨T, .int (c + (i : Nat)), x, h1, h2, h3, rfl, h4 xs q⟩
end Vf

set_option Elab.async false
set_option linter.all false
set_option maxRecDepth 100000
set_option maxHeartbeats 1000000
namespace Vf
open PySem PySem.Spec PyProof.Rows L2
section
variable {X : Cx} {o : Expr} {p pos apos mpos : Pos} {td : TE}
/-! ### list(d.values()) -/
def tListVals (td : TE) : TE := fun σ H Q => td σ H fun x H1 => ∃ a kvs, x = V.ref a ∧ H1 a = some (.dK kvs) ∧ ∀ q, H1 q = none → Q (.ref q) (upd H1 q (.lst (kvs.map (·.2))))
theorem pe_listVals (hc : X.calm = true) (hg : Gl X "list") (hm : X.mg "list" = none) (hd : PE X o td) (hbase : attributeBase o "values" X.env (eval o X.env) = eval o X.env := by rfl) (hline : (apos.endLine == mpos.line) = true := by rfl)
    (he : starEach [Expr.Call (.Attribute o "values" apos) [] [] mpos] X.env = [(false, eval (Expr.Call (.Attribute o "values" apos) [] [] mpos) X.env)] := by rfl) :
    PE X (.Call (.Name "list" p) [.Call (.Attribute o "values" apos) [] [] mpos] [] pos) (tListVals td) := by
  refine ⟨fun pins s σ H Q I h => ?_⟩
  refine wpAny_Call_Name_kw (ld_blt I hg hm (u := .type "list") (by first | rfl | decide +kernel) ?_ (by first | decide +kernel | decide) (by first | decide +kernel | decide))
  rw [he]
  refine PySem.callWith_type1 (wpAny_Call_method0_late hbase hline (thn (hd.run pins s σ H _ I h) fun v s1 ⟨x, H1, I1, r1, a, kvs, ex, ha, q⟩ => ?_))
  subst ex
  obtain rfl : v = Value.ref a := r1
  obtain ⟨hz, hsys, vs, rel, dof⟩ := dk_of I1.hok ha
  obtain ⟨ep, dat⟩ := dof.dictAt
  have dat' := dat
  obtain ⟨ob, es, ho, ex, hdat, hko, hpr, hnd⟩ := dat'
  refine ⟨"dict", "dict.values", F.plainAttrs_dict, F.slot_dict_values, F.type_dict_values, ⟨ob, ho, ex.1⟩, fun b e => ?_, Calls.callWith_builtin rfl (PySem.evalArgs_none ?_)⟩
  · cases e
    exact ⟨ob, ho, ex.2.1⟩
  refine call_meetsIn F.slot_dict_values ⟨ob, ho, ex.1⟩ F.entry_dict_values (F.args_dict_values_1 _) (meets_dict_values (mixKind X.prog X.w) a hsys) ⟨⟨vs, dof⟩, ?_⟩
  have k1 : ∀ b u, s1.heap.get? b = some u → (s1.heap.push { cls := .type "dict_values", data := .fields #[.ref a] }).get? b = some u := fun b u e => Heap.get?_push_of_some _ e
  have dat1 : (s1.heap.push { cls := .type "dict_values", data := .fields #[.ref a] }).DictAt (mixKind X.prog X.w) a vs ep := dat.keep k1
  have I2 : Inv X pins σ H1 { s1 with heap := s1.heap.push { cls := .type "dict_values", data := .fields #[.ref a] } } := I1.kept (t' := s1.toks) fun b ob q => Heap.get?_push_of_some _ q
  have hl : kvs.length = vs.length := KV.length rel
  refine PySem.W.kdl_call (PySem.W.kdl_values (r := s1.heap.objs.size) (knd := mixKind X.prog X.w) (kvs := vs) (ep := ep)) (I2.ok.hd hc) ⟨⟨_, Heap.get?_push_size _ rfl, rfl, rfl⟩, dat1⟩ (by rw [← hl]; exact hz) fun h' tk acc' c' hkeep hS hacc => ?_
  refine ⟨.ref _, upd H1 _ (.lst (kvs.map (·.2))), I2.laid hkeep (Nat.le_refl _) (show ObjOk X.prog X.w _ _ _ (.lst (kvs.map (·.2))) from ⟨?_, acc'.toList, c', ?_, ?_⟩), rfl, q _ (I2.hok.fresh (Nat.le_refl _))⟩
  · rw [List.length_map]; exact hz
  · have el : acc'.toList.length = acc'.size := by simp
    refine vals_of_at (by rw [List.length_map, el, hacc.1, hl]) fun j x w h1 h2 => ?_
    obtain ⟨k, hk⟩ := hacc.2 j w (by rw [← Array.getElem?_toList]; exact h2)
    obtain ⟨x', h3, h4⟩ := KV.at' rel hk
    rw [List.getElem?_map, h3] at h1
    cases h1
    exact h4
  · rw [Array.toArray_toList]; exact hS
end
end Vf

set_option Elab.async false
set_option linter.all false
set_option maxRecDepth 100000
set_option maxHeartbeats 1000000
namespace Vf
open PySem PySem.Spec PyProof.Rows L2
section
variable {X : Cx}
/-- t == u, two tuples of equal items -/
def rEq0 (K : PySem.W.Frag) : R2 := fun x y H Q => ∃ (a b : Addr) (xs ys : List V), x = .ref a ∧ y = .ref b ∧ SqT K H a xs ∧ SqT K H b ys ∧ Paired (fun z z' => EqI K H z z' true) xs ys ∧ Q (.bl true) H
theorem op_eq0 (hu : X.A.units + 64 < cLine) : OpR X (compareOp .Eq) (rEq0 X.K) := by
  intro pins s σ H x y v u Q I rx ry h
  obtain ⟨a, b, xs, ys, rfl, rfl, ha, hb, hp, q⟩ := h
  cases rx
  cases ry
  have hu1 : X.A.in1.units < cLine := by show X.A.units + 1 < cLine; omega
  obtain ⟨us, r1, p1, _⟩ := I.tuple ha
  obtain ⟨ws, r2, p2, _⟩ := I.tuple hb
  have hs : us.toArray.size = ws.toArray.size := by rw [List.size_toArray, List.size_toArray, ← r1.length, ← r2.length]; exact Paired.length hp
  refine SeqAt.RcAt.tuples (e := fun _ => true) p1 p2 (by omega) (fun j h1 h2 => ?_) _ _ _ _ ?_
  · have := items_at (fun r1 r2 k => EqI.at I k r1 r2 hu1) hp r1 r2 j (by simpa using h1) (by simpa using h2)
    simpa using this
  · rw [hs, show ((List.range (min ws.toArray.size ws.toArray.size)).all fun _ => true) = true from List.all_eq_true.mpr fun _ _ => rfl, beq_self_eq_true]
    exact ⟨.bl true, H, I, rfl, q⟩
end
end Vf

set_option Elab.async false
set_option linter.all false
set_option maxRecDepth 100000
set_option maxHeartbeats 1000000
namespace Vf
open PySem PySem.Spec PyProof.Rows L2
section
variable {X : Cx}
/-- l == m, two lists: of unlike lengths, or of equal items -/
def rEqL0 (K : PySem.W.Frag) : R2 := fun x y H Q => ∃ (a b : Addr) (xs ys : List V), x = .ref a ∧ y = .ref b ∧ SqL K H a xs ∧ SqL K H b ys ∧ ((xs.length ≠ ys.length ∧ Q (.bl false) H) ∨ (Paired (fun z z' => EqI K H z z' true) xs ys ∧ Q (.bl true) H))
theorem op_eqL0 (hu : X.A.units + 64 < cLine) : OpR X (compareOp .Eq) (rEqL0 X.K) := by
  intro pins s σ H x y v u Q I rx ry h
  obtain ⟨a, b, xs, ys, rfl, rfl, ha, hb, h⟩ := h
  cases rx
  cases ry
  have hu1 : X.A.in1.units < cLine := by show X.A.units + 1 < cLine; omega
  obtain ⟨us, r1, p1, _⟩ := I.list ha
  obtain ⟨ws, r2, p2, _⟩ := I.list hb
  rcases h with ⟨hn, q⟩ | ⟨hp, q⟩
  · have hs : (us.toArray.size != ws.toArray.size) = true := by
      rw [List.size_toArray, List.size_toArray, ← r1.length, ← r2.length]
      simpa using hn
    exact SeqAt.RcAt.lists_lengths p1.isList p2.isList hs (by omega) _ _ _ _ ⟨.bl false, H, I, rfl, q⟩
  · have hs : us.toArray.size = ws.toArray.size := by rw [List.size_toArray, List.size_toArray, ← r1.length, ← r2.length]; exact Paired.length hp
    refine SeqAt.RcAt.lists (e := fun _ => true) p1.isList p2.isList hs (by omega) (fun j h1 h2 => ?_) _ _ _ _ ?_
    · have := items_at (fun r1 r2 k => EqI.at I k r1 r2 hu1) hp r1 r2 j (by simpa using h1) (by simpa using h2)
      simpa using this
    · rw [show ((List.range us.toArray.size).all fun _ => true) = true from List.all_eq_true.mpr fun _ _ => rfl]
      exact ⟨.bl true, H, I, rfl, q⟩
/-- l == [] -/
def rEqNil (K : PySem.W.Frag) : R2 := fun x y H Q => ∃ (a b : Addr) (xs : List V), x = .ref a ∧ y = .ref b ∧ SqL K H a xs ∧ SqL K H b [] ∧ Q (.bl xs.isEmpty) H
theorem op_eqNil (hu : X.A.units + 64 < cLine) : OpR X (compareOp .Eq) (rEqNil X.K) := by
  intro pins s σ H x y v u Q I rx ry h
  obtain ⟨a, b, xs, rfl, rfl, ha, hb, q⟩ := h
  refine op_eqL0 hu _ _ _ _ _ _ _ _ _ I rx ry ⟨a, b, xs, [], rfl, rfl, ha, hb, ?_⟩
  cases xs with
  | nil => exact .inr ⟨.nil, q⟩
  | cons x xs => exact .inl ⟨(by simp), q⟩
end
end Vf

set_option Elab.async false
set_option linter.all false
set_option maxRecDepth 100000
set_option maxHeartbeats 1000000
namespace Vf
open PySem PySem.Spec PyProof.Rows L2
section
variable {X : Cx}
/-- d.copy() -/
def rDCopy : V → List V → Hp → VK → Prop := fun x vs H Q => ∃ (a : Addr) (kvs : List (Key × V)), x = .ref a ∧ vs = [] ∧ H a = some (.dK kvs) ∧ ∀ p, H p = none → Q (.ref p) (upd H p (.dK kvs))
theorem mt_dcopy : MtR X "dict.copy" rDCopy := by
  intro pins s σ H x vs v us Q I rx rv h
  obtain ⟨a, kvs, rfl, rfl, ha, q⟩ := h
  cases rx
  cases rv
  obtain ⟨hz, hsys, vs, rel, dof⟩ := dk_of I.hok ha
  refine call_meetsIn F.slot_dict_copy dof.typeIs F.entry_dict_copy (F.args_dict_copy_1 _) (meets_dict_copy (mixKind X.prog X.w) a hsys) ⟨vs, dof, (by rw [← KV.length rel]; exact hz), fun h' d1 d2 keep => ?_⟩
  exact ⟨.ref _, upd H _ (.dK kvs), I.laid (t' := s.toks) keep (Nat.le_refl _) (show ObjOk X.prog X.w _ _ _ (.dK kvs) from ⟨hz, beq_eq_false_iff_ne.mpr (Ne.symm (Nat.ne_of_lt I.big)), vs, rel, d1⟩), rfl, q _ (I.hok.fresh (Nat.le_refl _))⟩
/-- text * int -/
def strN (z : Str) (n : Nat) : Str := ⟨(List.replicate n z.cps).foldl (· ++ ·) #[]⟩
def rMulS : R2 := fun x y H Q => ∃ (z : Str) (k : Nat), x = .str z ∧ y = .int (k : Int) ∧ 2 ≤ k ∧ k ≤ 100 ∧ 1 ≤ z.length ∧ z.length ≤ 100 ∧ (strN z k).length ≤ sizeLine ∧ Q (.str (strN z k)) H
theorem op_mulS : OpR X (binaryOp .Mult) rMulS := by
  intro pins s σ H x y v u Q I rx ry h
  obtain ⟨z, k, rfl, rfl, k2, k100, z1, z100, zl, q⟩ := h
  obtain ⟨t, rfl⟩ := rx
  obtain ⟨t', rfl⟩ := ry
  have hl : z.length * ((k : Int)).toNat ≤ 10000 := by
    rw [Int.toNat_natCast]
    exact Nat.mul_le_mul z100 k100
  refine PySem.P.mul_str ?_ (fun _ _ => ?_) (fun _ _ => ?_) ?_
  · rw [decide_eq_false (by omega), decide_eq_false (by omega)]
    rfl
  · have : ((2 ^ 63 - 1 : Int)) / (k : Int) ≥ ((2 ^ 63 - 1 : Int)) / 100 := by
      refine Int.le_ediv_of_mul_le (by omega) ?_
      have h1 : ((2 ^ 63 - 1 : Int)) / 100 * (k : Int) ≤ ((2 ^ 63 - 1 : Int)) / 100 * 100 := Int.mul_le_mul_of_nonneg_left (by omega) (by decide)
      exact Int.le_trans h1 (by decide)
    have h2 : ((2 ^ 63 - 1 : Int)) / 100 > 100 := by decide
    omega
  · show decide _ = false
    exact decide_eq_false (by have : (10000 : Nat) ≤ sizeLine := by decide
                              omega)
  · rw [if_neg (by omega), if_neg (by
      have e1 : ((k : Int) == 1) = false := beq_eq_false_iff_ne.mpr (by omega)
      have e2 : (z.length == 0) = false := beq_eq_false_iff_ne.mpr (by omega)
      rw [e1, e2]
      decide)]
    rw [Int.toNat_natCast]
    exact ⟨zl, .str _, H, I.tok _, ⟨_, rfl⟩, q⟩
/-- x != y: of flat values, of lists or tuples of equal items, of dicts of equal items -/
def rNeK (K : PySem.W.Frag) : R2 := fun x y H Q => (flatV x = true ∧ x = y ∧ Q (.bl false) H) ∨ rNe0 K x y H Q ∨ rNe0D K x y H Q
theorem op_neK (hu : X.A.units + 64 < cLine) : OpR X (compareOp .NotEq) (rNeK X.K) := by
  intro pins s σ H x y v u Q I rx ry h
  rcases h with ⟨hf, rfl, q⟩ | h | h
  · refine op_ne _ _ _ _ _ _ _ _ _ I rx ry ⟨?_, ?_⟩
    · cases x <;> first | rfl | cases hf
    · rw [decide_eq_true rfl]
      exact q
  · exact op_ne0 hu _ _ _ _ _ _ _ _ _ I rx ry h
  · exact op_ne0D hu _ _ _ _ _ _ _ _ _ I rx ry h
end
end Vf

set_option Elab.async false
set_option linter.all false
set_option maxRecDepth 100000
namespace K39
open PySem PySem.Spec PyProof.Rows L2 Vf
def top (i : Nat) : Stmt := PySem.Challenge.pw_seenshares_k39_read_run_refusals.main.body.getD i (.Pass ⟨0, 0, 0, 0⟩)
def KEPT : List Str := ["any", "closed", "end", "open", "to"]
def LET : Str := "abcdefghijklmnopqrstuvwxyz"
abbrev s_is_integer : Stmt := top 8
abbrev s_is_integer_from : Stmt := top 9
abbrev s_is_name : Stmt := top 10
abbrev s_BadRun_init : Stmt := inClass (top 2) 0
abbrev s_BadText_init : Stmt := inClass (top 3) 0
abbrev s_has_right_length : Stmt := top 21
abbrev s_is_look_of_text : Stmt := top 23
abbrev s_is_stay_of_text : Stmt := top 22
abbrev s_phase_line : Stmt := top 24
abbrev s_stay_line : Stmt := top 25
abbrev s_digit_of : Stmt := top 27
abbrev s_looks_line : Stmt := top 26
abbrev s_lines_of : Stmt := top 19
abbrev s_check_end : Stmt := top 20
abbrev s_phase_told : Stmt := top 28
abbrev s_looks_told : Stmt := top 30
abbrev s_stay_told : Stmt := top 29
abbrev s_write_run : Stmt := top 17
abbrev s_read_run : Stmt := top 18
abbrev s_law_take : Stmt := top 33
abbrev s_law_cell : Stmt := top 32
abbrev s_law_name : Stmt := top 34
abbrev s_law_run_text : Stmt := top 35
abbrev s_law_number : Stmt := top 36
abbrev s_law_is_name : Stmt := top 37
abbrev s_law_is_looks : Stmt := top 38
abbrev s_law_is_stay : Stmt := top 39
abbrev s_law_wrong_line : Stmt := top 40
abbrev s_law_read : Stmt := top 41
abbrev s_law_run : Stmt := top 43
abbrev s_law_once : Stmt := top 42
abbrev s_law_spoiled : Stmt := top 44
abbrev s_law : Stmt := top 45
end K39
set_option Elab.async false
set_option linter.all false
set_option maxRecDepth 100000
set_option maxHeartbeats 0
namespace K39
open PySem PySem.Spec PyProof.Rows L2 Vf
def fn : List He.DefD := [
  ⟨("BadRun", some "__init__"), "__init__", "BadRun.__init__", defArgs s_BadRun_init, defBody s_BadRun_init, defScope s_BadRun_init, [], []⟩,
  ⟨("BadText", some "__init__"), "__init__", "BadText.__init__", defArgs s_BadText_init, defBody s_BadText_init, defScope s_BadText_init, [], []⟩,
  ⟨("is_integer", none), "is_integer", "is_integer", defArgs s_is_integer, defBody s_is_integer, defScope s_is_integer, [], []⟩,
  ⟨("is_integer_from", none), "is_integer_from", "is_integer_from", defArgs s_is_integer_from, defBody s_is_integer_from, defScope s_is_integer_from, [], []⟩,
  ⟨("is_name", none), "is_name", "is_name", defArgs s_is_name, defBody s_is_name, defScope s_is_name, [], []⟩,
  ⟨("write_run", none), "write_run", "write_run", defArgs s_write_run, defBody s_write_run, defScope s_write_run, [], []⟩,
  ⟨("read_run", none), "read_run", "read_run", defArgs s_read_run, defBody s_read_run, defScope s_read_run, [], []⟩,
  ⟨("lines_of", none), "lines_of", "lines_of", defArgs s_lines_of, defBody s_lines_of, defScope s_lines_of, [], []⟩,
  ⟨("check_end", none), "check_end", "check_end", defArgs s_check_end, defBody s_check_end, defScope s_check_end, [], []⟩,
  ⟨("has_right_length", none), "has_right_length", "has_right_length", defArgs s_has_right_length, defBody s_has_right_length, defScope s_has_right_length, [], []⟩,
  ⟨("is_stay_of_text", none), "is_stay_of_text", "is_stay_of_text", defArgs s_is_stay_of_text, defBody s_is_stay_of_text, defScope s_is_stay_of_text, [], []⟩,
  ⟨("is_look_of_text", none), "is_look_of_text", "is_look_of_text", defArgs s_is_look_of_text, defBody s_is_look_of_text, defScope s_is_look_of_text, [], []⟩,
  ⟨("phase_line", none), "phase_line", "phase_line", defArgs s_phase_line, defBody s_phase_line, defScope s_phase_line, [], []⟩,
  ⟨("stay_line", none), "stay_line", "stay_line", defArgs s_stay_line, defBody s_stay_line, defScope s_stay_line, [], []⟩,
  ⟨("looks_line", none), "looks_line", "looks_line", defArgs s_looks_line, defBody s_looks_line, defScope s_looks_line, [], []⟩,
  ⟨("digit_of", none), "digit_of", "digit_of", defArgs s_digit_of, defBody s_digit_of, defScope s_digit_of, [], []⟩,
  ⟨("phase_told", none), "phase_told", "phase_told", defArgs s_phase_told, defBody s_phase_told, defScope s_phase_told, [], []⟩,
  ⟨("stay_told", none), "stay_told", "stay_told", defArgs s_stay_told, defBody s_stay_told, defScope s_stay_told, [], []⟩,
  ⟨("looks_told", none), "looks_told", "looks_told", defArgs s_looks_told, defBody s_looks_told, defScope s_looks_told, [], []⟩,
  ⟨("_law_cell", none), "_law_cell", "_law_cell", defArgs s_law_cell, defBody s_law_cell, defScope s_law_cell, [], []⟩,
  ⟨("_law_take", none), "_law_take", "_law_take", defArgs s_law_take, defBody s_law_take, defScope s_law_take, [], []⟩,
  ⟨("_law_name", none), "_law_name", "_law_name", defArgs s_law_name, defBody s_law_name, defScope s_law_name, [], []⟩,
  ⟨("_law_run_text", none), "_law_run_text", "_law_run_text", defArgs s_law_run_text, defBody s_law_run_text, defScope s_law_run_text, [], []⟩,
  ⟨("_law_number", none), "_law_number", "_law_number", defArgs s_law_number, defBody s_law_number, defScope s_law_number, [], []⟩,
  ⟨("_law_is_name", none), "_law_is_name", "_law_is_name", defArgs s_law_is_name, defBody s_law_is_name, defScope s_law_is_name, [], []⟩,
  ⟨("_law_is_looks", none), "_law_is_looks", "_law_is_looks", defArgs s_law_is_looks, defBody s_law_is_looks, defScope s_law_is_looks, [], []⟩,
  ⟨("_law_is_stay", none), "_law_is_stay", "_law_is_stay", defArgs s_law_is_stay, defBody s_law_is_stay, defScope s_law_is_stay, [], []⟩,
  ⟨("_law_wrong_line", none), "_law_wrong_line", "_law_wrong_line", defArgs s_law_wrong_line, defBody s_law_wrong_line, defScope s_law_wrong_line, [], []⟩,
  ⟨("_law_read", none), "_law_read", "_law_read", defArgs s_law_read, defBody s_law_read, defScope s_law_read, [], []⟩,
  ⟨("_law_once", none), "_law_once", "_law_once", defArgs s_law_once, defBody s_law_once, defScope s_law_once, [], []⟩,
  ⟨("_law_run", none), "_law_run", "_law_run", defArgs s_law_run, defBody s_law_run, defScope s_law_run, [], []⟩,
  ⟨("_law_spoiled", none), "_law_spoiled", "_law_spoiled", defArgs s_law_spoiled, defBody s_law_spoiled, defScope s_law_spoiled, [], []⟩,
  ⟨("law", none), "law", "law", defArgs s_law, defBody s_law, defScope s_law, [], []⟩]
def fa : List He.Fa := [.free "int", .free "bool", .free "str", .free "len", .free "all", .free "isinstance", .free "list", .free "tuple", .free "enumerate", .free "range", .int "LONGEST_NAME" 8, .int "MOST_TICKS" 6, .int "MOST_RUN_TICKS" 2000, .int "MOST_PERIOD" 8, .int "MOST_RUN_TEXT" 40000, .str "DIGITS" "0123456789", .str "LETTERS" "abcdefghijklmnopqrstuvwxyz", .glo "KEPT_WORDS", .glo "is_integer", .glo "is_integer_from", .glo "is_name", .glo "write_run", .glo "read_run", .glo "lines_of", .glo "check_end", .glo "has_right_length", .glo "is_stay_of_text", .glo "is_look_of_text", .glo "phase_line", .glo "stay_line", .glo "looks_line", .glo "digit_of", .glo "phase_told", .glo "stay_told", .glo "looks_told", .glo "BadRun", .glo "BadText", .glo "_law_cell", .glo "_law_take", .glo "_law_name", .glo "_law_run_text", .glo "_law_number", .glo "_law_is_name", .glo "_law_is_looks", .glo "_law_is_stay", .glo "_law_wrong_line", .glo "_law_read", .glo "_law_once", .glo "_law_run", .glo "_law_spoiled", .glo "SeenError", .glo "law"]
def ex2 (K : PySem.W.Frag) : Bool := ((kTup K (He.ga K "KEPT_WORDS") KEPT) && ((exI K "BadRun" "part") && ((exI K "BadText" "line") && ((He.eqO (PySem.W.specialIn K (.builtin "object.__class__") "__get__") (some (some (.builtin "getset_descriptor.__get__")))) && ((decide (PySem.W.takesIn K (.builtin "object.__class__") = some true)) && ((decide (PySem.W.exmOne K (.ref (He.ga K "BadText")) (.ref (He.ga K "BadText")) = some true)) && ((decide (PySem.W.kitOne K (.ref (He.ga K "BadText")) (.ref (He.ga K "SeenError")) = some true)) && ((decide (PySem.W.kitOne K (.ref (He.ga K "BadText")) (.ref (He.ga K "BadRun")) = some false)) && true))))))))
def ex (K : PySem.W.Frag) : Bool := (fa.all fun f => f.ok K) && ex2 K
abbrev R : PySem.W.OpenRow := PySem.W.OpenLaw.row PySem.Challenge.rw_seenshares_k39_read_run_refusals
abbrev hk : PySem.W.Hook := hookM 5 ex fn
def ob (s : PySem.W.SharedT) : AlM := obsMG 5 ex fn (HandSHeadRun.getT s)
theorem ob_eq (s : PySem.W.SharedT) : ob s = hk.obs s.abs := obsMG_eq (HandSHeadRun.getT_eq s)
def names : List Str := ("SeenError" : Str) :: ("BadRun" : Str) :: ("BadText" : Str) :: ("KEPT_WORDS" : Str) :: ("LETTERS" : Str) :: ("LONGEST_NAME" : Str) :: ("is_integer" : Str) :: ("is_integer_from" : Str) :: ("is_name" : Str) :: ("MOST_TICKS" : Str) :: ("MOST_RUN_TICKS" : Str) :: ("MOST_PERIOD" : Str) :: ("MOST_RUN_TEXT" : Str) :: ("DIGITS" : Str) :: ("write_run" : Str) :: ("read_run" : Str) :: ("lines_of" : Str) :: ("check_end" : Str) :: ("has_right_length" : Str) :: ("is_stay_of_text" : Str) :: ("is_look_of_text" : Str) :: ("phase_line" : Str) :: ("stay_line" : Str) :: ("looks_line" : Str) :: ("digit_of" : Str) :: ("phase_told" : Str) :: ("stay_told" : Str) :: ("looks_told" : Str) :: ("_law_cell" : Str) :: ("_law_take" : Str) :: ("_law_name" : Str) :: ("_law_run_text" : Str) :: ("_law_number" : Str) :: ("_law_is_name" : Str) :: ("_law_is_looks" : Str) :: ("_law_is_stay" : Str) :: ("_law_wrong_line" : Str) :: ("_law_read" : Str) :: ("_law_once" : Str) :: ("_law_run" : Str) :: ("_law_spoiled" : Str) :: []
theorem run (w : World) : HandSHeadRun.RunEq R (PySem.W.view R.prog [45]) hk ob 100000 names w := by
  intro os
  kernel_rfl
end K39

set_option Elab.async false
set_option linter.all false
set_option maxRecDepth 100000
set_option maxHeartbeats 2000000
namespace K39
open PySem PySem.Spec PyProof.Rows L2 Vf
abbrev OkF (P : Program) (w : World) (K : PySem.W.Frag) (mg : Str → Option Value) (base : Heap) (CX : CXT) (k : Nat) (x : Str) (ps : List Str) (sp : Sp) : Prop := OkD P w K mg base CX k (x, none) ps [] sp
abbrev OkM (P : Program) (w : World) (K : PySem.W.Frag) (mg : Str → Option Value) (base : Heap) (CX : CXT) (k : Nat) (c m : Str) (ps : List Str) (sp : Sp) : Prop := OkD P w K mg base CX k (c, some m) ps [] sp
abbrev FnD (K : PySem.W.Frag) (p : Pl) (x q : Str) (st : Stmt) (fd : FuncData) : Prop := FunD K x q (defArgs st) (defBody st) (defScope st) [] [] (He.fAd K p) fd
def DIG : Str := "0123456789"
structure PTxt (K : PySem.W.Frag) (mg : Str → Option Value) : Prop where
  z_int : mg "int" = none
  z_bool : mg "bool" = none
  z_str : mg "str" = none
  z_len : mg "len" = none
  z_all : mg "all" = none
  z_isinstance : mg "isinstance" = none
  i_LONGEST_NAME : ∃ t, mg "LONGEST_NAME" = some (.int 8 t)
  z_list : mg "list" = none
  z_tuple : mg "tuple" = none
  z_enumerate : mg "enumerate" = none
  i_MOST_TICKS : ∃ t, mg "MOST_TICKS" = some (.int 6 t)
  i_MOST_RUN_TICKS : ∃ t, mg "MOST_RUN_TICKS" = some (.int 2000 t)
  i_MOST_PERIOD : ∃ t, mg "MOST_PERIOD" = some (.int 8 t)
  i_MOST_RUN_TEXT : ∃ t, mg "MOST_RUN_TEXT" = some (.int 40000 t)
  i_DIGITS : ∃ t, mg "DIGITS" = some (.str DIG t)
  i_LETTERS : ∃ t, mg "LETTERS" = some (.str LET t)
  g_KEPT_WORDS : mg "KEPT_WORDS" = some (.ref (He.ga K "KEPT_WORDS"))
  t_KEPT : kTup K (He.ga K "KEPT_WORDS") KEPT = true
  g_is_integer : mg "is_integer" = some (.ref (He.ga K "is_integer"))
  g_is_integer_from : mg "is_integer_from" = some (.ref (He.ga K "is_integer_from"))
  g_is_name : mg "is_name" = some (.ref (He.ga K "is_name"))
  g_write_run : mg "write_run" = some (.ref (He.ga K "write_run"))
  g_read_run : mg "read_run" = some (.ref (He.ga K "read_run"))
  g_lines_of : mg "lines_of" = some (.ref (He.ga K "lines_of"))
  g_check_end : mg "check_end" = some (.ref (He.ga K "check_end"))
  g_has_right_length : mg "has_right_length" = some (.ref (He.ga K "has_right_length"))
  g_is_stay_of_text : mg "is_stay_of_text" = some (.ref (He.ga K "is_stay_of_text"))
  g_is_look_of_text : mg "is_look_of_text" = some (.ref (He.ga K "is_look_of_text"))
  g_phase_line : mg "phase_line" = some (.ref (He.ga K "phase_line"))
  g_stay_line : mg "stay_line" = some (.ref (He.ga K "stay_line"))
  g_looks_line : mg "looks_line" = some (.ref (He.ga K "looks_line"))
  g_digit_of : mg "digit_of" = some (.ref (He.ga K "digit_of"))
  g_phase_told : mg "phase_told" = some (.ref (He.ga K "phase_told"))
  g_stay_told : mg "stay_told" = some (.ref (He.ga K "stay_told"))
  g_looks_told : mg "looks_told" = some (.ref (He.ga K "looks_told"))
  g_BadRun : mg "BadRun" = some (.ref (He.ga K "BadRun"))
  g_BadText : mg "BadText" = some (.ref (He.ga K "BadText"))
  x_BadRun : ExI K "BadRun" "part"
  x_BadText : ExI K "BadText" "line"
theorem same_new {H : Hp} {p : Addr} {o : HO} (h : H p = none) : Same H (upd H p o) := fun b u e => by
  rw [upd_ne (ne_of_none e h)]
  exact e
theorem same_make {H : Hp} {x dx : Addr} {o1 o2 : HO} (nx : H x = none) (ndx : H dx = none) : Same H (upd (upd H dx o1) x o2) := fun b o e => by
  rw [upd_ne (ne_of_none e nx), upd_ne (ne_of_none e ndx)]
  exact e
theorem same_make2 {H : Hp} {x dx : Addr} {o1 o2 o3 : HO} (nx : H x = none) (ndx : H dx = none) : Same H (upd (upd (upd H dx o1) x o2) x o3) := by
  rw [upd_upd]
  exact same_make nx ndx
theorem same_app {H H1 H2 : Hp} {D : Addr} {o : HO} (s : Same H H1) (s2 : Same H1 H2) (nD : H D = none) : Same H (upd H2 D o) := fun b u e => by
  rw [upd_ne (ne_of_none e nD)]
  exact s2 _ _ (s _ _ e)
section
variable {P : Program} {w : World} {K : PySem.W.Frag} {mg : Str → Option Value} {base : Heap}
theorem okd {CX : CXT} {k : Nat} {p : Pl} {x q : Str} {st : Stmt} {fd : FuncData} {ps : List Str} {sp : Sp} (F : FnD K p x q st fd) (ok : FnOk P w K mg base CX k (He.fAd K p) fd ps sp)
    (h : ∀ (kV doc pm : Value) (an : Option Addr) (cdv ct : Value) (us : List Value), us.length = ps.length → bindArgs (PySem.W.fnOf x q (defArgs st) (defBody st) (defScope st) .none kV doc pm an cdv ct) ⟨us, []⟩ = pure (ps.zip us)) : OkD P w K mg base CX k p ps [] sp :=
  ⟨⟨fd, [], ok, FunD.bindsN F h, .nil⟩, F.kp⟩
theorem sc_is_integer : FnScope ["x"] ["x"] (defScope s_is_integer) := ⟨rfl, rfl, rfl, by decide +kernel, rfl, by decide +kernel, by decide +kernel⟩
-- slots: 0 x
theorem ok_is_integer {fd : FuncData} (F : FnD K ("is_integer", none) "is_integer" "is_integer" s_is_integer fd) (T : PTxt K mg) : OkF P w K mg base CX0 1 "is_integer" ["x"] spIsInt := by
  refine okd F (F.ok sc_is_integer (fun vs H Q E h => ?_) fun cdv A outer s H vs Q E hr h => ⟨t_isint K, PSs.nox ?_, run_isint h⟩) fun _ _ _ _ _ _ us hl => match us, hl with | [_], _ => rfl
  · obtain ⟨x, rfl, _⟩ := h
    rfl
  · exact (pss_one (ps_ret (pe_and (pe_callB (id := "isinstance") call_isi (by rfl) T.z_isinstance (by decide +kernel) (pa_cons (pv 0) (pa_cons (pe_ty (n := "int") T.z_int (by decide +kernel)) pa_nil))) (pe_one (pe_not (pe_callB (id := "isinstance") call_isi (by rfl) T.z_isinstance (by decide +kernel) (pa_cons (pv 0) (pa_cons (pe_ty (n := "bool") T.z_bool (by decide +kernel)) pa_nil))))))))
theorem sc_is_integer_from : FnScope ["x", "low", "high"] ["x", "low", "high"] (defScope s_is_integer_from) := ⟨rfl, rfl, rfl, by decide +kernel, rfl, by decide +kernel, by decide +kernel⟩
-- slots: 0 x, 1 low, 2 high
/-- l is no integer from lo to hi -/
def NotFr (H : Hp) (l : V) (lo hi : Int) : Prop := (∃ n, l = .int n ∧ ¬ (lo ≤ n ∧ n ≤ hi)) ∨ Odd H l
def spFr : Sp := fun vs H Q _ => ∃ (x : V) (lo hi : Int), vs = [x, .int lo, .int hi] ∧ ((∃ n, x = .int n ∧ lo ≤ n ∧ n ≤ hi ∧ Q (.bl true) H) ∨ (NotFr H x lo hi ∧ Q (.bl false) H))
theorem ok_is_integer_from {fd : FuncData} (F : FnD K ("is_integer_from", none) "is_integer_from" "is_integer_from" s_is_integer_from fd) (T : PTxt K mg) (O_is_integer : OkF P w K mg base CX0 1 "is_integer" ["x"] spIsInt) : OkF P w K mg base CX0 2 "is_integer_from" ["x", "low", "high"] spFr := by
  refine okd F (F.ok sc_is_integer_from (fun vs H Q E h => ?_) fun cdv A outer s H vs Q E hr h => ?_) fun _ _ _ _ _ _ us hl => match us, hl with | [_, _, _], _ => rfl
  · obtain ⟨x, lo, hi, rfl, _⟩ := h
    rfl
  · obtain ⟨x, lo, hi, rfl, h⟩ := h
    refine ⟨_, PSs.nox (pss_one (ps_ret (pe_and (c_fn O_is_integer hr (by decide) T.g_is_integer pass0 (pa_cons (pv 0) pa_nil)) (pe_one (pe_chain op_le op_le (pv 1) (pv 0) (pv 2)))))), ?_⟩
    rcases h with ⟨n, rfl, l1, l2, q⟩ | ⟨⟨n, rfl, hn⟩ | o, q⟩
    · refine ⟨_, rfl, _, rfl, .inl ⟨⟨n, rfl⟩, true, rfl, iteT ?_⟩⟩
      refine ⟨_, rfl, _, rfl, lo, n, rfl, rfl, true, congrArg V.bl (decide_eq_true l1), iteT ⟨_, rfl, n, hi, rfl, rfl, ?_⟩⟩
      show Q (.bl (decide (n ≤ hi))) H
      rw [decide_eq_true l2]
      exact q
    · refine ⟨_, rfl, _, rfl, .inl ⟨⟨n, rfl⟩, true, rfl, iteT ?_⟩⟩
      by_cases l1 : lo ≤ n
      · have l2 : ¬ n ≤ hi := fun z => hn ⟨l1, z⟩
        refine ⟨_, rfl, _, rfl, lo, n, rfl, rfl, true, congrArg V.bl (decide_eq_true l1), iteT ⟨_, rfl, n, hi, rfl, rfl, ?_⟩⟩
        show Q (.bl (decide (n ≤ hi))) H
        rw [decide_eq_false l2]
        exact q
      · exact ⟨_, rfl, _, rfl, lo, n, rfl, rfl, false, congrArg V.bl (decide_eq_false l1), iteF q⟩
    · exact ⟨_, rfl, _, rfl, .inr ⟨o, false, rfl, iteF q⟩⟩
theorem sc_is_name : FnScope ["x", "letter"] ["x"] (defScope s_is_name) := ⟨rfl, rfl, rfl, by decide +kernel, rfl, by decide +kernel, by decide +kernel⟩
-- slots: 0 x, 1 letter
/-- a text that is a name -/
def nmB (z : Str) : Bool := decide (1 ≤ z.length) && (decide (z.length ≤ 8) && (!inV (.str z) (KEPT.map V.str) && z.cps.toList.all fun c => decide (c ∈ LET.cps.toList)))
def spName : Sp := fun vs H Q _ => ∃ x, vs = [x] ∧ ((∃ z, x = .str z ∧ z.length ≤ sizeLine ∧ ∀ H', Same H H' → Q (.bl (nmB z)) H') ∨ (OddS H x ∧ Q (.bl false) H))
theorem ok_is_name {fd : FuncData} (F : FnD K ("is_name", none) "is_name" "is_name" s_is_name fd) (T : PTxt K mg) : OkF P w K mg base CX0 1 "is_name" ["x"] spName := by
  refine okd F (F.ok sc_is_name (fun vs H Q E h => ?_) fun cdv A outer s H vs Q E hr h => ?_) fun _ _ _ _ _ _ us hl => match us, hl with | [_], _ => rfl
  · obtain ⟨x, rfl, _⟩ := h
    rfl
  · obtain ⟨x, rfl, h⟩ := h
    refine ⟨_, PSs.nox (pss_cons (ps_if (PW.pt (pw_or (pt_not (pt_val (pe_callB (id := "isinstance") call_isi (by rfl) T.z_isinstance (by decide +kernel) (pa_cons (pv 0) (pa_cons (pe_ty (n := "str") T.z_str (by decide +kernel)) pa_nil))))) (pw_or1 (pt_not (pt_chain op_le op_le pe_int (pe_callB call_len_str (by rfl) T.z_len (by decide +kernel) (pa_cons (pv 0) pa_nil)) (c_gint T.i_LONGEST_NAME)))))) (pss_one (ps_ret pe_bl))
  pss_nil)
  (pss_one (ps_ret (pe_and (pe_cmpR op_notIn_seq (pv 0) (pe_cl T.g_KEPT_WORDS) rfl) (pe_one (pe_callB (id := "all") (cr_all rfl) (by rfl) T.z_all (by decide +kernel) (pa_cons (pe_lc (own := [("letter", 1)]) (g := gName 1) (tt := tYes) (by rfl) sc_is_name.nd (pi_str (pv 0)) (blkOk_by (N := ["x", "letter"]) (sc := defScope s_is_name) (by decide +kernel)) (fun _ _ _ _ _ => (pg_name (i := 1) sc_is_name.nd rfl (Or.inl rfl))) (fun _ _ _ _ _ => pts_nil) (fun _ _ _ _ _ => (pe_cmpR op_in_str (pv 1) (c_gstr T.i_LETTERS) rfl))) pa_nil))))))), ?_⟩
    rcases h with ⟨z, rfl, hz, k⟩ | ⟨o, q⟩
    · refine ⟨_, rfl, .str z, .ty "str", .type "str", .type "str", true, rfl, .ty _, .base (.str _), kit_ty (by decide +kernel), true, rfl, iteF ?_⟩
      have go : ∀ b : Bool, nmB z = b → ∀ H', Same H H' → Q (.bl b) H' := fun b e H' s => e ▸ k H' s
      by_cases l1 : (1 : Int) ≤ z.length
      · by_cases l2 : (z.length : Int) ≤ 8
        · refine ⟨_, rfl, z, rfl, hz, 1, z.length, rfl, rfl, true, congrArg V.bl (decide_eq_true l1), iteT ⟨z.length, 8, rfl, rfl, true, congrArg V.bl (decide_eq_true l2), iteF ?_⟩⟩
          refine ⟨_, rfl, _, _, rfl, .inr (kTup_ok T.t_KEPT _), rfl, by decide +kernel, _, rfl, ?_⟩
          have e1 : decide (1 ≤ z.length) = true := decide_eq_true (by omega)
          have e2 : decide (z.length ≤ 8) = true := decide_eq_true (by omega)
          unfold nmB at go
          rw [e1, e2, Bool.true_and, Bool.true_and] at go
          show if (!inV (.str z) (KEPT.map V.str)) = true then _ else _
          cases hv : inV (.str z) (KEPT.map V.str) with
          | true =>
            rw [hv] at go
            exact iteF (go false rfl _ fun _ _ h => h)
          | false =>
            rw [hv] at go
            refine iteT ?_
            refine ⟨_, rfl, z, rfl, fun D nD => lc_it walk_str (fun i H' => Same H H' ∧ H' D = some (.lst ((z.cps.toList.take i).map fun c => V.bl (decide (c ∈ LET.cps.toList))))) ⟨same_new nD, upd_same⟩ (fun _ _ _ _ => trivial) ?_ ?_⟩
            · rintro i x H1 H' hi ⟨sg, hD⟩ ⟨rfl, c, hc, rfl⟩
              have hc2 : z.cps.toList[i]? = some c := by simpa using hc
              refine ⟨rfl, _, rfl, _, _, rfl, rfl, ?_⟩
              refine ⟨_, hD, ?_, same_app sg (Same.refl _) nD, ?_⟩
              · rw [List.length_map, List.length_take]
                have hl : z.cps.toList.length = z.length := by simp [Str.length]
                have : min i z.cps.toList.length < 9 := by omega
                exact Nat.lt_of_lt_of_le this (by decide)
              · rw [upd_same, sign_in, List.take_add_one, List.map_append, hc2]
                rfl
            · rintro H' ⟨sg, hD⟩
              have hD2 : H' D = some (.lst ((z.cps.toList.map fun c => decide (c ∈ LET.cps.toList)).map V.bl)) := by
                rw [hD, List.map_map, List.take_of_length_le (by simp)]
                rfl
              refine ⟨D, _, rfl, SqL.of hD2, go _ ?_ _ sg⟩
              rw [List.all_map]
              rfl
        · refine ⟨_, rfl, z, rfl, hz, 1, z.length, rfl, rfl, true, congrArg V.bl (decide_eq_true l1), iteT ⟨z.length, 8, rfl, rfl, false, congrArg V.bl (decide_eq_false l2), iteT ?_⟩⟩
          refine go false ?_ _ fun _ _ h => h
          unfold nmB
          rw [show decide (z.length ≤ 8) = false from decide_eq_false (by omega)]
          simp
      · refine ⟨_, rfl, z, rfl, hz, 1, z.length, rfl, rfl, false, congrArg V.bl (decide_eq_false l1), iteF ⟨false, rfl, iteT ?_⟩⟩
        refine go false ?_ _ fun _ _ h => h
        unfold nmB
        rw [show decide (1 ≤ z.length) = false from decide_eq_false (by omega)]
        simp
    · obtain ⟨n, t1, k1⟩ := oddS_ty K o
      exact ⟨_, rfl, x, .ty "str", .type n, .type "str", false, rfl, .ty _, t1, kit_ty k1, false, rfl, iteT q⟩
end
end K39

set_option Elab.async false
set_option linter.all false
set_option pp.deepTerms.threshold 14
set_option pp.maxSteps 2500
set_option maxRecDepth 100000
set_option maxHeartbeats 2000000
namespace K39
open PySem PySem.Spec PyProof.Rows L2 Vf
section
variable {P : Program} {w : World} {K : PySem.W.Frag} {mg : Str → Option Value} {base : Heap}
theorem sc_BadRun_init : FnScope ["self", "part"] ["self", "part"] (defScope s_BadRun_init) := ⟨rfl, rfl, rfl, by decide +kernel, rfl, by decide +kernel, by decide +kernel⟩
-- slots: 0 self, 1 part
theorem ok_BadRun_init {fd : FuncData} (F : FnD K ("BadRun", some "__init__") "__init__" "BadRun.__init__" s_BadRun_init fd) : OkD P w K mg base CX0 1 ("BadRun", some "__init__") ["self", "part"] [] (spExI K (He.ga K "BadRun") "part") := by
  refine okd F (F.ok sc_BadRun_init (fun vs H Q E h => ?_) fun cdv A outer s H vs Q E hr h => ⟨tOst K "part" (tVar 0) (tVar 1), PSs.nox ?_, run_exI h⟩) fun _ _ _ _ _ _ us hl => match us, hl with | [_, _], _ => rfl
  · obtain ⟨a, v, rfl, _⟩ := h
    rfl
  · exact pss_one (ps_ost (pv 0) (pv 1))
theorem sc_BadText_init : FnScope ["self", "line"] ["self", "line"] (defScope s_BadText_init) := ⟨rfl, rfl, rfl, by decide +kernel, rfl, by decide +kernel, by decide +kernel⟩
-- slots: 0 self, 1 line
theorem ok_BadText_init {fd : FuncData} (F : FnD K ("BadText", some "__init__") "__init__" "BadText.__init__" s_BadText_init fd) : OkD P w K mg base CX0 1 ("BadText", some "__init__") ["self", "line"] [] (spExI K (He.ga K "BadText") "line") := by
  refine okd F (F.ok sc_BadText_init (fun vs H Q E h => ?_) fun cdv A outer s H vs Q E hr h => ⟨tOst K "line" (tVar 0) (tVar 1), PSs.nox ?_, run_exI h⟩) fun _ _ _ _ _ _ us hl => match us, hl with | [_, _], _ => rfl
  · obtain ⟨a, v, rfl, _⟩ := h
    rfl
  · exact pss_one (ps_ost (pv 0) (pv 1))
/-- x is no list -/
inductive NoLs (H : Hp) : V → Prop where
  | non : NoLs H .non
  | tup {a : Addr} {xs : List V} (h : H a = some (.tup xs)) : NoLs H (.ref a)
  | dic {a : Addr} {kvs : List (Key × V)} (h : H a = some (.dK kvs)) : NoLs H (.ref a)
theorem noLs_ty (K : PySem.W.Frag) {H : Hp} {x : V} (o : NoLs H x) : ∃ t, TyX K H x t ∧ PySem.W.kitOne K t (.type "list") = some false := by
  cases o with
  | non => exact ⟨_, .base .non, kit_ty (by decide +kernel)⟩
  | tup h => exact ⟨_, .base (.tup h), kit_ty (by decide +kernel)⟩
  | dic h => exact ⟨_, .base (.dK h), kit_ty (by decide +kernel)⟩
theorem sc_has_right_length : FnScope ["items"] ["items"] (defScope s_has_right_length) := ⟨rfl, rfl, rfl, by decide +kernel, rfl, by decide +kernel, by decide +kernel⟩
-- slots: 0 items
def spHrl : Sp := fun vs H Q _ => ∃ x, vs = [x] ∧ ((∃ a xs, x = .ref a ∧ H a = some (.lst xs) ∧ Q (.bl (decide (1 ≤ xs.length) && decide (xs.length ≤ 2000))) H) ∨ (NoLs H x ∧ Q (.bl false) H))
theorem ok_has_right_length {fd : FuncData} (F : FnD K ("has_right_length", none) "has_right_length" "has_right_length" s_has_right_length fd) (T : PTxt K mg) : OkF P w K mg base CX0 1 "has_right_length" ["items"] spHrl := by
  refine okd F (F.ok sc_has_right_length (fun vs H Q E h => ?_) fun cdv A outer s H vs Q E hr h => ?_) fun _ _ _ _ _ _ us hl => match us, hl with | [_], _ => rfl
  · obtain ⟨x, rfl, _⟩ := h
    rfl
  · obtain ⟨x, rfl, h⟩ := h
    refine ⟨_, PSs.nox (pss_one (ps_ret (pe_and (pe_callB (id := "isinstance") call_isi (by rfl) T.z_isinstance (by decide +kernel) (pa_cons (pv 0) (pa_cons (pe_ty (n := "list") T.z_list (by decide +kernel)) pa_nil))) (pe_one (pe_chain op_le op_le pe_int (pe_callB (id := "len") call_len_seq (by rfl) T.z_len (by decide +kernel) (pa_cons (pv 0) pa_nil)) (c_gint T.i_MOST_RUN_TICKS)))))), ?_⟩
    rcases h with ⟨a, xs, rfl, ha, k⟩ | ⟨o, k⟩
    · refine ⟨_, rfl, .ref a, .ty "list", .type "list", .type "list", true, rfl, .ty _, .base (.lst ha), kit_ty (by decide +kernel), true, rfl, iteT ?_⟩
      by_cases l1 : (1 : Int) ≤ (xs.length : Int)
      · refine ⟨_, rfl, a, xs, rfl, .inl (SqL.of ha), 1, _, rfl, rfl, true, congrArg V.bl (decide_eq_true l1), iteT ⟨_, 2000, rfl, rfl, ?_⟩⟩
        have e1 : decide (1 ≤ xs.length) = true := decide_eq_true (by omega)
        rw [e1, Bool.true_and] at k
        have e2 : decide ((xs.length : Int) ≤ 2000) = decide (xs.length ≤ 2000) := by
          rw [Bool.eq_iff_iff, decide_eq_true_iff, decide_eq_true_iff]
          omega
        show Q (.bl (decide ((xs.length : Int) ≤ 2000))) H
        rw [e2]
        exact k
      · refine ⟨_, rfl, a, xs, rfl, .inl (SqL.of ha), 1, _, rfl, rfl, false, congrArg V.bl (decide_eq_false l1), iteF ?_⟩
        have e1 : decide (1 ≤ xs.length) = false := decide_eq_false (by omega)
        rw [e1, Bool.false_and] at k
        exact k
    · obtain ⟨t, ht, hk⟩ := noLs_ty K o
      exact ⟨_, rfl, x, .ty "list", t, .type "list", false, rfl, .ty _, ht, hk, false, rfl, iteF k⟩
theorem sc_is_look_of_text : FnScope ["look"] ["look"] (defScope s_is_look_of_text) := ⟨rfl, rfl, rfl, by decide +kernel, rfl, by decide +kernel, by decide +kernel⟩
-- slots: 0 look
def lkT : Option Int → V
  | none => .non
  | some n => .int n
/-- x is no look that a text tells -/
def NoLk (H : Hp) (x : V) : Prop := x ≠ .non ∧ NotFr H x 0 7
def spIlt : Sp := fun vs H Q _ => ∃ x, vs = [x] ∧ ((∃ o, x = lkT o ∧ (∀ n, o = some n → 0 ≤ n ∧ n ≤ 7) ∧ Q (.bl true) H) ∨ (NoLk H x ∧ Q (.bl false) H))
theorem ok_is_look_of_text {fd : FuncData} (F : FnD K ("is_look_of_text", none) "is_look_of_text" "is_look_of_text" s_is_look_of_text fd) (T : PTxt K mg) (O_is_integer_from : OkF P w K mg base CX0 2 "is_integer_from" ["x", "low", "high"] spFr) : OkF P w K mg base CX0 3 "is_look_of_text" ["look"] spIlt := by
  refine okd F (F.ok sc_is_look_of_text (fun vs H Q E h => ?_) fun cdv A outer s H vs Q E hr h => ?_) fun _ _ _ _ _ _ us hl => match us, hl with | [_], _ => rfl
  · obtain ⟨x, rfl, _⟩ := h
    rfl
  · obtain ⟨x, rfl, h⟩ := h
    refine ⟨_, PSs.nox (pss_one (ps_ret (pe_orB (pe_cmpR op_isN (pv 0) pe_non (nomark _)) (pe_one (c_fn O_is_integer_from hr (by decide) T.g_is_integer_from pass0 (pa_cons (pv 0) (pa_cons pe_int (pa_cons (pe_op op_sub (c_gint T.i_MOST_PERIOD) pe_int) pa_nil)))))))), ?_⟩
    rcases h with ⟨o, rfl, ho, k⟩ | ⟨⟨hn, o⟩, k⟩
    · cases o with
      | none => exact ⟨_, rfl, rfl, true, true, (· = H), rfl, (fun z => nomatch z), fun _ => rfl, fun H2 e => e ▸ k⟩
      | some n => exact ⟨_, rfl, rfl, false, true, (· = H), rfl, fun _ => ⟨_, rfl, _, _, rfl, rfl, .int n, 0, 7, rfl, .inl ⟨n, rfl, (ho n rfl).1, (ho n rfl).2, rfl, rfl⟩⟩, (fun z => nomatch z), fun H2 e => e ▸ k⟩
    · refine ⟨_, rfl, rfl, decide (x = .non), false, (· = H), rfl, fun _ => ⟨_, rfl, _, _, rfl, rfl, x, 0, 7, rfl, .inr ⟨o, rfl, rfl⟩⟩, fun z => absurd (of_decide_eq_true z) hn, fun H2 e => ?_⟩
      rw [decide_eq_false hn]
      exact e ▸ k
end
end K39

set_option Elab.async false
set_option linter.all false
set_option pp.deepTerms.threshold 14
set_option pp.maxSteps 2500
set_option maxRecDepth 100000
set_option maxHeartbeats 2000000
namespace K39
open PySem PySem.Spec PyProof.Rows L2 Vf
section
variable {P : Program} {w : World} {K : PySem.W.Frag} {mg : Str → Option Value} {base : Heap}
theorem same_notFr {H H' : Hp} {x : V} {lo hi : Int} (h : NotFr H x lo hi) (s : Same H H') : NotFr H' x lo hi := by
  rcases h with h | o
  · exact .inl h
  · exact .inr (o.ext s)
theorem sc_is_stay_of_text : FnScope ["stay"] ["stay"] (defScope s_is_stay_of_text) := ⟨rfl, rfl, rfl, by decide +kernel, rfl, by decide +kernel, by decide +kernel⟩
-- slots: 0 stay
/-- x is no stay that a text tells -/
def NoSt (H : Hp) (x : V) : Prop := x = .non ∨ (∃ a xs, x = .ref a ∧ H a = some (.lst xs)) ∨ (∃ a xs, x = .ref a ∧ H a = some (.tup xs) ∧ xs.length ≠ 2) ∨
  ∃ a z y, x = .ref a ∧ H a = some (.tup [z, y]) ∧ (((∃ t : Str, z = .str t ∧ t.length ≤ sizeLine ∧ nmB t = false) ∨ OddS H z) ∨ (∃ t : Str, z = .str t ∧ t.length ≤ sizeLine ∧ NotFr H y 1 6))
/-- the stay (z, n) at a -/
def SyA (H : Hp) (a : Addr) (s : Str × Int) : Prop := H a = some (.tup [.str s.1, .int s.2])
def SyOk (s : Str × Int) : Prop := nmB s.1 = true ∧ 1 ≤ s.2 ∧ s.2 ≤ 6
def spIst : Sp := fun vs H Q _ => ∃ x, vs = [x] ∧ ((∃ a s, x = .ref a ∧ SyA H a s ∧ SyOk s ∧ s.1.length ≤ sizeLine ∧ ∀ H', Same H H' → Q (.bl true) H') ∨ (NoSt H x ∧ ∀ H', Same H H' → Q (.bl false) H'))
theorem ok_is_stay_of_text {fd : FuncData} (F : FnD K ("is_stay_of_text", none) "is_stay_of_text" "is_stay_of_text" s_is_stay_of_text fd) (T : PTxt K mg) (O_is_name : OkF P w K mg base CX0 1 "is_name" ["x"] spName) (O_is_integer_from : OkF P w K mg base CX0 2 "is_integer_from" ["x", "low", "high"] spFr) : OkF P w K mg base CX0 3 "is_stay_of_text" ["stay"] spIst := by
  refine okd F (F.ok sc_is_stay_of_text (fun vs H Q E h => ?_) fun cdv A outer s H vs Q E hr h => ?_) fun _ _ _ _ _ _ us hl => match us, hl with | [_], _ => rfl
  · obtain ⟨x, rfl, _⟩ := h
    rfl
  · obtain ⟨x, rfl, h⟩ := h
    refine ⟨_, PSs.nox (pss_one (ps_ret (pe_and (pe_callB (id := "isinstance") call_isi (by rfl) T.z_isinstance (by decide +kernel) (pa_cons (pv 0) (pa_cons (pe_ty (n := "tuple") T.z_tuple (by decide +kernel)) pa_nil))) (pe_and (pe_cmpR op_eq (pe_callB (id := "len") call_len_seq (by rfl) T.z_len (by decide +kernel) (pa_cons (pv 0) pa_nil)) pe_int (nomark _)) (pe_and (c_fn O_is_name hr (by decide) T.g_is_name pass0 (pa_cons (pe_ix ix_tup (pv 0) pe_int (fun _ _ => rfl)) pa_nil)) (pe_one (c_fn O_is_integer_from hr (by decide) T.g_is_integer_from pass0 (pa_cons (pe_ix ix_tup (pv 0) pe_int (fun _ _ => rfl)) (pa_cons pe_int (pa_cons (c_gint T.i_MOST_TICKS) pa_nil)))))))))), ?_⟩
    rcases h with ⟨a, st, rfl, ha, hok, hl, k⟩ | ⟨rfl | ⟨a, xs, rfl, ha⟩ | ⟨a, xs, rfl, ha, hn⟩ | ⟨a, z, y, rfl, ha, hzy⟩, k⟩
    · have ha : H a = some (.tup [.str st.1, .int st.2]) := ha
      refine ⟨_, rfl, .ref a, .ty "tuple", .type "tuple", .type "tuple", true, rfl, .ty _, .base (.tup ha), kit_ty (by decide +kernel), true, rfl, iteT ⟨_, rfl, a, _, rfl, .inr (SqT.of ha), rfl, true, rfl, iteT ?_⟩⟩
      refine ⟨_, rfl, a, _, 0, .str st.1, rfl, rfl, SqT.of ha, atI0, _, rfl, .inl ⟨st.1, rfl, hl, fun H' s => ⟨true, congrArg V.bl hok.1, iteT ?_⟩⟩⟩
      exact ⟨_, rfl, a, _, 1, .int st.2, rfl, rfl, SqT.of (s _ _ ha), atI1, .int st.2, 1, 6, rfl, .inl ⟨st.2, rfl, hok.2.1, hok.2.2, k _ s⟩⟩
    · exact ⟨_, rfl, .non, .ty "tuple", .type "NoneType", .type "tuple", false, rfl, .ty _, .base .non, kit_ty (by decide +kernel), false, rfl, iteF (k _ (Same.refl _))⟩
    · exact ⟨_, rfl, .ref a, .ty "tuple", .type "list", .type "tuple", false, rfl, .ty _, .base (.lst ha), kit_ty (by decide +kernel), false, rfl, iteF (k _ (Same.refl _))⟩
    · exact ⟨_, rfl, .ref a, .ty "tuple", .type "tuple", .type "tuple", true, rfl, .ty _, .base (.tup ha), kit_ty (by decide +kernel), true, rfl, iteT ⟨_, rfl, a, _, rfl, .inr (SqT.of ha), rfl, false, congrArg V.bl (decide_eq_false fun z => hn (by have := V.int.inj z; omega)), iteF (k _ (Same.refl _))⟩⟩
    · refine ⟨_, rfl, .ref a, .ty "tuple", .type "tuple", .type "tuple", true, rfl, .ty _, .base (.tup ha), kit_ty (by decide +kernel), true, rfl, iteT ⟨_, rfl, a, _, rfl, .inr (SqT.of ha), rfl, true, rfl, iteT ?_⟩⟩
      refine ⟨_, rfl, a, _, 0, z, rfl, rfl, SqT.of ha, atI0, _, rfl, ?_⟩
      rcases hzy with (⟨t, rfl, hl, hn⟩ | o) | ⟨t, rfl, hl, hy⟩
      · exact .inl ⟨t, rfl, hl, fun H' s => ⟨false, congrArg V.bl hn, iteF (k _ s)⟩⟩
      · exact .inr ⟨o, false, rfl, iteF (k _ (Same.refl _))⟩
      · refine .inl ⟨t, rfl, hl, fun H' s => ⟨nmB t, rfl, ?_⟩⟩
        cases nmB t with
        | false => exact iteF (k _ s)
        | true => exact iteT ⟨_, rfl, a, _, 1, y, rfl, rfl, SqT.of (s _ _ ha), atI1, y, 1, 6, rfl, .inr ⟨same_notFr hy s, k _ s⟩⟩
end
end K39

set_option Elab.async false
set_option linter.all false
set_option pp.deepTerms.threshold 14
set_option pp.maxSteps 2500
set_option maxRecDepth 100000
set_option maxHeartbeats 2000000
namespace K39
open PySem PySem.Spec PyProof.Rows L2 Vf
section
variable {P : Program} {w : World} {K : PySem.W.Frag} {mg : Str → Option Value} {base : Heap}
theorem ph_len : ∀ m : Fin 10, (Str.empty ++ ("run phase " : Str) ++ Str.ofString (toString (m.val : Int))).length ≤ sizeLine := by decide +kernel
theorem dg_len : ∀ m : Fin 10, (Str.ofString (toString (m.val : Int))).length ≤ 1 := by decide +kernel
theorem sc_phase_line : FnScope ["phase"] ["phase"] (defScope s_phase_line) := ⟨rfl, rfl, rfl, by decide +kernel, rfl, by decide +kernel, by decide +kernel⟩
-- slots: 0 phase
def spPhl : Sp := fun vs H Q _ => ∃ n : Int, vs = [.int n] ∧ 0 ≤ n ∧ n ≤ 9 ∧ Q (.str (("run phase " : Str) ++ toString n)) H
theorem ok_phase_line {fd : FuncData} (F : FnD K ("phase_line", none) "phase_line" "phase_line" s_phase_line fd) (T : PTxt K mg) : OkF P w K mg base CX0 1 "phase_line" ["phase"] spPhl := by
  refine okd F (F.ok sc_phase_line (fun vs H Q E h => ?_) fun cdv A outer s H vs Q E hr h => ?_) fun _ _ _ _ _ _ us hl => match us, hl with | [_], _ => rfl
  · obtain ⟨n, rfl, _⟩ := h
    rfl
  · obtain ⟨n, rfl, n0, n9, k⟩ := h
    refine ⟨_, PSs.nox (pss_one (ps_ret (pe_joined (PJ.cons pe_str (PJ.cons (pe_fmt (pv 0)) PJ.nil))))), ?_⟩
    refine ⟨_, rfl, ?_, _, rfl, .inr ⟨n, rfl, ?_, _, rfl, ?_, ?_⟩⟩
    · decide +kernel
    · exact Nat.lt_of_le_of_lt (Nat.log2_le_self _) (by omega)
    · obtain ⟨m, rfl⟩ : ∃ m : Nat, n = (m : Int) := ⟨n.toNat, by omega⟩
      exact ph_len ⟨m, by omega⟩
    · exact k
theorem sc_stay_line : FnScope ["stay"] ["stay"] (defScope s_stay_line) := ⟨rfl, rfl, rfl, by decide +kernel, rfl, by decide +kernel, by decide +kernel⟩
-- slots: 0 stay
def spStl : Sp := fun vs H Q _ => ∃ (a : Addr) (s : Str × Int), vs = [.ref a] ∧ SyA H a s ∧ s.1.length ≤ 8 ∧ 0 ≤ s.2 ∧ s.2 ≤ 9 ∧ Q (.str (("  " : Str) ++ s.1 ++ " " ++ toString s.2)) H
theorem ok_stay_line {fd : FuncData} (F : FnD K ("stay_line", none) "stay_line" "stay_line" s_stay_line fd) (T : PTxt K mg) : OkF P w K mg base CX0 1 "stay_line" ["stay"] spStl := by
  refine okd F (F.ok sc_stay_line (fun vs H Q E h => ?_) fun cdv A outer s H vs Q E hr h => ?_) fun _ _ _ _ _ _ us hl => match us, hl with | [_], _ => rfl
  · obtain ⟨a, st, rfl, _⟩ := h
    rfl
  · obtain ⟨a, st, rfl, ha, hl, n0, n9, k⟩ := h
    refine ⟨_, PSs.nox (pss_one (ps_ret (pe_joined (PJ.cons pe_str (PJ.cons (pe_fmt (pe_ix ix_tup (pv 0) pe_int (fun _ _ => rfl))) (PJ.cons pe_str (PJ.cons (pe_fmt (pe_ix ix_tup (pv 0) pe_int (fun _ _ => rfl))) PJ.nil))))))), ?_⟩
    have ha : H a = some (.tup [.str st.1, .int st.2]) := ha
    refine ⟨_, rfl, ?_, _, rfl, a, _, 0, .str st.1, rfl, rfl, SqT.of ha, atI0, .inl ⟨_, rfl, ?_, _, rfl, ?_, _, rfl, ?_, _, rfl, a, _, 1, .int st.2, rfl, rfl, SqT.of ha, atI1, .inr ⟨_, rfl, ?_, _, rfl, ?_, ?_⟩⟩⟩
    · decide +kernel
    · exact Nat.le_trans hl (by decide)
    · rw [Str.length_append]
      exact Nat.le_trans (Nat.add_le_add_left hl _) (by decide +kernel)
    · rw [Str.length_append, Str.length_append]
      exact Nat.le_trans (Nat.add_le_add_right (Nat.add_le_add_left hl _) _) (by decide +kernel)
    · exact Nat.lt_of_le_of_lt (Nat.log2_le_self _) (by omega)
    · obtain ⟨m, hm⟩ : ∃ m : Nat, st.2 = (m : Int) := ⟨st.2.toNat, by omega⟩
      rw [hm, Str.length_append, Str.length_append, Str.length_append]
      exact Nat.le_trans (Nat.add_le_add (Nat.add_le_add_right (Nat.add_le_add_left hl _) _) (dg_len ⟨m, by omega⟩)) (by decide +kernel)
    · exact k
theorem sc_digit_of : FnScope ["word"] ["word"] (defScope s_digit_of) := ⟨rfl, rfl, rfl, by decide +kernel, rfl, by decide +kernel, by decide +kernel⟩
-- slots: 0 word
def spDig : Sp := fun vs H Q _ => ∃ z : Str, vs = [.str z] ∧ z.length ≤ sizeLine ∧ ∀ n : Int, (z.length = 1 → n = Txt.find DIG z) → (z.length ≠ 1 → n = -1) → Q (.int n) H
theorem ok_digit_of {fd : FuncData} (F : FnD K ("digit_of", none) "digit_of" "digit_of" s_digit_of fd) (T : PTxt K mg) : OkF P w K mg base CX0 1 "digit_of" ["word"] spDig := by
  refine okd F (F.ok sc_digit_of (fun vs H Q E h => ?_) fun cdv A outer s H vs Q E hr h => ?_) fun _ _ _ _ _ _ us hl => match us, hl with | [_], _ => rfl
  · obtain ⟨z, rfl, _⟩ := h
    rfl
  · obtain ⟨z, rfl, hz, k⟩ := h
    refine ⟨_, PSs.nox (pss_one (ps_ret (pe_ifExpB (pt_cmpR op_eq (pe_callB call_len_str (by rfl) T.z_len (by decide +kernel) (pa_cons (pv 0) pa_nil)) pe_int (nomark _)) (pe_m1 PySem.F.slot_str_find PySem.F.type_str_find mt_find (c_gstr T.i_DIGITS) (pv 0)) (pe_un un_neg pe_int)))), ?_⟩
    refine ⟨_, rfl, z, rfl, hz, rfl, _, rfl, ?_⟩
    by_cases h1 : z.length = 1
    · refine ⟨.int (Txt.find DIG z), (· = H), fun _ => ?_, fun e => ?_, fun H2 e => ?_⟩
      · exact ⟨⟨_, rfl⟩, _, rfl, DIG, z, rfl, rfl, rfl, rfl⟩
      · rw [h1] at e
        cases e
      · exact e ▸ k _ (fun _ => rfl) (fun e => absurd h1 e)
    · refine ⟨.int (-1), (· = H), fun e => ?_, fun _ => ?_, fun H2 e => ?_⟩
      · exact absurd (V.int.inj (of_decide_eq_true e)) (by omega)
      · exact ⟨1, rfl, rfl, rfl⟩
      · exact e ▸ k _ (fun e => absurd e h1) (fun _ => rfl)
end
end K39

set_option Elab.async false
set_option linter.all false
set_option pp.deepTerms.threshold 14
set_option pp.maxSteps 2500
set_option maxRecDepth 100000
set_option maxHeartbeats 2000000
namespace K39
open PySem PySem.Spec PyProof.Rows L2 Vf
section
variable {P : Program} {w : World} {K : PySem.W.Frag} {mg : Str → Option Value} {base : Heap}
def lkS : Option Int → Str
  | none => "-"
  | some n => Str.ofString (toString n)
def lkL (ls : List (Option Int)) : Str := Txt.join " " ("looks" :: ls.map lkS)
theorem lkS_len {o : Option Int} (h : ∀ n, o = some n → 0 ≤ n ∧ n ≤ 9) : (lkS o).length ≤ 1 := by
  cases o with
  | none => decide
  | some n =>
    obtain ⟨n0, n9⟩ := h n rfl
    obtain ⟨m, rfl⟩ : ∃ m : Nat, n = (m : Int) := ⟨n.toNat, by omega⟩
    exact dg_len ⟨m, by omega⟩
theorem lks_sum : ∀ {ls : List (Option Int)}, (∀ n, some n ∈ ls → 0 ≤ n ∧ n ≤ 9) → ((ls.map lkS).map (·.length)).sum ≤ ls.length
  | [], _ => Nat.le_refl _
  | o :: ls, h => by
    have h1 := lkS_len (o := o) (fun n e => h n (e ▸ List.mem_cons_self))
    have h2 := lks_sum (ls := ls) (fun n e => h n (List.mem_cons_of_mem _ e))
    simp only [List.map_cons, List.sum_cons, List.length_cons] at h2 ⊢
    omega
theorem takeS {α β : Type} (f : α → β) {xs : List α} {j : Nat} {x : α} (h : xs[j]? = some x) : (xs.take (j + 1)).map f = (xs.take j).map f ++ [f x] := by
  rw [List.take_add_one, h, List.map_append]
  rfl
theorem sc_looks_line : FnScope ["looks", "look"] ["looks"] (defScope s_looks_line) := ⟨rfl, rfl, rfl, by decide +kernel, rfl, by decide +kernel, by decide +kernel⟩
-- slots: 0 looks, 1 look
def spLkl : Sp := fun vs H Q _ => ∃ (a : Addr) (ls : List (Option Int)), vs = [.ref a] ∧ H a = some (.lst (ls.map lkT)) ∧ (∀ n, some n ∈ ls → 0 ≤ n ∧ n ≤ 9) ∧ ls.length ≤ 2001 ∧ ∀ H', Same H H' → Q (.str (lkL ls)) H'
theorem ok_looks_line {fd : FuncData} (F : FnD K ("looks_line", none) "looks_line" "looks_line" s_looks_line fd) (T : PTxt K mg) : OkF P w K mg base CX0 1 "looks_line" ["looks"] spLkl := by
  refine okd F (F.ok sc_looks_line (fun vs H Q E h => ?_) fun cdv A outer s H vs Q E hr h => ?_) fun _ _ _ _ _ _ us hl => match us, hl with | [_], _ => rfl
  · obtain ⟨a, ls, rfl, _⟩ := h
    rfl
  · obtain ⟨a, ls, rfl, ha, hls, hl, k⟩ := h
    refine ⟨_, PSs.nox (pss_one (ps_ret (pe_m1 PySem.F.slot_str_join PySem.F.type_str_join mt_join pe_str (pe_op op_cat (pe_lst (pa_cons pe_str pa_nil)) (pe_lc (own := [("look", 1)]) (g := gName 1) (tt := tYes) (by rfl) sc_looks_line.nd (pi_list (pv 0)) (blkOk_by (N := ["looks", "look"]) (sc := defScope s_looks_line) (by decide +kernel)) (fun _ _ _ _ _ => (pg_name (i := 1) sc_looks_line.nd rfl (Or.inl rfl))) (fun _ _ _ _ _ => pts_nil) (fun _ _ _ _ _ => (pe_ifExpB (pt_cmpR op_isN (pv 1) pe_non (nomark _)) pe_str (pe_callTy call_str_int (by rfl) T.z_str (by decide +kernel) (pa_cons (pv 1) pa_nil))))))))), ?_⟩
    refine ⟨⟨_, rfl⟩, (by show 1 ≤ sizeLine; decide), fun L nL => ?_⟩
    have sL := same_new (o := .lst [.str "looks"]) nL
    have hL := upd_same (H := H) (a := L) (o := .lst [.str "looks"])
    have ha1 := sL _ _ ha
    generalize upd H L (.lst [.str "looks"]) = H1 at sL hL ha1 ⊢
    refine ⟨_, rfl, a, rfl, ⟨_, SqL.of ha1⟩, fun D nD => lc_it walk_list (fun j H' => Same H1 H' ∧ H' D = some (.lst (((ls.take j).map lkS).map V.str))) ⟨same_new nD, upd_same⟩ (fun j H' _ h => SqL.of (h.1 _ _ ha1)) ?_ ?_⟩
    · rintro j x H5 H' hj ⟨sg, hD⟩ ⟨rfl, hx⟩
      rw [List.length_map] at hj
      have hoj : ls[j]? = some ls[j] := List.getElem?_eq_getElem hj
      have hom := List.getElem_mem hj
      generalize ls[j] = o at hoj hom
      obtain rfl : x = lkT o := by
        rw [List.getElem?_map, hoj] at hx
        exact (Option.some.inj hx).symm
      have fin : ∃ acc, H' D = some (.lst acc) ∧ acc.length < sizeLine ∧ (Same H1 (upd H' D (.lst (acc ++ [V.str (lkS o)]))) ∧ (upd H' D (.lst (acc ++ [V.str (lkS o)]))) D = some (.lst (((ls.take (j + 1)).map lkS).map V.str))) := by
        refine ⟨_, hD, ?_, same_app sg (Same.refl _) nD, ?_⟩
        · rw [List.length_map, List.length_map, List.length_take]
          exact Nat.lt_of_le_of_lt (show _ ≤ 2001 by omega) (by decide)
        · rw [upd_same, takeS _ hoj, List.map_append]
          rfl
      refine ⟨rfl, ?_⟩
      cases o with
      | none => exact ⟨_, rfl, rfl, true, rfl, _, (· = H'), fun _ => ⟨rfl, rfl⟩, (fun z => nomatch z), fun H2 e => e ▸ fin⟩
      | some n =>
        obtain ⟨n0, n9⟩ := hls n hom
        exact ⟨_, rfl, rfl, false, rfl, _, (· = H'), (fun z => nomatch z), fun _ => ⟨_, rfl, n, rfl, Nat.lt_of_le_of_lt (Nat.log2_le_self _) (by omega), rfl, rfl⟩, fun H2 e => e ▸ fin⟩
    · rintro H5 ⟨s5, hD⟩
      rw [List.length_map, List.take_length] at hD
      refine ⟨L, D, _, _, rfl, rfl, s5 _ _ hL, hD, ?_, fun J nJ => ⟨" ", J, "looks" :: ls.map lkS, rfl, rfl, .inl (SqL.of upd_same), ?_, k _ (sL.trans (s5.trans (same_new nJ)))⟩⟩
      · rw [List.length_map, List.length_map]
        exact Nat.le_trans (show 1 + ls.length ≤ 2002 by omega) (by decide)
      · have := lks_sum hls
        rw [List.map_cons, List.sum_cons, List.length_cons, List.length_map]
        show 5 + _ + _ * 1 ≤ _
        omega
end
end K39

set_option Elab.async false
set_option linter.all false
set_option pp.deepTerms.threshold 14
set_option pp.maxSteps 2500
set_option maxRecDepth 100000
set_option maxHeartbeats 2000000
namespace K39
open PySem PySem.Spec PyProof.Rows L2 Vf
section
variable {P : Program} {w : World} {K : PySem.W.Frag} {mg : Str → Option Value} {base : Heap}
def ErT (K : PySem.W.Frag) (E : XK) (H : Hp) (n : Int) : Prop := ∀ H1 d, Same H H1 → H1 d = none → E (.ref (He.ga K "BadText")) (some d) (upd H1 d (.xd [("line", .int n)]))
theorem ErT.up {K : PySem.W.Frag} {E : XK} {H H' : Hp} {n : Int} (h : ErT K E H n) (s : Same H H') : ErT K E H' n := fun H1 d s1 nd => h H1 d (s.trans s1) nd
theorem sc_lines_of : FnScope ["text", "most"] ["text", "most"] (defScope s_lines_of) := ⟨rfl, rfl, rfl, by decide +kernel, rfl, by decide +kernel, by decide +kernel⟩
-- slots: 0 text, 1 most
def spLno (K : PySem.W.Frag) : Sp := fun vs H Q E => ∃ (x : V) (most : Int), vs = [x, .int most] ∧
  ((∃ z : Str, x = .str z ∧ z.length + 2 ≤ sizeLine ∧ (((z.length : Int) ≤ most ∧ ∀ H' p, Same H H' → H p = none → H' p = some (.lst ((Txt.split z "\n").map V.str)) → Q (.ref p) H') ∨ (most < (z.length : Int) ∧ ErT K E H 0))) ∨ (OddS H x ∧ ErT K E H 0))
theorem ok_lines_of {fd : FuncData} (F : FnD K ("lines_of", none) "lines_of" "lines_of" s_lines_of fd) (T : PTxt K mg) (O_BadText_init : OkD P w K mg base CX0 1 ("BadText", some "__init__") ["self", "line"] [] (spExI K (He.ga K "BadText") "line")) : OkF P w K mg base (L2.CX P w) 3 "lines_of" ["text", "most"] (spLno K) := by
  refine okd F (F.ok sc_lines_of (fun vs H Q E h => ?_) fun cdv A outer s H vs Q E hr h => ?_) fun _ _ _ _ _ _ us hl => match us, hl with | [_, _], _ => rfl
  · obtain ⟨x, most, rfl, _⟩ := h
    rfl
  · obtain ⟨x, most, rfl, h⟩ := h
    refine ⟨_, (pss_cons (ps_if (PW.pt (pw_orB (pt_not (pt_val (pe_callB (id := "isinstance") call_isi (by rfl) T.z_isinstance (by decide +kernel) (pa_cons (pv 0) (pa_cons (pe_ty (n := "str") T.z_str (by decide +kernel)) pa_nil))))) (pw_or1 (pt_cmpR op_gt (pe_callB call_len_str (by rfl) T.z_len (by decide +kernel) (pa_cons (pv 0) pa_nil)) (pv 1) (nomark _))))) (pss_one (c_raise T.x_BadText O_BadText_init hr (by decide) T.g_BadText (takes_of rfl rfl rfl rfl) (pa_cons pe_int pa_nil)))
  pss_nil)
  (pss_one (ps_ret (pe_m1 PySem.F.slot_str_split PySem.F.type_str_split mt_split (pv 0) pe_str)))), ?_⟩
    rcases h with ⟨z, rfl, hz, h⟩ | ⟨o, k⟩
    · refine ⟨_, rfl, .str z, .ty "str", .type "str", .type "str", true, rfl, .ty _, .base (.str _), kit_ty (by decide +kernel), true, rfl, decide (most < (z.length : Int)), (· = H), fun _ => ⟨_, rfl, z, rfl, by omega, _, rfl, _, _, rfl, rfl, _, rfl, rfl, rfl⟩, (fun c => Bool.noConfusion c), fun H1 e => ?_⟩
      subst e
      rcases h with ⟨hm, k⟩ | ⟨hm, k⟩
      · rw [decide_eq_false (by omega)]
        exact iteF ⟨_, rfl, ⟨_, rfl⟩, z, "\n", rfl, rfl, by decide, hz, fun p np => k _ p (same_new np) np upd_same⟩
      · rw [decide_eq_true hm]
        exact iteT ⟨_, rfl, fun d nd => k _ d (Same.refl _) nd⟩
    · obtain ⟨n, t1, k1⟩ := oddS_ty K o
      refine ⟨_, rfl, x, .ty "str", .type n, .type "str", false, rfl, .ty _, t1, kit_ty k1, false, rfl, false, (· = H), (fun c => Bool.noConfusion c), fun _ => rfl, fun H1 e => ?_⟩
      subst e
      exact iteT ⟨_, rfl, fun d nd => k _ d (Same.refl _) nd⟩
def phL (n : Nat) : Str := ("run phase " : Str) ++ Str.ofString (toString (n : Int))
theorem sc_check_end : FnScope ["lines", "number"] ["lines", "number"] (defScope s_check_end) := ⟨rfl, rfl, rfl, by decide +kernel, rfl, by decide +kernel, by decide +kernel⟩
-- slots: 0 lines, 1 number
def spCke (K : PySem.W.Frag) : Sp := fun vs H Q E => ∃ (a : Addr) (xs : List V) (n : Int), vs = [.ref a, .int n] ∧ H a = some (.lst xs) ∧ ((xs.length : Int) ≤ n → Q .non H) ∧ (n < (xs.length : Int) → ErT K E H (n + 1))
theorem ok_check_end {fd : FuncData} (F : FnD K ("check_end", none) "check_end" "check_end" s_check_end fd) (T : PTxt K mg) (O_BadText_init : OkD P w K mg base CX0 1 ("BadText", some "__init__") ["self", "line"] [] (spExI K (He.ga K "BadText") "line")) : OkF P w K mg base (L2.CX P w) 3 "check_end" ["lines", "number"] (spCke K) := by
  refine okd F (F.ok sc_check_end (fun vs H Q E h => ?_) fun cdv A outer s H vs Q E hr h => ?_) fun _ _ _ _ _ _ us hl => match us, hl with | [_, _], _ => rfl
  · obtain ⟨a, xs, n, rfl, _⟩ := h
    rfl
  · obtain ⟨a, xs, n, rfl, ha, k1, k2⟩ := h
    refine ⟨_, (pss_one (ps_if (pt_cmpR op_lt (pv 1) (pe_callB (id := "len") call_len_seq (by rfl) T.z_len (by decide +kernel) (pa_cons (pv 0) pa_nil)) (nomark _)) (pss_one (c_raise T.x_BadText O_BadText_init hr (by decide) T.g_BadText (takes_of rfl rfl rfl rfl) (pa_cons (pe_op op_add (pv 1) pe_int) pa_nil)))
  pss_nil)), ?_⟩
    refine ⟨_, rfl, _, rfl, a, xs, rfl, .inl (SqL.of ha), _, _, rfl, rfl, _, rfl, ?_⟩
    by_cases hn : n < (xs.length : Int)
    · rw [decide_eq_true hn]
      exact iteT ⟨_, rfl, _, _, rfl, rfl, _, rfl, fun d nd => k2 hn _ d (Same.refl _) nd⟩
    · rw [decide_eq_false hn]
      exact iteF (k1 (by omega))
theorem ph_cut : ∀ m : _root_.Fin 8, (cutS (phL m.val) (some (-1)) none).length = 1 ∧ Txt.find DIG (cutS (phL m.val) (some (-1)) none) = (m.val : Int) ∧ (phL m.val).length ≤ 11 := by decide +kernel
theorem cutS_len (z : Str) (lo hi : Option Int) : (cutS z lo hi).length ≤ z.length := by
  unfold cutS
  show (List.toArray _).size ≤ _
  rw [List.size_toArray, List.length_take, List.length_drop]
  have : z.cps.toList.length = z.length := by simp [Str.length]
  omega
theorem sc_phase_told : FnScope ["line", "phase"] ["line"] (defScope s_phase_told) := ⟨rfl, rfl, rfl, by decide +kernel, rfl, by decide +kernel, by decide +kernel⟩
-- slots: 0 line, 1 phase
def spPht : Sp := fun vs H Q _ => ∃ z : Str, vs = [.str z] ∧ z.length + 2 ≤ sizeLine ∧ ((∃ m : _root_.Fin 8, z = phL m.val ∧ Q (.int (m.val : Int)) H) ∨ ((∀ m : _root_.Fin 8, z ≠ phL m.val) ∧ Q .non H))
theorem ok_phase_told {fd : FuncData} (F : FnD K ("phase_told", none) "phase_told" "phase_told" s_phase_told fd) (T : PTxt K mg) (O_digit_of : OkF P w K mg base CX0 1 "digit_of" ["word"] spDig) (O_phase_line : OkF P w K mg base CX0 1 "phase_line" ["phase"] spPhl) (O_is_integer_from : OkF P w K mg base CX0 2 "is_integer_from" ["x", "low", "high"] spFr) : OkF P w K mg base CX0 3 "phase_told" ["line"] spPht := by
  refine okd F (F.ok sc_phase_told (fun vs H Q E h => ?_) fun cdv A outer s H vs Q E hr h => ?_) fun _ _ _ _ _ _ us hl => match us, hl with | [_], _ => rfl
  · obtain ⟨z, rfl, _⟩ := h
    rfl
  · obtain ⟨z, rfl, hz, h⟩ := h
    refine ⟨_, PSs.nox (pss_cons (ps_set (i := 1) sc_phase_told.nd rfl (Or.inl rfl) (c_fn O_digit_of hr (by decide) T.g_digit_of pass0 (pa_cons (pe_slice sl_str (pv 0) (po_some (pe_un un_neg pe_int)) po_none) pa_nil)))
  (pss_one (ps_ret (pe_ifExpB (PW.pt (pw_andB (pt_val (c_fn O_is_integer_from hr (by decide) T.g_is_integer_from pass0 (pa_cons (pv 1) (pa_cons pe_int (pa_cons (pe_op op_sub (c_gint T.i_MOST_PERIOD) pe_int) pa_nil))))) (pw_and1 (pt_cmpR op_eq (c_fn O_phase_line hr (by decide) T.g_phase_line pass0 (pa_cons (pv 1) pa_nil)) (pv 0) (nomark _))))) (pv 1) pe_non)))), ?_⟩
    have hcl := cutS_len z (some (-1)) none
    refine ⟨_, rfl, 1, rfl, -1, rfl, z, rfl, by omega, _, rfl, by omega, fun n h1 h2 => ?_⟩
    by_cases hn : 0 ≤ n ∧ n ≤ 7
    · refine ⟨_, rfl, _, _, rfl, rfl, .int n, 0, 7, rfl, .inl ⟨n, rfl, hn.1, hn.2, true, rfl, ?_⟩⟩
      obtain ⟨mn, rfl⟩ : ∃ mn : Nat, n = (mn : Int) := ⟨n.toNat, by omega⟩
      refine ⟨decide (V.str (phL mn) = .str z), (· = H), fun _ => ⟨_, rfl, (mn : Int), rfl, by omega, by omega, _, rfl, rfl, _, rfl, rfl, rfl⟩, (fun c => Bool.noConfusion c), fun H2 e => ?_⟩
      subst e
      rcases h with ⟨m, rfl, k⟩ | ⟨hno, k⟩
      · have hm := (h1 (ph_cut m).1).trans (ph_cut m).2.1
        obtain rfl : mn = m.val := by omega
        rw [decide_eq_true rfl]
        exact ⟨.int (m.val : Int), (· = H2), fun _ => ⟨_, rfl, rfl, rfl⟩, (fun c => Bool.noConfusion c), fun H3 e => e ▸ k⟩
      · rw [decide_eq_false fun e => hno ⟨mn, by omega⟩ (V.str.inj e).symm]
        exact ⟨.non, (· = H2), (fun c => Bool.noConfusion c), fun _ => ⟨rfl, rfl⟩, fun H3 e => e ▸ k⟩
    · refine ⟨_, rfl, _, _, rfl, rfl, .int n, 0, 7, rfl, .inr ⟨.inl ⟨n, rfl, hn⟩, false, rfl, ?_⟩⟩
      refine ⟨false, (· = H), (fun c => Bool.noConfusion c), fun _ => rfl, fun H2 e => ?_⟩
      subst e
      rcases h with ⟨m, rfl, k⟩ | ⟨hno, k⟩
      · have hm := (h1 (ph_cut m).1).trans (ph_cut m).2.1
        have := m.isLt
        omega
      · exact ⟨.non, (· = H2), (fun c => Bool.noConfusion c), fun _ => ⟨rfl, rfl⟩, fun H3 e => e ▸ k⟩
end
end K39

set_option Elab.async false
set_option linter.all false
set_option pp.deepTerms.threshold 14
set_option pp.maxSteps 2500
set_option maxRecDepth 100000
set_option maxHeartbeats 2000000
namespace K39
open PySem PySem.Spec PyProof.Rows L2 Vf
section
variable {P : Program} {w : World} {K : PySem.W.Frag} {mg : Str → Option Value} {base : Heap}
/-! ### splitting what was joined -/
def jnC (c : Nat) : List (List Nat) → List Nat
  | [] => []
  | [x] => x
  | x :: y :: r => x ++ c :: jnC c (y :: r)
theorem jnC_of (c : Nat) : ∀ ls : List Str, (Str.join ⟨#[c]⟩ ls).cps.toList = jnC c (ls.map fun s => s.cps.toList)
  | [] => rfl
  | [x] => rfl
  | x :: y :: r => by
    show (x ++ (⟨#[c]⟩ : Str) ++ Str.join ⟨#[c]⟩ (y :: r)).cps.toList = _
    rw [Str.cps_append, Str.cps_append, Array.toList_append, Array.toList_append, jnC_of c (y :: r), List.append_assoc]
    rfl
theorem app_uniq {c : Nat} : ∀ {x y u v : List Nat}, c ∉ x → c ∉ y → x ++ c :: u = y ++ c :: v → x = y ∧ u = v
  | [], [], _, _, _, _, e => ⟨rfl, (List.cons.inj e).2⟩
  | [], b :: y, _, _, _, hy, e => absurd (show c ∈ b :: y by rw [← (List.cons.inj e).1]; exact List.mem_cons_self) hy
  | a :: x, [], _, _, hx, _, e => absurd (show c ∈ a :: x by rw [(List.cons.inj e).1]; exact List.mem_cons_self) hx
  | a :: x, b :: y, _, _, hx, hy, e => by
    obtain ⟨e1, e2⟩ := List.cons.inj e
    obtain ⟨e3, e4⟩ := app_uniq (fun z => hx (List.mem_cons_of_mem _ z)) (fun z => hy (List.mem_cons_of_mem _ z)) e2
    exact ⟨by rw [e1, e3], e4⟩
theorem jnC_uniq {c : Nat} : ∀ {A B : List (List Nat)}, A ≠ [] → B ≠ [] → (∀ x ∈ A, c ∉ x) → (∀ x ∈ B, c ∉ x) → jnC c A = jnC c B → A = B
  | [], _, h, _, _, _, _ => absurd rfl h
  | _ :: _, [], _, h, _, _, _ => absurd rfl h
  | [x], [y], _, _, _, _, e => by rw [show x = y from e]
  | [x], y :: z :: r, _, _, ha, _, e => absurd (show c ∈ x by rw [show x = y ++ c :: jnC c (z :: r) from e]; simp) (ha x List.mem_cons_self)
  | x :: z :: r, [y], _, _, _, hb, e => absurd (show c ∈ y by rw [show y = x ++ c :: jnC c (z :: r) from e.symm]; simp) (hb y List.mem_cons_self)
  | x :: x2 :: r, y :: y2 :: q, _, _, ha, hb, e => by
    obtain ⟨e1, e2⟩ := app_uniq (ha x List.mem_cons_self) (hb y List.mem_cons_self) (show x ++ c :: jnC c (x2 :: r) = y ++ c :: jnC c (y2 :: q) from e)
    rw [e1, jnC_uniq (A := x2 :: r) (B := y2 :: q) (List.cons_ne_nil _ _) (List.cons_ne_nil _ _) (fun z hz => ha z (List.mem_cons_of_mem _ hz)) (fun z hz => hb z (List.mem_cons_of_mem _ hz)) e2]
theorem jnC_out {c d : Nat} (h : c ≠ d) : ∀ {A : List (List Nat)}, (∀ x ∈ A, c ∉ x) → c ∉ jnC d A
  | [], _ => fun z => nomatch z
  | [x], ha => ha x List.mem_cons_self
  | x :: y :: r, ha => by
    show c ∉ x ++ d :: jnC d (y :: r)
    rw [List.mem_append, List.mem_cons]
    rintro (z | z | z)
    · exact ha x List.mem_cons_self z
    · exact h z
    · exact jnC_out h (fun z hz => ha z (List.mem_cons_of_mem _ hz)) z
theorem str_inj {a b : Str} (e : a.cps.toList = b.cps.toList) : a = b := Str.ext' (Array.toList_inj.mp e)
theorem cps_inj : ∀ {xs ys : List Str}, xs.map (fun s => s.cps.toList) = ys.map (fun s => s.cps.toList) → xs = ys
  | [], [], _ => rfl
  | [], _ :: _, h => nomatch h
  | _ :: _, [], h => nomatch h
  | x :: xs, y :: ys, h => by
    obtain ⟨h1, h2⟩ := List.cons.inj h
    rw [str_inj h1, cps_inj h2]
theorem join_cps (c : Nat) (ls : List Str) : (Txt.join ⟨#[c]⟩ ls).cps.toList = jnC c (ls.map fun s => s.cps.toList) := by
  have e0 : Txt.join ⟨#[c]⟩ ls = Str.join ⟨#[c]⟩ ls := PySem.StrLaws.glued_eq_join _ _
  rw [e0, jnC_of]
theorem split_join (c : Nat) {ls : List Str} (h0 : ls ≠ []) (h : ∀ s ∈ ls, c ∉ s.cps.toList) : Txt.split (Txt.join ⟨#[c]⟩ ls) ⟨#[c]⟩ = ls := by
  have e2 := congrArg (fun s : Str => s.cps.toList) (PySem.StrLaws.join_split (Txt.join ⟨#[c]⟩ ls) ⟨#[c]⟩)
  rw [jnC_of, join_cps] at e2
  refine cps_inj (jnC_uniq ?_ (fun z => h0 (List.map_eq_nil_iff.mp z)) ?_ ?_ e2)
  · intro z
    have h1 := PyProof.Rows.split_pos (Txt.join ⟨#[c]⟩ ls) ⟨#[c]⟩
    rw [List.map_eq_nil_iff.mp z] at h1
    exact absurd h1 (by decide)
  · intro x hx
    obtain ⟨s, hs, rfl⟩ := List.mem_map.mp hx
    exact PySem.StrLaws.split_free _ c s hs
  · intro x hx
    obtain ⟨s, hs, rfl⟩ := List.mem_map.mp hx
    exact h s hs
theorem spc : (" " : Str) = ⟨#[32]⟩ := by decide +kernel
theorem nlc : ("\n" : Str) = ⟨#[10]⟩ := by decide +kernel
def syL (s : Str × Int) : Str := ("  " : Str) ++ s.1 ++ " " ++ Str.ofString (toString s.2)
theorem syL_eq (s : Str × Int) : syL s = Txt.join " " ["", "", s.1, Str.ofString (toString s.2)] := by
  apply str_inj
  rw [spc, join_cps]
  show (("  " : Str) ++ s.1 ++ (" " : Str) ++ Str.ofString (toString s.2)).cps.toList = ("" : Str).cps.toList ++ 32 :: (("" : Str).cps.toList ++ 32 :: (s.1.cps.toList ++ 32 :: (Str.ofString (toString s.2)).cps.toList))
  have e1 : ("  " : Str).cps.toList = [32, 32] := by decide +kernel
  have e2 : (" " : Str).cps.toList = [32] := by decide +kernel
  have e3 : ("" : Str).cps.toList = [] := by decide +kernel
  rw [Str.cps_append, Str.cps_append, Str.cps_append, Array.toList_append, Array.toList_append, Array.toList_append, e1, e2, e3]
  simp
/-- the signs of a digit, of a letter -/
theorem dg_free : ∀ m : Fin 10, 32 ∉ (Str.ofString (toString (m.val : Int))).cps.toList ∧ 10 ∉ (Str.ofString (toString (m.val : Int))).cps.toList ∧ (Str.ofString (toString (m.val : Int))).length = 1 ∧ Txt.find DIG (Str.ofString (toString (m.val : Int))) = (m.val : Int) ∧ Str.ofString (toString (m.val : Int)) ≠ "-" := by decide +kernel
theorem dgI {n : Int} (h0 : 0 ≤ n) (h9 : n ≤ 9) : 32 ∉ (Str.ofString (toString n)).cps.toList ∧ 10 ∉ (Str.ofString (toString n)).cps.toList ∧ (Str.ofString (toString n)).length = 1 ∧ Txt.find DIG (Str.ofString (toString n)) = n ∧ Str.ofString (toString n) ≠ "-" := by
  obtain ⟨m, rfl⟩ : ∃ m : Nat, n = (m : Int) := ⟨n.toNat, by omega⟩
  exact dg_free ⟨m, by omega⟩
theorem nm_free {z : Str} (h : nmB z = true) : 32 ∉ z.cps.toList ∧ 10 ∉ z.cps.toList ∧ z.length ≤ 8 ∧ z ≠ "-" := by
  unfold nmB at h
  simp only [Bool.and_eq_true, decide_eq_true_eq] at h
  obtain ⟨h1, h2, h3, h4⟩ := h
  have hm : ∀ c ∈ z.cps.toList, c ∈ LET.cps.toList := fun c hc => of_decide_eq_true (List.all_eq_true.mp h4 c hc)
  refine ⟨fun h => absurd (hm _ h) (by decide +kernel), fun h => absurd (hm _ h) (by decide +kernel), h2, fun e => ?_⟩
  rw [e] at hm
  exact absurd (hm 45 (by decide +kernel)) (by decide +kernel)
theorem lkS_free {o : Option Int} (h : ∀ n, o = some n → 0 ≤ n ∧ n ≤ 9) : 32 ∉ (lkS o).cps.toList ∧ 10 ∉ (lkS o).cps.toList := by
  cases o with
  | none => decide +kernel
  | some n =>
    obtain ⟨h0, h9⟩ := h n rfl
    exact ⟨(dgI h0 h9).1, (dgI h0 h9).2.1⟩
theorem syL_split {s : Str × Int} (h : SyOk s) : Txt.split (syL s) " " = [("" : Str), "", s.1, Str.ofString (toString s.2)] := by
  obtain ⟨h1, h2, h3⟩ := h
  have hd := dgI (n := s.2) (by omega) (by omega)
  rw [syL_eq, spc]
  refine split_join 32 (fun z => nomatch z) fun w hw => ?_
  have e3 : ("" : Str).cps.toList = [] := by decide +kernel
  have hw : w = "" ∨ w = "" ∨ w = s.1 ∨ w = Str.ofString (toString s.2) := by simpa using hw
  rcases hw with rfl | rfl | rfl | rfl
  · rw [e3]; exact fun z => nomatch z
  · rw [e3]; exact fun z => nomatch z
  · exact (nm_free h1).1
  · exact hd.1
theorem lkL_split {ls : List (Option Int)} (h : ∀ n, some n ∈ ls → 0 ≤ n ∧ n ≤ 9) : Txt.split (lkL ls) " " = ("looks" : Str) :: ls.map lkS := by
  unfold lkL
  rw [spc]
  refine split_join 32 (fun z => nomatch z) fun w hw => ?_
  rcases List.mem_cons.mp hw with rfl | hw
  · decide +kernel
  · obtain ⟨o, ho, rfl⟩ := List.mem_map.mp hw
    exact (lkS_free fun n e => h n (e ▸ ho)).1
theorem syL_out {s : Str × Int} (h : SyOk s) : 10 ∉ (syL s).cps.toList := by
  obtain ⟨h1, h2, h3⟩ := h
  have hd := dgI (n := s.2) (by omega) (by omega)
  rw [syL_eq, spc, join_cps]
  refine jnC_out (by decide) fun x hx => ?_
  obtain ⟨w, hw, rfl⟩ := List.mem_map.mp hx
  have e3 : ("" : Str).cps.toList = [] := by decide +kernel
  have hw : w = "" ∨ w = "" ∨ w = s.1 ∨ w = Str.ofString (toString s.2) := by simpa using hw
  rcases hw with rfl | rfl | rfl | rfl
  · rw [e3]; exact fun z => nomatch z
  · rw [e3]; exact fun z => nomatch z
  · exact (nm_free h1).2.1
  · exact hd.2.1
theorem lkL_out {ls : List (Option Int)} (h : ∀ n, some n ∈ ls → 0 ≤ n ∧ n ≤ 9) : 10 ∉ (lkL ls).cps.toList := by
  unfold lkL
  rw [spc, join_cps]
  refine jnC_out (by decide) fun x hx => ?_
  obtain ⟨w, hw, rfl⟩ := List.mem_map.mp hx
  rcases List.mem_cons.mp hw with rfl | hw
  · decide +kernel
  · obtain ⟨o, ho, rfl⟩ := List.mem_map.mp hw
    exact (lkS_free fun n e => h n (e ▸ ho)).2
theorem ph_out : ∀ m : _root_.Fin 8, 10 ∉ (phL m.val).cps.toList ∧ (phL m.val).length = 11 := by decide +kernel
theorem syL_len {s : Str × Int} (h : SyOk s) : (syL s).length ≤ 12 := by
  obtain ⟨h1, h2, h3⟩ := h
  have hd := (dgI (n := s.2) (by omega) (by omega)).2.2.1
  have hz := (nm_free h1).2.2.1
  unfold syL
  rw [Str.length_append, Str.length_append, Str.length_append, hd]
  have e1 : ("  " : Str).length = 2 := by decide +kernel
  have e2 : (" " : Str).length = 1 := by decide +kernel
  omega
theorem join_len (sep : Str) (ls : List Str) : (Txt.join sep ls).length ≤ (ls.map (·.length)).sum + ls.length * sep.length := by
  have e0 : Txt.join sep ls = Str.join sep ls := PySem.StrLaws.glued_eq_join _ _
  rw [e0]
  exact PySem.StrLaws.join_length_le sep ls
theorem lkL_len {ls : List (Option Int)} (h : ∀ n, some n ∈ ls → 0 ≤ n ∧ n ≤ 9) : (lkL ls).length ≤ 6 + 2 * ls.length := by
  have h1 := join_len " " ("looks" :: ls.map lkS)
  have h2 := lks_sum h
  have e2 : (" " : Str).length = 1 := by decide +kernel
  have e5 : ("looks" : Str).length = 5 := by decide +kernel
  unfold lkL
  rw [List.map_cons, List.sum_cons, List.length_cons, List.length_map, e2, e5] at h1
  omega
/-- the text of a run -/
def rnT (m : Nat) (ss : List (Str × Int)) (ls : List (Option Int)) : Str := Txt.join "\n" (phL m :: (ss.map syL ++ [lkL ls]))
theorem sum_le {α : Type} {f : α → Nat} {k : Nat} : ∀ {xs : List α}, (∀ x ∈ xs, f x ≤ k) → (xs.map f).sum ≤ k * xs.length
  | [], _ => Nat.zero_le _
  | x :: xs, h => by
    have h1 := h x List.mem_cons_self
    have h2 := sum_le (xs := xs) fun y hy => h y (List.mem_cons_of_mem _ hy)
    rw [List.map_cons, List.sum_cons, List.length_cons, Nat.mul_succ]
    omega
theorem rnT_sum {m : _root_.Fin 8} {ss : List (Str × Int)} {ls : List (Option Int)} (hs : ∀ s ∈ ss, SyOk s) (hl : ∀ n, some n ∈ ls → 0 ≤ n ∧ n ≤ 9) :
    ((phL m.val :: (ss.map syL ++ [lkL ls])).map (·.length)).sum ≤ 17 + 12 * ss.length + 2 * ls.length := by
  have h1 := sum_le (f := fun s => (syL s).length) (k := 12) (xs := ss) fun s h => syL_len (hs s h)
  have h2 := lkL_len hl
  have h3 := (ph_out m).2
  simp only [List.map_cons, List.map_append, List.map_map, List.map_nil, List.sum_cons, List.sum_append, List.sum_nil]
  have e : (ss.map ((fun x : Str => x.length) ∘ syL)).sum = (ss.map fun s => (syL s).length).sum := rfl
  omega
theorem rnT_len {m : _root_.Fin 8} {ss : List (Str × Int)} {ls : List (Option Int)} (hs : ∀ s ∈ ss, SyOk s) (hl : ∀ n, some n ∈ ls → 0 ≤ n ∧ n ≤ 9) (l1 : ss.length ≤ 2000) (l2 : ls.length ≤ 2000) : (rnT m.val ss ls).length ≤ 40000 := by
  have h1 := join_len "\n" (phL m.val :: (ss.map syL ++ [lkL ls]))
  have h2 := rnT_sum (m := m) hs hl
  have e2 : ("\n" : Str).length = 1 := by decide +kernel
  rw [e2, List.length_cons, List.length_append, List.length_map, List.length_singleton] at h1
  unfold rnT
  omega
theorem rnT_split {m : _root_.Fin 8} {ss : List (Str × Int)} {ls : List (Option Int)} (hs : ∀ s ∈ ss, SyOk s) (hl : ∀ n, some n ∈ ls → 0 ≤ n ∧ n ≤ 9) : Txt.split (rnT m.val ss ls) "\n" = phL m.val :: (ss.map syL ++ [lkL ls]) := by
  unfold rnT
  rw [nlc]
  refine split_join 10 (fun z => nomatch z) fun w hw => ?_
  rcases List.mem_cons.mp hw with rfl | hw
  · exact (ph_out m).1
  · rcases List.mem_append.mp hw with hw | hw
    · obtain ⟨s, h, rfl⟩ := List.mem_map.mp hw
      exact syL_out (hs s h)
    · rw [List.mem_singleton.mp hw]
      exact lkL_out hl
end
end K39

set_option Elab.async false
set_option linter.all false
set_option pp.deepTerms.threshold 14
set_option pp.maxSteps 2500
set_option maxRecDepth 100000
set_option maxHeartbeats 2000000
namespace K39
open PySem PySem.Spec PyProof.Rows L2 Vf
section
variable {P : Program} {w : World} {K : PySem.W.Frag} {mg : Str → Option Value} {base : Heap}
theorem none_of {H H1 : Hp} {a : Addr} (s : Same H H1) (n : H1 a = none) : H a = none := by
  cases e : H a with
  | none => rfl
  | some o =>
    have := s _ _ e
    rw [n] at this
    cases this
/-- what a word of a line of looks tells -/
def wdO (w : Str) : Option Int := if w = "-" then none else some (if w.length = 1 then Txt.find DIG w else -1)
theorem wdO_lk {o : Option Int} (h : ∀ n, o = some n → 0 ≤ n ∧ n ≤ 9) : wdO (lkS o) = o := by
  cases o with
  | none => decide +kernel
  | some n =>
    obtain ⟨h0, h9⟩ := h n rfl
    obtain ⟨_, _, h3, h4, h5⟩ := dgI h0 h9
    unfold wdO
    show (if Str.ofString (toString n) = "-" then none else some (if (Str.ofString (toString n)).length = 1 then Txt.find DIG (Str.ofString (toString n)) else -1)) = some n
    rw [if_neg h5, if_pos h3, h4]
theorem wdO_lks : ∀ {ls : List (Option Int)}, (∀ n, some n ∈ ls → 0 ≤ n ∧ n ≤ 9) → (ls.map lkS).map wdO = ls
  | [], _ => rfl
  | o :: ls, h => by
    rw [List.map_cons, List.map_cons, wdO_lk fun n e => h n (e ▸ List.mem_cons_self), wdO_lks fun n e => h n (List.mem_cons_of_mem _ e)]
theorem wdO_nil : wdO "" = some (-1) := by decide +kernel
/-- o is a look that a text tells -/
def lkB : Option Int → Bool
  | none => true
  | some n => decide (0 ≤ n ∧ n ≤ 7)
theorem lkB_all {ls : List (Option Int)} (h : ∀ n, some n ∈ ls → 0 ≤ n ∧ n ≤ 7) : ls.all lkB = true := by
  rw [List.all_eq_true]
  intro o ho
  cases o with
  | none => rfl
  | some n => exact decide_eq_true (h n ho)
theorem cutV_1 {x : V} {xs : List V} : cutV (x :: xs) (some 1) none = xs := by
  unfold cutV
  have e1 : HT.sIx (x :: xs).length 0 (some 1) = 1 := by
    unfold HT.sIx
    simp
  have e2 : HT.sIx (x :: xs).length (x :: xs).length none = (x :: xs).length := rfl
  rw [e1, e2, List.drop_succ_cons, List.drop_zero]
  exact List.take_of_length_le (by simp)
/-- z is the line of a good list of looks, of a good stay -/
def LkOk (ls : List (Option Int)) : Prop := (∀ n, some n ∈ ls → 0 ≤ n ∧ n ≤ 7) ∧ 1 ≤ ls.length ∧ ls.length ≤ 2000
theorem LkOk.nine {ls : List (Option Int)} (h : LkOk ls) : ∀ n, some n ∈ ls → 0 ≤ n ∧ n ≤ 9 := fun n e => ⟨(h.1 n e).1, by have := (h.1 n e).2; omega⟩
theorem lkB_of : ∀ {ls : List (Option Int)}, ls.all lkB = true → ∀ n, some n ∈ ls → 0 ≤ n ∧ n ≤ 7 := fun {ls} h n e => by
  have := List.all_eq_true.mp h _ e
  exact of_decide_eq_true this
theorem sc_looks_told : FnScope ["line", "looks", "word", "look"] ["line"] (defScope s_looks_told) := ⟨rfl, rfl, rfl, by decide +kernel, rfl, by decide +kernel, by decide +kernel⟩
-- slots: 0 line, 1 looks, 2 word, 3 look
def spLkt : Sp := fun vs H Q _ => ∃ z : Str, vs = [.str z] ∧ z.length ≤ 40000 ∧
  ((∃ ls, z = lkL ls ∧ LkOk ls ∧ ∀ H' p, Same H H' → H p = none → H' p = some (.lst (ls.map lkT)) → Q (.ref p) H') ∨ ((∀ ls, z = lkL ls → ¬ LkOk ls) ∧ ∀ H', Same H H' → Q .non H'))
theorem ok_looks_told {fd : FuncData} (F : FnD K ("looks_told", none) "looks_told" "looks_told" s_looks_told fd) (T : PTxt K mg) (O_digit_of : OkF P w K mg base CX0 1 "digit_of" ["word"] spDig) (O_has_right_length : OkF P w K mg base CX0 1 "has_right_length" ["items"] spHrl)
    (O_is_look_of_text : OkF P w K mg base CX0 3 "is_look_of_text" ["look"] spIlt) (O_looks_line : OkF P w K mg base CX0 1 "looks_line" ["looks"] spLkl) : OkF P w K mg base CX0 4 "looks_told" ["line"] spLkt := by
  refine okd F (F.ok sc_looks_told (fun vs H Q E h => ?_) fun cdv A outer s H vs Q E hr h => ?_) fun _ _ _ _ _ _ us hl => match us, hl with | [_], _ => rfl
  · obtain ⟨z, rfl, _⟩ := h
    rfl
  · obtain ⟨z, rfl, hz, h⟩ := h
    refine ⟨_, PSs.nox (pss_cons (ps_setLc (i := 1) (own := [("word", 2)]) (g := gName 2) (tt := tYes) (by rfl) sc_looks_told.nd rfl rfl (sw_true rfl rfl rfl (by decide +kernel)) (pi_list (pe_slice sl_list (pe_m1 PySem.F.slot_str_split PySem.F.type_str_split mt_split (pv 0) pe_str) (po_some pe_int) po_none)) (blkOk_by (N := ["line", "looks", "word", "look"]) (sc := defScope s_looks_told) (by decide +kernel)) (fun _ _ _ _ _ => (pg_name (i := 2) sc_looks_told.nd rfl (Or.inl rfl))) (fun _ _ _ _ _ => pts_nil) (fun _ _ _ _ _ => (pe_ifExpB (pt_cmpR op_eq (pv 2) pe_str (nomark _)) pe_non (c_fn O_digit_of hr (by decide) T.g_digit_of pass0 (pa_cons (pv 2) pa_nil)))))
  (pss_cons (ps_if (PW.pt (pw_orB (pt_not (pt_val (c_fn O_has_right_length hr (by decide) T.g_has_right_length pass0 (pa_cons (pv 1) pa_nil)))) (pw_or1 (pt_not (pt_val (pe_callB (id := "all") (cr_all rfl) (by rfl) T.z_all (by decide +kernel) (pa_cons (pe_lc (own := [("look", 3)]) (g := gName 3) (tt := tYes) (by rfl) sc_looks_told.nd (pi_list (pv 1)) (blkOk_by (N := ["line", "looks", "word", "look"]) (sc := defScope s_looks_told) (by decide +kernel)) (fun _ _ _ _ _ => (pg_name (i := 3) sc_looks_told.nd rfl (Or.inl rfl))) (fun _ _ _ _ _ => pts_nil) (fun _ _ _ _ _ => (c_fn O_is_look_of_text hr (by decide) T.g_is_look_of_text pass0 (pa_cons (pv 3) pa_nil)))) pa_nil))))))) (pss_one (ps_ret pe_non))
  pss_nil)
  (pss_one (ps_ret (pe_ifExpB (pt_cmpR op_eq (c_fn O_looks_line hr (by decide) T.g_looks_line pass0 (pa_cons (pv 1) pa_nil)) (pv 0) (nomark _)) (pv 1) pe_non))))), ?_⟩
    have big : 100000 ≤ sizeLine := by decide
    obtain ⟨w0, ws, hsp⟩ : ∃ w0 ws, Txt.split z " " = w0 :: ws := by
      cases e : Txt.split z " " with
      | nil =>
        have := PyProof.Rows.split_pos z " "
        rw [e] at this
        exact absurd this (by decide)
      | cons a b => exact ⟨a, b, rfl⟩
    have hwl : ws.length ≤ 40002 := by
      have := PyProof.Rows.split_le z " "
      rw [hsp, List.length_cons] at this
      omega
    have hw8 : ∀ w ∈ ws, w.length ≤ sizeLine := fun w hw => by
      have := PyProof.Rows.part_short (x := z) (y := " ") (a := w) (by rw [hsp]; exact List.mem_cons_of_mem _ hw)
      omega
    refine ⟨_, rfl, ⟨_, rfl⟩, z, " ", rfl, rfl, by decide, by omega, fun p1 n1 => ?_⟩
    have sA := same_new (o := .lst ((Txt.split z " ").map V.str)) n1
    have hA := upd_same (H := H) (a := p1) (o := .lst ((Txt.split z " ").map V.str))
    generalize upd H p1 (.lst ((Txt.split z " ").map V.str)) = HA at sA hA ⊢
    rw [hsp] at hA
    refine ⟨1, rfl, _, _, rfl, SqL.of hA, fun p2 n2 => ?_⟩
    have ecut : cutV (List.map V.str (w0 :: ws)) (some 1) none = ws.map V.str := cutV_1
    rw [ecut]
    have sB := sA.trans (same_new (o := .lst (ws.map V.str)) n2)
    have hB := upd_same (H := HA) (a := p2) (o := .lst (ws.map V.str))
    generalize upd HA p2 (.lst (ws.map V.str)) = HB at sB hB ⊢
    refine ⟨p2, rfl, ⟨_, SqL.of hB⟩, fun D nD => lc_it walk_list (fun j H' => Same HB H' ∧ H' D = some (.lst (((ws.take j).map wdO).map lkT))) ⟨same_new nD, upd_same⟩ (fun j H' _ h => SqL.of (h.1 _ _ hB)) ?_ ?_⟩
    · rintro j x H5 H' hj ⟨sg, hD⟩ ⟨rfl, hx⟩
      rw [List.length_map] at hj
      have hoj : ws[j]? = some ws[j] := List.getElem?_eq_getElem hj
      have hom := hw8 _ (List.getElem_mem hj)
      generalize ws[j] = o at hoj hom
      obtain rfl : x = .str o := by
        rw [List.getElem?_map, hoj] at hx
        exact (Option.some.inj hx).symm
      have fin : ∃ acc, H' D = some (.lst acc) ∧ acc.length < sizeLine ∧ (Same HB (upd H' D (.lst (acc ++ [lkT (wdO o)]))) ∧ (upd H' D (.lst (acc ++ [lkT (wdO o)]))) D = some (.lst (((ws.take (j + 1)).map wdO).map lkT))) := by
        refine ⟨_, hD, ?_, same_app sg (Same.refl _) nD, ?_⟩
        · rw [List.length_map, List.length_map, List.length_take]
          exact Nat.lt_of_le_of_lt (show _ ≤ 50000 by omega) (by decide)
        · rw [upd_same, takeS _ hoj, List.map_append]
          rfl
      refine ⟨rfl, ?_⟩
      by_cases ho : o = "-"
      · have e : lkT (wdO o) = .non := by
          unfold wdO
          rw [if_pos ho]
          rfl
        rw [e] at fin
        refine ⟨_, rfl, rfl, _, rfl, .non, (· = H'), fun _ => ⟨rfl, rfl⟩, fun c => absurd (congrArg V.str ho) (of_decide_eq_false c), fun H2 e => e ▸ fin⟩
      · refine ⟨_, rfl, rfl, _, rfl, lkT (wdO o), (· = H'), fun c => absurd (V.str.inj (of_decide_eq_true c)) ho, fun _ => ⟨_, rfl, o, rfl, hom, fun n h1 h2 => ⟨?_, rfl⟩⟩, fun H2 e => e ▸ fin⟩
        unfold wdO
        rw [if_neg ho]
        by_cases hl : o.length = 1
        · rw [if_pos hl, h1 hl]
          rfl
        · rw [if_neg hl, h2 hl]
          rfl
    · rintro H5 ⟨s5, hD⟩
      rw [List.length_map, List.take_length] at hD
      generalize hof : ws.map wdO = os at hD
      have hol : os.length = ws.length := by rw [← hof, List.length_map]
      have hA : ∀ ls, z = lkL ls → LkOk ls → os = ls := fun ls e ok => by
        subst e
        rw [lkL_split ok.nine] at hsp
        cases hsp
        rw [← hof, wdO_lks ok.nine]
      refine ⟨_, rfl, .ref D, rfl, .inl ⟨D, _, rfl, hD, _, rfl, ?_⟩⟩
      rw [List.length_map]
      by_cases hlen : 1 ≤ os.length ∧ os.length ≤ 2000
      · have hc : (decide (1 ≤ os.length) && decide (os.length ≤ 2000)) = true := by
          rw [decide_eq_true hlen.1, decide_eq_true hlen.2]
          rfl
        rw [hc]
        refine ⟨!(os.all lkB), fun H' => Same H5 H', fun _ => ?_, (fun c => Bool.noConfusion c), fun H6 h6 => ?_⟩
        · refine ⟨_, rfl, D, rfl, ⟨_, SqL.of hD⟩, fun D2 nD2 => lc_it walk_list (fun j H' => Same H5 H' ∧ H' D2 = some (.lst (((os.take j).map lkB).map V.bl))) ⟨same_new nD2, upd_same⟩ (fun j H' _ h => SqL.of (h.1 _ _ hD)) ?_ ?_⟩
          · rintro j x H6 H' hj ⟨sg, hD2⟩ ⟨rfl, hx⟩
            rw [List.length_map] at hj
            have hoj : os[j]? = some os[j] := List.getElem?_eq_getElem hj
            generalize os[j] = o at hoj
            obtain rfl : x = lkT o := by
              rw [List.getElem?_map, hoj] at hx
              exact (Option.some.inj hx).symm
            have fin : ∀ b, lkB o = b → ∃ acc, H' D2 = some (.lst acc) ∧ acc.length < sizeLine ∧ (Same H5 (upd H' D2 (.lst (acc ++ [V.bl b]))) ∧ (upd H' D2 (.lst (acc ++ [V.bl b]))) D2 = some (.lst (((os.take (j + 1)).map lkB).map V.bl))) := by
              rintro b rfl
              refine ⟨_, hD2, ?_, same_app sg (Same.refl _) nD2, ?_⟩
              · rw [List.length_map, List.length_map, List.length_take]
                exact Nat.lt_of_le_of_lt (show _ ≤ 2001 by omega) (by decide)
              · rw [upd_same, takeS _ hoj, List.map_append]
                rfl
            refine ⟨rfl, _, rfl, lkT o, rfl, ?_⟩
            cases o with
            | none => exact .inl ⟨none, rfl, (fun n z => nomatch z), fin true rfl⟩
            | some n =>
              by_cases hn : 0 ≤ n ∧ n ≤ 7
              · exact .inl ⟨some n, rfl, (fun m z => Option.some.inj z ▸ hn), fin true (decide_eq_true hn)⟩
              · exact .inr ⟨⟨(fun z => nomatch z), .inl ⟨n, rfl, hn⟩⟩, fin false (decide_eq_false hn)⟩
          · rintro H6 ⟨s6, hD2⟩
            rw [List.length_map, List.take_length] at hD2
            refine ⟨D2, os.map lkB, rfl, SqL.of hD2, _, rfl, ?_, s6⟩
            rw [List.all_map]
            rfl
        · have sH6 := sB.trans (s5.trans h6)
          by_cases hall : os.all lkB = true
          · have hok : LkOk os := ⟨lkB_of hall, hlen⟩
            rw [hall]
            refine iteF ⟨_, rfl, D, os, rfl, h6 _ _ hD, hok.nine, by omega, fun H7 s7 => ⟨_, rfl, rfl, _, rfl, ?_⟩⟩
            rcases h with ⟨ls, rfl, ok, k⟩ | ⟨hno, k⟩
            · obtain rfl := hA ls rfl ok
              rw [decide_eq_true rfl]
              exact ⟨.ref D, fun H' => Same H7 H', fun _ => ⟨_, rfl, rfl, Same.refl _⟩, (fun c => Bool.noConfusion c), fun H8 h8 => k _ D (sH6.trans (s7.trans h8)) (none_of sB nD) (h8 _ _ (s7 _ _ (h6 _ _ hD)))⟩
            · rw [decide_eq_false fun e => hno os (V.str.inj e).symm hok]
              exact ⟨.non, fun H' => Same H7 H', (fun c => Bool.noConfusion c), fun _ => ⟨rfl, Same.refl _⟩, fun H8 h8 => k _ (sH6.trans (s7.trans h8))⟩
          · rw [Bool.eq_false_iff.mpr hall]
            refine iteT ?_
            rcases h with ⟨ls, rfl, ok, k⟩ | ⟨hno, k⟩
            · obtain rfl := hA ls rfl ok
              exact absurd (lkB_all ok.1) hall
            · exact k _ sH6
      · have hc : (decide (1 ≤ os.length) && decide (os.length ≤ 2000)) = false := by
          by_cases h1 : 1 ≤ os.length
          · rw [decide_eq_false (fun h2 => hlen ⟨h1, h2⟩), Bool.and_false]
          · rw [decide_eq_false h1, Bool.false_and]
        rw [hc]
        refine ⟨false, (· = H5), (fun c => Bool.noConfusion c), fun _ => rfl, fun H6 e => ?_⟩
        subst e
        refine iteT ?_
        rcases h with ⟨ls, rfl, ok, k⟩ | ⟨hno, k⟩
        · obtain rfl := hA ls rfl ok
          exact absurd ok.2 hlen
        · exact k _ (sB.trans s5)
theorem atI4_m2 {α : Type} {a b c d : α} : atI [a, b, c, d] (-2) = some c := rfl
theorem atI4_m1 {α : Type} {a b c d : α} : atI [a, b, c, d] (-1) = some d := rfl
theorem sc_stay_told : FnScope ["line", "words", "stay"] ["line"] (defScope s_stay_told) := ⟨rfl, rfl, rfl, by decide +kernel, rfl, by decide +kernel, by decide +kernel⟩
-- slots: 0 line, 1 words, 2 stay
def spStt : Sp := fun vs H Q _ => ∃ z : Str, vs = [.str z] ∧ z.length ≤ 40000 ∧ ((∃ s, z = syL s ∧ SyOk s ∧ ∀ H' p, Same H H' → H p = none → SyA H' p s → Q (.ref p) H') ∨ ((∀ s, z = syL s → ¬ SyOk s) ∧ ∀ H', Same H H' → Q .non H'))
theorem ok_stay_told {fd : FuncData} (F : FnD K ("stay_told", none) "stay_told" "stay_told" s_stay_told fd) (T : PTxt K mg) (O_digit_of : OkF P w K mg base CX0 1 "digit_of" ["word"] spDig) (O_is_stay_of_text : OkF P w K mg base CX0 3 "is_stay_of_text" ["stay"] spIst)
    (O_stay_line : OkF P w K mg base CX0 1 "stay_line" ["stay"] spStl) : OkF P w K mg base CX0 4 "stay_told" ["line"] spStt := by
  refine okd F (F.ok sc_stay_told (fun vs H Q E h => ?_) fun cdv A outer s H vs Q E hr h => ?_) fun _ _ _ _ _ _ us hl => match us, hl with | [_], _ => rfl
  · obtain ⟨z, rfl, _⟩ := h
    rfl
  · obtain ⟨z, rfl, hz, h⟩ := h
    refine ⟨_, PSs.nox (pss_cons (ps_set (i := 1) sc_stay_told.nd rfl (Or.inl rfl) (pe_m1 PySem.F.slot_str_split PySem.F.type_str_split mt_split (pv 0) pe_str))
  (pss_cons (ps_set (i := 2) sc_stay_told.nd rfl (Or.inl rfl) (pe_weak (pe_ifExp (pt_cmpR op_eq (pe_callB (id := "len") call_len_seq (by rfl) T.z_len (by decide +kernel) (pa_cons (pv 1) pa_nil)) pe_int (nomark _)) (pe_tup (pa_cons (pe_ix ix_list (pv 1) (pe_un un_neg pe_int) (fun _ _ => rfl)) (pa_cons (c_fn O_digit_of hr (by decide) T.g_digit_of pass0 (pa_cons (pe_ix ix_list (pv 1) (pe_un un_neg pe_int) (fun _ _ => rfl)) pa_nil)) pa_nil))) pe_non)))
  (pss_one (ps_ret (pe_ifExpB (PW.pt (pw_andB (pt_val (c_fn O_is_stay_of_text hr (by decide) T.g_is_stay_of_text pass0 (pa_cons (pv 2) pa_nil))) (pw_and1 (pt_cmpR op_eq (c_fn O_stay_line hr (by decide) T.g_stay_line pass0 (pa_cons (pv 2) pa_nil)) (pv 0) (nomark _))))) (pv 2) pe_non))))), ?_⟩
    have big : 100000 ≤ sizeLine := by decide
    have hw8 : ∀ w ∈ Txt.split z " ", w.length ≤ sizeLine := fun w hw => by
      have := PyProof.Rows.part_short hw
      omega
    refine ⟨_, rfl, ⟨_, rfl⟩, z, " ", rfl, rfl, by decide, by omega, fun p1 n1 => ?_⟩
    have sA := same_new (o := .lst ((Txt.split z " ").map V.str)) n1
    have hA := upd_same (H := H) (a := p1) (o := .lst ((Txt.split z " ").map V.str))
    generalize upd H p1 (.lst ((Txt.split z " ").map V.str)) = HA at sA hA ⊢
    by_cases h4 : (Txt.split z " ").length = 4
    · obtain ⟨a, b, c, d, hsp⟩ : ∃ a b c d, Txt.split z " " = [a, b, c, d] := by
        match Txt.split z " ", h4 with
        | [a, b, c, d], _ => exact ⟨a, b, c, d, rfl⟩
      rw [hsp] at hA hw8
      have hA : HA p1 = some (.lst [.str a, .str b, .str c, .str d]) := hA
      have lc : c.length ≤ sizeLine := hw8 c (by simp)
      obtain ⟨nn, hn1, hn2⟩ : ∃ nn : Int, (d.length = 1 → nn = Txt.find DIG d) ∧ (d.length ≠ 1 → nn = -1) := by
        by_cases e : d.length = 1
        · exact ⟨_, fun _ => rfl, fun h => absurd e h⟩
        · exact ⟨_, fun h => absurd h e, fun _ => rfl⟩
      refine ⟨fun y H' => ∃ t, y = .ref t ∧ HA t = none ∧ Same HA H' ∧ SyA H' t (c, nn), ⟨_, rfl, p1, _, rfl, .inl (SqL.of hA), rfl, _, rfl, iteT ⟨_, rfl, _, rfl, p1, _, -2, .str c, rfl, rfl, SqL.of hA, atI4_m2, _, rfl, _, rfl, p1, _, -1, .str d, rfl, rfl, SqL.of hA, atI4_m1, _, rfl, hw8 d (by simp), fun n h1 h2 => ?_⟩⟩, ?_⟩
      · obtain rfl : n = nn := by
          by_cases e : d.length = 1
          · rw [h1 e, hn1 e]
          · rw [h2 e, hn2 e]
        exact ⟨(by show 2 ≤ sizeLine; decide), fun q nq => ⟨q, rfl, nq, same_new nq, upd_same⟩⟩
      · rintro y H' ⟨t, rfl, nt, sT, hT⟩
        have hex : ∀ s, z = syL s → SyOk s → (c, nn) = s := fun s e ok => by
          subst e
          rw [syL_split ok] at hsp
          have hd := dgI (n := s.2) (by have := ok.2.1; omega) (by have := ok.2.2; omega)
          have e3 : c = s.1 := by
            have := congrArg (fun l : List Str => l[2]?) hsp
            exact (Option.some.inj this).symm
          have e4 : d = Str.ofString (toString s.2) := by
            have := congrArg (fun l : List Str => l[3]?) hsp
            exact (Option.some.inj this).symm
          rw [e4] at hn1
          rw [hn1 hd.2.2.1, hd.2.2.2.1, e3]
        by_cases hok : SyOk (c, nn)
        · refine ⟨_, rfl, .ref t, rfl, .inl ⟨t, (c, nn), rfl, hT, hok, lc, fun H6 s6 => ⟨_, rfl, ?_⟩⟩⟩
          have h8 : c.length ≤ 8 := (nm_free hok.1).2.2.1
          refine ⟨decide (V.str (syL (c, nn)) = .str z), (· = H6), fun _ => ⟨_, rfl, t, (c, nn), rfl, s6 _ _ hT, h8, by have := hok.2.1; omega, by have := hok.2.2; omega, _, rfl, rfl, _, rfl, rfl, rfl⟩, (fun c => Bool.noConfusion c), fun H7 e => ?_⟩
          subst e
          rcases h with ⟨s, rfl, ok, k⟩ | ⟨hno, k⟩
          · obtain rfl := hex s rfl ok
            rw [decide_eq_true rfl]
            exact ⟨.ref t, (· = H7), fun _ => ⟨_, rfl, rfl, rfl⟩, (fun c => Bool.noConfusion c), fun H8 e => e ▸ k _ t (sA.trans (sT.trans s6)) (none_of sA nt) (s6 _ _ hT)⟩
          · rw [decide_eq_false fun e => hno _ (V.str.inj e).symm hok]
            exact ⟨.non, (· = H7), (fun c => Bool.noConfusion c), fun _ => ⟨rfl, rfl⟩, fun H8 e => e ▸ k _ (sA.trans (sT.trans s6))⟩
        · have hno : NoSt H' (.ref t) := by
            refine .inr (.inr (.inr ⟨t, .str c, .int nn, rfl, hT, ?_⟩))
            cases hc : nmB c with
            | false => exact .inl (.inl ⟨c, rfl, lc, hc⟩)
            | true => exact .inr ⟨c, rfl, lc, .inl ⟨nn, rfl, fun h => hok ⟨hc, h.1, h.2⟩⟩⟩
          refine ⟨_, rfl, .ref t, rfl, .inr ⟨hno, fun H6 s6 => ⟨_, rfl, ?_⟩⟩⟩
          refine ⟨false, (· = H6), (fun c => Bool.noConfusion c), fun _ => rfl, fun H7 e => ?_⟩
          subst e
          rcases h with ⟨s, rfl, ok, k⟩ | ⟨hno, k⟩
          · exact absurd (hex s rfl ok ▸ ok) hok
          · exact ⟨.non, (· = H7), (fun c => Bool.noConfusion c), fun _ => ⟨rfl, rfl⟩, fun H8 e => e ▸ k _ (sA.trans (sT.trans s6))⟩
    · refine ⟨fun y H' => y = .non ∧ H' = HA, ⟨_, rfl, p1, _, rfl, .inl (SqL.of hA), rfl, _, rfl, ?_⟩, ?_⟩
      · rw [List.length_map, decide_eq_false (fun e => h4 (by have := V.int.inj e; omega))]
        exact iteF ⟨rfl, rfl⟩
      · rintro y H' ⟨rfl, rfl⟩
        refine ⟨_, rfl, .non, rfl, .inr ⟨.inl rfl, fun H6 s6 => ⟨_, rfl, ?_⟩⟩⟩
        refine ⟨false, (· = H6), (fun c => Bool.noConfusion c), fun _ => rfl, fun H7 e => ?_⟩
        subst e
        rcases h with ⟨s, rfl, ok, k⟩ | ⟨hno, k⟩
        · rw [syL_split ok] at h4
          exact absurd rfl h4
        · exact ⟨.non, (· = H7), (fun c => Bool.noConfusion c), fun _ => ⟨rfl, rfl⟩, fun H8 e => e ▸ k _ (sA.trans s6)⟩
end
end K39

set_option Elab.async false
set_option linter.all false
set_option pp.deepTerms.threshold 14
set_option pp.maxSteps 2500
set_option maxRecDepth 100000
set_option maxHeartbeats 2000000
namespace K39
open PySem PySem.Spec PyProof.Rows L2 Vf
section
variable {P : Program} {w : World} {K : PySem.W.Frag} {mg : Str → Option Value} {base : Heap}
theorem paired_imp {α β : Type} {R S : α → β → Prop} (h : ∀ a b, R a b → S a b) : ∀ {xs : List α} {ys : List β}, Paired R xs ys → Paired S xs ys
  | _, _, .nil => .nil
  | _, _, .cons r p => .cons (h _ _ r) (paired_imp h p)
theorem paired_snoc {α β : Type} {R : α → β → Prop} {a : α} {b : β} (r : R a b) : ∀ {xs : List α} {ys : List β}, Paired R xs ys → Paired R (xs ++ [a]) (ys ++ [b])
  | _, _, .nil => .cons r .nil
  | _, _, .cons q p => .cons q (paired_snoc r p)
def StsA (H : Hp) (S : Addr) (sts : List (Str × Int)) : Prop := ∃ rs : List Addr, H S = some (.lst (rs.map V.ref)) ∧ Paired (fun r (p : Str × Int) => H r = some (.tup [.str p.1, .int p.2])) rs sts
theorem StsA.ext {H H' : Hp} {S : Addr} {sts : List (Str × Int)} (h : StsA H S sts) (s : Same H H') : StsA H' S sts := by
  obtain ⟨rs, h1, h2⟩ := h
  exact ⟨rs, s _ _ h1, paired_imp (fun _ _ q => s _ _ q) h2⟩
theorem paired_at {α β : Type} {R : α → β → Prop} : ∀ {xs : List α} {ys : List β} {i : Nat} {x : α}, Paired R xs ys → xs[i]? = some x → ∃ y, ys[i]? = some y ∧ R x y
  | _, _, i, _, .nil, h => by cases h
  | _, _, 0, _, .cons r _, h => by cases h; exact ⟨_, rfl, r⟩
  | _, _, i + 1, _, .cons _ p, h => paired_at (i := i) p h
theorem paired_at2 {α β : Type} {R : α → β → Prop} : ∀ {xs : List α} {ys : List β} {i : Nat} {y : β}, Paired R xs ys → ys[i]? = some y → ∃ x, xs[i]? = some x ∧ R x y
  | _, _, i, _, .nil, h => by cases h
  | _, _, 0, _, .cons r _, h => by cases h; exact ⟨_, rfl, r⟩
  | _, _, i + 1, _, .cons _ p, h => paired_at2 (i := i) p h
theorem ixN_m1 {n : Nat} (h : 1 ≤ n) : ixN n (-1) = some (n - 1) := by
  unfold ixN
  rw [if_neg (by omega), if_pos (by omega)]
  congr 1
  omega
theorem StsA.len {H : Hp} {S : Addr} {sts : List (Str × Int)} (h : StsA H S sts) : ∃ vs, H S = some (.lst vs) ∧ vs.length = sts.length := by
  obtain ⟨rs, h1, h2⟩ := h
  exact ⟨_, h1, by rw [List.length_map, paired_len h2]⟩
theorem StsA.add {H : Hp} {S t : Addr} {sts : List (Str × Int)} {z : Str} {k : Int} {vs : List V} (h : StsA H S sts) (hv : H S = some (.lst vs)) (ht : H t = some (.tup [.str z, .int k])) : StsA (upd H S (.lst (vs ++ [.ref t]))) S (sts ++ [(z, k)]) := by
  obtain ⟨rs, h1, h2⟩ := h
  rw [hv] at h1
  cases h1
  refine ⟨rs ++ [t], by rw [upd_same, List.map_append]; rfl, paired_snoc ?_ (paired_imp (fun r p q => ?_) h2)⟩
  · rw [upd_ne (ne_of ht hv (by intro z; cases z))]
    exact ht
  · rw [upd_ne (ne_of q hv (by intro z; cases z))]
    exact q
def SameX (d : Addr) (H H' : Hp) : Prop := ∀ b o, b ≠ d → H b = some o → H' b = some o
theorem SameX.trans {d : Addr} {H H1 H2 : Hp} (a : SameX d H H1) (b : SameX d H1 H2) : SameX d H H2 := fun c o n h => b c o n (a c o n h)
theorem same_x {d : Addr} {H H' : Hp} (s : Same H H') : SameX d H H' := fun b o _ h => s b o h
theorem SameX.upd {d : Addr} {H : Hp} {o : HO} : SameX d H (upd H d o) := fun b u n h => by rw [upd_ne n]; exact h
/-- what write_run is given -/
def GdS (H : Hp) (x : V) : Prop := ∃ r s, x = .ref r ∧ SyA H r s ∧ SyOk s
def GdL (x : V) : Prop := ∃ o, x = lkT o ∧ ∀ n, o = some n → 0 ≤ n ∧ n ≤ 7
theorem SyOk.len {s : Str × Int} (h : SyOk s) : s.1.length ≤ 8 := (nm_free h.1).2.2.1
theorem oddS_keep {H H' : Hp} {x : V} (o : OddS H x) (s : Same H H') : OddS H' x := by
  cases o with
  | bl b => exact .bl b
  | non => exact .non
  | int i => exact .int i
  | tup h => exact .tup (s _ _ h)
  | lst h => exact .lst (s _ _ h)
  | dic h => exact .dic (s _ _ h)
theorem NoLs.ext {H H' : Hp} {x : V} (o : NoLs H x) (s : Same H H') : NoLs H' x := by
  cases o with
  | non => exact .non
  | tup h => exact .tup (s _ _ h)
  | dic h => exact .dic (s _ _ h)
theorem GdS.ext {H H' : Hp} {x : V} (o : GdS H x) (s : Same H H') : GdS H' x := by
  obtain ⟨r, q, e, h, ok⟩ := o
  exact ⟨r, q, e, s _ _ h, ok⟩
theorem NoSt.ext {H H' : Hp} {x : V} (o : NoSt H x) (s : Same H H') : NoSt H' x := by
  rcases o with rfl | ⟨a, xs, rfl, ha⟩ | ⟨a, xs, rfl, ha, hn⟩ | ⟨a, z, y, rfl, ha, hzy⟩
  · exact .inl rfl
  · exact .inr (.inl ⟨a, xs, rfl, s _ _ ha⟩)
  · exact .inr (.inr (.inl ⟨a, xs, rfl, s _ _ ha, hn⟩))
  · refine .inr (.inr (.inr ⟨a, z, y, rfl, s _ _ ha, ?_⟩))
    rcases hzy with (h | o) | ⟨t, e, hl, hy⟩
    · exact .inl (.inl h)
    · exact .inl (.inr (oddS_keep o s))
    · exact .inr ⟨t, e, hl, same_notFr hy s⟩
theorem NoLk.ext {H H' : Hp} {x : V} (o : NoLk H x) (s : Same H H') : NoLk H' x := ⟨o.1, same_notFr o.2 s⟩
inductive BdSt (H : Hp) (x : V) : Prop where
  | nol (h : NoLs H x)
  | len {a : Addr} {xs : List V} (e : x = .ref a) (h : H a = some (.lst xs)) (hl : xs.length = 0 ∨ 2000 < xs.length)
  | itm {a : Addr} {xs : List V} (e : x = .ref a) (h : H a = some (.lst xs)) (ha : ∀ y ∈ xs, GdS H y ∨ NoSt H y) (hb : ∃ y ∈ xs, NoSt H y)
inductive BdLk (H : Hp) (x : V) : Prop where
  | nol (h : NoLs H x)
  | len {a : Addr} {xs : List V} (e : x = .ref a) (h : H a = some (.lst xs)) (hl : xs.length = 0 ∨ 2000 < xs.length)
  | itm {a : Addr} {xs : List V} (e : x = .ref a) (h : H a = some (.lst xs)) (ha : ∀ y ∈ xs, GdL y ∨ NoLk H y) (hb : ∃ y ∈ xs, NoLk H y)
theorem gd_not_no {H : Hp} {x : V} (g : GdS H x) : ¬ NoSt H x := by
  obtain ⟨r, s, rfl, h, hok⟩ := g
  have h : H r = some (.tup [.str s.1, .int s.2]) := h
  rintro (e | ⟨a, xs, e, ha⟩ | ⟨a, xs, e, ha, hn⟩ | ⟨a, z, y, e, ha, hzy⟩)
  · cases e
  · cases e
    rw [h] at ha
    cases ha
  · cases e
    rw [h] at ha
    cases ha
    exact hn rfl
  · cases e
    rw [h] at ha
    cases ha
    rcases hzy with (⟨t, e, _, hn⟩ | o) | ⟨t, e, _, ⟨n, e2, hn⟩ | o⟩
    · cases e
      rw [hok.1] at hn
      cases hn
    · cases o
    · cases e2
      exact hn hok.2
    · cases o
theorem gdl_not_no {H : Hp} {x : V} (g : GdL x) : ¬ NoLk H x := by
  obtain ⟨o, rfl, ho⟩ := g
  rintro ⟨h1, ⟨n, e, hn⟩ | od⟩
  · cases o with
    | none => cases e
    | some m =>
      cases e
      exact hn (ho _ rfl)
  · cases o with
    | none => exact h1 rfl
    | some m => cases od
open Classical in
noncomputable def bS (H : Hp) (x : V) : Bool := decide (GdS H x)
open Classical in
noncomputable def bL (x : V) : Bool := decide (GdL x)
theorem bS_t {H : Hp} {x : V} (h : GdS H x) : bS H x = true := by unfold bS; exact @decide_eq_true _ (Classical.propDecidable _) h
theorem bS_f {H : Hp} {x : V} (h : NoSt H x) : bS H x = false := by unfold bS; exact @decide_eq_false _ (Classical.propDecidable _) fun g => gd_not_no g h
theorem bL_t {x : V} (h : GdL x) : bL x = true := by unfold bL; exact @decide_eq_true _ (Classical.propDecidable _) h
theorem bL_f {H : Hp} {x : V} (h : NoLk H x) : bL x = false := by unfold bL; exact @decide_eq_false _ (Classical.propDecidable _) fun g => gdl_not_no g h
def ErP (K : PySem.W.Frag) (E : XK) (H : Hp) (p : Str) : Prop := ∀ H1 d, Same H H1 → H1 d = none → E (.ref (He.ga K "BadRun")) (some d) (upd H1 d (.xd [("part", .str p)]))
theorem sts_all {H : Hp} {S : Addr} {ss : List (Str × Int)} (h : StsA H S ss) (hs : ∀ s ∈ ss, SyOk s) : ∃ rs : List Addr, H S = some (.lst (rs.map V.ref)) ∧ rs.length = ss.length ∧ (∀ y ∈ rs.map V.ref, GdS H y) ∧ Paired (SyA H) rs ss := by
  obtain ⟨rs, h1, h2⟩ := h
  refine ⟨rs, h1, paired_len h2, fun y hy => ?_, h2⟩
  obtain ⟨r, hr, rfl⟩ := List.mem_map.mp hy
  obtain ⟨i, hi⟩ := List.mem_iff_getElem?.mp hr
  obtain ⟨s, h3, h4⟩ := paired_at h2 hi
  exact ⟨r, s, rfl, h4, hs s (List.mem_of_getElem? h3)⟩
theorem sc_write_run : FnScope ["phase", "stays", "looks", "stay", "look", "lines"] ["phase", "stays", "looks"] (defScope s_write_run) := ⟨rfl, rfl, rfl, by decide +kernel, rfl, by decide +kernel, by decide +kernel⟩
-- slots: 0 phase, 1 stays, 2 looks, 3 stay, 4 look, 5 lines
def spWr (K : PySem.W.Frag) : Sp := fun vs H Q E => ∃ ph st lk, vs = [ph, st, lk] ∧
  ((NotFr H ph 0 7 ∧ ErP K E H "phase") ∨
   (∃ m : _root_.Fin 8, ph = .int (m.val : Int) ∧
     ((BdSt H st ∧ ErP K E H "stays") ∨
      (∃ S ss, st = .ref S ∧ StsA H S ss ∧ (∀ s ∈ ss, SyOk s) ∧ 1 ≤ ss.length ∧ ss.length ≤ 2000 ∧
        ((BdLk H lk ∧ ErP K E H "looks") ∨
         (∃ L ls, lk = .ref L ∧ H L = some (.lst (ls.map lkT)) ∧ (∀ n, some n ∈ ls → 0 ≤ n ∧ n ≤ 7) ∧ 1 ≤ ls.length ∧ ls.length ≤ 2000 ∧ ∀ H', Same H H' → Q (.str (rnT m.val ss ls)) H'))))))
theorem ok_write_run {fd : FuncData} (F : FnD K ("write_run", none) "write_run" "write_run" s_write_run fd) (T : PTxt K mg) (O_is_integer_from : OkF P w K mg base CX0 2 "is_integer_from" ["x", "low", "high"] spFr) (O_has_right_length : OkF P w K mg base CX0 1 "has_right_length" ["items"] spHrl)
    (O_is_stay_of_text : OkF P w K mg base CX0 3 "is_stay_of_text" ["stay"] spIst) (O_is_look_of_text : OkF P w K mg base CX0 3 "is_look_of_text" ["look"] spIlt) (O_phase_line : OkF P w K mg base CX0 1 "phase_line" ["phase"] spPhl) (O_stay_line : OkF P w K mg base CX0 1 "stay_line" ["stay"] spStl) (O_looks_line : OkF P w K mg base CX0 1 "looks_line" ["looks"] spLkl)
    (O_BadRun_init : OkD P w K mg base CX0 1 ("BadRun", some "__init__") ["self", "part"] [] (spExI K (He.ga K "BadRun") "part")) : OkF P w K mg base (L2.CX P w) 5 "write_run" ["phase", "stays", "looks"] (spWr K) := by
  refine okd F (F.ok sc_write_run (fun vs H Q E h => ?_) fun cdv A outer s H vs Q E hr h => ?_) fun _ _ _ _ _ _ us hl => match us, hl with | [_, _, _], _ => rfl
  · obtain ⟨ph, st, lk, rfl, _⟩ := h
    rfl
  · obtain ⟨ph, st, lk, rfl, h⟩ := h
    refine ⟨_, (pss_cons (ps_if (pt_not (pt_val (c_fn O_is_integer_from hr (by decide) T.g_is_integer_from pass0 (pa_cons (pv 0) (pa_cons pe_int (pa_cons (pe_op op_sub (c_gint T.i_MOST_PERIOD) pe_int) pa_nil)))))) (pss_one (c_raise T.x_BadRun O_BadRun_init hr (by decide) T.g_BadRun (takes_of rfl rfl rfl rfl) (pa_cons pe_str pa_nil)))
  pss_nil)
  (pss_cons (ps_if (PW.pt (pw_orB (pt_not (pt_val (c_fn O_has_right_length hr (by decide) T.g_has_right_length pass0 (pa_cons (pv 1) pa_nil)))) (pw_or1 (pt_not (pt_val (pe_callB (id := "all") (cr_all rfl) (by rfl) T.z_all (by decide +kernel) (pa_cons (pe_lc (own := [("stay", 3)]) (g := gName 3) (tt := tYes) (by rfl) sc_write_run.nd (pi_list (pv 1)) (blkOk_by (N := ["phase", "stays", "looks", "stay", "look", "lines"]) (sc := defScope s_write_run) (by decide +kernel)) (fun _ _ _ _ _ => (pg_name (i := 3) sc_write_run.nd rfl (Or.inl rfl))) (fun _ _ _ _ _ => pts_nil) (fun _ _ _ _ _ => (c_fn O_is_stay_of_text hr (by decide) T.g_is_stay_of_text pass0 (pa_cons (pv 3) pa_nil)))) pa_nil))))))) (pss_one (c_raise T.x_BadRun O_BadRun_init hr (by decide) T.g_BadRun (takes_of rfl rfl rfl rfl) (pa_cons pe_str pa_nil)))
  pss_nil)
  (pss_cons (ps_if (PW.pt (pw_orB (pt_not (pt_val (c_fn O_has_right_length hr (by decide) T.g_has_right_length pass0 (pa_cons (pv 2) pa_nil)))) (pw_or1 (pt_not (pt_val (pe_callB (id := "all") (cr_all rfl) (by rfl) T.z_all (by decide +kernel) (pa_cons (pe_lc (own := [("look", 4)]) (g := gName 4) (tt := tYes) (by rfl) sc_write_run.nd (pi_list (pv 2)) (blkOk_by (N := ["phase", "stays", "looks", "stay", "look", "lines"]) (sc := defScope s_write_run) (by decide +kernel)) (fun _ _ _ _ _ => (pg_name (i := 4) sc_write_run.nd rfl (Or.inl rfl))) (fun _ _ _ _ _ => pts_nil) (fun _ _ _ _ _ => (c_fn O_is_look_of_text hr (by decide) T.g_is_look_of_text pass0 (pa_cons (pv 4) pa_nil)))) pa_nil))))))) (pss_one (c_raise T.x_BadRun O_BadRun_init hr (by decide) T.g_BadRun (takes_of rfl rfl rfl rfl) (pa_cons pe_str pa_nil)))
  pss_nil)
  (pss_cons (ps_set (i := 5) sc_write_run.nd rfl (Or.inl rfl) (pe_lst (pa_cons (c_fn O_phase_line hr (by decide) T.g_phase_line pass0 (pa_cons (pv 0) pa_nil)) pa_nil)))
  (pss_cons (ps_expr (pe_bm PySem.F.plainAttrs_list PySem.F.slot_list_extend PySem.F.type_list_extend mt_extend (pv 5) (pa_cons (pe_lc (own := [("stay", 3)]) (g := gName 3) (tt := tYes) (by rfl) sc_write_run.nd (pi_list (pv 1)) (blkOk_by (N := ["phase", "stays", "looks", "stay", "look", "lines"]) (sc := defScope s_write_run) (by decide +kernel)) (fun _ _ _ _ _ => (pg_name (i := 3) sc_write_run.nd rfl (Or.inl rfl))) (fun _ _ _ _ _ => pts_nil) (fun _ _ _ _ _ => (c_fn O_stay_line hr (by decide) T.g_stay_line pass0 (pa_cons (pv 3) pa_nil)))) pa_nil)))
  (pss_cons (ps_expr (pe_bm PySem.F.plainAttrs_list PySem.F.slot_list_append PySem.F.type_list_append mt_append (pv 5) (pa_cons (c_fn O_looks_line hr (by decide) T.g_looks_line pass0 (pa_cons (pv 2) pa_nil)) pa_nil)))
  (pss_one (ps_ret (pe_m1 PySem.F.slot_str_join PySem.F.type_str_join mt_join pe_str (pv 5)))))))))), ?_⟩
    rcases h with ⟨hnf, k⟩ | ⟨m, rfl, h⟩
    · exact ⟨_, rfl, _, _, rfl, rfl, ph, 0, 7, rfl, .inr ⟨hnf, false, rfl, iteT ⟨_, rfl, fun d nd => k H d (Same.refl _) nd⟩⟩⟩
    have hm := m.isLt
    refine ⟨_, rfl, _, _, rfl, rfl, .int (m.val : Int), 0, 7, rfl, .inl ⟨_, rfl, by omega, by omega, true, rfl, iteF ?_⟩⟩
    have hst : ((NoLs H st ∨ ∃ a xs, st = .ref a ∧ H a = some (.lst xs) ∧ (xs.length = 0 ∨ 2000 < xs.length)) ∧ ErP K E H "stays") ∨
        (∃ a xs, st = .ref a ∧ H a = some (.lst xs) ∧ 1 ≤ xs.length ∧ xs.length ≤ 2000 ∧ (∀ y ∈ xs, GdS H y ∨ NoSt H y) ∧ ((xs.all (bS H) = false ∧ ErP K E H "stays") ∨ (xs.all (bS H) = true ∧ ∃ (ss : List (Str × Int)) (rs : List Addr), xs = rs.map V.ref ∧ rs.length = ss.length ∧ Paired (SyA H) rs ss ∧ (∀ s ∈ ss, SyOk s) ∧
          ((BdLk H lk ∧ ErP K E H "looks") ∨ (∃ L ls, lk = .ref L ∧ H L = some (.lst (ls.map lkT)) ∧ (∀ n, some n ∈ ls → 0 ≤ n ∧ n ≤ 7) ∧ 1 ≤ ls.length ∧ ls.length ≤ 2000 ∧ ∀ H', Same H H' → Q (.str (rnT m.val ss ls)) H'))))) := by
      rcases h with ⟨hb, k⟩ | ⟨S, ss, rfl, hS, hs, s1, s2, h⟩
      · cases hb with
        | nol h => exact .inl ⟨.inl h, k⟩
        | len e h hl => exact .inl ⟨.inr ⟨_, _, e, h, hl⟩, k⟩
        | @itm a xs e h ha hb =>
          by_cases hl : 1 ≤ xs.length ∧ xs.length ≤ 2000
          · refine .inr ⟨a, xs, e, h, hl.1, hl.2, ha, .inl ⟨?_, k⟩⟩
            obtain ⟨y, hy, hn⟩ := hb
            rw [Bool.eq_false_iff]
            intro z
            have := List.all_eq_true.mp z y hy
            rw [bS_f hn] at this
            cases this
          · exact .inl ⟨.inr ⟨a, xs, e, h, by omega⟩, k⟩
      · obtain ⟨rs, h1, h2, h3, h4⟩ := sts_all hS hs
        refine .inr ⟨S, _, rfl, h1, (by rw [List.length_map]; omega), (by rw [List.length_map]; omega), fun y hy => .inl (h3 y hy), .inr ⟨?_, ss, rs, rfl, h2, h4, hs, h⟩⟩
        rw [List.all_eq_true]
        exact fun y hy => bS_t (h3 y hy)
    clear h
    rcases hst with ⟨hb, k⟩ | ⟨a, xs, rfl, hx, x1, x2, hg, h⟩
    · rcases hb with hb | ⟨a, xs, rfl, hx, hl⟩
      · refine ⟨_, rfl, st, rfl, .inr ⟨hb, _, rfl, false, (· = H), (fun c => Bool.noConfusion c), fun _ => rfl, fun H2 e => ?_⟩⟩
        exact iteT ⟨_, rfl, fun d nd => k H2 d (e ▸ Same.refl _) nd⟩
      · refine ⟨_, rfl, .ref a, rfl, .inl ⟨a, xs, rfl, hx, _, rfl, ?_⟩⟩
        have hc : (decide (1 ≤ xs.length) && decide (xs.length ≤ 2000)) = false := by
          rcases hl with hl | hl
          · rw [decide_eq_false (show ¬ 1 ≤ xs.length by omega), Bool.false_and]
          · rw [decide_eq_false (show ¬ xs.length ≤ 2000 by omega), Bool.and_false]
        rw [hc]
        exact ⟨false, (· = H), (fun c => Bool.noConfusion c), fun _ => rfl, fun H2 e => iteT ⟨_, rfl, fun d nd => k H2 d (e ▸ Same.refl _) nd⟩⟩
    refine ⟨_, rfl, .ref a, rfl, .inl ⟨a, xs, rfl, hx, _, rfl, ?_⟩⟩
    have hc : (decide (1 ≤ xs.length) && decide (xs.length ≤ 2000)) = true := by
      rw [decide_eq_true x1, decide_eq_true x2]
      rfl
    rw [hc]
    refine ⟨!(xs.all (bS H)), fun H' => Same H H', fun _ => ?_, (fun c => Bool.noConfusion c), fun H2 s2 => ?_⟩
    · refine ⟨_, rfl, a, rfl, ⟨_, SqL.of hx⟩, fun D nD => lc_it walk_list (fun j H' => Same H H' ∧ H' D = some (.lst (((xs.take j).map (bS H)).map V.bl))) ⟨same_new nD, upd_same⟩ (fun j H' _ h => SqL.of (h.1 _ _ hx)) ?_ ?_⟩
      · rintro j x H6 H' hj ⟨sg, hD2⟩ ⟨rfl, hxj⟩
        have hg1 := hg x (List.mem_of_getElem? hxj)
        have fin : ∀ b, bS H x = b → ∀ H7, Same H' H7 → ∃ acc, H7 D = some (.lst acc) ∧ acc.length < sizeLine ∧ (Same H (upd H7 D (.lst (acc ++ [V.bl b]))) ∧ (upd H7 D (.lst (acc ++ [V.bl b]))) D = some (.lst (((xs.take (j + 1)).map (bS H)).map V.bl))) := by
          rintro b rfl H7 s7
          refine ⟨_, s7 _ _ hD2, ?_, same_app (sg.trans s7) (Same.refl _) nD, ?_⟩
          · rw [List.length_map, List.length_map, List.length_take]
            exact Nat.lt_of_le_of_lt (show _ ≤ 2001 by omega) (by decide)
          · rw [upd_same, takeS _ hxj, List.map_append]
            rfl
        refine ⟨rfl, _, rfl, x, rfl, ?_⟩
        rcases hg1 with ⟨r, sy, rfl, hr, hok⟩ | hn
        · exact .inl ⟨r, sy, rfl, sg _ _ hr, hok, Nat.le_trans hok.len (by decide), fin true (bS_t ⟨r, sy, rfl, hr, hok⟩)⟩
        · exact .inr ⟨hn.ext sg, fin false (bS_f hn)⟩
      · rintro H6 ⟨s6, hD2⟩
        rw [List.take_length] at hD2
        refine ⟨D, xs.map (bS H), rfl, SqL.of hD2, _, rfl, ?_, s6⟩
        rw [List.all_map]
        rfl
    rcases h with ⟨hall, k⟩ | ⟨hall, ss, rs, rfl, hrl, hps, hok, h⟩
    · rw [hall]
      exact iteT ⟨_, rfl, fun d nd => k H2 d s2 nd⟩
    rw [hall]
    refine iteF ?_
    have hlk : ((NoLs H2 lk ∨ ∃ a xs, lk = .ref a ∧ H2 a = some (.lst xs) ∧ (xs.length = 0 ∨ 2000 < xs.length)) ∧ ErP K E H "looks") ∨
        (∃ b xs, lk = .ref b ∧ H2 b = some (.lst xs) ∧ 1 ≤ xs.length ∧ xs.length ≤ 2000 ∧ (∀ y ∈ xs, GdL y ∨ NoLk H2 y) ∧ ((xs.all bL = false ∧ ErP K E H "looks") ∨ (xs.all bL = true ∧ ∃ ls : List (Option Int), xs = ls.map lkT ∧ (∀ n, some n ∈ ls → 0 ≤ n ∧ n ≤ 7) ∧ ∀ H', Same H H' → Q (.str (rnT m.val ss ls)) H'))) := by
      rcases h with ⟨hb, k⟩ | ⟨L, ls, rfl, hL, hl, l1, l2, k⟩
      · cases hb with
        | nol h => exact .inl ⟨.inl (h.ext s2), k⟩
        | len e h hl => exact .inl ⟨.inr ⟨_, _, e, s2 _ _ h, hl⟩, k⟩
        | @itm b xs e h ha hb =>
          by_cases hl : 1 ≤ xs.length ∧ xs.length ≤ 2000
          · refine .inr ⟨b, xs, e, s2 _ _ h, hl.1, hl.2, fun y hy => (ha y hy).imp id fun z => z.ext s2, .inl ⟨?_, k⟩⟩
            obtain ⟨y, hy, hn⟩ := hb
            rw [Bool.eq_false_iff]
            intro z
            have := List.all_eq_true.mp z y hy
            rw [bL_f hn] at this
            cases this
          · exact .inl ⟨.inr ⟨b, xs, e, s2 _ _ h, by omega⟩, k⟩
      · have h3 : ∀ y ∈ ls.map lkT, GdL y := fun y hy => by
          obtain ⟨o, ho, rfl⟩ := List.mem_map.mp hy
          exact ⟨o, rfl, fun n e => hl n (e ▸ ho)⟩
        refine .inr ⟨L, _, rfl, s2 _ _ hL, (by rw [List.length_map]; omega), (by rw [List.length_map]; omega), fun y hy => .inl (h3 y hy), .inr ⟨?_, ls, rfl, hl, k⟩⟩
        rw [List.all_eq_true]
        exact fun y hy => bL_t (h3 y hy)
    clear h
    rcases hlk with ⟨hb, k⟩ | ⟨b, ys, rfl, hy, y1, y2, hgl, h⟩
    · rcases hb with hb | ⟨b, ys, rfl, hy, hl⟩
      · refine ⟨_, rfl, lk, rfl, .inr ⟨hb, _, rfl, false, (· = H2), (fun c => Bool.noConfusion c), fun _ => rfl, fun H3 e => ?_⟩⟩
        exact iteT ⟨_, rfl, fun d nd => k H3 d (e ▸ s2) nd⟩
      · refine ⟨_, rfl, .ref b, rfl, .inl ⟨b, ys, rfl, hy, _, rfl, ?_⟩⟩
        have hc : (decide (1 ≤ ys.length) && decide (ys.length ≤ 2000)) = false := by
          rcases hl with hl | hl
          · rw [decide_eq_false (show ¬ 1 ≤ ys.length by omega), Bool.false_and]
          · rw [decide_eq_false (show ¬ ys.length ≤ 2000 by omega), Bool.and_false]
        rw [hc]
        exact ⟨false, (· = H2), (fun c => Bool.noConfusion c), fun _ => rfl, fun H3 e => iteT ⟨_, rfl, fun d nd => k H3 d (e ▸ s2) nd⟩⟩
    refine ⟨_, rfl, .ref b, rfl, .inl ⟨b, ys, rfl, hy, _, rfl, ?_⟩⟩
    have hc : (decide (1 ≤ ys.length) && decide (ys.length ≤ 2000)) = true := by
      rw [decide_eq_true y1, decide_eq_true y2]
      rfl
    rw [hc]
    refine ⟨!(ys.all bL), fun H' => Same H2 H', fun _ => ?_, (fun c => Bool.noConfusion c), fun H3 s3 => ?_⟩
    · refine ⟨_, rfl, b, rfl, ⟨_, SqL.of hy⟩, fun D nD => lc_it walk_list (fun j H' => Same H2 H' ∧ H' D = some (.lst (((ys.take j).map bL).map V.bl))) ⟨same_new nD, upd_same⟩ (fun j H' _ h => SqL.of (h.1 _ _ hy)) ?_ ?_⟩
      · rintro j x H6 H' hj ⟨sg, hD2⟩ ⟨rfl, hxj⟩
        have hg1 := hgl x (List.mem_of_getElem? hxj)
        have fin : ∀ c, bL x = c → ∃ acc, H' D = some (.lst acc) ∧ acc.length < sizeLine ∧ (Same H2 (upd H' D (.lst (acc ++ [V.bl c]))) ∧ (upd H' D (.lst (acc ++ [V.bl c]))) D = some (.lst (((ys.take (j + 1)).map bL).map V.bl))) := by
          rintro c rfl
          refine ⟨_, hD2, ?_, same_app sg (Same.refl _) nD, ?_⟩
          · rw [List.length_map, List.length_map, List.length_take]
            exact Nat.lt_of_le_of_lt (show _ ≤ 2001 by omega) (by decide)
          · rw [upd_same, takeS _ hxj, List.map_append]
            rfl
        refine ⟨rfl, _, rfl, x, rfl, ?_⟩
        rcases hg1 with ⟨o, rfl, ho⟩ | hn
        · exact .inl ⟨o, rfl, ho, fin true (bL_t ⟨o, rfl, ho⟩)⟩
        · exact .inr ⟨hn.ext sg, fin false (bL_f hn)⟩
      · rintro H6 ⟨s6, hD2⟩
        rw [List.take_length] at hD2
        refine ⟨D, ys.map bL, rfl, SqL.of hD2, _, rfl, ?_, s6⟩
        rw [List.all_map]
        rfl
    rcases h with ⟨hall, k⟩ | ⟨hall, ls, rfl, hl, k⟩
    · rw [hall]
      exact iteT ⟨_, rfl, fun d nd => k H3 d (s2.trans s3) nd⟩
    rw [hall]
    refine iteF ?_
    have sH := s2.trans s3
    have hS3 := sH _ _ hx
    have hL3 := s3 _ _ hy
    rw [List.length_map] at x1 x2 y1 y2
    refine ⟨_, rfl, (m.val : Int), rfl, by omega, by omega, (by show 1 ≤ sizeLine; decide), fun LI nLI => ?_⟩
    have sI := sH.trans (same_new (o := .lst [.str (phL m.val)]) nLI)
    have hI := upd_same (H := H3) (a := LI) (o := .lst [.str (phL m.val)])
    have hS4 := same_new (o := .lst [.str (phL m.val)]) nLI _ _ hS3
    have hL4 := same_new (o := .lst [.str (phL m.val)]) nLI _ _ hL3
    have hps4 := paired_imp (fun _ _ q => sI _ _ q) hps
    show tSeq _ _ _ _ (upd H3 LI (.lst [.str (phL m.val)]))
    generalize upd H3 LI (.lst [.str (phL m.val)]) = H4 at sI hI hS4 hL4 hps4 ⊢
    have nab : a ≠ LI := ne_of_none hS3 nLI
    have nbb : b ≠ LI := ne_of_none hL3 nLI
    refine ⟨_, rfl, .inl ⟨rfl, _, SqL.of hI⟩, _, rfl, a, rfl, ⟨_, SqL.of hS4⟩, fun D nD => lc_it walk_list (fun j H' => Same H4 H' ∧ H' D = some (.lst (((ss.take j).map syL).map V.str))) ⟨same_new nD, upd_same⟩ (fun j H' _ h => SqL.of (h.1 _ _ hS4)) ?_ ?_⟩
    · rintro j x H6 H' hj ⟨sg, hD2⟩ ⟨rfl, hxj⟩
      rw [List.length_map] at hj
      have hrj : rs[j]? = some rs[j] := List.getElem?_eq_getElem hj
      generalize rs[j] = r at hrj
      obtain rfl : x = .ref r := by
        rw [List.getElem?_map, hrj] at hxj
        exact (Option.some.inj hxj).symm
      obtain ⟨sy, hsj, hr0⟩ := paired_at hps4 hrj
      have hok1 := hok sy (List.mem_of_getElem? hsj)
      refine ⟨rfl, _, rfl, r, sy, rfl, sg _ _ hr0, hok1.len, by have := hok1.2.1; omega, by have := hok1.2.2; omega, _, hD2, ?_, same_app sg (Same.refl _) nD, ?_⟩
      · rw [List.length_map, List.length_map, List.length_take]
        exact Nat.lt_of_le_of_lt (show _ ≤ 2001 by omega) (by decide)
      · rw [upd_same, takeS _ hsj, List.map_append]
        rfl
    · rintro H6 ⟨s6, hD2⟩
      rw [List.length_map, hrl, List.take_length] at hD2
      refine ⟨LI, D, _, _, rfl, rfl, s6 _ _ hI, hD2, ?_, ?_⟩
      · rw [List.length_map, List.length_map]
        exact Nat.le_trans (show 1 + ss.length ≤ 2001 by omega) (by decide)
      have hI7 := upd_same (H := H6) (a := LI) (o := .lst ([.str (phL m.val)] ++ (ss.map syL).map V.str))
      have hL7 : upd H6 LI (.lst ([.str (phL m.val)] ++ (ss.map syL).map V.str)) b = some (.lst (ls.map lkT)) := by
        rw [upd_ne nbb]
        exact s6 _ _ hL4
      have sH7 : Same H (upd H6 LI (.lst ([.str (phL m.val)] ++ (ss.map syL).map V.str))) := same_app sI s6 (none_of sH nLI)
      generalize upd H6 LI (.lst ([.str (phL m.val)] ++ (ss.map syL).map V.str)) = H7 at hI7 hL7 sH7 ⊢
      refine ⟨_, rfl, .inl ⟨rfl, _, SqL.of hI7⟩, _, rfl, b, ls, rfl, hL7, fun n e => ⟨(hl n e).1, by have := (hl n e).2; omega⟩, by omega, fun H8 s8 => ?_⟩
      refine ⟨LI, _, _, rfl, rfl, s8 _ _ hI7, ?_, ?_⟩
      · rw [List.length_append, List.length_map, List.length_map]
        exact Nat.lt_of_le_of_lt (show 1 + ss.length ≤ 2001 by omega) (by decide)
      have e9 : ([.str (phL m.val)] ++ (ss.map syL).map V.str ++ [V.str (lkL ls)] : List V) = (phL m.val :: (ss.map syL ++ [lkL ls])).map V.str := by
        rw [List.map_cons, List.map_append]
        rfl
      rw [e9]
      have hI9 := upd_same (H := H8) (a := LI) (o := .lst ((phL m.val :: (ss.map syL ++ [lkL ls])).map V.str))
      have sH9 : Same H (upd H8 LI (.lst ((phL m.val :: (ss.map syL ++ [lkL ls])).map V.str))) := same_app sH7 s8 (none_of sH nLI)
      refine ⟨⟨_, rfl⟩, _, rfl, "\n", LI, _, rfl, rfl, .inl (SqL.of hI9), ?_, k _ sH9⟩
      have h1 := rnT_sum (m := m) hok (fun n e => ⟨(hl n e).1, by have := (hl n e).2; omega⟩ : ∀ n, some n ∈ ls → 0 ≤ n ∧ n ≤ 9)
      have e1 : ("\n" : Str).length = 1 := by decide +kernel
      rw [e1, List.length_cons, List.length_append, List.length_map, List.length_singleton]
      omega
end
end K39

set_option Elab.async false
set_option linter.all false
set_option pp.deepTerms.threshold 14
set_option pp.maxSteps 2500
set_option maxRecDepth 100000
set_option maxHeartbeats 2000000
namespace K39
open PySem PySem.Spec PyProof.Rows L2 Vf
section
variable {P : Program} {w : World} {K : PySem.W.Frag} {mg : Str → Option Value} {base : Heap}
theorem passUp {X : Cx} {E : XK} (hs : X.stack = X.env :: X.outer) (hf : X.env.frame = some X.env.locals) (hex : X.ex = []) {E₁ : Value → Shared → Prop}
    (hx : X.xe = fun e s' => wpAny (model X.prog X.w) X.A (leaving X.env e) (fun _ s'' => L2.CX X.prog X.w X.outer X.H_0 X.s_0 E e s'') E₁ s') : Passes (L2.CX X.prog X.w) X E := passes_call (takes_of hs hf hex hx) fun _ _ _ _ h => h
def isSt (l : Str) : Prop := ∃ s, l = syL s ∧ SyOk s
def isLk (l : Str) : Prop := ∃ ls, l = lkL ls ∧ LkOk ls
theorem lk_not_st {l : Str} (h : isLk l) : ¬ isSt l := by
  obtain ⟨ls, rfl, ok⟩ := h
  rintro ⟨s, e, hs⟩
  have h1 := lkL_split ok.nine
  rw [e, syL_split hs] at h1
  exact absurd (List.cons.inj h1).1 (by decide +kernel)
open Classical in
noncomputable def wrF : Nat → List Str → Option Nat
  | k, [] => some (k + 1)
  | k, l :: r => if isSt l then (if 2000 < k then some (k + 1) else wrF (k + 1) r) else if k = 1 ∨ ¬ isLk l then some (k + 1) else if r = [] then none else some (k + 2)
open Classical in
noncomputable def wrL : List Str → Option Nat
  | [] => some 1
  | l :: r => if ∃ m : _root_.Fin 8, l = phL m.val then wrF 1 r else some 1
open Classical in
noncomputable def wrZ (z : Str) : Option Nat := if 40000 < z.length then some 0 else wrL (Txt.split z "\n")
theorem wrF_st {k : Nat} {l : Str} {r : List Str} (h : isSt l) (hk : k ≤ 2000) : wrF k (l :: r) = wrF (k + 1) r := by
  rw [wrF, if_pos h, if_neg (by omega)]
theorem wrF_far {k : Nat} {l : Str} {r : List Str} (h : isSt l) (hk : 2000 < k) : wrF k (l :: r) = some (k + 1) := by
  rw [wrF, if_pos h, if_pos hk]
theorem wrF_no {k : Nat} {l : Str} {r : List Str} (h : ¬ isSt l) (hk : k = 1 ∨ ¬ isLk l) : wrF k (l :: r) = some (k + 1) := by
  rw [wrF, if_neg h, if_pos hk]
theorem wrF_end {k : Nat} {l : Str} (h : isLk l) (hk : k ≠ 1) : wrF k [l] = none := by
  rw [wrF, if_neg (lk_not_st h), if_neg (fun z => z.elim hk fun n => n h), if_pos rfl]
theorem wrF_more {k : Nat} {l : Str} {r : List Str} (h : isLk l) (hk : k ≠ 1) (hr : r ≠ []) : wrF k (l :: r) = some (k + 2) := by
  rw [wrF, if_neg (lk_not_st h), if_neg (fun z => z.elim hk fun n => n h), if_neg hr]
/-- what read_run tells of z -/
structure RnOk (z : Str) (m : _root_.Fin 8) (ss : List (Str × Int)) (ls : List (Option Int)) : Prop where
  e : z = rnT m.val ss ls
  hs : ∀ s ∈ ss, SyOk s
  hl : LkOk ls
  s1 : 1 ≤ ss.length
  s2 : ss.length ≤ 2000
theorem sc_read_run : FnScope ["text", "lines", "phase", "stays", "number", "line", "looks", "stay"] ["text"] (defScope s_read_run) := ⟨rfl, rfl, rfl, by decide +kernel, rfl, by decide +kernel, by decide +kernel⟩
-- slots: 0 text, 1 lines, 2 phase, 3 stays, 4 number, 5 line, 6 looks, 7 stay
def spRd (K : PySem.W.Frag) : Sp := fun vs H Q E => ∃ x, vs = [x] ∧ ((OddS H x ∧ ErT K E H 0) ∨ ∃ z : Str, x = .str z ∧ z.length + 2 ≤ sizeLine ∧ (∀ n, wrZ z = some n → ErT K E H (n : Int)) ∧
  ∀ (m : _root_.Fin 8) (ss : List (Str × Int)) (ls : List (Option Int)), wrZ z = none → RnOk z m ss ls → ∀ H' p S L, Same H H' → H p = none → H' p = some (.tup [.int (m.val : Int), .ref S, .ref L]) → StsA H' S ss → H' L = some (.lst (ls.map lkT)) → Q (.ref p) H')
theorem ok_read_run {fd : FuncData} (F : FnD K ("read_run", none) "read_run" "read_run" s_read_run fd) (T : PTxt K mg) (O_lines_of : OkF P w K mg base (L2.CX P w) 3 "lines_of" ["text", "most"] (spLno K)) (O_phase_told : OkF P w K mg base CX0 3 "phase_told" ["line"] spPht) (O_looks_told : OkF P w K mg base CX0 4 "looks_told" ["line"] spLkt)
    (O_check_end : OkF P w K mg base (L2.CX P w) 3 "check_end" ["lines", "number"] (spCke K)) (O_stay_told : OkF P w K mg base CX0 4 "stay_told" ["line"] spStt) (O_BadText_init : OkD P w K mg base CX0 1 ("BadText", some "__init__") ["self", "line"] [] (spExI K (He.ga K "BadText") "line")) : OkF P w K mg base (L2.CX P w) 6 "read_run" ["text"] (spRd K) := by
  refine okd F (F.ok sc_read_run (fun vs H Q E h => ?_) fun cdv A outer s H vs Q E hr h => ?_) fun _ _ _ _ _ _ us hl => match us, hl with | [_], _ => rfl
  · obtain ⟨x, rfl, _⟩ := h
    rfl
  · obtain ⟨x, rfl, h⟩ := h
    refine ⟨_, (pss_cons (ps_set (i := 1) sc_read_run.nd rfl (Or.inl rfl) (c_fn O_lines_of hr (by decide) T.g_lines_of (passUp rfl rfl rfl rfl) (pa_cons (pv 0) (pa_cons (c_gint T.i_MOST_RUN_TEXT) pa_nil))))
  (pss_cons (ps_set (i := 2) sc_read_run.nd rfl (Or.inl rfl) (c_fn O_phase_told hr (by decide) T.g_phase_told pass0 (pa_cons (pe_ix ix_list (pv 1) pe_int (fun _ _ => rfl)) pa_nil)))
  (pss_cons (ps_if (pt_cmpR op_isN (pv 2) pe_non (nomark _)) (pss_one (c_raise T.x_BadText O_BadText_init hr (by decide) T.g_BadText (takes_of rfl rfl rfl rfl) (pa_cons pe_int pa_nil)))
  pss_nil)
  (pss_cons (ps_set (i := 3) sc_read_run.nd rfl (Or.inl rfl) (pe_lst pa_nil))
  (pss_cons (ps_for (passes_of rfl) rfl (pi_enumS (by rfl) T.z_enumerate (pa_cons (pe_slice sl_list (pv 1) (po_some pe_int) po_none) pa_nil) (pk_cons pe_int pk_nil)) (pg_tup rfl (pgs_cons (pg_name (i := 4) sc_read_run.nd rfl (Or.inl rfl)) (pgs_cons (pg_name (i := 5) sc_read_run.nd rfl (Or.inl rfl)) pgs_nil)))
  (pss_cons (ps_set (i := 6) sc_read_run.nd rfl (Or.inl rfl) (c_fn O_looks_told hr (by decide) T.g_looks_told pass0 (pa_cons (pv 5) pa_nil)))
  (pss_cons (ps_if (PW.pt (pw_andB (pt_cmpR op_notN (pv 6) pe_non (nomark _)) (pw_and1 (pt_cmpR op_gt (pe_callB (id := "len") call_len_seq (by rfl) T.z_len (by decide +kernel) (pa_cons (pv 3) pa_nil)) pe_int (nomark _))))) (pss_cons (ps_expr (c_fn O_check_end hr (by decide) T.g_check_end (passUp rfl rfl rfl rfl) (pa_cons (pv 1) (pa_cons (pv 4) pa_nil))))
  (pss_one (ps_ret (pe_tup (pa_cons (pv 2) (pa_cons (pv 3) (pa_cons (pv 6) pa_nil)))))))
  pss_nil)
  (pss_cons (ps_set (i := 7) sc_read_run.nd rfl (Or.inl rfl) (c_fn O_stay_told hr (by decide) T.g_stay_told pass0 (pa_cons (pv 5) pa_nil)))
  (pss_cons (ps_if (PW.pt (pw_orB (pt_cmpR op_isN (pv 7) pe_non (nomark _)) (pw_or1 (pt_cmpR op_eq (pe_callB (id := "len") call_len_seq (by rfl) T.z_len (by decide +kernel) (pa_cons (pv 3) pa_nil)) (c_gint T.i_MOST_RUN_TICKS) (nomark _))))) (pss_one (c_raise T.x_BadText O_BadText_init hr (by decide) T.g_BadText (takes_of rfl rfl rfl rfl) (pa_cons (pv 4) pa_nil)))
  pss_nil)
  (pss_one (ps_expr (pe_bm PySem.F.plainAttrs_list PySem.F.slot_list_append PySem.F.type_list_append mt_append (pv 3) (pa_cons (pv 7) pa_nil)))))))))
  (pss_one (c_raise T.x_BadText O_BadText_init hr (by decide) T.g_BadText (takes_of rfl rfl rfl rfl) (pa_cons (pe_op op_add (pe_callB (id := "len") call_len_seq (by rfl) T.z_len (by decide +kernel) (pa_cons (pv 1) pa_nil)) pe_int) pa_nil)))))))), ?_⟩
    rcases h with ⟨o, kE⟩ | ⟨z, rfl, hz, kE, k⟩
    · exact ⟨_, rfl, x, 40000, rfl, .inr ⟨o, kE⟩⟩
    by_cases hlong : 40000 < z.length
    · exact ⟨_, rfl, .str z, 40000, rfl, .inl ⟨z, rfl, hz, .inr ⟨by omega, kE 0 (by unfold wrZ; rw [if_pos hlong])⟩⟩⟩
    have ez1 : wrZ z = wrL (Txt.split z "\n") := by
      unfold wrZ
      rw [if_neg hlong]
    refine ⟨_, rfl, .str z, 40000, rfl, .inl ⟨z, rfl, hz, .inl ⟨by omega, fun H1 LI sm1 nLI hLI => ?_⟩⟩⟩
    have hsh : ∀ w ∈ Txt.split z "\n", w.length ≤ 40000 := fun w hw => by
      have := PyProof.Rows.part_short hw
      omega
    have hj := PySem.StrLaws.join_split z "\n"
    obtain ⟨l0, r, hsp⟩ : ∃ l0 r, Txt.split z "\n" = l0 :: r := by
      cases e : Txt.split z "\n" with
      | nil =>
        have := PyProof.Rows.split_pos z "\n"
        rw [e] at this
        exact absurd this (by decide)
      | cons a b => exact ⟨a, b, rfl⟩
    rw [hsp] at hLI hsh hj ez1
    have h0 := hsh l0 List.mem_cons_self
    have big : 100000 ≤ sizeLine := by decide
    refine ⟨_, rfl, LI, _, 0, .str l0, rfl, rfl, SqL.of hLI, atI0, l0, rfl, by omega, ?_⟩
    by_cases hph : ∃ m : _root_.Fin 8, l0 = phL m.val
    · have ez : wrZ z = wrF 1 r := by
        rw [ez1]
        rw [wrL, if_pos hph]
      obtain ⟨m, rfl⟩ := hph
      refine .inl ⟨m, rfl, ?_⟩
      refine ⟨_, rfl, rfl, false, rfl, iteF ⟨Nat.zero_le _, fun S nS => ?_⟩⟩
      have nLS : LI ≠ S := ne_of_none hLI nS
      have hLI2 := same_new (o := .lst []) nS _ _ hLI
      have hS2 := upd_same (H := H1) (a := S) (o := .lst [])
      have sm2 := sm1.trans (same_new (o := .lst []) nS)
      have nS0 := none_of sm1 nS
      generalize upd H1 S (.lst []) = H2 at hLI2 hS2 sm2 ⊢
      refine ⟨_, rfl, 1, rfl, LI, _, rfl, SqL.of hLI2, fun PL nPL => ?_⟩
      have ecut : cutV (List.map V.str (phL m.val :: r)) (some 1) none = r.map V.str := cutV_1
      rw [ecut]
      have sm3 := same_new (o := .lst (r.map V.str)) nPL
      have hPL := upd_same (H := H2) (a := PL) (o := .lst (r.map V.str))
      have nPS : PL ≠ S := (ne_of_none hS2 nPL).symm
      have hLI3 := sm3 _ _ hLI2
      have hS3 := sm3 _ _ hS2
      replace sm3 := sm2.trans sm3
      show ∃ a xs c, _
      generalize upd H2 PL (.lst (r.map V.str)) = H3 at sm3 hPL hLI3 hS3 ⊢
      refine ⟨PL, _, 2, rfl, rfl, by decide, by decide, SqL.of hPL, for_it walk_enumS (fun j σ H' => j ≤ r.length ∧ SameX S H3 H' ∧ (∃ ss : List (Str × Int), StsA H' S ss ∧ r.take j = ss.map syL ∧ (∀ s ∈ ss, SyOk s) ∧ ss.length = j ∧ j ≤ 2000) ∧ wrF 1 r = wrF (1 + j) (r.drop j) ∧ ∃ v4 v5 v6 v7 : Option V, σ = [some (.str z), some (.ref LI), some (.int (m.val : Int)), some (.ref S), v4, v5, v6, v7]) ⟨Nat.zero_le _, fun _ _ _ e => e, ⟨[], ⟨[], hS3, .nil⟩, rfl, (fun _ h => nomatch h), rfl, Nat.zero_le _⟩, rfl, none, none, none, none, rfl⟩ (fun j σ H' _ h => SqL.of (h.2.1 _ _ nPS hPL)) ?_ ?_⟩
      · rintro j x σ H4 H5 hj' ⟨hjs, sx, ⟨ss, hS4, htk, hok, hsl, h2000⟩, hw, v4, v5, v6, v7, rfl⟩ hy
        rw [List.length_map] at hj'
        obtain ⟨T', x', y', rfl, nT', rfl, hx', hz'⟩ := hy
        cases (Option.some.inj hx')
        replace hz' : (r.map V.str)[j]? = some y' := hz'
        have hlj : r[j]? = some r[j] := List.getElem?_eq_getElem hj'
        have hdr : r.drop j = r[j] :: r.drop (j + 1) := List.drop_eq_getElem_cons hj'
        generalize r[j] = l at hlj hdr
        obtain rfl : y' = .str l := by
          rw [List.getElem?_map, hlj] at hz'
          exact (Option.some.inj hz').symm
        have hll := hsh l (List.mem_cons_of_mem _ (List.mem_of_getElem? hlj))
        have sT0 := same_new (o := .tup [.int (2 + (j : Nat)), .str l]) nT'
        have hT := upd_same (H := H4) (a := T') (o := .tup [.int (2 + (j : Nat)), .str l])
        have sx5 : SameX S H3 (upd H4 T' (.tup [.int (2 + (j : Nat)), .str l])) := sx.trans (same_x sT0)
        have hS5 := hS4.ext sT0
        generalize upd H4 T' (.tup [.int (2 + (j : Nat)), .str l]) = H5 at hT sx5 hS5 ⊢
        refine ⟨T', _, rfl, SqT.of hT, rfl, _, _, rfl, _, _, rfl, rfl, ?_⟩
        show tSeq _ _ _ [some (.str z), some (.ref LI), some (.int (m.val : Int)), some (.ref S), some (.int (2 + (j : Nat))), some (.str l), v6, v7] H5
        have upE : ∀ {X n}, SameX S H3 X → ErT K E H n → ErT K E X n := fun sx e => e.up fun p o h => sx _ _ (ne_of_none h nS0) (sm3 _ _ h)
        rw [hdr] at hw
        by_cases hlk : isLk l
        · have hns := lk_not_st hlk
          obtain ⟨ls, el, okl⟩ := hlk
          refine ⟨_, rfl, l, rfl, hll, .inl ⟨ls, el, okl, fun H6 L sm6 nL hL => ?_⟩⟩
          have sx6 := sx5.trans (same_x sm6)
          have hS6 := hS5.ext sm6
          obtain ⟨vs, hvs, hvl⟩ := hS6.len
          refine ⟨_, rfl, rfl, true, rfl, decide ((0 : Int) < (vs.length : Int)), (· = H6), fun _ => ⟨_, rfl, S, vs, rfl, .inl (SqL.of hvs), _, 0, rfl, rfl, _, rfl, rfl, rfl⟩, (fun c => Bool.noConfusion c), fun H7 e => ?_⟩
          subst e
          by_cases hj0 : j = 0
          · rw [decide_eq_false (by omega)]
            refine iteF ?_
            refine ⟨_, rfl, l, rfl, hll, .inr ⟨fun s e ok => hns ⟨s, e, ok⟩, fun H8 s8 => ?_⟩⟩
            refine ⟨_, rfl, rfl, true, rfl, true, (· = H8), (fun c => Bool.noConfusion c), fun _ => rfl, fun H9 e => ?_⟩
            subst e
            have hw : wrZ z = some (1 + j + 1) := by rw [ez, hw]; exact wrF_no hns (.inl (by omega))
            refine iteT ⟨_, rfl, _, rfl, fun d nd => ?_⟩
            have := upE (sx6.trans (same_x s8)) (kE _ hw) _ d (Same.refl _) nd
            rw [show ((1 + j + 1 : Nat) : Int) = 2 + (j : Int) by omega] at this
            exact this
          · rw [decide_eq_true (by omega)]
            refine iteT ⟨_, rfl, _, rfl, LI, _, 2 + (j : Int), rfl, sx6 _ _ nLS hLI3, fun hle => ?_, fun hgt => ?_⟩
            · rw [List.length_map, List.length_cons] at hle
              have hnil : r.drop (j + 1) = [] := List.drop_eq_nil_of_le (by omega)
              rw [hnil] at hw
              have hw : wrZ z = none := by rw [ez, hw]; exact wrF_end ⟨ls, el, okl⟩ (by omega)
              have hz : z = rnT m.val ss ls := by
                have h1 : r = ss.map syL ++ [lkL ls] := by
                  rw [← htk, ← el]
                  have := (List.take_append_drop j r).symm
                  rw [hdr, hnil] at this
                  exact this
                rw [← hj, h1]
                exact (PySem.StrLaws.glued_eq_join _ _).symm
              refine ⟨_, rfl, _, rfl, _, rfl, (by show 3 ≤ sizeLine; decide), fun p np => ?_⟩
              have sH6 : Same H H7 := fun p o e => sx6 _ _ (ne_of_none e nS0) (sm3 _ _ e)
              exact k m ss ls hw ⟨hz, hok, okl, by omega, by omega⟩ _ p S L (sH6.trans (same_new np)) (none_of sH6 np) upd_same (hS6.ext (same_new np)) (same_new np _ _ hL)
            · rw [List.length_map, List.length_cons] at hgt
              have hne : r.drop (j + 1) ≠ [] := fun e => by
                have := congrArg List.length e
                rw [List.length_drop] at this
                simp at this
                omega
              have hw : wrZ z = some (1 + j + 2) := by rw [ez, hw]; exact wrF_more ⟨ls, el, okl⟩ (by omega) hne
              have := upE sx6 (kE _ hw)
              rw [show ((1 + j + 2 : Nat) : Int) = 2 + (j : Int) + 1 by omega] at this
              exact this
        · refine ⟨_, rfl, l, rfl, hll, .inr ⟨fun ls e ok => hlk ⟨ls, e, ok⟩, fun H6 sm6 => ?_⟩⟩
          have sx6 := sx5.trans (same_x sm6)
          have hS6 := hS5.ext sm6
          obtain ⟨vs, hvs, hvl⟩ := hS6.len
          refine ⟨_, rfl, rfl, false, rfl, false, (· = H6), (fun c => Bool.noConfusion c), fun _ => rfl, fun H7 e => ?_⟩
          subst e
          refine iteF ?_
          by_cases hst : isSt l
          · obtain ⟨s, el, oks⟩ := hst
            refine ⟨_, rfl, l, rfl, hll, .inl ⟨s, el, oks, fun H8 t sm8 nt hsy => ?_⟩⟩
            have hvs8 := sm8 _ _ hvs
            have sx8 := sx6.trans (same_x sm8)
            refine ⟨_, rfl, rfl, false, rfl, decide (V.int (vs.length : Int) = .int 2000), (· = H8), fun _ => ⟨_, rfl, S, vs, rfl, .inl (SqL.of hvs8), rfl, _, rfl, rfl, rfl⟩, (fun c => Bool.noConfusion c), fun H9 e => ?_⟩
            subst e
            by_cases hj20 : j = 2000
            · rw [decide_eq_true (by rw [hvl, hsl, hj20]; rfl)]
              have hw : wrZ z = some (1 + j + 1) := by rw [ez, hw]; exact wrF_far ⟨s, el, oks⟩ (by omega)
              refine iteT ⟨_, rfl, _, rfl, fun d nd => ?_⟩
              have := upE sx8 (kE _ hw) _ d (Same.refl _) nd
              rw [show ((1 + j + 1 : Nat) : Int) = 2 + (j : Int) by omega] at this
              exact this
            · rw [decide_eq_false (fun e => hj20 (by have := V.int.inj e; omega))]
              refine iteF ?_
              refine ⟨_, rfl, .inl ⟨rfl, _, SqL.of hvs8⟩, _, rfl, S, vs, _, rfl, rfl, hvs8, ?_, ?_⟩
              · exact Nat.lt_of_le_of_lt (show _ ≤ 2000 by omega) (by decide)
              refine ⟨by omega, sx8.trans SameX.upd, ⟨ss ++ [s], (hS6.ext sm8).add hvs8 hsy, ?_, ?_, by simp [hsl], by omega⟩, ?_, _, _, _, _, rfl⟩
              · rw [List.take_add_one, hlj, htk, List.map_append, el]
                rfl
              · intro q hq
                rcases List.mem_append.mp hq with hq | hq
                · exact hok q hq
                · rw [List.mem_singleton.mp hq]
                  exact oks
              · rw [hw, wrF_st ⟨s, el, oks⟩ (by omega)]
                rfl
          · refine ⟨_, rfl, l, rfl, hll, .inr ⟨fun s e ok => hst ⟨s, e, ok⟩, fun H8 s8 => ?_⟩⟩
            refine ⟨_, rfl, rfl, true, rfl, true, (· = H8), (fun c => Bool.noConfusion c), fun _ => rfl, fun H9 e => ?_⟩
            subst e
            have hw : wrZ z = some (1 + j + 1) := by rw [ez, hw]; exact wrF_no hst (.inr hlk)
            refine iteT ⟨_, rfl, _, rfl, fun d nd => ?_⟩
            have := upE (sx6.trans (same_x s8)) (kE _ hw) _ d (Same.refl _) nd
            rw [show ((1 + j + 1 : Nat) : Int) = 2 + (j : Int) by omega] at this
            exact this
      · rintro σ H4 ⟨hjs, sx, _, hw, v4, v5, v6, v7, rfl⟩
        rw [List.length_map] at hw
        rw [List.drop_length] at hw
        have hw : wrZ z = some (1 + r.length + 1) := by rw [ez, hw]; rfl
        refine ⟨_, rfl, LI, _, rfl, .inl (SqL.of (sx _ _ nLS hLI3)), _, _, rfl, rfl, _, rfl, fun d nd => ?_⟩
        have e := (kE _ hw).up (fun p o h => sx _ _ (ne_of_none h nS0) (sm3 _ _ h)) _ d (Same.refl _) nd
        rw [show ((1 + r.length + 1 : Nat) : Int) = ((List.map V.str (phL m.val :: r)).length : Int) + 1 by rw [List.length_map, List.length_cons]; omega] at e
        exact e
    · have ez : wrZ z = some 1 := by
        rw [ez1]
        rw [wrL, if_neg hph]
      refine .inr ⟨fun m e => hph ⟨m, e⟩, ?_⟩
      refine ⟨_, rfl, rfl, true, rfl, iteT ⟨_, rfl, fun d nd => ?_⟩⟩
      exact kE 1 ez _ d sm1 nd
end
end K39

set_option Elab.async false
set_option linter.all false
set_option pp.deepTerms.threshold 14
set_option pp.maxSteps 2500
set_option maxRecDepth 100000
set_option maxHeartbeats 2000000
namespace K39
open PySem PySem.Spec PyProof.Rows L2 Vf
section
variable {P : Program} {w : World} {K : PySem.W.Frag} {mg : Str → Option Value} {base : Heap}
theorem inV_str (z : Str) (zs : List Str) : inV (.str z) (zs.map V.str) = decide (z ∈ zs) := by
  rw [Bool.eq_iff_iff, decide_eq_true_eq]
  unfold inV
  rw [List.any_eq_true]
  constructor
  · rintro ⟨y, hy, he⟩
    obtain ⟨w, hw, rfl⟩ := List.mem_map.mp hy
    have : (w == z) = true := he
    rw [← eq_of_beq this]
    exact hw
  · intro h
    exact ⟨.str z, List.mem_map_of_mem h, by show (z == z) = true; simp⟩
theorem flat_str (zs : List Str) : (zs.map V.str).all flatV = true := by
  rw [List.all_map, List.all_eq_true]
  exact fun _ _ => rfl
structure Txt (K : PySem.W.Frag) (mg : Str → Option Value) : Prop extends PTxt K mg where
  z_range : mg "range" = none
  g_law_cell : mg "_law_cell" = some (.ref (He.ga K "_law_cell"))
  g_law_take : mg "_law_take" = some (.ref (He.ga K "_law_take"))
  g_law_name : mg "_law_name" = some (.ref (He.ga K "_law_name"))
  g_law_run_text : mg "_law_run_text" = some (.ref (He.ga K "_law_run_text"))
  g_law_number : mg "_law_number" = some (.ref (He.ga K "_law_number"))
  g_law_is_name : mg "_law_is_name" = some (.ref (He.ga K "_law_is_name"))
  g_law_is_looks : mg "_law_is_looks" = some (.ref (He.ga K "_law_is_looks"))
  g_law_is_stay : mg "_law_is_stay" = some (.ref (He.ga K "_law_is_stay"))
  g_law_wrong_line : mg "_law_wrong_line" = some (.ref (He.ga K "_law_wrong_line"))
  g_law_read : mg "_law_read" = some (.ref (He.ga K "_law_read"))
  g_law_once : mg "_law_once" = some (.ref (He.ga K "_law_once"))
  g_law_run : mg "_law_run" = some (.ref (He.ga K "_law_run"))
  g_law_spoiled : mg "_law_spoiled" = some (.ref (He.ga K "_law_spoiled"))
theorem sc_law_take : FnScope ["_law_draw", "_law_size", "_law_taken"] ["_law_draw", "_law_size"] (defScope s_law_take) := ⟨rfl, rfl, rfl, by decide +kernel, rfl, by decide +kernel, by decide +kernel⟩
-- slots: 0 _law_draw, 1 _law_size, 2 _law_taken
theorem ok_law_take {fd : FuncData} (F : FnD K ("_law_take", none) "_law_take" "_law_take" s_law_take fd) (T : Txt K mg) : OkF P w K mg base CX0 1 "_law_take" ["_law_draw", "_law_size"] spTake := by
  refine okd F (F.ok sc_law_take (fun vs H Q E h => ?_) fun cdv A outer s H vs Q E hr h => ?_) fun _ _ _ _ _ _ us hl => match us, hl with | [_, _], _ => rfl
  · obtain ⟨d, n, s, rfl, _⟩ := h
    rfl
  · obtain ⟨d, n, s, rfl, hd, s0, s1, q⟩ := h
    refine ⟨_, PSs.nox (pss_cons (ps_set (i := 2) sc_law_take.nd rfl (Or.inl rfl) (pe_op op_mod (pe_callTy call_int1 (by rfl) T.z_int (by decide +kernel) (pa_cons (pe_ix ix_list (pv 0) pe_int (fun _ _ => rfl)) pa_nil)) (pv 1)))
  (pss_cons (ps_asg (pe_op op_fdiv (pe_ix ix_list (pv 0) pe_int (fun _ _ => rfl)) (pv 1)) (pg_sub (pv 0) pe_int set_list))
  (pss_one (ps_ret (pv 2))))), ?_⟩
    refine ⟨_, rfl, d, [.int n], 0, .int n, rfl, rfl, SqL.of hd, atI0, .inl ⟨n, rfl, _, rfl, n, s, rfl, rfl, s0, ?_⟩⟩
    refine ⟨_, rfl, d, [.int n], 0, .int n, rfl, rfl, SqL.of hd, atI0, _, rfl, n, s, rfl, rfl, ⟨s0, s1⟩, ?_⟩
    refine ⟨_, rfl, d, [.int n], 0, 0, rfl, rfl, hd, ixN0, _, rfl, ?_⟩
    exact q (n % s) (n / s) (Int.emod_nonneg n (by omega)) (Int.emod_lt_of_pos n s0)
theorem sc_law_cell : FnScope ["_law_script", "_law_k", "_law_cell_here", "_law_number_here", "_law_total", "_law_step"] ["_law_script", "_law_k"] (defScope s_law_cell) := ⟨rfl, rfl, rfl, by decide +kernel, rfl, by decide +kernel, by decide +kernel⟩
-- slots: 0 _law_script, 1 _law_k, 2 _law_cell_here, 3 _law_number_here, 4 _law_total, 5 _law_step
theorem ok_law_cell {fd : FuncData} (F : FnD K ("_law_cell", none) "_law_cell" "_law_cell" s_law_cell fd) (T : Txt K mg) : OkF P w K mg base CX0 1 "_law_cell" ["_law_script", "_law_k"] (Vf.spCell K) := by
  refine okd F (F.ok sc_law_cell (fun vs H Q E h => ?_) fun cdv A outer s H vs Q E hr h => ?_) fun _ _ _ _ _ _ us hl => match us, hl with | [_, _], _ => rfl
  · obtain ⟨l, ns, j, rfl, _⟩ := h
    rfl
  · obtain ⟨l, ns, j, rfl, hS, hj, q⟩ := h
    refine ⟨_, PSs.nox (pss_cons (ps_set (i := 2) sc_law_cell.nd rfl (Or.inl rfl) pe_int)
  (C8.pss_cut (ps_if (pt_cmpR op_lt (pv 1) (pe_callB (id := "len") call_len_seq (by rfl) T.z_len (by decide +kernel) (pa_cons (pv 0) pa_nil)) (nomark _)) (pss_one (ps_set (i := 2) sc_law_cell.nd rfl (Or.inl rfl) (pe_ix ix_list (pv 0) (pv 1) (fun _ _ => rfl))))
  pss_nil)
  (pss_cons (ps_if (pt_cmpR op_ge (pv 2) (pe_op op_pow pe_int pe_int) (nomark _)) (pss_one (ps_ret (pv 2)))
  pss_nil)
  (pss_cons (ps_set (i := 3) sc_law_cell.nd rfl (Or.inl rfl) (pe_op op_mod (pe_callTy call_int1 (by rfl) T.z_int (by decide +kernel) (pa_cons (pe_op op_add (pe_op op_add (pe_op op_mul (pv 2) pe_int) (pe_op op_mul (pv 1) pe_int)) pe_int) pa_nil)) pe_int))
  (pss_cons (ps_set (i := 4) sc_law_cell.nd rfl (Or.inl rfl) pe_int)
  (pss_cons (ps_for PassesOwn.never rfl (pi_range1 rfl T.z_range (pa_cons pe_int pa_nil)) (pg_name (i := 5) sc_law_cell.nd rfl (Or.inl rfl))
  (pss_cons (ps_set (i := 3) sc_law_cell.nd rfl (Or.inl rfl) (pe_op op_mod (pe_callTy call_int1 (by rfl) T.z_int (by decide +kernel) (pa_cons (pe_op op_add (pe_op op_add (pe_op op_mul (pv 3) pe_int) (pe_op op_mul (pv 5) pe_int)) pe_int) pa_nil)) pe_int))
  (pss_cons (ps_set (i := 3) sc_law_cell.nd rfl (Or.inl rfl) (pe_op op_mod (pe_callTy call_int1 (by rfl) T.z_int (by decide +kernel) (pa_cons (pe_op op_mul (pv 3) (pe_op op_add (pe_op op_fdiv (pv 3) pe_int) pe_int)) pa_nil)) pe_int))
  (pss_one (ps_set (i := 4) sc_law_cell.nd rfl (Or.inl rfl) (pe_op op_add (pe_op op_mul (pv 4) pe_int) (pv 3)))))))
  (pss_one (ps_ret (pv 4))))))))), ?_⟩
    refine ⟨fun σ' H' => H' = H ∧ ∃ c : Int, σ' = [some (.ref l), some (.int (j : Int)), some (.int c), none, none, none], ?_, ?_⟩
    · refine ⟨_, rfl, _, rfl, l, _, rfl, .inl hS, _, _, rfl, rfl, _, rfl, ite2 (fun hlt => ?_) fun _ => ⟨rfl, 0, rfl⟩⟩
      have hj2 : j < ns.length := by
        have := of_decide_eq_true hlt
        rw [List.length_map] at this
        omega
      refine ⟨_, rfl, _, rfl, l, _, (j : Int), .int ns[j], rfl, rfl, hS, atI_nat ?_, rfl, _, rfl⟩
      rw [List.getElem?_map, List.getElem?_eq_getElem hj2]
      rfl
    rintro σ' H' ⟨rfl, c, rfl⟩
    refine ⟨_, rfl, 10, 18, rfl, rfl, ⟨by decide, by decide, by decide⟩, _, _, rfl, rfl, _, rfl, ite2 (fun _ => ⟨_, rfl, q c⟩) fun _ => ?_⟩
    refine ⟨_, rfl, c, 7, rfl, rfl, .inr ⟨by decide, by decide⟩, _, rfl, (j : Int), 7919, rfl, rfl, .inr ⟨by decide, by decide⟩, _, _, rfl, rfl, _, _, rfl, rfl, .inl ⟨_, rfl, _, 2147483647, rfl, rfl, (by show (0 : Int) < 2147483647; decide), ?_⟩⟩
    refine ⟨8, rfl, by decide, by decide, for_range (lo := 0) (n := 8) (fun i σ H1 => H1 = H' ∧ ∃ (num tot : Int) (v : Option V), 0 ≤ num ∧ num < 2147483647 ∧ σ = [some (.ref l), some (.int (j : Int)), some (.int c), some (.int num), some (.int tot), v]) ?_ ?_ ?_⟩
    · exact ⟨rfl, _, 0, none, Int.emod_nonneg _ (by decide), Int.emod_lt_of_pos _ (by decide), rfl⟩
    · rintro i σ H1 hi ⟨rfl, num, tot, v, h0, h1, rfl⟩
      refine ⟨_, rfl, num, 48271, rfl, rfl, .inr ⟨by decide, by decide⟩, _, rfl, _, 30103, rfl, rfl, .inr ⟨by decide, by decide⟩, _, _, rfl, rfl, _, 11, rfl, rfl, .inl ⟨_, rfl, _, 2147483647, rfl, rfl, (by show (0 : Int) < 2147483647; decide), ?_⟩⟩
      have b0 := Int.emod_nonneg (num * 48271 + (0 + (i : Int)) * 30103 + 11) (b := 2147483647) (by decide)
      have b1 := Int.emod_lt_of_pos (num * 48271 + (0 + (i : Int)) * 30103 + 11) (b := 2147483647) (by decide)
      refine ⟨_, rfl, _, rfl, _, 1009, rfl, rfl, ⟨by decide, by decide⟩, _, 69621, rfl, rfl, _, _, rfl, rfl, .inl ⟨by omega, by omega⟩, .inl ⟨_, rfl, _, 2147483629, rfl, rfl, (by show (0 : Int) < 2147483629; decide), ?_⟩⟩
      refine ⟨_, rfl, tot, 2147483629, rfl, rfl, .inr ⟨by decide, by decide⟩, _, rfl, _, _, rfl, rfl, ?_⟩
      exact ⟨rfl, _, _, _, Int.emod_nonneg _ (by decide), Int.lt_trans (Int.emod_lt_of_pos _ (by decide)) (by decide), rfl⟩
    · rintro σ H1 ⟨rfl, num, tot, v, h0, h1, rfl⟩
      exact ⟨_, rfl, q tot⟩
theorem sc_law_name : FnScope ["_law_draw", "_law_used", "_law_letters", "_law_word", "_law_k", "_law_letter"] ["_law_draw", "_law_used"] (defScope s_law_name) := ⟨rfl, rfl, rfl, by decide +kernel, rfl, by decide +kernel, by decide +kernel⟩
-- slots: 0 _law_draw, 1 _law_used, 2 _law_letters, 3 _law_word, 4 _law_k, 5 _law_letter
/-- a name apart from the used ones -/
def spNam : Sp := fun vs H Q _ => ∃ (d u : Addr) (n : Int) (us : List Str), vs = [.ref d, .ref u] ∧ H d = some (.lst [.int n]) ∧ H u = some (.lst (us.map V.str)) ∧ u ≠ d ∧ us.length ≤ 6 ∧ ∀ H' (m : Int) z, SameX d H H' → H' d = some (.lst [.int m]) → nmB z = true → z.length ≤ 8 → z ∉ us → Q (.str z) H'
def okW (z : Str) (i : Nat) : Prop := z.length = i ∧ ∀ c ∈ z.cps.toList, c ∈ LET.cps.toList
theorem okW_nm {z : Str} {i : Nat} (h : okW z i) (h1 : 1 ≤ i) (h2 : i ≤ 8) (hk : inV (.str z) (KEPT.map V.str) = false) : nmB z = true := by
  unfold nmB
  rw [hk, h.1, decide_eq_true h1, decide_eq_true h2]
  simp only [Bool.true_and, Bool.not_false]
  rw [List.all_eq_true]
  exact fun c hc => decide_eq_true (h.2 c hc)
theorem okW_add {z : Str} {i c : Nat} (h : okW z i) (hc : c ∈ LET.cps.toList) : okW (z ++ ⟨#[c]⟩) (i + 1) := by
  have e : (z ++ (⟨#[c]⟩ : Str)).cps.toList = z.cps.toList ++ [c] := by
    show (z.cps ++ #[c]).toList = _
    simp
  refine ⟨?_, fun y hy => ?_⟩
  · show (z.cps ++ #[c]).size = i + 1
    rw [Array.size_append]
    have := h.1
    simp only [Str.length] at this
    simp [this]
  · rw [e] at hy
    rcases List.mem_append.mp hy with hy | hy
    · exact h.2 y hy
    · rw [List.mem_singleton] at hy
      rw [hy]
      exact hc
theorem let_nm {c : Nat} (h : c ∈ LET.cps.toList) : nmB ⟨#[c]⟩ = true := by
  have a : (LET.cps.toList.all fun c => nmB ⟨#[c]⟩) = true := by decide +kernel
  exact List.all_eq_true.mp a c h
theorem nodup_le {α : Type} [DecidableEq α] : ∀ {l u : List α}, l.Nodup → (∀ x ∈ l, x ∈ u) → l.length ≤ u.length
  | [], _, _, _ => Nat.zero_le _
  | a :: l, u, nd, h => by
    rw [List.nodup_cons] at nd
    have ha := h a (List.mem_cons_self ..)
    have h2 : ∀ x ∈ l, x ∈ u.erase a := fun x hx => by
      have hne : x ≠ a := fun e => nd.1 (e ▸ hx)
      exact (List.mem_erase_of_ne hne).mpr (h x (List.mem_cons_of_mem _ hx))
    have := nodup_le nd.2 h2
    rw [List.length_erase_of_mem ha] at this
    have hp : 0 < u.length := List.length_pos_of_mem ha
    rw [List.length_cons]
    omega
theorem some_letter {us : List Str} (h : us.length ≤ 6) : ¬ ∀ c ∈ LET.cps.toList, (⟨#[c]⟩ : Str) ∈ us := fun hall => by
  have nd : (LET.cps.toList.map fun c => (⟨#[c]⟩ : Str)).Nodup := by decide +kernel
  have := nodup_le nd (u := us) fun x hx => by
    obtain ⟨c, hc, rfl⟩ := List.mem_map.mp hx
    exact hall c hc
  rw [List.length_map] at this
  have e : LET.cps.toList.length = 26 := by decide +kernel
  omega
theorem ok_law_name {fd : FuncData} (F : FnD K ("_law_name", none) "_law_name" "_law_name" s_law_name fd) (T : Txt K mg) (O_law_take : OkF P w K mg base CX0 1 "_law_take" ["_law_draw", "_law_size"] spTake) : OkF P w K mg base CX0 2 "_law_name" ["_law_draw", "_law_used"] spNam := by
  refine okd F (F.ok sc_law_name (fun vs H Q E h => ?_) fun cdv A outer s H vs Q E hr h => ?_) fun _ _ _ _ _ _ us hl => match us, hl with | [_, _], _ => rfl
  · obtain ⟨d, u, n, us, rfl, _⟩ := h
    rfl
  · obtain ⟨d, u, n, us, rfl, hd, hu, nud, hus, k⟩ := h
    refine ⟨_, PSs.nox (pss_cons (ps_set (i := 2) sc_law_name.nd rfl (Or.inl rfl) pe_str)
  (pss_cons (ps_set (i := 3) sc_law_name.nd rfl (Or.inl rfl) pe_str)
  (pss_cons (ps_for PassesOwn.never rfl (pi_range1 rfl T.z_range (pa_cons (pe_op op_add pe_int (c_fn O_law_take hr (by decide) T.g_law_take pass0 (pa_cons (pv 0) (pa_cons pe_int pa_nil)))) pa_nil)) (pg_name (i := 4) sc_law_name.nd rfl (Or.inl rfl))
  (pss_one (ps_set (i := 3) sc_law_name.nd rfl (Or.inl rfl) (pe_op op_add_str (pv 3) (pe_ix ix_str (pv 2) (c_fn O_law_take hr (by decide) T.g_law_take pass0 (pa_cons (pv 0) (pa_cons pe_int pa_nil))) (fun _ _ => rfl))))))
  (pss_cons (ps_if (PW.pt (pw_and (pt_cmpR op_notIn_seq (pv 3) (pv 1) rfl) (pw_and1 (pt_cmpR op_notIn_seq (pv 3) (pe_lst (pa_cons pe_str (pa_cons pe_str (pa_cons pe_str (pa_cons pe_str (pa_cons pe_str pa_nil)))))) rfl)))) (pss_one (ps_ret (pv 3)))
  pss_nil)
  (pss_cons (ps_for PassesOwn.never rfl (pi_str (pv 2)) (pg_name (i := 5) sc_law_name.nd rfl (Or.inl rfl))
  (pss_one (ps_if (pt_cmpR op_notIn_seq (pv 5) (pv 1) rfl) (pss_one (ps_ret (pv 5)))
  pss_nil)))
  (pss_one (ps_ret (pv 3)))))))), ?_⟩
    refine ⟨_, rfl, d, n, 8, rfl, hd, by decide, by decide, fun r m r0 r1 => ⟨1, r, rfl, rfl, 1 + r, rfl, by omega, by omega, ?_⟩⟩
    refine for_range (lo := 0) (n := (1 + r).toNat) (fun i σ H' => SameX d H H' ∧ ∃ (m : Int) (z : Str) (v : Option V), H' d = some (.lst [.int m]) ∧ okW z i ∧ σ = [some (.ref d), some (.ref u), some (.str LET), some (.str z), v, none]) ⟨SameX.upd, m, "", none, upd_same, ⟨rfl, fun _ h => nomatch h⟩, rfl⟩ ?_ ?_
    · rintro i σ H' hi ⟨sg, m, z, v, hd', hw, rfl⟩
      refine ⟨_, rfl, _, rfl, _, rfl, d, m, 26, rfl, hd', by decide, by decide, fun q m2 q0 q1 => ?_⟩
      have hl26 : LET.cps.toList.length = 26 := by decide +kernel
      have hq : q.toNat < LET.cps.toList.length := by omega
      refine ⟨LET, q, LET.cps.toList[q.toNat], rfl, rfl, by decide +kernel, ?_, z, ⟨#[LET.cps.toList[q.toNat]]⟩, rfl, rfl, ?_, ?_⟩
      · have h := atI_nat (List.getElem?_eq_getElem hq)
        rw [Int.toNat_of_nonneg q0] at h
        exact h
      · have := hw.1
        have h1 : (⟨#[LET.cps.toList[q.toNat]]⟩ : Str).length = 1 := rfl
        rw [h1, this]
        exact Nat.le_trans (show i + 1 ≤ 9 by omega) (by decide)
      · exact ⟨sg.trans SameX.upd, m2, _, _, upd_same, okW_add hw (List.getElem_mem hq), rfl⟩
    · rintro σ H' ⟨sg, m, z, v, hd', hw, rfl⟩
      have hu' := sg _ _ nud hu
      have fin := fun H2 z' (s2 : Same H' H2) => k H2 m z' (sg.trans (same_x s2)) (s2 _ _ hd')
      -- the letters
      have letters : ∀ H2 : Hp, Same H' H2 → ∀ v : Option V, ∃ W : Nat → Nat → L2.St → Hp → Prop, True := fun _ _ _ => ⟨fun _ _ _ _ => True, trivial⟩
      clear letters
      refine ⟨_, rfl, _, rfl, u, _, rfl, .inl (SqL.of hu'), rfl, flat_str us, _, rfl, ?_⟩
      rw [inV_str]
      by_cases hz : z ∈ us
      · rw [decide_eq_true hz]
        refine iteF ⟨_, rfl, LET, rfl, for_it walk_str (fun i σ' H2 => H2 = H' ∧ (∀ j c, j < i → LET.cps[j]? = some c → (⟨#[c]⟩ : Str) ∈ us) ∧ ∃ v2, σ' = [some (.ref d), some (.ref u), some (.str LET), some (.str z), v, v2]) ⟨rfl, (fun j c h => absurd h (Nat.not_lt_zero _)), _, rfl⟩ (fun _ _ _ _ _ => trivial) ?_ ?_⟩
        · rintro i x σ' H2 H3 hi ⟨rfl, hin, v2, rfl⟩ ⟨rfl, c, hc, rfl⟩
          have hcm : c ∈ LET.cps.toList := by
            have : LET.cps.toList[i]? = some c := by simpa using hc
            exact List.mem_of_getElem? this
          refine ⟨_, rfl, _, rfl, u, _, rfl, .inl (SqL.of hu'), rfl, flat_str us, _, rfl, ?_⟩
          rw [inV_str]
          by_cases hcu : (⟨#[c]⟩ : Str) ∈ us
          · rw [decide_eq_true hcu]
            refine iteF ⟨rfl, fun j c' hj hc' => ?_, _, rfl⟩
            by_cases hji : j = i
            · subst hji
              rw [hc] at hc'
              cases hc'
              exact hcu
            · exact hin j c' (by omega) hc'
          · rw [decide_eq_false hcu]
            exact iteT ⟨_, rfl, fin _ _ (Same.refl _) (let_nm hcm) (show 1 ≤ 8 by decide) hcu⟩
        · rintro σ' H2 ⟨rfl, hin, v2, rfl⟩
          refine absurd (fun c hc => ?_) (some_letter hus)
          obtain ⟨j, hj⟩ := List.mem_iff_getElem?.mp hc
          have hj2 : LET.cps[j]? = some c := by simpa using hj
          exact hin j c (Array.getElem?_eq_some_iff.mp hj2).1 hj2
      · rw [decide_eq_false hz]
        refine iteT ⟨_, rfl, (by show 5 ≤ sizeLine; decide), fun L nL => ⟨L, KEPT.map V.str, rfl, .inl (SqL.of upd_same), rfl, by decide +kernel, _, rfl, ?_⟩⟩
        have sL := same_new (o := .lst (KEPT.map V.str)) nL
        cases hv : inV (.str z) (KEPT.map V.str) with
        | false => exact iteT ⟨_, rfl, fin _ _ sL (okW_nm hw (by omega) (by omega) hv) (by rw [hw.1]; omega) hz⟩
        | true =>
          have hu2 := sL _ _ hu'
          refine iteF ⟨_, rfl, LET, rfl, for_it walk_str (fun i σ' H2 => H2 = upd H' L (.lst (KEPT.map V.str)) ∧ (∀ j c, j < i → LET.cps[j]? = some c → (⟨#[c]⟩ : Str) ∈ us) ∧ ∃ v2, σ' = [some (.ref d), some (.ref u), some (.str LET), some (.str z), v, v2]) ⟨rfl, (fun j c h => absurd h (Nat.not_lt_zero _)), _, rfl⟩ (fun _ _ _ _ _ => trivial) ?_ ?_⟩
          · rintro i x σ' H2 H3 hi ⟨rfl, hin, v2, rfl⟩ ⟨rfl, c, hc, rfl⟩
            have hcm : c ∈ LET.cps.toList := by
              have : LET.cps.toList[i]? = some c := by simpa using hc
              exact List.mem_of_getElem? this
            refine ⟨_, rfl, _, rfl, u, _, rfl, .inl (SqL.of hu2), rfl, flat_str us, _, rfl, ?_⟩
            rw [inV_str]
            by_cases hcu : (⟨#[c]⟩ : Str) ∈ us
            · rw [decide_eq_true hcu]
              refine iteF ⟨rfl, fun j c' hj hc' => ?_, _, rfl⟩
              by_cases hji : j = i
              · subst hji
                rw [hc] at hc'
                cases hc'
                exact hcu
              · exact hin j c' (by omega) hc'
            · rw [decide_eq_false hcu]
              exact iteT ⟨_, rfl, fin _ _ sL (let_nm hcm) (show 1 ≤ 8 by decide) hcu⟩
          · rintro σ' H2 ⟨rfl, hin, v2, rfl⟩
            refine absurd (fun c hc => ?_) (some_letter hus)
            obtain ⟨j, hj⟩ := List.mem_iff_getElem?.mp hc
            have hj2 : LET.cps[j]? = some c := by simpa using hj
            exact hin j c (Array.getElem?_eq_some_iff.mp hj2).1 hj2
end
end K39

set_option Elab.async false
set_option linter.all false
set_option pp.deepTerms.threshold 14
set_option pp.maxSteps 2500
set_option maxRecDepth 100000
set_option maxHeartbeats 2000000
namespace K39
open PySem PySem.Spec PyProof.Rows L2 Vf
section
variable {P : Program} {w : World} {K : PySem.W.Frag} {mg : Str → Option Value} {base : Heap}
theorem jnC_snoc {c : Nat} {x : List Nat} : ∀ {A : List (List Nat)}, A ≠ [] → jnC c (A ++ [x]) = jnC c A ++ c :: x
  | [], h => absurd rfl h
  | [y], _ => rfl
  | y :: z :: r, _ => by
    show y ++ c :: jnC c (z :: r ++ [x]) = (y ++ c :: jnC c (z :: r)) ++ c :: x
    rw [jnC_snoc (List.cons_ne_nil _ _), List.append_assoc]
    rfl
theorem lkL_add (ls : List (Option Int)) (o : Option Int) : lkL (ls ++ [o]) = lkL ls ++ (" " : Str) ++ lkS o := by
  apply str_inj
  unfold lkL
  rw [spc, join_cps, Str.cps_append, Str.cps_append, Array.toList_append, Array.toList_append, join_cps]
  have e : (((("looks" : Str) :: (ls ++ [o]).map lkS)).map fun s : Str => s.cps.toList) = ((("looks" : Str) :: ls.map lkS).map fun s : Str => s.cps.toList) ++ [(lkS o).cps.toList] := by simp
  rw [e, jnC_snoc (by rw [List.map_cons]; exact List.cons_ne_nil _ _), List.append_assoc]
  rfl
theorem lkL_non (ls : List (Option Int)) : lkL (ls ++ [none]) = lkL ls ++ (" -" : Str) := by
  rw [lkL_add]
  apply str_inj
  rw [Str.cps_append, Str.cps_append, Str.cps_append, Array.toList_append, Array.toList_append, Array.toList_append, List.append_assoc]
  have e : (" " : Str).cps.toList ++ (lkS none).cps.toList = (" -" : Str).cps.toList := by decide +kernel
  rw [e]
theorem lkL_nil : lkL [] = "looks" := by decide +kernel
theorem sc_law_run_text : FnScope ["_law_shift", "_law_stays", "_law_looks", "_law_lines", "_law_stay", "_law_line", "_law_look"] ["_law_shift", "_law_stays", "_law_looks"] (defScope s_law_run_text) := ⟨rfl, rfl, rfl, by decide +kernel, rfl, by decide +kernel, by decide +kernel⟩
-- slots: 0 _law_shift, 1 _law_stays, 2 _law_looks, 3 _law_lines, 4 _law_stay, 5 _law_line, 6 _law_look
def spRtx : Sp := fun vs H Q _ => ∃ (m : _root_.Fin 8) (S L : Addr) (ss : List (Str × Int)) (ls : List (Option Int)), vs = [.int (m.val : Int), .ref S, .ref L] ∧ StsA H S ss ∧ H L = some (.lst (ls.map lkT)) ∧ (∀ s ∈ ss, SyOk s) ∧ (∀ n, some n ∈ ls → 0 ≤ n ∧ n ≤ 7) ∧ ss.length ≤ 2001 ∧ ls.length ≤ 2001 ∧ ∀ H', Same H H' → Q (.str (rnT m.val ss ls)) H'
theorem ok_law_run_text {fd : FuncData} (F : FnD K ("_law_run_text", none) "_law_run_text" "_law_run_text" s_law_run_text fd) (T : Txt K mg) : OkF P w K mg base CX0 1 "_law_run_text" ["_law_shift", "_law_stays", "_law_looks"] spRtx := by
  refine okd F (F.ok sc_law_run_text (fun vs H Q E h => ?_) fun cdv A outer s H vs Q E hr h => ?_) fun _ _ _ _ _ _ us hl => match us, hl with | [_, _, _], _ => rfl
  · obtain ⟨m, S, L, ss, ls, rfl, _⟩ := h
    rfl
  · obtain ⟨m, S, L, ss, ls, rfl, hS, hL, hs, hl, s2, l2, k⟩ := h
    refine ⟨_, PSs.nox (pss_cons (ps_set (i := 3) sc_law_run_text.nd rfl (Or.inl rfl) (pe_lst (pa_cons (pe_op op_add_str pe_str (pe_callTy call_str_int (by rfl) T.z_str (by decide +kernel) (pa_cons (pv 0) pa_nil))) pa_nil)))
  (pss_cons (ps_for PassesOwn.never rfl (pi_list (pv 1)) (pg_name (i := 4) sc_law_run_text.nd rfl (Or.inl rfl))
  (pss_one (ps_expr (pe_bm PySem.F.plainAttrs_list PySem.F.slot_list_append PySem.F.type_list_append mt_append (pv 3) (pa_cons (pe_op op_add_str (pe_op op_add_str (pe_op op_add_str pe_str (pe_ix ix_tup (pv 4) pe_int (fun _ _ => rfl))) pe_str) (pe_callTy call_str_int (by rfl) T.z_str (by decide +kernel) (pa_cons (pe_ix ix_tup (pv 4) pe_int (fun _ _ => rfl)) pa_nil))) pa_nil)))))
  (pss_cons (ps_set (i := 5) sc_law_run_text.nd rfl (Or.inl rfl) pe_str)
  (pss_cons (ps_for PassesOwn.never rfl (pi_list (pv 2)) (pg_name (i := 6) sc_law_run_text.nd rfl (Or.inl rfl))
  (pss_one (ps_if (pt_cmpR op_isN (pv 6) pe_non (nomark _)) (pss_one (ps_set (i := 5) sc_law_run_text.nd rfl (Or.inl rfl) (pe_op op_add_str (pv 5) pe_str)))
  (pss_one (ps_set (i := 5) sc_law_run_text.nd rfl (Or.inl rfl) (pe_op op_add_str (pe_op op_add_str (pv 5) pe_str) (pe_callTy call_str_int (by rfl) T.z_str (by decide +kernel) (pa_cons (pv 6) pa_nil))))))))
  (pss_cons (ps_expr (pe_bm PySem.F.plainAttrs_list PySem.F.slot_list_append PySem.F.type_list_append mt_append (pv 3) (pa_cons (pv 5) pa_nil)))
  (pss_one (ps_ret (pe_m1 PySem.F.slot_str_join PySem.F.type_str_join mt_join pe_str (pv 3))))))))), ?_⟩
    have hm := m.isLt
    have hl9 : ∀ n, some n ∈ ls → 0 ≤ n ∧ n ≤ 9 := fun n e => ⟨(hl n e).1, by have := (hl n e).2; omega⟩
    have hph : (("run phase " : Str).length + (Str.ofString (toString (m.val : Int))).length) ≤ sizeLine := by
      rw [← Str.length_append]
      exact Nat.le_trans (Nat.le_of_eq (ph_out m).2) (by decide)
    obtain ⟨rs, hSr, hps⟩ := id hS
    have hrl : rs.length = ss.length := paired_len hps
    refine ⟨_, rfl, (m.val : Int), rfl, Nat.lt_of_le_of_lt (Nat.log2_le_self _) (by omega), "run phase ", _, rfl, rfl, hph, (by show 1 ≤ sizeLine; decide), fun D nD => ?_⟩
    have s1 := same_new (o := .lst [.str (phL m.val)]) nD
    have hD1 := upd_same (H := H) (a := D) (o := .lst [.str (phL m.val)])
    show tSeq _ _ _ _ (upd H D (.lst [.str (phL m.val)]))
    generalize upd H D (.lst [.str (phL m.val)]) = H1 at s1 hD1 ⊢
    refine ⟨_, rfl, S, rfl, ⟨_, SqL.of (s1 _ _ hSr)⟩, for_it walk_list (fun j σ H' => Same H H' ∧ H' D = some (.lst ((phL m.val :: (ss.take j).map syL).map V.str)) ∧ ∃ v4 : Option V, σ = [some (.int (m.val : Int)), some (.ref S), some (.ref L), some (.ref D), v4, none, none]) ⟨s1, hD1, none, rfl⟩ (fun j σ H' _ h => SqL.of (h.1 _ _ hSr)) ?_ ?_⟩
    · rintro j x σ H3 H' hj ⟨sg, hD, v4, rfl⟩ ⟨rfl, hx⟩
      rw [List.length_map] at hj
      have hrj : rs[j]? = some rs[j] := List.getElem?_eq_getElem hj
      generalize rs[j] = r at hrj
      obtain rfl : x = .ref r := by
        rw [List.getElem?_map, hrj] at hx
        exact (Option.some.inj hx).symm
      obtain ⟨sy, hsj, hr0⟩ := paired_at hps hrj
      have hok := hs sy (List.mem_of_getElem? hsj)
      have hr1 : H' r = some (.tup [.str sy.1, .int sy.2]) := sg _ _ hr0
      have hlen := syL_len hok
      have h8 := hok.len
      have hd := (dgI (n := sy.2) (by have := hok.2.1; omega) (by have := hok.2.2; omega)).2.2.1
      have e2 : ("  " : Str).length = 2 := by decide +kernel
      have e1 : (" " : Str).length = 1 := by decide +kernel
      have big : 100 ≤ sizeLine := by decide
      refine ⟨_, rfl, .inl ⟨rfl, _, SqL.of hD⟩, _, rfl, r, _, 0, .str sy.1, rfl, rfl, SqT.of hr1, atI0, "  ", _, rfl, rfl, ?_, _, _, rfl, rfl, ?_, _, rfl, r, _, 1, .int sy.2, rfl, rfl, SqT.of hr1, atI1, sy.2, rfl, Nat.lt_of_le_of_lt (Nat.log2_le_self _) (by have := hok.2.1; have := hok.2.2; omega), _, _, rfl, rfl, ?_, D, _, _, rfl, rfl, hD, ?_, ?_⟩
      · rw [e2]
        omega
      · rw [Str.length_append, e1, e2]
        omega
      · rw [Str.length_append, Str.length_append, e1, e2, hd]
        omega
      · rw [List.length_map, List.length_cons, List.length_map, List.length_take]
        exact Nat.lt_of_le_of_lt (show _ ≤ 2002 by omega) (by decide)
      · refine ⟨same_app sg (Same.refl _) nD, ?_, _, rfl⟩
        rw [upd_same, takeS _ hsj, List.map_cons, List.map_cons, List.map_append]
        rfl
    · rintro σ H3 ⟨sg, hD, v4, rfl⟩
      rw [List.length_map, hrl, List.take_length] at hD
      refine ⟨_, rfl, L, rfl, ⟨_, SqL.of (sg _ _ hL)⟩, for_it walk_list (fun j σ H' => H' = H3 ∧ ∃ v6 : Option V, σ = [some (.int (m.val : Int)), some (.ref S), some (.ref L), some (.ref D), v4, some (.str (lkL (ls.take j))), v6]) ⟨rfl, none, by rw [List.take_zero, lkL_nil]; rfl⟩ (fun j σ H' _ h => by rw [h.1]; exact SqL.of (sg _ _ hL)) ?_ ?_⟩
      · rintro j x σ H4 H' hj ⟨rfl, v6, rfl⟩ ⟨rfl, hx⟩
        rw [List.length_map] at hj
        have hoj : ls[j]? = some ls[j] := List.getElem?_eq_getElem hj
        generalize ls[j] = o at hoj
        obtain rfl : x = lkT o := by
          rw [List.getElem?_map, hoj] at hx
          exact (Option.some.inj hx).symm
        have hlt := lkL_len (ls := ls.take j) fun n e => hl9 n (List.mem_of_mem_take e)
        rw [List.length_take] at hlt
        have e1 : (" " : Str).length = 1 := by decide +kernel
        have e2 : (" -" : Str).length = 2 := by decide +kernel
        have big : 5000 ≤ sizeLine := by decide
        have et : ls.take (j + 1) = ls.take j ++ [o] := by rw [List.take_add_one, hoj]; rfl
        cases o with
        | none =>
          refine ⟨_, rfl, rfl, true, rfl, iteT ⟨_, rfl, _, _, rfl, rfl, ?_, rfl, some .non, ?_⟩⟩
          · rw [e2]
            omega
          · rw [et, lkL_non]
            rfl
        | some n =>
          have hn := hl9 n (List.mem_of_getElem? hoj)
          have hd := (dgI hn.1 hn.2).2.2.1
          refine ⟨_, rfl, rfl, false, rfl, iteF ⟨_, rfl, _, _, rfl, rfl, ?_, _, rfl, n, rfl, Nat.lt_of_le_of_lt (Nat.log2_le_self _) (by omega), _, _, rfl, rfl, ?_, rfl, some (.int n), ?_⟩⟩
          · rw [e1]
            omega
          · rw [Str.length_append, e1, hd]
            omega
          · rw [et, lkL_add]
            rfl
      · rintro σ H4 ⟨rfl, v6, rfl⟩
        rw [List.length_map, List.take_length]
        refine ⟨_, rfl, .inl ⟨rfl, _, SqL.of hD⟩, _, rfl, D, _, _, rfl, rfl, hD, ?_, ?_⟩
        · rw [List.length_map, List.length_cons, List.length_map]
          exact Nat.lt_of_le_of_lt (show _ ≤ 2002 by omega) (by decide)
        have e9 : ((phL m.val :: ss.map syL).map V.str ++ [V.str (lkL ls)] : List V) = (phL m.val :: (ss.map syL ++ [lkL ls])).map V.str := by
          rw [List.map_cons, List.map_cons, List.map_append]
          rfl
        rw [e9]
        have hI9 := upd_same (H := H4) (a := D) (o := .lst ((phL m.val :: (ss.map syL ++ [lkL ls])).map V.str))
        refine ⟨⟨_, rfl⟩, _, rfl, "\n", D, _, rfl, rfl, .inl (SqL.of hI9), ?_, k _ (same_app sg (Same.refl _) nD)⟩
        have h1 := rnT_sum (m := m) hs hl9
        have e1 : ("\n" : Str).length = 1 := by decide +kernel
        rw [e1, List.length_cons, List.length_append, List.length_map, List.length_singleton]
        omega
end
end K39

set_option Elab.async false
set_option linter.all false
set_option pp.deepTerms.threshold 14
set_option pp.maxSteps 2500
set_option maxRecDepth 100000
set_option maxHeartbeats 2000000
namespace K39
open PySem PySem.Spec PyProof.Rows L2 Vf
section
variable {P : Program} {w : World} {K : PySem.W.Frag} {mg : Str → Option Value} {base : Heap}
theorem cutS_up {a b : Str} {n : Nat} (h : a.length = n) : cutS (a ++ b) none (some (n : Int)) = a := by
  apply str_inj
  unfold cutS
  have hl : (a ++ b).cps.toList.length = (a ++ b).length := by simp [Str.length]
  have e1 : HT.sIx (a ++ b).length 0 none = 0 := rfl
  have e2 : HT.sIx (a ++ b).length (a ++ b).length (some (n : Int)) = n := by
    rw [HT.sIx_nat, Str.length_append]
    omega
  rw [e1, e2, List.drop_zero, Nat.sub_zero, Str.cps_append, Array.toList_append]
  show List.take n (a.cps.toList ++ b.cps.toList) = a.cps.toList
  rw [List.take_left' (by rw [← h]; simp [Str.length])]
theorem cutS_fr {a b : Str} {n : Nat} (h : a.length = n) : cutS (a ++ b) (some (n : Int)) none = b := by
  apply str_inj
  unfold cutS
  have e1 : HT.sIx (a ++ b).length 0 (some (n : Int)) = n := by
    rw [HT.sIx_nat, Str.length_append]
    omega
  have e2 : HT.sIx (a ++ b).length (a ++ b).length none = (a ++ b).length := rfl
  rw [e1, e2, Str.cps_append, Array.toList_append, List.drop_left' (by rw [← h]; simp [Str.length])]
  show List.take _ b.cps.toList = b.cps.toList
  refine List.take_of_length_le ?_
  rw [Str.length_append]
  simp [Str.length] at h ⊢
  omega
theorem cutS_both (z : Str) (n : Nat) : z = cutS z none (some (n : Int)) ++ cutS z (some (n : Int)) none := by
  apply str_inj
  rw [Str.cps_append, Array.toList_append]
  unfold cutS
  have hl : z.cps.toList.length = z.length := by simp [Str.length]
  have e1 : HT.sIx z.length 0 none = 0 := rfl
  have e2 : HT.sIx z.length z.length none = z.length := rfl
  have e3 : HT.sIx z.length z.length (some (n : Int)) = min n z.length := by rw [HT.sIx_nat]
  have e4 : HT.sIx z.length 0 (some (n : Int)) = min n z.length := by rw [HT.sIx_nat]
  rw [e1, e2, e3, e4]
  show z.cps.toList = List.take _ (List.drop 0 z.cps.toList) ++ List.take _ (List.drop _ z.cps.toList)
  rw [List.drop_zero, Nat.sub_zero]
  generalize min n z.length = k
  have h2 : (z.cps.toList.drop k).take (z.length - k) = z.cps.toList.drop k := List.take_of_length_le (by rw [List.length_drop, hl]; exact Nat.le_refl _)
  rw [h2, List.take_append_drop]
def dgS (n : Int) : Str := Str.ofString (toString n)
theorem dg_inj {a b : Int} (a0 : 0 ≤ a) (a9 : a ≤ 9) (b0 : 0 ≤ b) (b9 : b ≤ 9) (h : dgS a = dgS b) : a = b := by
  have h1 := (dgI a0 a9).2.2.2.1
  have h2 := (dgI b0 b9).2.2.2.1
  rw [← h1, ← h2]
  show Txt.find DIG (dgS a) = Txt.find DIG (dgS b)
  rw [h]
theorem sc_law_number : FnScope ["_law_word", "_law_low", "_law_high", "_law_k"] ["_law_word", "_law_low", "_law_high"] (defScope s_law_number) := ⟨rfl, rfl, rfl, by decide +kernel, rfl, by decide +kernel, by decide +kernel⟩
-- slots: 0 _law_word, 1 _law_low, 2 _law_high, 3 _law_k
def spNum : Sp := fun vs H Q _ => ∃ (w : Str) (lo hi : Int), vs = [.str w, .int lo, .int hi] ∧ 0 ≤ lo ∧ hi ≤ 9 ∧ lo ≤ hi ∧ ((∃ n, lo ≤ n ∧ n ≤ hi ∧ w = dgS n ∧ Q (.int n) H) ∨ ((∀ n, lo ≤ n → n ≤ hi → w ≠ dgS n) ∧ Q (.int (-1)) H))
theorem ok_law_number {fd : FuncData} (F : FnD K ("_law_number", none) "_law_number" "_law_number" s_law_number fd) (T : Txt K mg) : OkF P w K mg base CX0 1 "_law_number" ["_law_word", "_law_low", "_law_high"] spNum := by
  refine okd F (F.ok sc_law_number (fun vs H Q E h => ?_) fun cdv A outer s H vs Q E hr h => ?_) fun _ _ _ _ _ _ us hl => match us, hl with | [_, _, _], _ => rfl
  · obtain ⟨w, lo, hi, rfl, _⟩ := h
    rfl
  · obtain ⟨w, lo, hi, rfl, l0, h9, lh, h⟩ := h
    refine ⟨_, PSs.nox (pss_cons (ps_for PassesOwn.never rfl (pi_range2 rfl T.z_range (pa_cons (pv 1) (pa_cons (pe_op op_add (pv 2) pe_int) pa_nil))) (pg_name (i := 3) sc_law_number.nd rfl (Or.inl rfl))
  (pss_one (ps_if (pt_cmpR op_eq (pv 0) (pe_callTy call_str_int (by rfl) T.z_str (by decide +kernel) (pa_cons (pv 3) pa_nil)) (nomark _)) (pss_one (ps_ret (pv 3)))
  pss_nil)))
  (pss_one (ps_ret (pe_un un_neg pe_int)))), ?_⟩
    refine ⟨_, rfl, _, rfl, hi, 1, rfl, rfl, lo, hi + 1, rfl, ⟨by omega, by omega, by omega, by omega⟩, for_range (lo := lo) (n := (hi + 1 - lo).toNat) (fun i σ H1 => H1 = H ∧ (∀ m, lo ≤ m → m < lo + (i : Int) → w ≠ dgS m) ∧ ∃ v, σ = [some (.str w), some (.int lo), some (.int hi), v]) ⟨rfl, fun m a b => by omega, none, rfl⟩ ?_ ?_⟩
    · rintro i σ H1 hi' ⟨rfl, hno, v, rfl⟩
      refine ⟨_, rfl, _, rfl, lo + (i : Int), rfl, Nat.lt_of_le_of_lt (Nat.log2_le_self _) (by omega), rfl, _, rfl, ?_⟩
      show if decide (V.str w = V.str (dgS (lo + (i : Int)))) = true then _ else _
      by_cases hw : w = dgS (lo + (i : Int))
      · rw [decide_eq_true (congrArg V.str hw)]
        refine iteT ⟨_, rfl, ?_⟩
        rcases h with ⟨n, n0, n9, e, q⟩ | ⟨no, _⟩
        · rw [dg_inj (a := lo + (i : Int)) (b := n) (by omega) (by omega) (by omega) (by omega) (hw.symm.trans e)]
          exact q
        · exact absurd hw (no _ (by omega) (by omega))
      · rw [decide_eq_false fun e => hw (V.str.inj e)]
        refine iteF ⟨rfl, fun m a b => ?_, _, rfl⟩
        by_cases hm : m = lo + (i : Int)
        · rw [hm]; exact hw
        · exact hno m a (by omega)
    · rintro σ H1 ⟨rfl, hno, v, rfl⟩
      rcases h with ⟨n, n0, n9, e, q⟩ | ⟨_, q⟩
      · exact absurd e (hno n n0 (by omega))
      · exact ⟨1, rfl, q⟩
theorem sc_law_is_name : FnScope ["_law_word", "_law_letter"] ["_law_word"] (defScope s_law_is_name) := ⟨rfl, rfl, rfl, by decide +kernel, rfl, by decide +kernel, by decide +kernel⟩
-- slots: 0 _law_word, 1 _law_letter
def spIsn : Sp := fun vs H Q _ => ∃ z : Str, vs = [.str z] ∧ z.length ≤ 40000 ∧ ∀ H', Same H H' → Q (.bl (nmB z)) H'
theorem ok_law_is_name {fd : FuncData} (F : FnD K ("_law_is_name", none) "_law_is_name" "_law_is_name" s_law_is_name fd) (T : Txt K mg) : OkF P w K mg base CX0 1 "_law_is_name" ["_law_word"] spIsn := by
  refine okd F (F.ok sc_law_is_name (fun vs H Q E h => ?_) fun cdv A outer s H vs Q E hr h => ?_) fun _ _ _ _ _ _ us hl => match us, hl with | [_], _ => rfl
  · obtain ⟨z, rfl, _⟩ := h
    rfl
  · obtain ⟨z, rfl, hz, k⟩ := h
    refine ⟨_, PSs.nox (pss_cons (ps_if (PW.pt (pw_orB (pt_not (pt_chain op_le op_le pe_int (pe_callB call_len_str (by rfl) T.z_len (by decide +kernel) (pa_cons (pv 0) pa_nil)) pe_int)) (pw_or1 (pt_cmpR op_in_seq (pv 0) (pe_lst (pa_cons pe_str (pa_cons pe_str (pa_cons pe_str (pa_cons pe_str (pa_cons pe_str pa_nil)))))) rfl)))) (pss_one (ps_ret pe_bl))
  pss_nil)
  (pss_cons (ps_for PassesOwn.never rfl (pi_str (pv 0)) (pg_name (i := 1) sc_law_is_name.nd rfl (Or.inl rfl))
  (pss_one (ps_if (pt_cmpR op_notin_str (pv 1) pe_str rfl) (pss_one (ps_ret pe_bl))
  pss_nil)))
  (pss_one (ps_ret pe_bl)))), ?_⟩
    have go : ∀ b : Bool, nmB z = b → ∀ H', Same H H' → Q (.bl b) H' := fun b e H' s => e ▸ k H' s
    have big : 100000 ≤ sizeLine := by decide
    by_cases l1 : (1 : Int) ≤ z.length
    · by_cases l2 : (z.length : Int) ≤ 8
      · refine ⟨_, rfl, z, rfl, by omega, 1, z.length, rfl, rfl, true, congrArg V.bl (decide_eq_true l1), iteT ⟨z.length, 8, rfl, rfl, true, congrArg V.bl (decide_eq_true l2), inV (.str z) (KEPT.map V.str), fun H' => Same H H', fun _ => ⟨_, rfl, (by show 5 ≤ sizeLine; decide), fun L nL => ⟨L, KEPT.map V.str, rfl, .inl (SqL.of upd_same), rfl, by decide +kernel, _, rfl, rfl, same_new nL⟩⟩, (fun c => Bool.noConfusion c), fun H1 s1 => ?_⟩⟩
        have e1 : decide (1 ≤ z.length) = true := decide_eq_true (by omega)
        have e2 : decide (z.length ≤ 8) = true := decide_eq_true (by omega)
        unfold nmB at go
        rw [e1, e2, Bool.true_and, Bool.true_and] at go
        cases hv : inV (.str z) (KEPT.map V.str) with
        | true =>
          rw [hv] at go
          exact iteT (go false rfl _ s1)
        | false =>
          rw [hv] at go
          refine iteF ⟨_, rfl, z, rfl, for_it walk_str (fun i σ H' => H' = H1 ∧ (∀ c ∈ z.cps.toList.take i, c ∈ LET.cps.toList) ∧ ∃ v, σ = [some (.str z), v]) ⟨rfl, (fun c h => by simp at h), none, rfl⟩ (fun _ _ _ _ _ => trivial) ?_ ?_⟩
          · rintro i x σ H3 H' hi ⟨rfl, hin, v, rfl⟩ ⟨rfl, c, hc, rfl⟩
            have hc2 : z.cps.toList[i]? = some c := by simpa using hc
            refine ⟨_, rfl, _, _, rfl, rfl, _, rfl, ?_⟩
            rw [sign_in]
            by_cases hcl : c ∈ LET.cps.toList
            · rw [show decide (c ∈ (Str.ofString "abcdefghijklmnopqrstuvwxyz").cps.toList) = true from decide_eq_true hcl]
              refine iteF ⟨rfl, fun d hd => ?_, _, rfl⟩
              rw [List.take_add_one, hc2] at hd
              rcases List.mem_append.mp hd with hd | hd
              · exact hin d hd
              · cases List.mem_singleton.mp hd
                exact hcl
            · rw [show decide (c ∈ (Str.ofString "abcdefghijklmnopqrstuvwxyz").cps.toList) = false from decide_eq_false hcl]
              refine iteT (go false ?_ _ s1)
              rw [Bool.not_false, Bool.true_and]
              refine Bool.eq_false_iff.mpr fun h => hcl ?_
              exact of_decide_eq_true (List.all_eq_true.mp h c (List.mem_of_getElem? hc2))
          · rintro σ H3 ⟨rfl, hin, v, rfl⟩
            refine go true ?_ _ s1
            rw [Bool.not_false, Bool.true_and, List.all_eq_true]
            intro c hc
            rw [List.take_of_length_le (by simp)] at hin
            exact decide_eq_true (hin c hc)
      · refine ⟨_, rfl, z, rfl, by omega, 1, z.length, rfl, rfl, true, congrArg V.bl (decide_eq_true l1), iteT ⟨z.length, 8, rfl, rfl, false, congrArg V.bl (decide_eq_false l2), true, fun H' => H' = H, (fun c => Bool.noConfusion c), fun _ => rfl, fun H1 s1 => ?_⟩⟩
        subst s1
        refine iteT (go false ?_ _ (Same.refl _))
        unfold nmB
        rw [show decide (z.length ≤ 8) = false from decide_eq_false (by omega)]
        simp
    · refine ⟨_, rfl, z, rfl, by omega, 1, z.length, rfl, rfl, false, congrArg V.bl (decide_eq_false l1), iteF ⟨false, rfl, true, fun H' => H' = H, (fun c => Bool.noConfusion c), fun _ => rfl, fun H1 s1 => ?_⟩⟩
      subst s1
      refine iteT (go false ?_ _ (Same.refl _))
      unfold nmB
      rw [show decide (1 ≤ z.length) = false from decide_eq_false (by omega)]
      simp
/-- a word of a line of looks -/
def lkW (w : Str) : Prop := w = "-" ∨ ∃ n : Int, 0 ≤ n ∧ n ≤ 7 ∧ w = dgS n
theorem lkW_all : ∀ {ws : List Str}, (∀ w ∈ ws, lkW w) → ∃ ls : List (Option Int), ws = ls.map lkS ∧ ∀ n, some n ∈ ls → 0 ≤ n ∧ n ≤ 7
  | [], _ => ⟨[], rfl, fun _ h => nomatch h⟩
  | w :: ws, h => by
    obtain ⟨ls, e, k⟩ := lkW_all fun x hx => h x (List.mem_cons_of_mem _ hx)
    rcases h w List.mem_cons_self with rfl | ⟨n, h0, h7, rfl⟩
    · refine ⟨none :: ls, by rw [List.map_cons, ← e]; rfl, fun n hn => ?_⟩
      rcases List.mem_cons.mp hn with hn | hn
      · exact nomatch hn
      · exact k n hn
    · refine ⟨some n :: ls, by rw [List.map_cons, ← e]; rfl, fun m hn => ?_⟩
      rcases List.mem_cons.mp hn with hn | hn
      · cases hn
        exact ⟨h0, h7⟩
      · exact k m hn
theorem lk_iff {z w0 : Str} {ws : List Str} (h : Txt.split z " " = w0 :: ws) : isLk z ↔ (w0 = "looks" ∧ 1 ≤ ws.length ∧ ws.length ≤ 2000 ∧ ∀ w ∈ ws, lkW w) := by
  constructor
  · rintro ⟨ls, rfl, ok⟩
    rw [lkL_split ok.nine] at h
    cases h
    refine ⟨rfl, by rw [List.length_map]; exact ok.2.1, by rw [List.length_map]; exact ok.2.2, fun w hw => ?_⟩
    obtain ⟨o, ho, rfl⟩ := List.mem_map.mp hw
    cases o with
    | none => exact .inl rfl
    | some n => exact .inr ⟨n, (ok.1 n ho).1, (ok.1 n ho).2, rfl⟩
  · rintro ⟨rfl, h1, h2, h3⟩
    obtain ⟨ls, rfl, k⟩ := lkW_all h3
    rw [List.length_map] at h1 h2
    refine ⟨ls, ?_, k, h1, h2⟩
    have := PySem.StrLaws.join_split z " "
    rw [h] at this
    rw [← this]
    exact (PySem.StrLaws.glued_eq_join _ _).symm
theorem pair_eq (a b : Str) : Txt.join " " [a, b] = a ++ " " ++ b := by
  apply str_inj
  rw [spc, join_cps, Str.cps_append, Str.cps_append, Array.toList_append, Array.toList_append, List.append_assoc]
  rfl
theorem syL_pair (s : Str × Int) : syL s = ("  " : Str) ++ Txt.join " " [s.1, dgS s.2] := by
  rw [pair_eq]
  apply str_inj
  unfold syL dgS
  simp only [Str.cps_append, Array.toList_append, List.append_assoc]
theorem pair_split {s : Str × Int} (h : SyOk s) : Txt.split (Txt.join " " [s.1, dgS s.2]) " " = [s.1, dgS s.2] := by
  rw [spc]
  refine split_join 32 (fun z => nomatch z) fun w hw => ?_
  have hw : w = s.1 ∨ w = dgS s.2 := by simpa using hw
  rcases hw with rfl | rfl
  · exact (nm_free h.1).1
  · exact (dgI (n := s.2) (by have := h.2.1; omega) (by have := h.2.2; omega)).1
theorem st_iff (z : Str) : isSt z ↔ (cutS z none (some 2) = "  " ∧ ∃ a b, Txt.split (cutS z (some 2) none) " " = [a, b] ∧ nmB a = true ∧ ∃ n : Int, 1 ≤ n ∧ n ≤ 6 ∧ b = dgS n) := by
  have l2 : ("  " : Str).length = 2 := by decide +kernel
  constructor
  · rintro ⟨s, rfl, ok⟩
    rw [syL_pair]
    have e1 := cutS_up (b := Txt.join " " [s.1, dgS s.2]) l2
    have e2 := cutS_fr (b := Txt.join " " [s.1, dgS s.2]) l2
    exact ⟨e1, s.1, dgS s.2, (congrArg (fun q => Txt.split q " ") e2).trans (pair_split ok), ok.1, s.2, ok.2.1, ok.2.2, rfl⟩
  · rintro ⟨e1, a, b, e2, ha, n, n1, n6, rfl⟩
    refine ⟨(a, n), ?_, ha, n1, n6⟩
    rw [syL_pair]
    have := PySem.StrLaws.join_split (cutS z (some 2) none) " "
    rw [e2] at this
    have h3 : cutS z (some 2) none = Txt.join " " [a, dgS n] := this.symm.trans (PySem.StrLaws.glued_eq_join _ _).symm
    have h4 := cutS_both z 2
    have h5 : z = cutS z none (some 2) ++ cutS z (some 2) none := h4
    rw [e1, h3] at h5
    exact h5
theorem sc_law_is_looks : FnScope ["_law_line", "_law_words", "_law_word"] ["_law_line"] (defScope s_law_is_looks) := ⟨rfl, rfl, rfl, by decide +kernel, rfl, by decide +kernel, by decide +kernel⟩
-- slots: 0 _law_line, 1 _law_words, 2 _law_word
def spIslk : Sp := fun vs H Q _ => ∃ z : Str, vs = [.str z] ∧ z.length ≤ 40000 ∧ ((isLk z ∧ ∀ H', Same H H' → Q (.bl true) H') ∨ (¬ isLk z ∧ ∀ H', Same H H' → Q (.bl false) H'))
theorem ok_law_is_looks {fd : FuncData} (F : FnD K ("_law_is_looks", none) "_law_is_looks" "_law_is_looks" s_law_is_looks fd) (T : Txt K mg) (O_law_number : OkF P w K mg base CX0 1 "_law_number" ["_law_word", "_law_low", "_law_high"] spNum) : OkF P w K mg base CX0 2 "_law_is_looks" ["_law_line"] spIslk := by
  refine okd F (F.ok sc_law_is_looks (fun vs H Q E h => ?_) fun cdv A outer s H vs Q E hr h => ?_) fun _ _ _ _ _ _ us hl => match us, hl with | [_], _ => rfl
  · obtain ⟨z, rfl, _⟩ := h
    rfl
  · obtain ⟨z, rfl, hz, h⟩ := h
    refine ⟨_, PSs.nox (pss_cons (ps_set (i := 1) sc_law_is_looks.nd rfl (Or.inl rfl) (pe_m1 PySem.F.slot_str_split PySem.F.type_str_split mt_split (pv 0) pe_str))
  (pss_cons (ps_if (PW.pt (pw_orB (pt_cmpR op_ne (pe_ix ix_list (pv 1) pe_int (fun _ _ => rfl)) pe_str (nomark _)) (pw_or1 (pt_not (pt_chain op_le op_le pe_int (pe_callB (id := "len") call_len_seq (by rfl) T.z_len (by decide +kernel) (pa_cons (pv 1) pa_nil)) pe_int))))) (pss_one (ps_ret pe_bl))
  pss_nil)
  (pss_cons (ps_for PassesOwn.never rfl (pi_list (pe_slice sl_list (pv 1) (po_some pe_int) po_none)) (pg_name (i := 2) sc_law_is_looks.nd rfl (Or.inl rfl))
  (pss_one (ps_if (PW.pt (pw_andB (pt_cmpR op_ne (pv 2) pe_str (nomark _)) (pw_and1 (pt_cmpR op_lt (c_fn O_law_number hr (by decide) T.g_law_number pass0 (pa_cons (pv 2) (pa_cons pe_int (pa_cons pe_int pa_nil)))) pe_int (nomark _))))) (pss_one (ps_ret pe_bl))
  pss_nil)))
  (pss_one (ps_ret pe_bl))))), ?_⟩
    have big : 100000 ≤ sizeLine := by decide
    obtain ⟨w0, ws, hsp⟩ : ∃ w0 ws, Txt.split z " " = w0 :: ws := by
      cases e : Txt.split z " " with
      | nil =>
        have := PyProof.Rows.split_pos z " "
        rw [e] at this
        exact absurd this (by decide)
      | cons a b => exact ⟨a, b, rfl⟩
    have hi := lk_iff hsp
    have go : ∀ b : Bool, (b = true ↔ isLk z) → ∀ H', Same H H' → Q (.bl b) H' := fun b e H' s => by
      rcases h with ⟨y, k⟩ | ⟨n, k⟩
      · rw [e.mpr y]; exact k H' s
      · rw [Bool.eq_false_iff.mpr fun x => n (e.mp x)]; exact k H' s
    refine ⟨_, rfl, ⟨_, rfl⟩, z, " ", rfl, rfl, by decide, by omega, fun p1 n1 => ?_⟩
    have sA := same_new (o := .lst ((Txt.split z " ").map V.str)) n1
    have hA := upd_same (H := H) (a := p1) (o := .lst ((Txt.split z " ").map V.str))
    show tSeq _ _ _ _ (upd H p1 (.lst ((Txt.split z " ").map V.str)))
    generalize upd H p1 (.lst ((Txt.split z " ").map V.str)) = HA at sA hA ⊢
    rw [hsp] at hA
    obtain ⟨L, hL, hL2⟩ : ∃ L : Int, L = (((w0 :: ws).map V.str).length : Int) ∧ L = (ws.length : Int) + 1 := ⟨_, rfl, by rw [List.length_map, List.length_cons]; rfl⟩
    refine ⟨_, rfl, p1, _, 0, .str w0, rfl, rfl, SqL.of hA, atI0, rfl, _, rfl, !(decide (2 ≤ L) && decide (L ≤ 2001)), (· = HA), fun hc => ?_, fun _ => rfl, fun H1 e => ?_⟩
    · refine ⟨_, rfl, p1, _, rfl, .inl (SqL.of hA), 2, L, rfl, congrArg V.int hL.symm, _, rfl, ?_⟩
      by_cases l1 : 2 ≤ L
      · rw [decide_eq_true l1]
        exact iteT ⟨L, 2001, congrArg V.int hL.symm, rfl, _, rfl, rfl, rfl⟩
      · rw [decide_eq_false l1]
        exact iteF ⟨_, rfl, rfl, rfl⟩
    · subst e
      by_cases hg : w0 = "looks" ∧ 1 ≤ ws.length ∧ ws.length ≤ 2000
      · obtain ⟨rfl, g1, g2⟩ := hg
        rw [show decide (2 ≤ L) = true from decide_eq_true (by omega), show decide (L ≤ 2001) = true from decide_eq_true (by omega), show decide (V.str "looks" = V.str "looks") = true from decide_eq_true rfl]
        refine iteF ⟨_, rfl, 1, rfl, p1, _, rfl, SqL.of hA, fun p2 n2 => ?_⟩
        have ecut : cutV (List.map V.str ("looks" :: ws)) (some 1) none = ws.map V.str := cutV_1
        rw [ecut]
        have sB := sA.trans (same_new (o := .lst (ws.map V.str)) n2)
        have hB := upd_same (H := H1) (a := p2) (o := .lst (ws.map V.str))
        generalize upd H1 p2 (.lst (ws.map V.str)) = HB at sB hB ⊢
        refine ⟨p2, rfl, ⟨_, SqL.of hB⟩, for_it walk_list (fun j σ H' => H' = HB ∧ (∀ w ∈ ws.take j, lkW w) ∧ ∃ v, σ = [some (.str z), some (.ref p1), v]) ⟨rfl, (fun w hw => by simp at hw), none, rfl⟩ (fun j σ H' _ h => by rw [h.1]; exact SqL.of hB) ?_ ?_⟩
        · rintro j x σ H5 H' hj ⟨rfl, hin, v, rfl⟩ ⟨rfl, hx⟩
          rw [List.length_map] at hj
          have hoj : ws[j]? = some ws[j] := List.getElem?_eq_getElem hj
          generalize ws[j] = o at hoj
          obtain rfl : x = .str o := by
            rw [List.getElem?_map, hoj] at hx
            exact (Option.some.inj hx).symm
          have nx : lkW o → ∀ w ∈ ws.take (j + 1), lkW w := fun ho w hw => by
            rw [List.take_add_one, hoj] at hw
            rcases List.mem_append.mp hw with hw | hw
            · exact hin w hw
            · cases List.mem_singleton.mp hw
              exact ho
          refine ⟨_, rfl, rfl, _, rfl, ?_⟩
          by_cases ho : o = "-"
          · rw [show decide (V.str o = V.str "-") = true from decide_eq_true (by rw [ho])]
            refine ⟨true, (· = H'), (fun c => Bool.noConfusion c), fun _ => rfl, fun H6 e => ?_⟩
            subst e
            exact iteF ⟨rfl, nx (.inl ho), _, rfl⟩
          · rw [show decide (V.str o = V.str "-") = false from decide_eq_false fun e => ho (V.str.inj e)]
            by_cases hd : ∃ n : Int, 0 ≤ n ∧ n ≤ 7 ∧ o = dgS n
            · obtain ⟨n, n0, n7, e⟩ := hd
              refine ⟨false, (· = H'), fun _ => ⟨_, rfl, o, 0, 7, rfl, by decide, by decide, by decide, .inl ⟨n, n0, n7, e, n, 0, rfl, rfl, _, rfl, decide_eq_false (by omega), rfl⟩⟩, (fun c => Bool.noConfusion c), fun H6 e2 => ?_⟩
              subst e2
              exact iteF ⟨rfl, nx (.inr ⟨n, n0, n7, e⟩), _, rfl⟩
            · refine ⟨true, (· = H'), fun _ => ⟨_, rfl, o, 0, 7, rfl, by decide, by decide, by decide, .inr ⟨fun n n0 n7 e => hd ⟨n, n0, n7, e⟩, -1, 0, rfl, rfl, _, rfl, decide_eq_true (by decide), rfl⟩⟩, (fun c => Bool.noConfusion c), fun H6 e2 => ?_⟩
              subst e2
              refine iteT (go false ⟨(fun c => Bool.noConfusion c), fun hl => ?_⟩ _ sB)
              rcases (hi.mp hl).2.2.2 o (List.mem_of_getElem? hoj) with e | e
              · exact absurd e ho
              · exact absurd e hd
        · rintro σ H5 ⟨rfl, hin, v, rfl⟩
          rw [List.length_map, List.take_length] at hin
          exact go true ⟨fun _ => hi.mpr ⟨rfl, g1, g2, hin⟩, fun _ => rfl⟩ _ sB
      · have e9 : (!decide (V.str w0 = V.str "looks") || !(decide (2 ≤ L) && decide (L ≤ 2001))) = true := by
          by_cases a : w0 = "looks"
          · by_cases b : 1 ≤ ws.length
            · have c : ¬ ws.length ≤ 2000 := fun c => hg ⟨a, b, c⟩
              rw [show decide (L ≤ 2001) = false from decide_eq_false (by omega)]
              simp
            · rw [show decide (2 ≤ L) = false from decide_eq_false (by omega)]
              simp
          · rw [show decide (V.str w0 = V.str "looks") = false from decide_eq_false fun e => a (V.str.inj e)]
            rfl
        rw [e9]
        exact iteT (go false ⟨(fun c => Bool.noConfusion c), fun hl => absurd ⟨(hi.mp hl).1, (hi.mp hl).2.1, (hi.mp hl).2.2.1⟩ hg⟩ _ sA)
theorem sc_law_is_stay : FnScope ["_law_line", "_law_words"] ["_law_line"] (defScope s_law_is_stay) := ⟨rfl, rfl, rfl, by decide +kernel, rfl, by decide +kernel, by decide +kernel⟩
-- slots: 0 _law_line, 1 _law_words
def spIsst : Sp := fun vs H Q _ => ∃ z : Str, vs = [.str z] ∧ z.length ≤ 40000 ∧ ((isSt z ∧ ∀ H', Same H H' → Q (.bl true) H') ∨ (¬ isSt z ∧ ∀ H', Same H H' → Q (.bl false) H'))
theorem ok_law_is_stay {fd : FuncData} (F : FnD K ("_law_is_stay", none) "_law_is_stay" "_law_is_stay" s_law_is_stay fd) (T : Txt K mg) (O_law_number : OkF P w K mg base CX0 1 "_law_number" ["_law_word", "_law_low", "_law_high"] spNum) (O_law_is_name : OkF P w K mg base CX0 1 "_law_is_name" ["_law_word"] spIsn) : OkF P w K mg base CX0 2 "_law_is_stay" ["_law_line"] spIsst := by
  refine okd F (F.ok sc_law_is_stay (fun vs H Q E h => ?_) fun cdv A outer s H vs Q E hr h => ?_) fun _ _ _ _ _ _ us hl => match us, hl with | [_], _ => rfl
  · obtain ⟨z, rfl, _⟩ := h
    rfl
  · obtain ⟨z, rfl, hz, h⟩ := h
    refine ⟨_, PSs.nox (pss_cons (ps_set (i := 1) sc_law_is_stay.nd rfl (Or.inl rfl) (pe_m1 PySem.F.slot_str_split PySem.F.type_str_split mt_split (pe_slice sl_str (pv 0) (po_some pe_int) po_none) pe_str))
  (pss_cons (ps_if (PW.pt (pw_orB (pt_cmpR op_ne (pe_slice sl_str (pv 0) po_none (po_some pe_int)) pe_str (nomark _)) (pw_orB (pt_cmpR op_ne (pe_callB (id := "len") call_len_seq (by rfl) T.z_len (by decide +kernel) (pa_cons (pv 1) pa_nil)) pe_int (nomark _)) (pw_or1 (pt_not (pt_val (c_fn O_law_is_name hr (by decide) T.g_law_is_name pass0 (pa_cons (pe_ix ix_list (pv 1) pe_int (fun _ _ => rfl)) pa_nil)))))))) (pss_one (ps_ret pe_bl))
  pss_nil)
  (pss_one (ps_ret (pe_cmpR op_gt (c_fn O_law_number hr (by decide) T.g_law_number pass0 (pa_cons (pe_ix ix_list (pv 1) pe_int (fun _ _ => rfl)) (pa_cons pe_int (pa_cons pe_int pa_nil)))) pe_int (nomark _)))))), ?_⟩
    have big : 100000 ≤ sizeLine := by decide
    have hi := st_iff z
    have go : ∀ b : Bool, (b = true ↔ isSt z) → ∀ H', Same H H' → Q (.bl b) H' := fun b e H' s => by
      rcases h with ⟨y, k⟩ | ⟨n, k⟩
      · rw [e.mpr y]; exact k H' s
      · rw [Bool.eq_false_iff.mpr fun x => n (e.mp x)]; exact k H' s
    have hcl : (cutS z (some 2) none).length ≤ z.length := by
      have h4 : z = cutS z none (some 2) ++ cutS z (some 2) none := cutS_both z 2
      have h5 : z.length = (cutS z none (some 2) ++ cutS z (some 2) none).length := congrArg Str.length h4
      rw [Str.length_append] at h5
      omega
    obtain ⟨zb, hzb⟩ : ∃ zb, zb = cutS z (some 2) none := ⟨_, rfl⟩
    rw [← hzb] at hi hcl
    refine ⟨_, rfl, 2, rfl, z, rfl, by omega, ⟨_, rfl⟩, zb, " ", congrArg V.str hzb.symm, rfl, by decide, by omega, fun p1 n1 => ?_⟩
    have sA := same_new (o := .lst ((Txt.split zb " ").map V.str)) n1
    have hA := upd_same (H := H) (a := p1) (o := .lst ((Txt.split zb " ").map V.str))
    show tSeq _ _ _ _ (upd H p1 (.lst ((Txt.split zb " ").map V.str)))
    generalize upd H p1 (.lst ((Txt.split zb " ").map V.str)) = HA at sA hA ⊢
    refine ⟨_, rfl, 2, rfl, z, rfl, by omega, rfl, _, rfl, ?_⟩
    by_cases ha : cutS z none (some 2) = "  "
    · rw [show decide (V.str (cutS z none (some 2)) = V.str "  ") = true from decide_eq_true (by rw [ha])]
      obtain ⟨L, hL, hL2⟩ : ∃ L : Int, L = (((Txt.split zb " ").map V.str).length : Int) ∧ L = ((Txt.split zb " ").length : Int) := ⟨_, rfl, by rw [List.length_map]⟩
      by_cases h2 : (Txt.split zb " ").length = 2
      · obtain ⟨a, b, hsp⟩ : ∃ a b, Txt.split zb " " = [a, b] := by
          match Txt.split zb " ", h2 with
          | [a, b], _ => exact ⟨a, b, rfl⟩
        have la : a.length ≤ 40000 := by
          have := PyProof.Rows.part_short (x := zb) (y := " ") (a := a) (by rw [hsp]; simp)
          omega
        rw [hsp] at hA
        refine ⟨!(nmB a), fun H' => Same HA H', fun _ => ⟨_, rfl, p1, [.str a, .str b], rfl, .inl (SqL.of hA), rfl, _, rfl, ?_⟩, (fun c => Bool.noConfusion c), fun H1 s1 => ?_⟩
        · refine ⟨!(nmB a), fun H' => Same HA H', fun _ => ⟨_, rfl, p1, [.str a, .str b], 0, .str a, rfl, rfl, SqL.of hA, rfl, a, rfl, la, fun H' s' => ⟨_, rfl, rfl, s'⟩⟩, (fun c => Bool.noConfusion c), fun H1 s1 => ⟨rfl, s1⟩⟩
        · have hA1 := s1 _ _ hA
          cases hn : nmB a with
          | false =>
            refine iteT (go false ⟨(fun c => Bool.noConfusion c), fun hs => ?_⟩ _ (sA.trans s1))
            obtain ⟨_, a', b', e, e2, _⟩ := hi.mp hs
            rw [hsp] at e
            cases e
            rw [hn] at e2
            exact e2
          | true =>
            refine iteF ⟨_, rfl, p1, [.str a, .str b], 1, .str b, rfl, rfl, SqL.of hA1, rfl, ?_⟩
            by_cases hd : ∃ n : Int, 1 ≤ n ∧ n ≤ 6 ∧ b = dgS n
            · obtain ⟨n, n1, n6, eb⟩ := hd
              refine ⟨b, 1, 6, rfl, by decide, by decide, by decide, .inl ⟨n, n1, n6, eb, n, 0, rfl, rfl, ?_⟩⟩
              have := go true ⟨fun _ => hi.mpr ⟨ha, a, b, hsp, hn, n, n1, n6, eb⟩, fun _ => rfl⟩ _ (sA.trans s1)
              rw [show true = decide ((0 : Int) < n) from (decide_eq_true (by omega)).symm] at this
              exact this
            · refine ⟨b, 1, 6, rfl, by decide, by decide, by decide, .inr ⟨fun n n0 n7 e => hd ⟨n, n0, n7, e⟩, -1, 0, rfl, rfl, ?_⟩⟩
              refine go false ⟨(fun c => Bool.noConfusion c), fun hs => ?_⟩ _ (sA.trans s1)
              obtain ⟨_, a', b', e, _, n, n1, n6, e2⟩ := hi.mp hs
              rw [hsp] at e
              cases e
              exact absurd ⟨n, n1, n6, e2⟩ hd
      · refine ⟨true, fun H' => H' = HA, fun _ => ⟨_, rfl, p1, _, rfl, .inl (SqL.of hA), rfl, _, rfl, ?_⟩, (fun c => Bool.noConfusion c), fun H1 e => ?_⟩
        · show ∃ d R, _
          rw [decide_eq_false (fun e => h2 (by have := V.int.inj e; rw [List.length_map] at this; omega))]
          exact ⟨true, (· = HA), (fun c => Bool.noConfusion c), fun _ => rfl, fun H1 e => ⟨rfl, e⟩⟩
        · subst e
          refine iteT (go false ⟨(fun c => Bool.noConfusion c), fun hs => ?_⟩ _ sA)
          obtain ⟨_, a', b', e, _⟩ := hi.mp hs
          rw [e] at h2
          exact absurd rfl h2
    · rw [show decide (V.str (cutS z none (some 2)) = V.str "  ") = false from decide_eq_false fun e => ha (V.str.inj e)]
      refine ⟨true, fun H' => H' = HA, (fun c => Bool.noConfusion c), fun _ => rfl, fun H1 e => ?_⟩
      subst e
      exact iteT (go false ⟨(fun c => Bool.noConfusion c), fun hs => absurd (hi.mp hs).1 ha⟩ _ sA)
end
end K39

set_option Elab.async false
set_option linter.all false
set_option pp.deepTerms.threshold 14
set_option pp.maxSteps 2500
set_option maxRecDepth 100000
set_option maxHeartbeats 2000000
namespace K39
open PySem PySem.Spec PyProof.Rows L2 Vf
section
variable {P : Program} {w : World} {K : PySem.W.Frag} {mg : Str → Option Value} {base : Heap}
noncomputable def wrV : Option Nat → V
  | none => .non
  | some n => .int (n : Int)
theorem ph_iff (z : Str) : (∃ m : _root_.Fin 8, z = phL m.val) ↔ (cutS z none (some 10) = "run phase " ∧ ∃ n : Int, 0 ≤ n ∧ n ≤ 7 ∧ cutS z (some 10) none = dgS n) := by
  have l2 : ("run phase " : Str).length = 10 := by decide +kernel
  constructor
  · rintro ⟨m, rfl⟩
    have hm := m.isLt
    have e1 : cutS (("run phase " : Str) ++ dgS (m.val : Int)) none (some 10) = "run phase " := cutS_up l2
    have e2 : cutS (("run phase " : Str) ++ dgS (m.val : Int)) (some 10) none = dgS (m.val : Int) := cutS_fr l2
    exact ⟨e1, (m.val : Int), by omega, by omega, e2⟩
  · rintro ⟨e1, n, n0, n7, e2⟩
    have h5 : z = cutS z none (some 10) ++ cutS z (some 10) none := cutS_both z 10
    rw [e1, e2] at h5
    refine ⟨⟨n.toNat, by omega⟩, ?_⟩
    rw [h5]
    unfold phL dgS
    rw [show ((n.toNat : Nat) : Int) = n by omega]
theorem sc_law_wrong_line : FnScope ["_law_text", "_law_lines", "_law_k"] ["_law_text"] (defScope s_law_wrong_line) := ⟨rfl, rfl, rfl, by decide +kernel, rfl, by decide +kernel, by decide +kernel⟩
-- slots: 0 _law_text, 1 _law_lines, 2 _law_k
def spWrl : Sp := fun vs H Q _ => ∃ x, vs = [x] ∧ ((OddS H x ∧ Q (.int 0) H) ∨ ∃ z : Str, x = .str z ∧ z.length + 2 ≤ sizeLine ∧ ∀ H', Same H H' → Q (wrV (wrZ z)) H')
theorem ok_law_wrong_line {fd : FuncData} (F : FnD K ("_law_wrong_line", none) "_law_wrong_line" "_law_wrong_line" s_law_wrong_line fd) (T : Txt K mg) (O_law_number : OkF P w K mg base CX0 1 "_law_number" ["_law_word", "_law_low", "_law_high"] spNum)
    (O_law_is_stay : OkF P w K mg base CX0 2 "_law_is_stay" ["_law_line"] spIsst) (O_law_is_looks : OkF P w K mg base CX0 2 "_law_is_looks" ["_law_line"] spIslk) : OkF P w K mg base CX0 3 "_law_wrong_line" ["_law_text"] spWrl := by
  refine okd F (F.ok sc_law_wrong_line (fun vs H Q E h => ?_) fun cdv A outer s H vs Q E hr h => ?_) fun _ _ _ _ _ _ us hl => match us, hl with | [_], _ => rfl
  · obtain ⟨x, rfl, _⟩ := h
    rfl
  · obtain ⟨x, rfl, h⟩ := h
    refine ⟨_, PSs.nox (pss_cons (ps_if (PW.pt (pw_orB (pt_not (pt_val (pe_callB (id := "isinstance") call_isi (by rfl) T.z_isinstance (by decide +kernel) (pa_cons (pv 0) (pa_cons (pe_ty (n := "str") T.z_str (by decide +kernel)) pa_nil))))) (pw_or1 (pt_cmpR op_gt (pe_callB call_len_str (by rfl) T.z_len (by decide +kernel) (pa_cons (pv 0) pa_nil)) pe_int (nomark _))))) (pss_one (ps_ret pe_int))
  pss_nil)
  (pss_cons (ps_set (i := 1) sc_law_wrong_line.nd rfl (Or.inl rfl) (pe_m1 PySem.F.slot_str_split PySem.F.type_str_split mt_split (pv 0) pe_str))
  (pss_cons (ps_if (PW.pt (pw_orB (pt_cmpR op_ne (pe_slice sl_str (pe_ix ix_list (pv 1) pe_int (fun _ _ => rfl)) po_none (po_some pe_int)) pe_str (nomark _)) (pw_or1 (pt_cmpR op_lt (c_fn O_law_number hr (by decide) T.g_law_number pass0 (pa_cons (pe_slice sl_str (pe_ix ix_list (pv 1) pe_int (fun _ _ => rfl)) (po_some pe_int) po_none) (pa_cons pe_int (pa_cons pe_int pa_nil)))) pe_int (nomark _))))) (pss_one (ps_ret pe_int))
  pss_nil)
  (pss_cons (ps_for PassesOwn.never rfl (pi_range2 rfl T.z_range (pa_cons pe_int (pa_cons (pe_callB (id := "len") call_len_seq (by rfl) T.z_len (by decide +kernel) (pa_cons (pv 1) pa_nil)) pa_nil))) (pg_name (i := 2) sc_law_wrong_line.nd rfl (Or.inl rfl))
  (pss_cons (ps_if (pt_not (pt_val (c_fn O_law_is_stay hr (by decide) T.g_law_is_stay pass0 (pa_cons (pe_ix ix_list (pv 1) (pv 2) (fun _ _ => rfl)) pa_nil)))) (pss_cons (ps_if (PW.pt (pw_orB (pt_cmpR op_eq (pv 2) pe_int (nomark _)) (pw_or1 (pt_not (pt_val (c_fn O_law_is_looks hr (by decide) T.g_law_is_looks pass0 (pa_cons (pe_ix ix_list (pv 1) (pv 2) (fun _ _ => rfl)) pa_nil))))))) (pss_one (ps_ret (pe_op op_add (pv 2) pe_int)))
  pss_nil)
  (pss_cons (ps_if (pt_cmpR op_lt (pe_op op_add (pv 2) pe_int) (pe_callB (id := "len") call_len_seq (by rfl) T.z_len (by decide +kernel) (pa_cons (pv 1) pa_nil)) (nomark _)) (pss_one (ps_ret (pe_op op_add (pv 2) pe_int)))
  pss_nil)
  (pss_one (ps_ret pe_non))))
  pss_nil)
  (pss_one (ps_if (pt_cmpR op_gt (pv 2) pe_int (nomark _)) (pss_one (ps_ret (pe_op op_add (pv 2) pe_int)))
  pss_nil))))
  (pss_one (ps_ret (pe_op op_add (pe_callB (id := "len") call_len_seq (by rfl) T.z_len (by decide +kernel) (pa_cons (pv 1) pa_nil)) pe_int))))))), ?_⟩
    rcases h with ⟨o, q⟩ | ⟨z, rfl, hz, k⟩
    · obtain ⟨n, t1, k1⟩ := oddS_ty K o
      refine ⟨_, rfl, x, .ty "str", .type n, .type "str", false, rfl, .ty _, t1, kit_ty k1, false, rfl, false, (· = H), (fun c => Bool.noConfusion c), fun _ => rfl, fun H1 e => ?_⟩
      subst e
      exact iteT q
    have go : ∀ o, wrZ z = o → ∀ H', Same H H' → Q (wrV o) H' := fun o e H' s => e ▸ k H' s
    clear k
    refine ⟨_, rfl, .str z, .ty "str", .type "str", .type "str", true, rfl, .ty _, .base (.str _), kit_ty (by decide +kernel), true, rfl, decide ((40000 : Int) < (z.length : Int)), (· = H), fun _ => ⟨_, rfl, z, rfl, by omega, (z.length : Int), 40000, rfl, rfl, _, rfl, rfl, rfl⟩, (fun c => Bool.noConfusion c), fun H1 e => ?_⟩
    subst e
    by_cases hlong : 40000 < z.length
    · rw [decide_eq_true (by omega)]
      exact iteT (go (some 0) (by unfold wrZ; rw [if_pos hlong]) _ (Same.refl _))
    rw [decide_eq_false (by omega)]
    have ez1 : wrZ z = wrL (Txt.split z "\n") := by
      unfold wrZ
      rw [if_neg hlong]
    have hsh : ∀ w ∈ Txt.split z "\n", w.length ≤ 40000 := fun w hw => by
      have := PyProof.Rows.part_short hw
      omega
    obtain ⟨l0, r, hsp⟩ : ∃ l0 r, Txt.split z "\n" = l0 :: r := by
      cases e : Txt.split z "\n" with
      | nil =>
        have := PyProof.Rows.split_pos z "\n"
        rw [e] at this
        exact absurd this (by decide)
      | cons a b => exact ⟨a, b, rfl⟩
    have hrl : r.length ≤ 50000 := by
      have := PyProof.Rows.split_le z "\n"
      rw [hsp, List.length_cons] at this
      omega
    have big : 100000 ≤ sizeLine := by decide
    refine iteF ⟨_, rfl, ⟨_, rfl⟩, z, "\n", rfl, rfl, by decide, by omega, fun LI nLI => ?_⟩
    have sA := same_new (o := .lst ((Txt.split z "\n").map V.str)) nLI
    have hA := upd_same (H := H1) (a := LI) (o := .lst ((Txt.split z "\n").map V.str))
    show tSeq _ _ _ _ (upd H1 LI (.lst ((Txt.split z "\n").map V.str)))
    generalize upd H1 LI (.lst ((Txt.split z "\n").map V.str)) = H2 at sA hA ⊢
    rw [hsp] at hA hsh ez1
    have h0 := hsh l0 List.mem_cons_self
    have hp := ph_iff l0
    have bad : ¬ (∃ m : _root_.Fin 8, l0 = phL m.val) → wrZ z = some 1 := fun hn => by
      rw [ez1]
      rw [wrL, if_neg hn]
    have hcl : (cutS l0 (some 10) none).length ≤ l0.length := by
      have h4 : l0 = cutS l0 none (some 10) ++ cutS l0 (some 10) none := cutS_both l0 10
      have h5 : l0.length = (cutS l0 none (some 10) ++ cutS l0 (some 10) none).length := congrArg Str.length h4
      rw [Str.length_append] at h5
      omega
    refine ⟨_, rfl, LI, _, 0, .str l0, rfl, rfl, SqL.of hA, atI0, 10, rfl, l0, rfl, by omega, rfl, _, rfl, ?_⟩
    by_cases ha : cutS l0 none (some 10) = "run phase "
    · rw [show decide (V.str (cutS l0 none (some 10)) = V.str "run phase ") = true from decide_eq_true (by rw [ha])]
      by_cases hd : ∃ n : Int, 0 ≤ n ∧ n ≤ 7 ∧ cutS l0 (some 10) none = dgS n
      · have ez : wrZ z = wrF 1 r := by
          rw [ez1]
          rw [wrL, if_pos (hp.mpr ⟨ha, hd⟩)]
        obtain ⟨n, n0, n7, en⟩ := hd
        refine ⟨false, (· = H2), fun _ => ⟨_, rfl, LI, _, 0, .str l0, rfl, rfl, SqL.of hA, atI0, 10, rfl, l0, rfl, by omega, _, 0, 7, rfl, by decide, by decide, by decide, .inl ⟨n, n0, n7, en, n, 0, rfl, rfl, _, rfl, decide_eq_false (by omega), rfl⟩⟩, (fun c => Bool.noConfusion c), fun H3 e => ?_⟩
        subst e
        have el : (((l0 :: r).map V.str).length : Int) = (r.length : Int) + 1 := by rw [List.length_map, List.length_cons]; rfl
        obtain ⟨M, hM⟩ : ∃ M : Int, M = (((l0 :: r).map V.str).length : Int) := ⟨_, rfl⟩
        rw [← hM] at el
        refine iteF ⟨_, rfl, LI, _, rfl, .inl (SqL.of hA), 1, M, by rw [hM], ⟨by decide, by decide, by omega, by omega⟩, for_range (lo := 1) (n := (M - 1).toNat) (fun i σ H' => i ≤ r.length ∧ Same H3 H' ∧ wrF 1 r = wrF (1 + i) (r.drop i) ∧ ∃ v, σ = [some (.str z), some (.ref LI), v]) ⟨Nat.zero_le _, Same.refl _, rfl, none, rfl⟩ ?_ ?_⟩
        · rintro i σ H4 hi ⟨hir, s4, hw, v, rfl⟩
          have hir2 : i < r.length := by omega
          have hlj : r[i]? = some r[i] := List.getElem?_eq_getElem hir2
          have hdr : r.drop i = r[i] :: r.drop (i + 1) := List.drop_eq_getElem_cons hir2
          generalize r[i] = l at hlj hdr
          have hll := hsh l (List.mem_cons_of_mem _ (List.mem_of_getElem? hlj))
          have hix : atI ((l0 :: r).map V.str) (1 + (i : Int)) = some (.str l) := by
            have e1 : (1 + (i : Int)) = ((i + 1 : Nat) : Int) := by omega
            rw [e1]
            refine atI_nat ?_
            rw [List.getElem?_map, List.getElem?_cons_succ, hlj]
            rfl
          have hA4 := s4 _ _ hA
          rw [hdr] at hw
          refine ⟨_, rfl, _, rfl, LI, _, 1 + (i : Int), .str l, rfl, rfl, SqL.of hA4, hix, l, rfl, hll, ?_⟩
          by_cases hst : isSt l
          · refine .inl ⟨hst, fun H5 s5 => ⟨_, rfl, ?_⟩⟩
            have s6 := s4.trans s5
            refine iteF ⟨_, rfl, _, 2000, rfl, rfl, _, rfl, ?_⟩
            by_cases hk : 2000 < 1 + i
            · rw [decide_eq_true (by omega)]
              refine iteT ⟨_, rfl, 1 + (i : Int), 1, rfl, rfl, ?_⟩
              have := go (some (1 + i + 1)) (by rw [ez, hw]; exact wrF_far hst hk) _ (sA.trans s6)
              exact this
            · rw [decide_eq_false (by omega)]
              exact iteF ⟨hir2, s6, by rw [hw, wrF_st hst (by omega)]; rfl, _, rfl⟩
          · refine .inr ⟨hst, fun H5 s5 => ⟨_, rfl, ?_⟩⟩
            have s6 := s4.trans s5
            refine iteT ⟨_, rfl, rfl, _, rfl, ?_⟩
            by_cases hi0 : i = 0
            · rw [show decide (V.int (1 + (i : Int)) = V.int 1) = true from decide_eq_true (by rw [hi0]; rfl)]
              refine ⟨true, (· = H5), (fun c => Bool.noConfusion c), fun _ => rfl, fun H6 e => ?_⟩
              subst e
              refine iteT ⟨_, rfl, 1 + (i : Int), 1, rfl, rfl, ?_⟩
              have := go (some (1 + i + 1)) (by rw [ez, hw]; exact wrF_no hst (.inl (by omega))) _ (sA.trans s6)
              exact this
            · rw [show decide (V.int (1 + (i : Int)) = V.int 1) = false from decide_eq_false fun e => hi0 (by have := V.int.inj e; omega)]
              by_cases hlk : isLk l
              · refine ⟨false, fun H' => Same H5 H', fun _ => ⟨_, rfl, _, rfl, LI, _, 1 + (i : Int), .str l, rfl, rfl, SqL.of (s5 _ _ hA4), hix, l, rfl, hll, .inl ⟨hlk, fun H6 s7 => ⟨_, rfl, rfl, s7⟩⟩⟩, (fun c => Bool.noConfusion c), fun H6 s7 => ?_⟩
                have s8 := s6.trans s7
                refine iteF ⟨_, rfl, _, 1, rfl, rfl, _, rfl, LI, _, rfl, .inl (SqL.of (s8 _ _ hA)), _, M, rfl, by rw [hM], _, rfl, ?_⟩
                by_cases hmore : 1 + (i : Int) + 1 < M
                · rw [decide_eq_true hmore]
                  refine iteT ⟨_, rfl, 1 + (i : Int), 2, rfl, rfl, ?_⟩
                  have hne : r.drop (i + 1) ≠ [] := fun e => by
                    have := congrArg List.length e
                    rw [List.length_drop] at this
                    simp at this
                    omega
                  have := go (some (1 + i + 2)) (by rw [ez, hw]; exact wrF_more hlk (by omega) hne) _ (sA.trans s8)
                  exact this
                · rw [decide_eq_false hmore]
                  have hnil : r.drop (i + 1) = [] := List.drop_eq_nil_of_le (by omega)
                  rw [hnil] at hw
                  exact iteF (go none (by rw [ez, hw]; exact wrF_end hlk (by omega)) _ (sA.trans s8))
              · refine ⟨true, fun H' => Same H5 H', fun _ => ⟨_, rfl, _, rfl, LI, _, 1 + (i : Int), .str l, rfl, rfl, SqL.of (s5 _ _ hA4), hix, l, rfl, hll, .inr ⟨hlk, fun H6 s7 => ⟨_, rfl, rfl, s7⟩⟩⟩, (fun c => Bool.noConfusion c), fun H6 s7 => ?_⟩
                refine iteT ⟨_, rfl, 1 + (i : Int), 1, rfl, rfl, ?_⟩
                have := go (some (1 + i + 1)) (by rw [ez, hw]; exact wrF_no hst (.inr hlk)) _ (sA.trans (s6.trans s7))
                exact this
        · rintro σ H4 ⟨hir, s4, hw, v, rfl⟩
          have en : (M - 1).toNat = r.length := by omega
          rw [en, List.drop_length] at hw
          refine ⟨_, rfl, LI, _, rfl, .inl (SqL.of (s4 _ _ hA)), M, 1, by rw [hM], rfl, ?_⟩
          have : Q (.int ((1 + r.length + 1 : Nat) : Int)) H4 := go (some (1 + r.length + 1)) (by rw [ez, hw]; rfl) _ (sA.trans s4)
          rw [show ((1 + r.length + 1 : Nat) : Int) = M + 1 by omega] at this
          exact this
      · refine ⟨true, (· = H2), fun _ => ⟨_, rfl, LI, _, 0, .str l0, rfl, rfl, SqL.of hA, atI0, 10, rfl, l0, rfl, by omega, _, 0, 7, rfl, by decide, by decide, by decide, .inr ⟨fun n n0 n7 e => hd ⟨n, n0, n7, e⟩, -1, 0, rfl, rfl, _, rfl, decide_eq_true (by decide), rfl⟩⟩, (fun c => Bool.noConfusion c), fun H3 e => ?_⟩
        subst e
        exact iteT (go (some 1) (bad fun hm => hd (hp.mp hm).2) _ sA)
    · rw [show decide (V.str (cutS l0 none (some 10)) = V.str "run phase ") = false from decide_eq_false fun e => ha (V.str.inj e)]
      refine ⟨true, (· = H2), (fun c => Bool.noConfusion c), fun _ => rfl, fun H3 e => ?_⟩
      subst e
      exact iteT (go (some 1) (bad fun hm => ha (hp.mp hm).1) _ sA)
structure WTxt (K : PySem.W.Frag) (mg : Str → Option Value) : Prop extends Txt K mg where
  hn : PySem.W.specialIn K (.builtin "object.__class__") "__get__" = some (some (.builtin "getset_descriptor.__get__"))
  ht : PySem.W.takesIn K (.builtin "object.__class__") = some true
  g_SeenError : mg "SeenError" = some (.ref (He.ga K "SeenError"))
  x1 : PySem.W.exmOne K (.ref (He.ga K "BadText")) (.ref (He.ga K "BadText")) = some true
  p1 : PySem.W.kitOne K (.ref (He.ga K "BadText")) (.ref (He.ga K "SeenError")) = some true
  p2 : PySem.W.kitOne K (.ref (He.ga K "BadText")) (.ref (He.ga K "BadRun")) = some false
theorem WTxt.xf {K : PySem.W.Frag} {mg : Str → Option Value} (T : WTxt K mg) : XfC K (He.ga K "BadText") := ⟨T.x_BadText.d.ga, T.x_BadText.d.gg, T.x_BadText.d.o.exC, T.x_BadText.d.hd⟩
theorem sc_law_read : FnScope ["_law_text", "_law_outcome", "e"] ["_law_text"] (defScope s_law_read) := ⟨rfl, rfl, rfl, by decide +kernel, rfl, by decide +kernel, by decide +kernel⟩
-- slots: 0 _law_text, 1 _law_outcome, 2 e
/-- what _law_read tells of x -/
def RdO (H : Hp) (Q : V → Hp → Prop) (x : V) : Prop := (OddS H x ∧ ∀ H' q, Same H H' → H q = none → H' q = some (.tup [.str "refused", .int 0, .bl true, .bl false]) → Q (.ref q) H') ∨
  ∃ z : Str, x = .str z ∧ z.length + 2 ≤ sizeLine ∧ (∀ n : Nat, wrZ z = some n → ∀ H' q, Same H H' → H q = none → H' q = some (.tup [.str "refused", .int (n : Int), .bl true, .bl false]) → Q (.ref q) H') ∧
  ∀ (m : _root_.Fin 8) (ss : List (Str × Int)) (ls : List (Option Int)), wrZ z = none → RnOk z m ss ls → ∀ H' q p S L, Same H H' → H q = none → H' q = some (.tup [.str "told", .ref p]) → H' p = some (.tup [.int (m.val : Int), .ref S, .ref L]) → StsA H' S ss → H' L = some (.lst (ls.map lkT)) → Q (.ref q) H'
def spLrd (K : PySem.W.Frag) : Sp := fun vs H Q _ => ∃ x, vs = [x] ∧ RdO H Q x
theorem ok_law_read {fd : FuncData} (F : FnD K ("_law_read", none) "_law_read" "_law_read" s_law_read fd) (T : WTxt K mg) (O_read_run : OkF P w K mg base (L2.CX P w) 6 "read_run" ["text"] (spRd K)) : OkF P w K mg base CX0 7 "_law_read" ["_law_text"] (spLrd K) := by
  refine okd F (F.ok sc_law_read (fun vs H Q E h => ?_) fun cdv A outer s H vs Q E hr h => ?_) fun _ _ _ _ _ _ us hl => match us, hl with | [_], _ => rfl
  · obtain ⟨x, rfl, _⟩ := h
    rfl
  · obtain ⟨x, rfl, h⟩ := h
    refine ⟨_, PSs.nox (pss_cons (ps_try_as (i := 2) (Wout := fun _ _ _ _ => False) rfl rfl sc_law_read.nd rfl rfl ⟨rfl, by decide, Or.inl T.g_BadText⟩ takes0 (fun W pn xe tk _ => (pss_one (ps_set (i := 1) sc_law_read.nd rfl (Or.inl rfl) (pe_tup (pa_cons pe_str (pa_cons (c_fn O_read_run hr (by decide) T.g_read_run (passAny 3 tk) (pa_cons (pv 0) pa_nil)) pa_nil)))))) (fun a oe cls d pn hz hf => (pss_one (ps_set (i := 1) sc_law_read.nd rfl (Or.inl rfl) (pe_tup (pa_cons pe_str (pa_cons (pe_xf T.xf T.x_BadText.n hz hf (pv 2)) (pa_cons (pe_callB (call_isiE rfl T.x_BadText.d T.hn T.ht hz hf) (by rfl) T.z_isinstance (by decide +kernel) (pa_cons (pv 2) (pa_cons (pe_cl T.g_SeenError) pa_nil))) (pa_cons (pe_callB (call_isiE rfl T.x_BadText.d T.hn T.ht hz hf) (by rfl) T.z_isinstance (by decide +kernel) (pa_cons (pv 2) (pa_cons (pe_cl T.g_BadRun) pa_nil))) pa_nil)))))))))
  (pss_one (ps_ret (pv 1)))), ?_⟩
    have li : ∀ v : V, List.lookup ("line" : Str) [(("line" : Str), v)] = some v := fun v => by simp [List.lookup]
    refine ⟨_, rfl, ?_⟩
    unfold tNil
    dsimp only [List.nil_append, List.cons_append]
    have wr : ∀ (Q' : VK) (E' : XK), (∀ n : Int, (∀ H' q, Same H H' → H q = none → H' q = some (.tup [.str "refused", .int n, .bl true, .bl false]) → Q (.ref q) H') → ErT K E' H n) → (∀ (m : _root_.Fin 8) (ss : List (Str × Int)) (ls : List (Option Int)), (∀ H' q p S L, Same H H' → H q = none → H' q = some (.tup [.str "told", .ref p]) → H' p = some (.tup [.int (m.val : Int), .ref S, .ref L]) → StsA H' S ss → H' L = some (.lst (ls.map lkT)) → Q (.ref q) H') → ∀ H' p S L, Same H H' → H p = none → H' p = some (.tup [.int (m.val : Int), .ref S, .ref L]) → StsA H' S ss → H' L = some (.lst (ls.map lkT)) → Q' (.ref p) H') → spRd K [x] H Q' E' := fun Q' E' h1 h2 => by
      refine ⟨x, rfl, ?_⟩
      rcases h with ⟨o, k⟩ | ⟨z, rfl, hz, k1, k2⟩
      · exact .inl ⟨o, h1 0 k⟩
      · exact .inr ⟨z, rfl, hz, fun n e => h1 (n : Int) (k1 n e), fun m ss ls e ok => h2 m ss ls (k2 m ss ls e ok)⟩
    refine wr _ _ (fun n k H1 d s1 nd => ?_) (fun m ss ls k H' p S L s1 np hp hS hL => ?_)
    · intro σ hσ
      have s8 : ∀ a : Addr, (σ.set 2 (some (V.ref a)))[2]? = some (some (V.ref a)) := fun a => List.getElem?_set_self (by omega)
      have sm2 := s1.trans (same_new (o := .xd [("line", .int n)]) nd)
      refine ⟨true, T.x1, fun _ a na => ?_, fun z => Bool.noConfusion z⟩
      refine ⟨_, s8 a, rfl, rfl, d, _, _, rfl, upd_same, li _, _, s8 a, _, _, true, rfl, rfl, .own _, T.p1, ⟨d, _, rfl, upd_same⟩, _, s8 a, _, _, false, rfl, rfl, .own _, T.p2, ⟨d, _, rfl, upd_same⟩, (by show 4 ≤ sizeLine; decide), fun q nq => ⟨_, ?_, k _ q (sm2.trans (same_new nq)) (none_of sm2 nq) upd_same⟩⟩
      rw [List.getElem?_set_ne (by decide), List.getElem?_set_self (by rw [List.length_set]; omega)]
    · exact ⟨(by show 2 ≤ sizeLine; decide), fun q nq => ⟨_, rfl, k _ q p S L (s1.trans (same_new nq)) (none_of s1 nq) upd_same (same_new nq _ _ hp) (hS.ext (same_new nq)) (same_new nq _ _ hL)⟩⟩
end
end K39

set_option Elab.async false
set_option linter.all false
set_option pp.deepTerms.threshold 14
set_option pp.maxSteps 2500
set_option maxRecDepth 100000
set_option maxHeartbeats 2000000
namespace K39
open PySem PySem.Spec PyProof.Rows L2 Vf
section
variable {P : Program} {w : World} {K : PySem.W.Frag} {mg : Str → Option Value} {base : Heap}
theorem rep_size (a : Array Nat) : ∀ (n : Nat) (acc : Array Nat), ((List.replicate n a).foldl (· ++ ·) acc).size = acc.size + n * a.size
  | 0, acc => by simp
  | n + 1, acc => by
    rw [List.replicate_succ, List.foldl_cons, rep_size a n, Array.size_append, Nat.succ_mul]
    omega
theorem strN_len (z : Str) (n : Nat) : (strN z n).length = n * z.length := by
  show ((List.replicate n z.cps).foldl (· ++ ·) #[]).size = n * z.cps.size
  rw [rep_size]
  simp
/-- text * int, of what length a bound tells -/
def rMulA : R2 := fun x y H Q => ∃ (z : Str) (k : Int), x = .str z ∧ y = .int k ∧ z.length = 1 ∧ -(2 ^ 40) ≤ k ∧ k ≤ 100000 ∧ ∀ w : Str, w.length ≤ 100000 → Q (.str w) H
theorem op_mulA {X : Cx} : OpR X (binaryOp .Mult) rMulA := by
  intro pins s σ H x y v u Q I rx ry h
  obtain ⟨z, k, rfl, rfl, z1, k0, k1, q⟩ := h
  obtain ⟨t, rfl⟩ := rx
  obtain ⟨t', rfl⟩ := ry
  have big : 200000 ≤ sizeLine := by decide
  refine PySem.P.mul_str ?_ (fun h1 _ => ?_) (fun _ _ => ?_) ?_
  · rw [decide_eq_false (by omega), decide_eq_false (by omega)]
    rfl
  · rw [z1]
    have : ((2 ^ 63 - 1 : Int)) / k ≥ 1 := by
      refine Int.le_ediv_of_mul_le (by omega) ?_
      omega
    intro h
    have h : ((1 : Nat) : Int) > (2 ^ 63 - 1) / k := h
    omega
  · show decide _ = false
    rw [z1]
    exact decide_eq_false (by omega)
  · by_cases h1 : k < 1
    · rw [if_pos h1]
      exact ⟨by decide, .str _, H, I.tok _, ⟨_, rfl⟩, q _ (by decide)⟩
    · rw [if_neg h1]
      by_cases h2 : (k == 1 || z.length == 0) = true
      · rw [if_pos h2]
        exact ⟨.str z, H, I, ⟨_, rfl⟩, q z (by omega)⟩
      · rw [if_neg h2]
        have hl : (strN z k.toNat).length = k.toNat := by
          rw [strN_len, z1, Nat.mul_one]
        exact ⟨by show (strN z k.toNat).length ≤ sizeLine; omega, .str _, H, I.tok _, ⟨_, rfl⟩, q (strN z k.toNat) (by omega)⟩
theorem StsA.x {H H' : Hp} {S d : Addr} {m : Int} {sts : List (Str × Int)} (h : StsA H S sts) (hd : H d = some (.lst [.int m])) (s : SameX d H H') : StsA H' S sts := by
  obtain ⟨rs, h1, h2⟩ := h
  refine ⟨rs, s _ _ (fun e => ?_) h1, paired_imp (fun r p q => s _ _ (fun e => ?_) q) h2⟩
  · subst e
    rw [hd] at h1
    cases rs with
    | nil => cases h1
    | cons r rs => cases h1
  · subst e
    rw [hd] at q
    cases q
theorem StsA.lst {H : Hp} {S d : Addr} {xs : List V} {o : HO} {sts : List (Str × Int)} (h : StsA H S sts) (hd : H d = some (.lst xs)) (n : S ≠ d) : StsA (upd H d o) S sts := by
  obtain ⟨rs, h1, h2⟩ := h
  refine ⟨rs, by rw [upd_ne n]; exact h1, paired_imp (fun r p q => ?_) h2⟩
  rw [upd_ne (fun e => ?_)]
  · exact q
  · subst e
    rw [hd] at q
    cases q
theorem none_ofX {d : Addr} {H H1 : Hp} {a : Addr} {o : HO} (s : SameX d H H1) (hd : H1 d = some o) (n : H1 a = none) : H a = none := by
  cases e : H a with
  | none => rfl
  | some u =>
    have := s _ _ (ne_of_none hd n).symm e
    rw [n] at this
    cases this
theorem cutV_0 {x : V} {xs : List V} : cutV (x :: xs) none (some 1) = [x] := by
  unfold cutV
  have e1 : HT.sIx (x :: xs).length (x :: xs).length (some 1) = 1 := by
    unfold HT.sIx
    simp
  have e2 : HT.sIx (x :: xs).length 0 none = 0 := rfl
  rw [e1, e2, List.drop_zero]
  rfl
theorem rep_one {α : Type} {x : α} : ∀ {n : Nat}, (List.replicate n [x]).flatten = List.replicate n x
  | 0 => rfl
  | n + 1 => by
    rw [List.replicate_succ, List.flatten_cons, rep_one, List.replicate_succ]
    rfl
theorem paired_rep {α β : Type} {R : α → β → Prop} {a : α} {b : β} (r : R a b) : ∀ {n : Nat}, Paired R (List.replicate n a) (List.replicate n b)
  | 0 => .nil
  | n + 1 => by
    rw [List.replicate_succ, List.replicate_succ]
    exact .cons r (paired_rep r)
theorem atI_int {α : Type} {xs : List α} {r : Int} {v : α} (h0 : 0 ≤ r) (h : xs[r.toNat]? = some v) : atI xs r = some v := by
  have e : r = (r.toNat : Int) := by omega
  rw [e]
  exact atI_nat h
theorem same_x2 {d : Addr} {H H1 H2 : Hp} (s : Same H H1) (x : SameX d H1 H2) (n : H d = none) : Same H H2 := fun b o h => x b o (ne_of_none h n) (s b o h)
theorem cutS_list (z : Str) (n : Nat) : (cutS z none (some (n : Int))).cps.toList = z.cps.toList.take n := by
  unfold cutS
  have hl : z.cps.toList.length = z.length := by simp [Str.length]
  have e1 : HT.sIx z.length 0 none = 0 := rfl
  have e4 : HT.sIx z.length z.length (some (n : Int)) = min n z.length := by rw [HT.sIx_nat]
  rw [e1, e4]
  show List.take _ (List.drop 0 z.cps.toList) = _
  rw [List.drop_zero, Nat.sub_zero, ← hl]
  by_cases h : n ≤ z.cps.toList.length
  · rw [Nat.min_eq_left h]
  · rw [Nat.min_eq_right (by omega), List.take_of_length_le (Nat.le_refl _), List.take_of_length_le (by omega)]
theorem nm_q {z : Str} (h : nmB z = true) {r : Int} (r0 : 0 ≤ r) (r7 : r < 8) : nmB (cutS z none (some r) ++ "q") = true := by
  obtain ⟨n, rfl⟩ : ∃ n : Nat, r = (n : Int) := ⟨r.toNat, by omega⟩
  have hc := cutS_list z n
  have hl : (cutS z none (some (n : Int))).length = min n z.cps.toList.length := by
    have : (cutS z none (some (n : Int))).cps.toList.length = min n z.cps.toList.length := by rw [hc, List.length_take]
    rw [← this]
    simp [Str.length]
  have eq1 : ("q" : Str).cps.toList = [113] := by decide +kernel
  have hcl : (cutS z none (some (n : Int)) ++ ("q" : Str)).cps.toList = z.cps.toList.take n ++ [113] := by
    rw [Str.cps_append, Array.toList_append, hc, eq1]
  have hlen : (cutS z none (some (n : Int)) ++ ("q" : Str)).length = min n z.cps.toList.length + 1 := by
    rw [Str.length_append, hl]
    rfl
  unfold nmB at h ⊢
  simp only [Bool.and_eq_true, decide_eq_true_eq] at h ⊢
  obtain ⟨h1, h2, h3, h4⟩ := h
  refine ⟨by omega, by omega, ?_, ?_⟩
  · rw [inV_str, Bool.not_eq_true', decide_eq_false_iff_not]
    intro hk
    have hk2 : ∀ w ∈ KEPT, w.cps.toList.getLast? ≠ some 113 := by decide +kernel
    refine hk2 _ hk ?_
    rw [hcl, List.getLast?_append]
    rfl
  · rw [hcl, List.all_append, Bool.and_eq_true]
    refine ⟨List.all_eq_true.mpr fun c hc => List.all_eq_true.mp h4 c (List.mem_of_mem_take hc), by decide +kernel⟩
theorem sc_law_run : FnScope ["_law_draw", "_law_script", "_law_big", "_law_name_here", "_law_stays", "_law_k", "_law_looks"] ["_law_draw", "_law_script", "_law_big"] (defScope s_law_run) := ⟨rfl, rfl, rfl, by decide +kernel, rfl, by decide +kernel, by decide +kernel⟩
-- slots: 0 _law_draw, 1 _law_script, 2 _law_big, 3 _law_name_here, 4 _law_stays, 5 _law_k, 6 _law_looks
def spRun (K : PySem.W.Frag) : Sp := fun vs H Q _ => ∃ (d l : Addr) (n big : Int) (ns : List Int), vs = [.ref d, .ref l, .int big] ∧ H d = some (.lst [.int n]) ∧ SqL K H l (ns.map V.int) ∧ ns.length ≤ 63 ∧
  ∀ (H' : Hp) (p S L : Addr) (ss : List (Str × Int)) (ls : List (Option Int)), SameX d H H' → H' p = some (.lst [.ref S, .ref L]) → StsA H' S ss → H' L = some (.lst (ls.map lkT)) → (∀ s ∈ ss, SyOk s) → (∀ n, some n ∈ ls → 0 ≤ n ∧ n ≤ 7) → 1 ≤ ss.length → ss.length ≤ 2001 → 1 ≤ ls.length → ls.length ≤ 2001 → Q (.ref p) H'
theorem ok_law_run {fd : FuncData} (F : FnD K ("_law_run", none) "_law_run" "_law_run" s_law_run fd) (T : Txt K mg) (O_law_cell : OkF P w K mg base CX0 1 "_law_cell" ["_law_script", "_law_k"] (Vf.spCell K)) (O_law_take : OkF P w K mg base CX0 1 "_law_take" ["_law_draw", "_law_size"] spTake) (O_law_name : OkF P w K mg base CX0 2 "_law_name" ["_law_draw", "_law_used"] spNam) : OkF P w K mg base CX0 3 "_law_run" ["_law_draw", "_law_script", "_law_big"] (spRun K) := by
  refine okd F (F.ok sc_law_run (fun vs H Q E h => ?_) fun cdv A outer s H vs Q E hr h => ?_) fun _ _ _ _ _ _ us hl => match us, hl with | [_, _, _], _ => rfl
  · obtain ⟨d, l, n, big, ns, rfl, _⟩ := h
    rfl
  · obtain ⟨d, l, n, big, ns, rfl, hd, hS, hlen, k⟩ := h
    refine ⟨_, PSs.nox (pss_cons (ps_set (i := 3) sc_law_run.nd rfl (Or.inl rfl) (c_fn O_law_name hr (by decide) T.g_law_name pass0 (pa_cons (pe_lst (pa_cons (c_fn O_law_cell hr (by decide) T.g_law_cell pass0 (pa_cons (pv 1) (pa_cons pe_int pa_nil))) pa_nil)) (pa_cons (pe_lst pa_nil) pa_nil))))
  (pss_cons (ps_set (i := 4) sc_law_run.nd rfl (Or.inl rfl) (pe_lst pa_nil))
  (pss_cons (ps_for PassesOwn.never rfl (pi_range1 rfl T.z_range (pa_cons (pe_op op_add pe_int (c_fn O_law_take hr (by decide) T.g_law_take pass0 (pa_cons (pv 0) (pa_cons pe_int pa_nil)))) pa_nil)) (pg_name (i := 5) sc_law_run.nd rfl (Or.inl rfl))
  (pss_one (ps_expr (pe_bm PySem.F.plainAttrs_list PySem.F.slot_list_append PySem.F.type_list_append mt_append (pv 4) (pa_cons (pe_tup (pa_cons (pe_op op_add_str (pe_slice sl_str (pv 3) po_none (po_some (c_fn O_law_take hr (by decide) T.g_law_take pass0 (pa_cons (pv 0) (pa_cons pe_int pa_nil))))) pe_str) (pa_cons (pe_op op_add pe_int (c_fn O_law_take hr (by decide) T.g_law_take pass0 (pa_cons (pv 0) (pa_cons pe_int pa_nil)))) pa_nil))) pa_nil)))))
  (pss_cons (ps_setLc (i := 6) (own := [("_law_k", 5)]) (g := gName 5) (tt := tYes) (by rfl) sc_law_run.nd rfl rfl (sw_true rfl rfl rfl (by decide +kernel)) (pi_range1 rfl T.z_range (pa_cons (pe_op op_add pe_int (c_fn O_law_take hr (by decide) T.g_law_take pass0 (pa_cons (pv 0) (pa_cons pe_int pa_nil)))) pa_nil)) (blkOk_by (N := ["_law_draw", "_law_script", "_law_big", "_law_name_here", "_law_stays", "_law_k", "_law_looks"]) (sc := defScope s_law_run) (by decide +kernel)) (fun _ _ _ _ _ => (pg_name (i := 5) sc_law_run.nd rfl (Or.inl rfl))) (fun _ _ _ _ _ => pts_nil) (fun _ _ _ _ _ => (pe_ix (ix_listK (K := K) rfl) (pe_lst (pa_cons pe_non (pa_cons pe_int (pa_cons pe_int (pa_cons pe_int (pa_cons pe_int (pa_cons pe_int (pa_cons pe_int (pa_cons pe_int (pa_cons pe_int pa_nil)))))))))) (c_fn O_law_take hr (by decide) T.g_law_take pass0 (pa_cons (pv 0) (pa_cons pe_int pa_nil))) (fun _ _ => rfl))))
  (C8.pss_cut (ps_if (pt_cmpR op_eq (pv 2) pe_int (nomark _)) (pss_one (ps_set (i := 4) sc_law_run.nd rfl (Or.inl rfl) (pe_op op_rep (pe_slice sl_list (pv 4) po_none (po_some pe_int)) (pe_op op_add pe_int (c_fn O_law_take hr (by decide) T.g_law_take pass0 (pa_cons (pv 0) (pa_cons pe_int pa_nil)))))))
  pss_nil)
  (C8.pss_cut (ps_if (pt_cmpR op_eq (pv 2) pe_int (nomark _)) (pss_one (ps_set (i := 6) sc_law_run.nd rfl (Or.inl rfl) (pe_op op_rep (pe_slice sl_list (pv 6) po_none (po_some pe_int)) (pe_op op_add pe_int (c_fn O_law_take hr (by decide) T.g_law_take pass0 (pa_cons (pv 0) (pa_cons pe_int pa_nil)))))))
  pss_nil)
  (pss_one (ps_ret (pe_lst (pa_cons (pv 4) (pa_cons (pv 6) pa_nil))))))))))), ?_⟩
    refine ⟨_, rfl, l, ns, 1, rfl, hS, by decide, fun n0 => ⟨(by show 1 ≤ sizeLine; decide), fun N nN => ?_⟩⟩
    have s1 := same_new (o := .lst [.int n0]) nN
    have hN1 := upd_same (H := H) (a := N) (o := .lst [.int n0])
    have ndN : d ≠ N := ne_of_none hd nN
    have hd1 := s1 _ _ hd
    generalize upd H N (.lst [.int n0]) = H1 at s1 hN1 hd1 ⊢
    refine ⟨Nat.zero_le _, fun W nW => ?_⟩
    have s2 := same_new (o := .lst []) nW
    have hW2 := upd_same (H := H1) (a := W) (o := .lst [])
    have nNW : N ≠ W := ne_of_none hN1 nW
    have hN2 := s2 _ _ hN1
    have hd2 := s2 _ _ hd1
    replace s2 := s1.trans s2
    generalize upd H1 W (.lst []) = H2 at s2 hW2 hN2 hd2 ⊢
    refine ⟨N, W, n0, [], rfl, hN2, hW2, nNW.symm, by decide, fun H3 m3 z x3 hN3 hz hzl hzu => ?_⟩
    have hd3 := x3 _ _ ndN hd2
    have s3 : Same H H3 := same_x2 s2 x3 nN
    clear s1 hN1 hd1 s2 hW2 hN2 hd2 x3 hN3 hzu nNW nW nN H1 H2
    refine ⟨Nat.zero_le _, fun D nD => ?_⟩
    have nDd : D ≠ d := (ne_of_none hd3 nD).symm
    have nD0 := none_of s3 nD
    have s4 := same_new (o := .lst []) nD
    have hD4 := upd_same (H := H3) (a := D) (o := .lst [])
    have hd4 := s4 _ _ hd3
    replace s4 := s3.trans s4
    generalize upd H3 D (.lst []) = H4 at s4 hD4 hd4 ⊢
    clear s3 hd3 nD ndN H3
    refine ⟨_, rfl, d, n, 6, rfl, hd4, by decide, by decide, fun r1 m1 a0 a1 => ?_⟩
    refine ⟨1, r1, rfl, rfl, 1 + r1, rfl, by omega, by omega, ?_⟩
    have hD5 : upd H4 d (.lst [.int m1]) D = some (.lst []) := by rw [upd_ne nDd]; exact hD4
    have hd5 := upd_same (H := H4) (a := d) (o := .lst [.int m1])
    have x5 : SameX d H (upd H4 d (.lst [.int m1])) := (same_x s4).trans SameX.upd
    generalize upd H4 d (.lst [.int m1]) = H5 at x5 hD5 hd5 ⊢
    clear s4 hD4 hd4 H4
    refine for_range (lo := 0) (n := (1 + r1).toNat) (fun j σ H' => SameX d H H' ∧ (∃ m, H' d = some (.lst [.int m])) ∧ (∃ ss : List (Str × Int), StsA H' D ss ∧ ss.length = j ∧ ∀ s ∈ ss, SyOk s) ∧ ∃ v : Option V, σ = [some (.ref d), some (.ref l), some (.int big), some (.str z), some (.ref D), v, none]) ⟨x5, ⟨m1, hd5⟩, ⟨[], ⟨[], hD5, .nil⟩, rfl, fun _ h => nomatch h⟩, none, rfl⟩ ?_ ?_
    · clear x5 hd5 hD5 H5
      rintro j σ H1 hj ⟨sx1, ⟨m1, hd1⟩, ⟨ss, hS1, hsl, hss⟩, v, rfl⟩
      obtain ⟨vs, hvs, hvl⟩ := hS1.len
      refine ⟨_, rfl, .inl ⟨rfl, _, SqL.of hvs⟩, _, rfl, _, rfl, d, m1, 8, rfl, hd1, by decide, by decide, fun r2 m2 b0 b1 => ?_⟩
      have sx2 : SameX d H1 (upd H1 d (.lst [.int m2])) := SameX.upd
      have hd2 := upd_same (H := H1) (a := d) (o := .lst [.int m2])
      have hS2 := hS1.x hd1 sx2
      have sx2 := sx1.trans sx2
      generalize upd H1 d (.lst [.int m2]) = H2 at sx2 hd2 hS2 ⊢
      have hq := nm_q hz b0 b1
      have hq8 := (nm_free hq).2.2.1
      rw [Str.length_append] at hq8
      have big : 100000 ≤ sizeLine := by decide
      refine ⟨r2, rfl, z, rfl, by omega, _, _, rfl, rfl, by omega, ?_⟩
      refine ⟨_, rfl, d, m2, 6, rfl, hd2, by decide, by decide, fun r3 m3 c0 c1 => ?_⟩
      have sx3 : SameX d H2 (upd H2 d (.lst [.int m3])) := SameX.upd
      have hd3 := upd_same (H := H2) (a := d) (o := .lst [.int m3])
      have hS3 := hS2.x hd2 sx3
      have sx3 := sx2.trans sx3
      generalize upd H2 d (.lst [.int m3]) = H3 at sx3 hd3 hS3 ⊢
      refine ⟨1, r3, rfl, rfl, (by show 2 ≤ sizeLine; decide), fun t nt => ?_⟩
      have s4 := same_new (o := .tup [.str (cutS z none (some r2) ++ "q"), .int (1 + r3)]) nt
      have ht := upd_same (H := H3) (a := t) (o := .tup [.str (cutS z none (some r2) ++ "q"), .int (1 + r3)])
      have hd4 := s4 _ _ hd3
      have hS4 := hS3.ext s4
      have sx4 := sx3.trans (same_x s4)
      show tNil _ (upd H3 t (.tup [.str (cutS z none (some r2) ++ "q"), .int (1 + r3)])) _
      generalize upd H3 t (.tup [.str (cutS z none (some r2) ++ "q"), .int (1 + r3)]) = H4 at ht hd4 hS4 sx4 ⊢
      obtain ⟨vs, hvs, hvl⟩ := hS4.len
      refine ⟨D, vs, _, rfl, rfl, hvs, Nat.lt_of_le_of_lt (show _ ≤ 100 by omega) (by decide), fun p o hp e => ?_, ⟨m3, by rw [upd_ne nDd.symm]; exact hd4⟩, ⟨ss ++ [(cutS z none (some r2) ++ "q", 1 + r3)], hS4.add hvs ht, by simp [hsl], ?_⟩, _, rfl⟩
      · rw [upd_ne (ne_of_none e nD0)]
        exact sx4 _ _ hp e
      · intro s hs
        rcases List.mem_append.mp hs with hs | hs
        · exact hss s hs
        · rw [List.mem_singleton.mp hs]
          exact ⟨hq, by show 1 ≤ 1 + r3; omega, by show 1 + r3 ≤ 6; omega⟩
    clear x5 hd5 hD5 H5
    rintro σ H4 ⟨x4, ⟨m4, hd4⟩, ⟨ss, hS4, hsl, hss⟩, v, rfl⟩
    refine ⟨_, rfl, d, m4, 6, rfl, hd4, by decide, by decide, fun r5 m5 e0 e1 => ?_⟩
    refine ⟨1, r5, rfl, rfl, 1 + r5, rfl, by omega, by omega, fun E nE => ?_⟩
    have x5 : SameX d H4 (upd H4 d (.lst [.int m5])) := SameX.upd
    have hd5 := upd_same (H := H4) (a := d) (o := .lst [.int m5])
    have hS5 := hS4.x hd4 x5
    replace x5 := x4.trans x5
    generalize upd H4 d (.lst [.int m5]) = H5 at x5 hd5 hS5 nE ⊢
    have nEd : E ≠ d := (ne_of_none hd5 nE).symm
    have nE0 := none_ofX x5 hd5 nE
    obtain ⟨rs5, hrs5, hps5⟩ := id hS5
    have nDE : D ≠ E := ne_of_none hrs5 nE
    refine lc_range (lo := 0) (n := (1 + r5).toNat) (fun j H' => SameX d H H' ∧ (∃ m, H' d = some (.lst [.int m])) ∧ StsA H' D ss ∧ ∃ ls : List (Option Int), H' E = some (.lst (ls.map lkT)) ∧ ls.length = j ∧ ∀ n, some n ∈ ls → 0 ≤ n ∧ n ≤ 7) ⟨x5.trans (same_x (same_new nE)), ⟨m5, same_new nE _ _ hd5⟩, hS5.ext (same_new nE), [], upd_same, rfl, fun _ h => nomatch h⟩ ?_ ?_
    · clear x5 hd5 hS5 hrs5 hps5 nE H5 x4 hd4 hS4 H4
      rintro j H1 hj ⟨sx1, ⟨m1, hd1⟩, hS1, ls, hL1, hll, hls⟩
      refine ⟨rfl, (by show 9 ≤ sizeLine; decide), fun t nt => ?_⟩
      have s2 := same_new (o := .lst ([none, some 0, some 1, some 2, some 3, some 4, some 5, some 6, some 7].map lkT)) nt
      have ht := upd_same (H := H1) (a := t) (o := .lst ([none, some 0, some 1, some 2, some 3, some 4, some 5, some 6, some 7].map lkT))
      have hd2 := s2 _ _ hd1
      have hL2 := s2 _ _ hL1
      have hS2 := hS1.ext s2
      have sx2 := sx1.trans (same_x s2)
      have ntd : t ≠ d := (ne_of_none hd1 nt).symm
      show tCons _ _ _ (upd H1 t (.lst ([none, some 0, some 1, some 2, some 3, some 4, some 5, some 6, some 7].map lkT))) _
      generalize upd H1 t (.lst ([none, some 0, some 1, some 2, some 3, some 4, some 5, some 6, some 7].map lkT)) = H2 at ht hd2 hL2 hS2 sx2 ⊢
      refine ⟨_, rfl, d, m1, 9, rfl, hd2, by decide, by decide, fun r2 m2 b0 b1 => ?_⟩
      have ht3 : upd H2 d (.lst [.int m2]) t = some (.lst ([none, some 0, some 1, some 2, some 3, some 4, some 5, some 6, some 7].map lkT)) := by rw [upd_ne ntd]; exact ht
      have hL3 : upd H2 d (.lst [.int m2]) E = some (.lst (ls.map lkT)) := by rw [upd_ne nEd]; exact hL2
      have hd3 := upd_same (H := H2) (a := d) (o := .lst [.int m2])
      have sxx : SameX d H2 (upd H2 d (.lst [.int m2])) := SameX.upd
      have hS3 := hS2.x hd2 sxx
      have sx3 : SameX d H (upd H2 d (.lst [.int m2])) := sx2.trans sxx
      clear sxx
      generalize upd H2 d (.lst [.int m2]) = H3 at ht3 hL3 hd3 hS3 sx3 ⊢
      obtain ⟨o, ho, hor⟩ : ∃ o, [none, some 0, some 1, some 2, some 3, some 4, some 5, some 6, some 7][r2.toNat]? = some o ∧ ∀ n : Int, o = some n → 0 ≤ n ∧ n ≤ 7 := by
        obtain ⟨r, rfl⟩ : ∃ r : Nat, r2 = (r : Int) := ⟨r2.toNat, by omega⟩
        have : ∀ i : _root_.Fin 9, ∃ o, [none, some (0 : Int), some 1, some 2, some 3, some 4, some 5, some 6, some 7][i.val]? = some o ∧ (o = none ∨ ∃ k : _root_.Fin 8, o = some (k.val : Int)) := by decide +kernel
        obtain ⟨o, h1, h2⟩ := this ⟨r, by omega⟩
        refine ⟨o, h1, fun n e => ?_⟩
        rcases h2 with h2 | ⟨k, h2⟩
        · rw [h2] at e
          cases e
        · rw [h2] at e
          cases e
          have := k.isLt
          omega
      refine ⟨t, _, r2, lkT o, rfl, rfl, SqL.of ht3, atI_int b0 (by rw [List.getElem?_map, ho]; rfl), _, hL3, ?_, fun p u hp e => ?_, ⟨m2, by rw [upd_ne nEd.symm]; exact hd3⟩, ?_, ls ++ [o], ?_, by simp [hll], ?_⟩
      · rw [List.length_map]
        exact Nat.lt_of_le_of_lt (show _ ≤ 100 by omega) (by decide)
      · rw [upd_ne (ne_of_none e nE0)]
        exact sx3 _ _ hp e
      · exact hS3.lst hL3 nDE
      · rw [upd_same, List.map_append]
        rfl
      · intro n hn
        rcases List.mem_append.mp hn with hn | hn
        · exact hls n hn
        · exact hor n (List.mem_singleton.mp hn).symm
    clear x5 hd5 hS5 hrs5 hps5 nE H5 x4 hd4 hS4 H4
    rintro H1 ⟨sx1, hd1, hS1, ls, hL1, hll, hls⟩
    obtain ⟨m1, hd1⟩ := hd1
    refine ⟨fun σ' H' => SameX d H H' ∧ (∃ m, H' d = some (.lst [.int m])) ∧ H' E = some (.lst (ls.map lkT)) ∧ ∃ (S : Addr) (ss : List (Str × Int)), StsA H' S ss ∧ (∀ s ∈ ss, SyOk s) ∧ 1 ≤ ss.length ∧ ss.length ≤ 2001 ∧ σ' = [some (.ref d), some (.ref l), some (.int big), some (.str z), some (.ref S), v, some (.ref E)], ?_, ?_⟩
    · refine ⟨_, rfl, rfl, _, rfl, ite2 (fun _ => ?_) fun _ => ⟨sx1, ⟨m1, hd1⟩, hL1, D, ss, hS1, hss, by omega, by omega, rfl⟩⟩
      obtain ⟨rs, hrs, hps⟩ := id hS1
      obtain ⟨s0, ss', rfl⟩ : ∃ s0 ss', ss = s0 :: ss' := by
        cases ss with
        | nil =>
          rw [List.length_nil] at hsl
          omega
        | cons a b => exact ⟨a, b, rfl⟩
      obtain ⟨q0, rs', rfl, h0⟩ : ∃ q0 rs', rs = q0 :: rs' ∧ H1 q0 = some (.tup [.str s0.1, .int s0.2]) := by
        cases hps with
        | cons h _ => exact ⟨_, _, rfl, h⟩
      refine ⟨_, rfl, 1, rfl, D, _, rfl, SqL.of hrs, fun p1 np1 => ?_⟩
      rw [show cutV ((q0 :: rs').map V.ref) none (some 1) = [.ref q0] from cutV_0]
      have s3 := same_new (o := .lst [.ref q0]) np1
      have hp1 := upd_same (H := H1) (a := p1) (o := .lst [.ref q0])
      have hd3 := s3 _ _ hd1
      have h03 := s3 _ _ h0
      have hL3 := s3 _ _ hL1
      have np1d : p1 ≠ d := (ne_of_none hd1 np1).symm
      have sx3 := sx1.trans (same_x s3)
      generalize upd H1 p1 (.lst [.ref q0]) = H3 at hp1 hd3 h03 hL3 sx3 ⊢
      refine ⟨_, rfl, d, m1, 3, rfl, hd3, by decide, by decide, fun r3 m3 c0 c1 => ?_⟩
      have hp1' : upd H3 d (.lst [.int m3]) p1 = some (.lst [.ref q0]) := by rw [upd_ne np1d]; exact hp1
      have nq0 : q0 ≠ d := fun e => by
        rw [e, hd3] at h03
        cases h03
      have h04 : upd H3 d (.lst [.int m3]) q0 = some (.tup [.str s0.1, .int s0.2]) := by rw [upd_ne nq0]; exact h03
      have hL4 : upd H3 d (.lst [.int m3]) E = some (.lst (ls.map lkT)) := by rw [upd_ne nEd]; exact hL3
      have hd4 := upd_same (H := H3) (a := d) (o := .lst [.int m3])
      have sx4 : SameX d H (upd H3 d (.lst [.int m3])) := sx3.trans SameX.upd
      generalize upd H3 d (.lst [.int m3]) = H4 at hp1' h04 hL4 hd4 sx4 ⊢
      refine ⟨1999, r3, rfl, rfl, p1, 1999 + r3, _, rfl, rfl, hp1', by omega, by omega, ?_, fun p2 np2 => ?_⟩
      · exact Nat.le_trans (show 1 * (1999 + r3).toNat ≤ 2001 by omega) (by decide)
      rw [rep_one]
      have s5 := same_new (o := .lst (List.replicate (1999 + r3).toNat (V.ref q0))) np2
      refine ⟨sx4.trans (same_x s5), ⟨m3, s5 _ _ hd4⟩, s5 _ _ hL4, p2, List.replicate (1999 + r3).toNat s0, ⟨List.replicate (1999 + r3).toNat q0, ?_, paired_rep (R := SyA _) (a := q0) (b := s0) (s5 _ _ h04)⟩, ?_, ?_, ?_, rfl⟩
      · rw [upd_same, List.map_replicate]
      · intro s hs
        rw [(List.mem_replicate.mp hs).2]
        exact hss s0 List.mem_cons_self
      · rw [List.length_replicate]
        omega
      · rw [List.length_replicate]
        omega
    clear hS1 hd1 m1 hsl hss sx1 hL1 ss H1
    rintro σ H1 ⟨sx1, ⟨m1, hd1⟩, hL1, S, ss, hS1, hss, j1, j2, rfl⟩
    have fin : ∀ (H' : Hp) (L : Addr) (ls : List (Option Int)), SameX d H H' → StsA H' S ss → H' L = some (.lst (ls.map lkT)) → (∀ n, some n ∈ ls → 0 ≤ n ∧ n ≤ 7) → 1 ≤ ls.length → ls.length ≤ 2001 → tRet (tLst (tCons (tVar 4) (tCons (tVar 6) tNil))) { nx := fun x H' => Q V.non H', rt := Q } [some (.ref d), some (.ref l), some (.int big), some (.str z), some (.ref S), v, some (.ref L)] H' := fun H' L ls a b c e f g => by
      refine ⟨_, rfl, _, rfl, (by show 2 ≤ sizeLine; decide), fun p np => ?_⟩
      have sp := same_new (o := .lst [.ref S, .ref L]) np
      exact k _ p S L ss ls (a.trans (same_x sp)) upd_same (b.ext sp) (sp _ _ c) hss e j1 j2 f g
    refine ⟨fun σ' H' => ∃ (L : Addr) (ls : List (Option Int)), SameX d H H' ∧ StsA H' S ss ∧ H' L = some (.lst (ls.map lkT)) ∧ (∀ n, some n ∈ ls → 0 ≤ n ∧ n ≤ 7) ∧ 1 ≤ ls.length ∧ ls.length ≤ 2001 ∧ σ' = [some (.ref d), some (.ref l), some (.int big), some (.str z), some (.ref S), v, some (.ref L)], ?_, ?_⟩
    · refine ⟨_, rfl, rfl, _, rfl, ite2 (fun _ => ?_) fun _ => ⟨E, ls, sx1, hS1, hL1, hls, by omega, by omega, rfl⟩⟩
      obtain ⟨o, ls', rfl⟩ : ∃ o ls', ls = o :: ls' := by
        cases ls with
        | nil =>
          rw [List.length_nil] at hll
          omega
        | cons a b => exact ⟨a, b, rfl⟩
      refine ⟨_, rfl, 1, rfl, E, _, rfl, SqL.of hL1, fun p1 np1 => ?_⟩
      rw [show cutV ((o :: ls').map lkT) none (some 1) = [lkT o] from cutV_0]
      have s3 := same_new (o := .lst [lkT o]) np1
      have hp1 := upd_same (H := H1) (a := p1) (o := .lst [lkT o])
      have hd3 := s3 _ _ hd1
      have hS3 := hS1.ext s3
      have np1d : p1 ≠ d := (ne_of_none hd1 np1).symm
      have sx3 := sx1.trans (same_x s3)
      generalize upd H1 p1 (.lst [lkT o]) = H3 at hp1 hd3 hS3 sx3 ⊢
      refine ⟨_, rfl, d, m1, 3, rfl, hd3, by decide, by decide, fun r3 m3 c0 c1 => ?_⟩
      have hp1' : upd H3 d (.lst [.int m3]) p1 = some (.lst [lkT o]) := by rw [upd_ne np1d]; exact hp1
      have sxx : SameX d H3 (upd H3 d (.lst [.int m3])) := SameX.upd
      have hS4 := hS3.x hd3 sxx
      have sx4 : SameX d H (upd H3 d (.lst [.int m3])) := sx3.trans sxx
      clear sxx
      generalize upd H3 d (.lst [.int m3]) = H4 at hp1' hS4 sx4 ⊢
      refine ⟨1999, r3, rfl, rfl, p1, 1999 + r3, _, rfl, rfl, hp1', by omega, by omega, ?_, fun p2 np2 => ?_⟩
      · exact Nat.le_trans (show 1 * (1999 + r3).toNat ≤ 2001 by omega) (by decide)
      rw [rep_one]
      have s5 := same_new (o := .lst (List.replicate (1999 + r3).toNat (lkT o))) np2
      refine ⟨p2, List.replicate (1999 + r3).toNat o, sx4.trans (same_x s5), hS4.ext s5, ?_, ?_, ?_, ?_, rfl⟩
      · rw [upd_same, List.map_replicate]
      · intro n hn
        exact hls n (by rw [(List.mem_replicate.mp hn).2]; exact List.mem_cons_self)
      · rw [List.length_replicate]
        omega
      · rw [List.length_replicate]
        omega
    rintro σ H2 ⟨L, ls2, a, b, c, e, f, g, rfl⟩
    exact fin H2 L ls2 a b c e f g
end
end K39

set_option Elab.async false
set_option linter.all false
set_option pp.deepTerms.threshold 14
set_option pp.maxSteps 2500
set_option maxRecDepth 100000
set_option maxHeartbeats 2000000
namespace K39
open PySem PySem.Spec PyProof.Rows L2 Vf
section
variable {P : Program} {w : World} {K : PySem.W.Frag} {mg : Str → Option Value} {base : Heap}
/-! ### how long the parts of a text are -/
def wt (ls : List Str) : Nat := (ls.map (·.length)).sum + ls.length
theorem wt_nil : wt [] = 0 := rfl
theorem wt_cons (s : Str) (ls : List Str) : wt (s :: ls) = s.length + 1 + wt ls := by
  unfold wt
  simp only [List.map_cons, List.sum_cons, List.length_cons]
  omega
theorem wt_app : ∀ (a b : List Str), wt (a ++ b) = wt a + wt b
  | [], b => by rw [List.nil_append, wt_nil, Nat.zero_add]
  | s :: a, b => by rw [List.cons_append, wt_cons, wt_cons, wt_app a b]; omega
theorem wt_cut (ls : List Str) (n : Nat) : wt (ls.take n) + wt (ls.drop n) = wt ls := by
  rw [← wt_app, List.take_append_drop]
theorem wt_tail (ls : List Str) (n : Nat) : wt (ls.drop (n + 1)) ≤ wt (ls.drop n) := by
  rw [← List.tail_drop]
  cases ls.drop n with
  | nil => exact Nat.le_refl _
  | cons a b =>
    rw [wt_cons]
    show wt b ≤ _
    omega
theorem wt_out (ls : List Str) (n : Nat) : wt (ls.take n) + wt (ls.drop (n + 1)) ≤ wt ls := by
  have h1 := wt_cut ls n
  have h2 := wt_tail ls n
  omega
theorem wt_len (ls : List Str) : ls.length ≤ wt ls := by
  unfold wt
  omega
theorem wt_split (z y : Str) (hy : 1 ≤ y.length) : wt (Txt.split z y) ≤ z.length + 1 := PyProof.Rows.split_weight z y hy
theorem wt_join (ls : List Str) (c : Nat) : (Txt.join ⟨#[c]⟩ ls).length ≤ wt ls := by
  have := join_len ⟨#[c]⟩ ls
  have h1 : (⟨#[c]⟩ : Str).length = 1 := rfl
  rw [h1, Nat.mul_one] at this
  exact this
theorem cutV_lo {ls : List Str} {r : Int} (r0 : 0 ≤ r) : cutV (ls.map V.str) none (some r) = (ls.take r.toNat).map V.str := by
  obtain ⟨n, rfl⟩ : ∃ n : Nat, r = (n : Int) := ⟨r.toNat, by omega⟩
  unfold cutV
  have e1 : HT.sIx (ls.map V.str).length 0 none = 0 := rfl
  rw [e1, HT.sIx_nat, List.drop_zero, Nat.sub_zero, Int.toNat_natCast, List.map_take]
  by_cases h : n ≤ (ls.map V.str).length
  · rw [Nat.min_eq_left h]
  · rw [Nat.min_eq_right (by omega), List.take_of_length_le (Nat.le_refl _), List.take_of_length_le (by omega)]
theorem cutV_hi {ls : List Str} {r : Int} (r0 : 0 ≤ r) : cutV (ls.map V.str) (some r) none = (ls.drop r.toNat).map V.str := by
  obtain ⟨n, rfl⟩ : ∃ n : Nat, r = (n : Int) := ⟨r.toNat, by omega⟩
  unfold cutV
  have e2 : HT.sIx (ls.map V.str).length (ls.map V.str).length none = (ls.map V.str).length := rfl
  rw [e2, HT.sIx_nat, Int.toNat_natCast, List.map_drop]
  by_cases h : n ≤ (ls.map V.str).length
  · rw [Nat.min_eq_left h]
    exact List.take_of_length_le (by rw [List.length_drop]; exact Nat.le_refl _)
  · rw [Nat.min_eq_right (by omega), List.drop_eq_nil_of_le (Nat.le_refl _), List.drop_eq_nil_of_le (by omega), List.take_nil]
theorem cutS_le (z : Str) (a b : Option Int) : (cutS z a b).length ≤ z.length := by
  unfold cutS
  show (List.toArray _).size ≤ _
  rw [List.size_toArray, List.length_take, List.length_drop]
  have hl : z.cps.toList.length = z.length := by simp [Str.length]
  omega
theorem atI_neg {α : Type} {xs : List α} {r : Int} (r0 : 0 ≤ r) (h : r < xs.length) : ∃ v, atI xs (-1 - r) = some v ∧ v ∈ xs := by
  have e : ixN xs.length (-1 - r) = some ((-1 - r + xs.length).toNat) := by
    unfold ixN
    rw [if_neg (by omega), if_pos (by omega)]
  have hj : (-1 - r + xs.length).toNat < xs.length := by omega
  refine ⟨xs[(-1 - r + xs.length).toNat], ?_, List.getElem_mem hj⟩
  unfold atI
  rw [e]
  exact List.getElem?_eq_getElem hj
theorem cut2 {K : PySem.W.Frag} {σ : L2.St} {i j : Nat} {L : Addr} {ys : List Str} {a : Int} {H : Hp} {Q : VK} (hi : σ[i]? = some (some (.ref L))) (hj : σ[j]? = some (some (.int a))) (hL : H L = some (.lst (ys.map V.str))) (a0 : 0 ≤ a) (hz : 2 * ys.length ≤ sizeLine)
    (k : ∀ H' p, Same H H' → H p = none → H' p = some (.lst ((ys.take a.toNat ++ ys.drop (a.toNat + 1)).map V.str)) → Q (.ref p) H') :
    tOp rCat (tSl (rSlL K) (tVar i) tNoPart (tPart (tVar j))) (tSl (rSlL K) (tVar i) (tPart (tOp (rI0 fun i j => V.int (i + j)) (tVar j) (tC (V.int 1)))) tNoPart) σ H Q := by
  refine ⟨_, hi, _, hj, a, rfl, L, _, rfl, SqL.of hL, fun p1 np1 => ?_⟩
  rw [cutV_lo a0]
  have s1 := same_new (o := .lst ((ys.take a.toNat).map V.str)) np1
  have h1 := upd_same (H := H) (a := p1) (o := .lst ((ys.take a.toNat).map V.str))
  have hL1 := s1 _ _ hL
  generalize upd H p1 (.lst ((ys.take a.toNat).map V.str)) = H1 at s1 h1 hL1 ⊢
  refine ⟨_, hi, _, hj, a, 1, rfl, rfl, a + 1, rfl, L, _, rfl, SqL.of hL1, fun p2 np2 => ?_⟩
  rw [cutV_hi (by omega), show (a + 1).toNat = a.toNat + 1 by omega]
  have s2 := same_new (o := .lst ((ys.drop (a.toNat + 1)).map V.str)) np2
  have h2 := upd_same (H := H1) (a := p2) (o := .lst ((ys.drop (a.toNat + 1)).map V.str))
  have h12 := s2 _ _ h1
  replace s2 := s1.trans s2
  generalize upd H1 p2 (.lst ((ys.drop (a.toNat + 1)).map V.str)) = H2 at s2 h2 h12 ⊢
  refine ⟨p1, p2, _, _, rfl, rfl, h12, h2, ?_, fun p3 np3 => ?_⟩
  · rw [List.length_map, List.length_map, List.length_take, List.length_drop]
    omega
  · rw [← List.map_append]
    exact k _ p3 (s2.trans (same_new np3)) (none_of s2 np3) upd_same
theorem sc_law_once : FnScope ["_law_draw", "_law_text", "_law_lines", "_law_words", "_law_at", "_law_place", "_law_word", "_law_sign", "_law_odd", "_law_kind"] ["_law_draw", "_law_text"] (defScope s_law_once) := ⟨rfl, rfl, rfl, by decide +kernel, rfl, by decide +kernel, by decide +kernel⟩
-- slots: 0 _law_draw, 1 _law_text, 2 _law_lines, 3 _law_words, 4 _law_at, 5 _law_place, 6 _law_word, 7 _law_sign, 8 _law_odd, 9 _law_kind
def onI (H : Hp) (d W : Addr) (z : Str) (at_ pl wo : Int) (sgn odd : Str) (q : Int) (ws ls : List Str) (c : Nat) (σ' : L2.St) (H' : Hp) : Prop := SameX d H H' ∧ (∃ m, H' d = some (.lst [.int m])) ∧ H' W = some (.lst (ws.map V.str)) ∧ ∃ L ys, H' L = some (.lst (ys.map V.str)) ∧ L ≠ d ∧ L ≠ W ∧ H L = none ∧ wt ys ≤ 2 * z.length + 10 ∧ (ys = ls ∨ q < (c : Int)) ∧ σ' = [some (.ref d), some (.str z), some (.ref L), some (.ref W), some (.int at_), some (.int pl), some (.int wo), some (.str sgn), some (.str odd), some (.int q)]
def spOnc : Sp := fun vs H Q _ => ∃ (d : Addr) (n : Int) (z : Str), vs = [.ref d, .str z] ∧ H d = some (.lst [.int n]) ∧ z.length ≤ 1000000 ∧ ∀ (H' : Hp) (m : Int) (y : Str), SameX d H H' → H' d = some (.lst [.int m]) → y.length ≤ 2 * z.length + 20 → Q (.str y) H'
theorem ok_law_once {fd : FuncData} (F : FnD K ("_law_once", none) "_law_once" "_law_once" s_law_once fd) (T : Txt K mg) (O_law_take : OkF P w K mg base CX0 1 "_law_take" ["_law_draw", "_law_size"] spTake) : OkF P w K mg base CX0 2 "_law_once" ["_law_draw", "_law_text"] spOnc := by
  refine okd F (F.ok sc_law_once (fun vs H Q E h => ?_) fun cdv A outer s H vs Q E hr h => ?_) fun _ _ _ _ _ _ us hl => match us, hl with | [_, _], _ => rfl
  · obtain ⟨d, n, z, rfl, _⟩ := h
    rfl
  · obtain ⟨d, n, z, rfl, hd, hz, k⟩ := h
    refine ⟨_, PSs.nox (pss_cons (ps_set (i := 2) sc_law_once.nd rfl (Or.inl rfl) (pe_m1 PySem.F.slot_str_split PySem.F.type_str_split mt_split (pv 1) pe_str))
  (pss_cons (ps_set (i := 3) sc_law_once.nd rfl (Or.inl rfl) (pe_m1 PySem.F.slot_str_split PySem.F.type_str_split mt_split (pv 1) pe_str))
  (pss_cons (ps_set (i := 4) sc_law_once.nd rfl (Or.inl rfl) (c_fn O_law_take hr (by decide) T.g_law_take pass0 (pa_cons (pv 0) (pa_cons (pe_callB (id := "len") call_len_seq (by rfl) T.z_len (by decide +kernel) (pa_cons (pv 2) pa_nil)) pa_nil))))
  (pss_cons (ps_set (i := 5) sc_law_once.nd rfl (Or.inl rfl) (c_fn O_law_take hr (by decide) T.g_law_take pass0 (pa_cons (pv 0) (pa_cons (pe_op op_add (pe_callB call_len_str (by rfl) T.z_len (by decide +kernel) (pa_cons (pv 1) pa_nil)) pe_int) pa_nil))))
  (pss_cons (ps_set (i := 6) sc_law_once.nd rfl (Or.inl rfl) (c_fn O_law_take hr (by decide) T.g_law_take pass0 (pa_cons (pv 0) (pa_cons (pe_callB (id := "len") call_len_seq (by rfl) T.z_len (by decide +kernel) (pa_cons (pv 3) pa_nil)) pa_nil))))
  (pss_cons (ps_set (i := 7) sc_law_once.nd rfl (Or.inl rfl) (pe_ix ix_str pe_str (c_fn O_law_take hr (by decide) T.g_law_take pass0 (pa_cons (pv 0) (pa_cons pe_int pa_nil))) (fun _ _ => rfl)))
  (pss_cons (ps_set (i := 8) sc_law_once.nd rfl (Or.inl rfl) (pe_ix ix_list (pe_lst (pa_cons pe_str (pa_cons pe_str (pa_cons pe_str (pa_cons pe_str (pa_cons pe_str (pa_cons pe_str (pa_cons pe_str (pa_cons pe_str (pa_cons pe_str (pa_cons pe_str (pa_cons pe_str (pa_cons pe_str pa_nil))))))))))))) (c_fn O_law_take hr (by decide) T.g_law_take pass0 (pa_cons (pv 0) (pa_cons pe_int pa_nil))) (fun _ _ => rfl)))
  (pss_cons (ps_set (i := 9) sc_law_once.nd rfl (Or.inl rfl) (c_fn O_law_take hr (by decide) T.g_law_take pass0 (pa_cons (pv 0) (pa_cons pe_int pa_nil))))
  (C8.pss_cut (ps_if (pt_cmpR op_eq (pv 9) pe_int (nomark _)) (pss_one (ps_set (i := 2) sc_law_once.nd rfl (Or.inl rfl) (pe_op op_cat (pe_slice sl_list (pv 2) po_none (po_some (pv 4))) (pe_slice sl_list (pv 2) (po_some (pe_op op_add (pv 4) pe_int)) po_none))))
  pss_nil)
  (C8.pss_cut (ps_if (pt_cmpR op_eq (pv 9) pe_int (nomark _)) (pss_one (ps_expr (pe_bm PySem.F.plainAttrs_list PySem.F.slot_list_insert PySem.F.type_list_insert mt_insert (pv 2) (pa_cons (pv 4) (pa_cons (pe_ix ix_list (pv 2) (pe_op op_sub (pe_un un_neg pe_int) (c_fn O_law_take hr (by decide) T.g_law_take pass0 (pa_cons (pv 0) (pa_cons (pe_callB (id := "len") call_len_seq (by rfl) T.z_len (by decide +kernel) (pa_cons (pv 2) pa_nil)) pa_nil)))) (fun _ _ => rfl)) pa_nil)))))
  pss_nil)
  (C8.pss_cut (ps_if (pt_cmpR op_eq (pv 9) pe_int (nomark _)) (pss_one (ps_set (i := 2) sc_law_once.nd rfl (Or.inl rfl) (pe_op op_cat (pe_op op_cat (pe_slice sl_list (pv 2) po_none (po_some (pv 4))) (pe_slice sl_list (pv 2) (po_some (pe_op op_add (pv 4) pe_int)) po_none)) (pe_lst (pa_cons (pe_ix ix_list (pv 2) (pv 4) (fun _ _ => rfl)) pa_nil)))))
  pss_nil)
  (C8.pss_cut (ps_if (pt_cmpR op_eq (pv 9) pe_int (nomark _)) (pss_one (ps_expr (pe_bm PySem.F.plainAttrs_list PySem.F.slot_list_append PySem.F.type_list_append mt_append (pv 2) (pa_cons pe_str pa_nil))))
  pss_nil)
  (pss_cons (ps_if (pt_cmpR op_lt (pv 9) pe_int (nomark _)) (pss_one (ps_ret (pe_m1 PySem.F.slot_str_join PySem.F.type_str_join mt_join pe_str (pv 2))))
  pss_nil)
  (pss_cons (ps_if (pt_cmpR op_eq (pv 9) pe_int (nomark _)) (pss_one (ps_ret (pe_op op_add_str (pe_op op_add_str (pe_slice sl_str (pv 1) po_none (po_some (pv 5))) (pv 7)) (pe_slice sl_str (pv 1) (po_some (pv 5)) po_none))))
  pss_nil)
  (pss_cons (ps_if (pt_cmpR op_eq (pv 9) pe_int (nomark _)) (pss_one (ps_ret (pe_op op_add_str (pe_slice sl_str (pv 1) po_none (po_some (pv 5))) (pe_slice sl_str (pv 1) (po_some (pe_op op_add (pv 5) pe_int)) po_none))))
  pss_nil)
  (pss_cons (ps_if (pt_cmpR op_eq (pv 9) pe_int (nomark _)) (pss_one (ps_ret (pe_op op_add_str (pe_op op_add_str (pe_slice sl_str (pv 1) po_none (po_some (pv 5))) (pv 7)) (pe_slice sl_str (pv 1) (po_some (pe_op op_add (pv 5) pe_int)) po_none))))
  pss_nil)
  (pss_one (ps_ret (pe_m1 PySem.F.slot_str_join PySem.F.type_str_join mt_join pe_str (pe_op op_cat (pe_op op_cat (pe_slice sl_list (pv 3) po_none (po_some (pv 6))) (pe_lst (pa_cons (pv 8) pa_nil))) (pe_slice sl_list (pv 3) (po_some (pe_op op_add (pv 6) pe_int)) po_none))))))))))))))))))))), ?_⟩
    have big : 10000000 ≤ sizeLine := by decide
    obtain ⟨l0, lr, hls⟩ : ∃ l0 lr, Txt.split z "\n" = l0 :: lr := by
      cases e : Txt.split z "\n" with
      | nil =>
        have := PyProof.Rows.split_pos z "\n"
        rw [e] at this
        exact absurd this (by decide)
      | cons a b => exact ⟨a, b, rfl⟩
    obtain ⟨ls, els⟩ : ∃ ls, Txt.split z "\n" = ls := ⟨_, rfl⟩
    obtain ⟨ws, ews⟩ : ∃ ws, Txt.split z " " = ws := ⟨_, rfl⟩
    have wl : wt ls ≤ z.length + 1 := els ▸ wt_split z "\n" (by decide)
    have ww : wt ws ≤ z.length + 1 := ews ▸ wt_split z " " (by decide)
    have hl1 : 1 ≤ ls.length := by
      rw [← els, hls]
      exact Nat.le_add_left 1 _
    have hw1 : 1 ≤ ws.length := ews ▸ PyProof.Rows.split_pos z " "
    have hlz : ∀ y ∈ ls, y.length ≤ z.length := fun y hy => PyProof.Rows.part_short (els ▸ hy)
    have hll := wt_len ls
    have hwl := wt_len ws
    clear hls l0 lr
    refine ⟨_, rfl, ⟨_, rfl⟩, z, "\n", rfl, rfl, by decide, by omega, fun A nA => ?_⟩
    rw [els]
    have nAd : A ≠ d := (ne_of_none hd nA).symm
    have s1 := same_new (o := .lst (ls.map V.str)) nA
    have hA1 := upd_same (H := H) (a := A) (o := .lst (ls.map V.str))
    have hd1 := s1 _ _ hd
    have sx1 := same_x (d := d) s1
    show tSeq _ _ _ _ (upd H A (.lst (ls.map V.str)))
    generalize upd H A (.lst (ls.map V.str)) = H1 at s1 hA1 hd1 sx1 ⊢
    refine ⟨_, rfl, ⟨_, rfl⟩, z, " ", rfl, rfl, by decide, by omega, fun W nW => ?_⟩
    rw [ews]
    have nWd : W ≠ d := (ne_of_none hd1 nW).symm
    have nAW : A ≠ W := ne_of_none hA1 nW
    have nA0 := nA
    have nW0 := none_of s1 nW
    have s2 := same_new (o := .lst (ws.map V.str)) nW
    have hW2 := upd_same (H := H1) (a := W) (o := .lst (ws.map V.str))
    have hA2 := s2 _ _ hA1
    have hd2 := s2 _ _ hd1
    have sx2 := sx1.trans (same_x s2)
    show tSeq _ _ _ _ (upd H1 W (.lst (ws.map V.str)))
    generalize upd H1 W (.lst (ws.map V.str)) = H2 at s2 hW2 hA2 hd2 sx2 ⊢
    clear s1 hA1 hd1 sx1 s2 nA nW H1
    have e1 : (((ls.map V.str).length : Nat) : Int) = (ls.length : Int) := by rw [List.length_map]
    have e2 : (((ws.map V.str).length : Nat) : Int) = (ws.length : Int) := by rw [List.length_map]
    refine ⟨_, rfl, _, rfl, A, _, rfl, .inl (SqL.of hA2), ?_⟩
    rw [e1]
    refine ⟨d, n, (ls.length : Int), rfl, hd2, by omega, by omega, fun at_ m3 at_0 at_1 => ?_⟩
    have hd3 := upd_same (H := H2) (a := d) (o := .lst [.int m3])
    have hA3 : upd H2 d (.lst [.int m3]) A = some (.lst (ls.map V.str)) := by rw [upd_ne nAd]; exact hA2
    have hW3 : upd H2 d (.lst [.int m3]) W = some (.lst (ws.map V.str)) := by rw [upd_ne nWd]; exact hW2
    have sx3 : SameX d H (upd H2 d (.lst [.int m3])) := sx2.trans SameX.upd
    generalize upd H2 d (.lst [.int m3]) = H3 at hd3 hA3 hW3 sx3 ⊢
    clear hd2 hA2 hW2 sx2 H2
    refine ⟨_, rfl, _, rfl, z, rfl, by omega, _, 1, rfl, rfl, ?_⟩
    refine ⟨d, m3, (z.length : Int) + 1, rfl, hd3, by omega, by omega, fun pl m4 pl0 pl1 => ?_⟩
    have hd4 := upd_same (H := H3) (a := d) (o := .lst [.int m4])
    have hA4 : upd H3 d (.lst [.int m4]) A = some (.lst (ls.map V.str)) := by rw [upd_ne nAd]; exact hA3
    have hW4 : upd H3 d (.lst [.int m4]) W = some (.lst (ws.map V.str)) := by rw [upd_ne nWd]; exact hW3
    have sx4 : SameX d H (upd H3 d (.lst [.int m4])) := sx3.trans SameX.upd
    generalize upd H3 d (.lst [.int m4]) = H4 at hd4 hA4 hW4 sx4 ⊢
    clear hd3 hA3 hW3 sx3 H3
    refine ⟨_, rfl, _, rfl, W, _, rfl, .inl (SqL.of hW4), ?_⟩
    rw [e2]
    refine ⟨d, m4, (ws.length : Int), rfl, hd4, by omega, by omega, fun wo m5 wo0 wo1 => ?_⟩
    have hd5 := upd_same (H := H4) (a := d) (o := .lst [.int m5])
    have hA5 : upd H4 d (.lst [.int m5]) A = some (.lst (ls.map V.str)) := by rw [upd_ne nAd]; exact hA4
    have hW5 : upd H4 d (.lst [.int m5]) W = some (.lst (ws.map V.str)) := by rw [upd_ne nWd]; exact hW4
    have sx5 : SameX d H (upd H4 d (.lst [.int m5])) := sx4.trans SameX.upd
    generalize upd H4 d (.lst [.int m5]) = H5 at hd5 hA5 hW5 sx5 ⊢
    clear hd4 hA4 hW4 sx4 H4
    refine ⟨_, rfl, ?_⟩
    refine ⟨d, m5, 11, rfl, hd5, by decide, by decide, fun si m6 si0 si1 => ?_⟩
    have hd6 := upd_same (H := H5) (a := d) (o := .lst [.int m6])
    have hA6 : upd H5 d (.lst [.int m6]) A = some (.lst (ls.map V.str)) := by rw [upd_ne nAd]; exact hA5
    have hW6 : upd H5 d (.lst [.int m6]) W = some (.lst (ws.map V.str)) := by rw [upd_ne nWd]; exact hW5
    have sx6 : SameX d H (upd H5 d (.lst [.int m6])) := sx5.trans SameX.upd
    generalize upd H5 d (.lst [.int m6]) = H6 at hd6 hA6 hW6 sx6 ⊢
    clear hd5 hA5 hW5 sx5 H5
    have hsg : ("a 0178-T\n\tx" : Str).cps.toList.length = 11 := by decide +kernel
    obtain ⟨sg, hsg2⟩ : ∃ c, ("a 0178-T\n\tx" : Str).cps.toList[si.toNat]? = some c := ⟨_, List.getElem?_eq_getElem (by rw [hsg]; omega)⟩
    refine ⟨_, si, sg, rfl, rfl, (by show 11 ≤ sizeLine; decide), atI_int si0 hsg2, ?_⟩
    have hsl : (⟨#[sg]⟩ : Str).length = 1 := rfl
    generalize (⟨#[sg]⟩ : Str) = sgn at hsl ⊢
    clear hsg hsg2 sg
    obtain ⟨odds, eod⟩ : ∃ o : List Str, o = [("-" : Str), ("0" : Str), ("1" : Str), ("6" : Str), ("7" : Str), ("8" : Str), ("01" : Str), ("" : Str), ("any" : Str), ("xxxxxxxxx" : Str), ("looks" : Str), ("phase" : Str)] := ⟨_, rfl⟩
    have hod : odds.length = 12 := by rw [eod]; rfl
    have hod9 : ∀ o ∈ odds, o.length ≤ 9 := by rw [eod]; decide +kernel
    refine ⟨(by show 12 ≤ sizeLine; decide), fun O nO => ?_⟩
    have eod2 : (([.str "-", .str "0", .str "1", .str "6", .str "7", .str "8", .str "01", .str "", .str "any", .str "xxxxxxxxx", .str "looks", .str "phase"] : List V)) = odds.map V.str := by rw [eod]; rfl
    have nOd : O ≠ d := (ne_of_none hd6 nO).symm
    have s7 := same_new (o := .lst (odds.map V.str)) nO
    have hO7 := upd_same (H := H6) (a := O) (o := .lst (odds.map V.str))
    have hA7 := s7 _ _ hA6
    have hW7 := s7 _ _ hW6
    have hd7 := s7 _ _ hd6
    have sx7 := sx6.trans (same_x s7)
    show tCall _ _ _ _ _ (upd H6 O (.lst ([.str "-", .str "0", .str "1", .str "6", .str "7", .str "8", .str "01", .str "", .str "any", .str "xxxxxxxxx", .str "looks", .str "phase"] : List V))) _
    rw [eod2]
    generalize upd H6 O (.lst (odds.map V.str)) = H7 at hO7 hA7 hW7 hd7 sx7 ⊢
    clear eod eod2 s7 hA6 hW6 hd6 sx6 nO H6
    refine ⟨_, rfl, d, m6, 12, rfl, hd7, by decide, by decide, fun od m8 od0 od1 => ?_⟩
    have hd8 := upd_same (H := H7) (a := d) (o := .lst [.int m8])
    have hA8 : upd H7 d (.lst [.int m8]) A = some (.lst (ls.map V.str)) := by rw [upd_ne nAd]; exact hA7
    have hW8 : upd H7 d (.lst [.int m8]) W = some (.lst (ws.map V.str)) := by rw [upd_ne nWd]; exact hW7
    have hO8 : upd H7 d (.lst [.int m8]) O = some (.lst (odds.map V.str)) := by rw [upd_ne nOd]; exact hO7
    have sx8 : SameX d H (upd H7 d (.lst [.int m8])) := sx7.trans SameX.upd
    generalize upd H7 d (.lst [.int m8]) = H8 at hd8 hA8 hW8 hO8 sx8 ⊢
    clear hd7 hA7 hW7 hO7 sx7 H7
    obtain ⟨odd, ho⟩ : ∃ o, odds[od.toNat]? = some o := ⟨_, List.getElem?_eq_getElem (by rw [hod]; omega)⟩
    have ho9 := hod9 odd (List.mem_of_getElem? ho)
    refine ⟨O, _, od, .str odd, rfl, rfl, SqL.of hO8, atI_int od0 (by rw [List.getElem?_map, ho]; rfl), ?_⟩
    clear ho hO8
    refine ⟨_, rfl, ?_⟩
    refine ⟨d, m8, 8, rfl, hd8, by decide, by decide, fun q m9 q0 q1 => ?_⟩
    have hd9 := upd_same (H := H8) (a := d) (o := .lst [.int m9])
    have hA9 : upd H8 d (.lst [.int m9]) A = some (.lst (ls.map V.str)) := by rw [upd_ne nAd]; exact hA8
    have hW9 : upd H8 d (.lst [.int m9]) W = some (.lst (ws.map V.str)) := by rw [upd_ne nWd]; exact hW8
    have sx9 : SameX d H (upd H8 d (.lst [.int m9])) := sx8.trans SameX.upd
    generalize upd H8 d (.lst [.int m9]) = H9 at hd9 hA9 hW9 sx9 ⊢
    clear hd8 hA8 hW8 sx8 H8
    show C8.tCut _ _ _ [some (.ref d), some (.str z), some (.ref A), some (.ref W), some (.int at_), some (.int pl), some (.int wo), some (.str sgn), some (.str odd), some (.int q)] H9
    clear od0 od1 od si0 si1 si hod hod9 nOd O odds m8 m6 m5 m4 m3
    have go : ∀ (c : Nat) {L ys H'}, SameX d H H' → (∃ m, H' d = some (.lst [.int m])) → H' W = some (.lst (ws.map V.str)) → H' L = some (.lst (ys.map V.str)) → L ≠ d → L ≠ W → H L = none → wt ys ≤ 2 * z.length + 10 → (ys = ls ∨ q < (c : Int)) → onI H d W z at_ pl wo sgn odd q ws ls c [some (.ref d), some (.str z), some (.ref L), some (.ref W), some (.int at_), some (.int pl), some (.int wo), some (.str sgn), some (.str odd), some (.int q)] H' := fun c L ys H' a b e f g i j k l => ⟨a, b, e, L, ys, f, g, i, j, k, l, rfl⟩
    have hat : at_.toNat < ls.length := by omega
    have hel : ls[at_.toNat]? = some ls[at_.toNat] := List.getElem?_eq_getElem hat
    have hez := hlz _ (List.getElem_mem hat)
    generalize ls[at_.toNat] = el at hel hez
    have hwo := wt_out ls at_.toNat
    have hct := wt_cut ls at_.toNat
    have hn1 : (at_ + 1).toNat = at_.toNat + 1 := by omega
    refine ⟨onI H d W z at_ pl wo sgn odd q ws ls 1, ?_, ?_⟩
    · refine ⟨_, rfl, rfl, _, rfl, ite2 (fun c => ?_) fun c => go 1 sx9 ⟨m9, hd9⟩ hW9 hA9 nAd nAW nA0 (by omega) (.inl rfl)⟩
      have hq0 : q = 0 := V.int.inj (of_decide_eq_true c)
      refine cut2 rfl rfl hA9 at_0 (by omega) fun H' p s' np hp => ?_
      exact go 1 (sx9.trans (same_x s')) ⟨m9, s' _ _ hd9⟩ (s' _ _ hW9) hp (ne_of_none hd9 np).symm (ne_of_none hW9 np).symm (none_ofX sx9 hd9 np) (by rw [wt_app]; omega) (.inr (by omega))
    rintro σ H1 ⟨sx1, ⟨m1, hd1⟩, hW1, L, ys, hL1, nLd, nLW, nL0, hwy, hyc, rfl⟩
    refine ⟨onI H d W z at_ pl wo sgn odd q ws ls 2, ?_, ?_⟩
    · refine ⟨_, rfl, rfl, _, rfl, ite2 (fun c => ?_) fun c => go 2 sx1 ⟨m1, hd1⟩ hW1 hL1 nLd nLW nL0 hwy (hyc.imp id fun h => by omega)⟩
      have hq1 : q = 1 := V.int.inj (of_decide_eq_true c)
      obtain rfl : ys = ls := hyc.resolve_right fun h => by omega
      refine ⟨_, rfl, .inl ⟨rfl, _, SqL.of hL1⟩, _, rfl, _, rfl, 1, rfl, _, rfl, _, rfl, L, _, rfl, .inl (SqL.of hL1), ?_⟩
      rw [e1]
      refine ⟨d, m1, (ys.length : Int), rfl, hd1, by omega, by omega, fun r m2 r0 r1 => ?_⟩
      have hL2 : upd H1 d (.lst [.int m2]) L = some (.lst (ys.map V.str)) := by rw [upd_ne nLd]; exact hL1
      have hW2 : upd H1 d (.lst [.int m2]) W = some (.lst (ws.map V.str)) := by rw [upd_ne nWd]; exact hW1
      have hd2 := upd_same (H := H1) (a := d) (o := .lst [.int m2])
      have sx2 : SameX d H (upd H1 d (.lst [.int m2])) := sx1.trans SameX.upd
      generalize upd H1 d (.lst [.int m2]) = H2 at hL2 hW2 hd2 sx2 ⊢
      obtain ⟨v, hv, hvm⟩ := atI_neg (xs := ys.map V.str) r0 (by rw [e1]; exact r1)
      obtain ⟨e, he, rfl⟩ := List.mem_map.mp hvm
      have hel2 := hlz e he
      refine ⟨-1, r, rfl, rfl, L, _, -1 - r, .str e, rfl, rfl, SqL.of hL2, hv, L, _, at_, .str e, rfl, rfl, hL2, ?_, at_0, ?_, ?_⟩
      · rw [List.length_map]
        omega
      · omega
      · refine go 2 (fun b o hb e => by rw [upd_ne (ne_of_none e nL0)]; exact sx2 _ _ hb e) ⟨m2, by rw [upd_ne nLd.symm]; exact hd2⟩ (by rw [upd_ne nLW.symm]; exact hW2) (ys := ys.take at_.toNat ++ [e] ++ ys.drop at_.toNat) ?_ nLd nLW nL0 ?_ (.inr (by omega))
        · rw [upd_same, List.map_append, List.map_append, List.map_take, List.map_drop]
          rfl
        · rw [wt_app, wt_app, wt_cons, wt_nil]
          omega
    clear sx1 hd1 m1 hW1 hL1 nLd nLW nL0 hwy hyc L ys H1
    rintro σ H1 ⟨sx1, ⟨m1, hd1⟩, hW1, L, ys, hL1, nLd, nLW, nL0, hwy, hyc, rfl⟩
    refine ⟨onI H d W z at_ pl wo sgn odd q ws ls 3, ?_, ?_⟩
    · refine ⟨_, rfl, rfl, _, rfl, ite2 (fun c => ?_) fun c => go 3 sx1 ⟨m1, hd1⟩ hW1 hL1 nLd nLW nL0 hwy (hyc.imp id fun h => by omega)⟩
      have hq1 : q = 2 := V.int.inj (of_decide_eq_true c)
      obtain rfl : ys = ls := hyc.resolve_right fun h => by omega
      refine cut2 rfl rfl hL1 at_0 (by omega) fun H2 p s2 np hp => ?_
      have hL2 := s2 _ _ hL1
      refine ⟨_, rfl, _, rfl, L, _, at_, .str el, rfl, rfl, SqL.of hL2, atI_int at_0 (by rw [List.getElem?_map, hel]; rfl), (by show 1 ≤ sizeLine; decide), fun p4 np4 => ?_⟩
      have s4 := same_new (o := .lst [.str el]) np4
      have hp4 := upd_same (H := H2) (a := p4) (o := .lst [.str el])
      have hp5 := s4 _ _ hp
      replace s4 := s2.trans s4
      show rCat _ _ (upd H2 p4 (.lst [.str el])) _
      generalize upd H2 p4 (.lst [.str el]) = H4 at s4 hp4 hp5 ⊢
      refine ⟨p, p4, _, _, rfl, rfl, hp5, hp4, ?_, fun p6 np6 => ?_⟩
      · rw [List.length_map, List.length_append, List.length_take, List.length_drop]
        show _ + 1 ≤ _
        omega
      have s6 := s4.trans (same_new (o := .lst ((ys.take at_.toNat ++ ys.drop (at_.toNat + 1)).map V.str ++ [.str el])) np6)
      refine go 3 (sx1.trans (same_x s6)) ⟨m1, s6 _ _ hd1⟩ (s6 _ _ hW1) (ys := ys.take at_.toNat ++ ys.drop (at_.toNat + 1) ++ [el]) ?_ (ne_of_none (s4 _ _ hd1) np6).symm (ne_of_none (s4 _ _ hW1) np6).symm (none_ofX sx1 hd1 (none_of s4 np6)) ?_ (.inr (by omega))
      · rw [upd_same, List.map_append (l₂ := [el])]
        rfl
      · rw [wt_app, wt_app, wt_cons, wt_nil]
        omega
    clear sx1 hd1 m1 hW1 hL1 nLd nLW nL0 hwy hyc L ys H1
    rintro σ H1 ⟨sx1, ⟨m1, hd1⟩, hW1, L, ys, hL1, nLd, nLW, nL0, hwy, hyc, rfl⟩
    refine ⟨onI H d W z at_ pl wo sgn odd q ws ls 4, ?_, ?_⟩
    · refine ⟨_, rfl, rfl, _, rfl, ite2 (fun c => ?_) fun c => go 4 sx1 ⟨m1, hd1⟩ hW1 hL1 nLd nLW nL0 hwy (hyc.imp id fun h => by omega)⟩
      have hq1 : q = 3 := V.int.inj (of_decide_eq_true c)
      obtain rfl : ys = ls := hyc.resolve_right fun h => by omega
      refine ⟨_, rfl, .inl ⟨rfl, _, SqL.of hL1⟩, L, _, .str "", rfl, rfl, hL1, ?_, ?_⟩
      · rw [List.length_map]
        omega
      · refine go 4 (fun b o hb e => by rw [upd_ne (ne_of_none e nL0)]; exact sx1 _ _ hb e) ⟨m1, by rw [upd_ne nLd.symm]; exact hd1⟩ (by rw [upd_ne nLW.symm]; exact hW1) (ys := ys ++ [("" : Str)]) ?_ nLd nLW nL0 ?_ (.inr (by omega))
        · rw [upd_same, List.map_append]
          rfl
        · rw [wt_app, wt_cons, wt_nil]
          have : ("" : Str).length = 0 := by decide +kernel
          omega
    clear sx1 hd1 m1 hW1 hL1 nLd nLW nL0 hwy hyc L ys H1
    rintro σ H1 ⟨sx1, ⟨m1, hd1⟩, hW1, L, ys, hL1, nLd, nLW, nL0, hwy, hyc, rfl⟩
    have hz2 := fun a b => cutS_le z a b
    refine ⟨_, rfl, q, 4, rfl, rfl, _, rfl, ite2 (fun c => ?_) fun c => ?_⟩
    · refine ⟨⟨_, rfl⟩, _, rfl, "
", L, ys, rfl, rfl, .inl (SqL.of hL1), ?_, k _ _ _ sx1 hd1 ?_⟩
      · have e1 : ("
" : Str).length = 1 := by decide +kernel
        rw [e1]
        unfold wt at hwy
        omega
      · rw [nlc]
        exact Nat.le_trans (wt_join ys 10) (by omega)
    have h1 := hz2 none (some pl)
    have h2 := hz2 (some pl) none
    have h3 := hz2 (some (pl + 1)) none
    refine ⟨_, rfl, rfl, _, rfl, ite2 (fun c => ?_) fun c => ?_⟩
    · exact ⟨_, rfl, _, rfl, pl, rfl, z, rfl, by omega, _, rfl, _, _, rfl, rfl, by omega, _, rfl, _, rfl, pl, rfl, z, rfl, by omega, _, _, rfl, rfl, by rw [Str.length_append]; omega, k _ _ _ sx1 hd1 (by rw [Str.length_append, Str.length_append]; omega)⟩
    refine ⟨_, rfl, rfl, _, rfl, ite2 (fun c => ?_) fun c => ?_⟩
    · exact ⟨_, rfl, _, rfl, pl, rfl, z, rfl, by omega, _, rfl, _, rfl, pl, 1, rfl, rfl, pl + 1, rfl, z, rfl, by omega, _, _, rfl, rfl, by omega, k _ _ _ sx1 hd1 (by rw [Str.length_append]; omega)⟩
    refine ⟨_, rfl, rfl, _, rfl, ite2 (fun c => ?_) fun c => ?_⟩
    · exact ⟨_, rfl, _, rfl, pl, rfl, z, rfl, by omega, _, rfl, _, _, rfl, rfl, by omega, _, rfl, _, rfl, pl, 1, rfl, rfl, pl + 1, rfl, z, rfl, by omega, _, _, rfl, rfl, by rw [Str.length_append]; omega, k _ _ _ sx1 hd1 (by rw [Str.length_append, Str.length_append]; omega)⟩
    have hww := wt_out ws wo.toNat
    refine ⟨⟨_, rfl⟩, _, rfl, _, rfl, wo, rfl, W, _, rfl, SqL.of hW1, fun p1 np1 => ?_⟩
    rw [cutV_lo wo0]
    have s1 := same_new (o := .lst ((ws.take wo.toNat).map V.str)) np1
    have q1 := upd_same (H := H1) (a := p1) (o := .lst ((ws.take wo.toNat).map V.str))
    have hW2 := s1 _ _ hW1
    generalize upd H1 p1 (.lst ((ws.take wo.toNat).map V.str)) = G1 at s1 q1 hW2 ⊢
    refine ⟨_, rfl, (by show 1 ≤ sizeLine; decide), fun p2 np2 => ?_⟩
    have s2 := same_new (o := .lst [.str odd]) np2
    have q2 := upd_same (H := G1) (a := p2) (o := .lst [.str odd])
    have q12 := s2 _ _ q1
    have hW3 := s2 _ _ hW2
    replace s2 := s1.trans s2
    show rCat _ _ (upd G1 p2 (.lst [.str odd])) _
    generalize upd G1 p2 (.lst [.str odd]) = G2 at s2 q2 q12 hW3 ⊢
    refine ⟨p1, p2, _, _, rfl, rfl, q12, q2, ?_, fun p3 np3 => ?_⟩
    · rw [List.length_map, List.length_take]
      show _ + 1 ≤ _
      omega
    have ec : (ws.take wo.toNat).map V.str ++ [V.str odd] = (ws.take wo.toNat ++ [odd]).map V.str := by rw [List.map_append]; rfl
    rw [ec]
    have s3 := same_new (o := .lst ((ws.take wo.toNat ++ [odd]).map V.str)) np3
    have q3 := upd_same (H := G2) (a := p3) (o := .lst ((ws.take wo.toNat ++ [odd]).map V.str))
    have hW4 := s3 _ _ hW3
    replace s3 := s2.trans s3
    generalize upd G2 p3 (.lst ((ws.take wo.toNat ++ [odd]).map V.str)) = G3 at s3 q3 hW4 ⊢
    refine ⟨_, rfl, _, rfl, wo, 1, rfl, rfl, wo + 1, rfl, W, _, rfl, SqL.of hW4, fun p4 np4 => ?_⟩
    rw [cutV_hi (by omega), show (wo + 1).toNat = wo.toNat + 1 by omega]
    have s4 := same_new (o := .lst ((ws.drop (wo.toNat + 1)).map V.str)) np4
    have q4 := upd_same (H := G3) (a := p4) (o := .lst ((ws.drop (wo.toNat + 1)).map V.str))
    have q34 := s4 _ _ q3
    replace s4 := s3.trans s4
    generalize upd G3 p4 (.lst ((ws.drop (wo.toNat + 1)).map V.str)) = G4 at s4 q4 q34 ⊢
    refine ⟨p3, p4, _, _, rfl, rfl, q34, q4, ?_, fun p5 np5 => ?_⟩
    · rw [List.length_map, List.length_map, List.length_append, List.length_take, List.length_drop]
      show _ + 1 + _ ≤ _
      omega
    rw [← List.map_append]
    have s5 := same_new (o := .lst ((ws.take wo.toNat ++ [odd] ++ ws.drop (wo.toNat + 1)).map V.str)) np5
    have q5 := upd_same (H := G4) (a := p5) (o := .lst ((ws.take wo.toNat ++ [odd] ++ ws.drop (wo.toNat + 1)).map V.str))
    replace s5 := s4.trans s5
    generalize upd G4 p5 (.lst ((ws.take wo.toNat ++ [odd] ++ ws.drop (wo.toNat + 1)).map V.str)) = G5 at s5 q5 ⊢
    have hwt : wt (ws.take wo.toNat ++ [odd] ++ ws.drop (wo.toNat + 1)) ≤ z.length + 11 := by
      rw [wt_app, wt_app, wt_cons, wt_nil]
      omega
    refine ⟨" ", p5, _, rfl, rfl, .inl (SqL.of q5), ?_, k _ _ _ (sx1.trans (same_x s5)) (s5 _ _ hd1) ?_⟩
    · have e1 : (" " : Str).length = 1 := by decide +kernel
      rw [e1]
      unfold wt at hwt
      omega
    · rw [spc]
      exact Nat.le_trans (wt_join _ 32) (by omega)
theorem sc_law_spoiled : FnScope ["_law_draw", "_law_text", "_law_k", "_law_kind"] ["_law_draw", "_law_text"] (defScope s_law_spoiled) := ⟨rfl, rfl, rfl, by decide +kernel, rfl, by decide +kernel, by decide +kernel⟩
-- slots: 0 _law_draw, 1 _law_text, 2 _law_k, 3 _law_kind
def bnd : Nat → Nat
  | 0 => 40000
  | j + 1 => 2 * bnd j + 20
theorem bnd_le : ∀ {j : Nat}, j ≤ 2 → bnd j ≤ 160060
  | 0, _ => by decide
  | 1, _ => by decide
  | 2, _ => by decide
def spSpl (K : PySem.W.Frag) : Sp := fun vs H Q _ => ∃ (d : Addr) (n : Int) (z : Str), vs = [.ref d, .str z] ∧ H d = some (.lst [.int n]) ∧ z.length ≤ 40000 ∧ ∀ (H' : Hp) (m : Int) (x : V), SameX d H H' → (OddS H' x ∨ ∃ y : Str, x = .str y ∧ y.length ≤ 400000) → Q x H'
theorem ok_law_spoiled {fd : FuncData} (F : FnD K ("_law_spoiled", none) "_law_spoiled" "_law_spoiled" s_law_spoiled fd) (T : Txt K mg) (O_law_take : OkF P w K mg base CX0 1 "_law_take" ["_law_draw", "_law_size"] spTake) (O_law_once : OkF P w K mg base CX0 2 "_law_once" ["_law_draw", "_law_text"] spOnc) : OkF P w K mg base CX0 3 "_law_spoiled" ["_law_draw", "_law_text"] (spSpl K) := by
  refine okd F (F.ok sc_law_spoiled (fun vs H Q E h => ?_) fun cdv A outer s H vs Q E hr h => ?_) fun _ _ _ _ _ _ us hl => match us, hl with | [_, _], _ => rfl
  · obtain ⟨d, n, z, rfl, _⟩ := h
    rfl
  · obtain ⟨d, n, z, rfl, hd, hz, k⟩ := h
    refine ⟨_, PSs.nox (pss_cons (ps_for PassesOwn.never rfl (pi_range1 rfl T.z_range (pa_cons (c_fn O_law_take hr (by decide) T.g_law_take pass0 (pa_cons (pv 0) (pa_cons pe_int pa_nil))) pa_nil)) (pg_name (i := 2) sc_law_spoiled.nd rfl (Or.inl rfl))
  (pss_one (ps_set (i := 1) sc_law_spoiled.nd rfl (Or.inl rfl) (c_fn O_law_once hr (by decide) T.g_law_once pass0 (pa_cons (pv 0) (pa_cons (pv 1) pa_nil))))))
  (pss_cons (ps_set (i := 3) sc_law_spoiled.nd rfl (Or.inl rfl) (c_fn O_law_take hr (by decide) T.g_law_take pass0 (pa_cons (pv 0) (pa_cons pe_int pa_nil))))
  (pss_cons (ps_if (pt_cmpR op_lt (pv 3) pe_int (nomark _)) (pss_one (ps_ret (pe_op op_add_str (pv 1) (pe_op op_mulA pe_str (pe_op op_sub (pe_op op_add pe_int (pv 3)) (pe_callB call_len_str (by rfl) T.z_len (by decide +kernel) (pa_cons (pv 1) pa_nil)))))))
  pss_nil)
  (pss_cons (ps_if (pt_cmpR op_eq (pv 3) pe_int (nomark _)) (pss_one (ps_ret (pe_ix ix_list (pe_lst (pa_cons pe_non (pa_cons pe_int (pa_cons (pe_lst (pa_cons (pv 1) pa_nil)) (pa_cons (pe_tup (pa_cons (pv 1) pa_nil)) (pa_cons pe_bl (pa_cons pe_dnewK pa_nil))))))) (c_fn O_law_take hr (by decide) T.g_law_take pass0 (pa_cons (pv 0) (pa_cons pe_int pa_nil))) (fun _ _ => rfl))))
  pss_nil)
  (pss_one (ps_ret (pv 1))))))), ?_⟩
    have big : 10000000 ≤ sizeLine := by decide
    refine ⟨_, rfl, d, n, 3, rfl, hd, by decide, by decide, fun r1 m1 a0 a1 => ?_⟩
    have hd1 := upd_same (H := H) (a := d) (o := .lst [.int m1])
    have sx1 : SameX d H (upd H d (.lst [.int m1])) := SameX.upd
    generalize upd H d (.lst [.int m1]) = H1 at hd1 sx1 ⊢
    refine ⟨r1, rfl, by omega, by omega, for_range (lo := 0) (n := r1.toNat) (fun j σ H' => j ≤ 2 ∧ SameX d H H' ∧ (∃ m, H' d = some (.lst [.int m])) ∧ ∃ (y : Str) (v : Option V), y.length ≤ bnd j ∧ σ = [some (.ref d), some (.str y), v, none]) ⟨by omega, sx1, ⟨m1, hd1⟩, z, none, hz, rfl⟩ ?_ ?_⟩
    · clear hd1 sx1 H1 m1
      rintro j σ H1 hj ⟨j2, sx1, ⟨m1, hd1⟩, y, v, hy, rfl⟩
      have hb := bnd_le (j := j) j2
      refine ⟨_, rfl, _, rfl, d, m1, y, rfl, hd1, by omega, fun H2 m2 y2 sx2 hd2 hy2 => ?_⟩
      exact ⟨by omega, sx1.trans sx2, ⟨m2, hd2⟩, y2, _, by show _ ≤ 2 * bnd j + 20; omega, rfl⟩
    clear hd1 sx1 H1 m1
    rintro σ H1 ⟨j2, sx1, ⟨m1, hd1⟩, y, v, hy, rfl⟩
    have hb := bnd_le j2
    refine ⟨_, rfl, d, m1, 24, rfl, hd1, by decide, by decide, fun q m2 q0 q1 => ?_⟩
    have hd2 := upd_same (H := H1) (a := d) (o := .lst [.int m2])
    have sx2 : SameX d H (upd H1 d (.lst [.int m2])) := sx1.trans SameX.upd
    generalize upd H1 d (.lst [.int m2]) = H2 at hd2 sx2 ⊢
    clear hd1 sx1 H1 m1
    refine ⟨_, rfl, _, 2, rfl, rfl, _, rfl, ite2 (fun _ => ?_) fun _ => ?_⟩
    · exact ⟨_, rfl, _, rfl, 40000, q, rfl, rfl, _, rfl, y, rfl, by omega, 40000 + q, y.length, rfl, rfl, "x", _, rfl, rfl, rfl, by omega, by omega, fun w hw => ⟨_, _, rfl, rfl, by omega, k _ 0 _ sx2 (.inr ⟨_, rfl, by rw [Str.length_append]; omega⟩)⟩⟩
    refine ⟨_, rfl, rfl, _, rfl, ite2 (fun _ => ?_) fun _ => ?_⟩
    · refine ⟨_, rfl, (by show 1 ≤ sizeLine; decide), fun t nt => ?_⟩
      have s3 := same_new (o := .lst [.str y]) nt
      have ht := upd_same (H := H2) (a := t) (o := .lst [.str y])
      have hd3 := s3 _ _ hd2
      have sx3 := sx2.trans (same_x s3)
      have ntd : t ≠ d := (ne_of_none hd2 nt).symm
      show tCons _ _ _ (upd H2 t (.lst [.str y])) _
      generalize upd H2 t (.lst [.str y]) = H3 at ht hd3 sx3 ⊢
      refine ⟨_, rfl, (by show 1 ≤ sizeLine; decide), fun u nu => ?_⟩
      have s4 := same_new (o := .tup [.str y]) nu
      have hu := upd_same (H := H3) (a := u) (o := .tup [.str y])
      have hd4 := s4 _ _ hd3
      have ht4 := s4 _ _ ht
      have sx4 := sx3.trans (same_x s4)
      have nud : u ≠ d := (ne_of_none hd3 nu).symm
      show tCons _ _ _ (upd H3 u (.tup [.str y])) _
      generalize upd H3 u (.tup [.str y]) = H4 at hu hd4 ht4 sx4 ⊢
      clear s3 ht hd3 sx3 nu s4 nt
      intro p np
      have s5 := same_new (o := .dK []) np
      have hp := upd_same (H := H4) (a := p) (o := .dK [])
      have hd5 := s5 _ _ hd4
      have ht5 := s5 _ _ ht4
      have hu5 := s5 _ _ hu
      have sx5 := sx4.trans (same_x s5)
      have npd : p ≠ d := (ne_of_none hd4 np).symm
      show tNil _ (upd H4 p (.dK [])) _
      generalize upd H4 p (.dK []) = H5 at hp hd5 ht5 hu5 sx5 ⊢
      clear s5 ht4 hd4 sx4 hu np
      refine ⟨(by show 6 ≤ sizeLine; decide), fun O nO => ?_⟩
      obtain ⟨bs, eb⟩ : ∃ bs : List V, bs = [.non, .int 5, .ref t, .ref u, .bl true, .ref p] := ⟨_, rfl⟩
      have s6 := same_new (o := .lst bs) nO
      have hO := upd_same (H := H5) (a := O) (o := .lst bs)
      have hd6 := s6 _ _ hd5
      have ht6 := s6 _ _ ht5
      have hu6 := s6 _ _ hu5
      have hp6 := s6 _ _ hp
      have sx6 := sx5.trans (same_x s6)
      have nOd : O ≠ d := (ne_of_none hd5 nO).symm
      show tCall _ _ _ _ _ (upd H5 O (.lst [.non, .int 5, .ref t, .ref u, .bl true, .ref p])) _
      rw [← eb]
      generalize upd H5 O (.lst bs) = H6 at hO hp6 hd6 ht6 hu6 sx6 ⊢
      clear s6 ht5 hd5 sx5 hu5 hp nO
      refine ⟨_, rfl, d, m2, 6, rfl, hd6, by decide, by decide, fun r m7 r0 r1' => ?_⟩
      have hO7 : upd H6 d (.lst [.int m7]) O = some (.lst bs) := by rw [upd_ne nOd]; exact hO
      have ht7 : upd H6 d (.lst [.int m7]) t = some (.lst [.str y]) := by rw [upd_ne ntd]; exact ht6
      have hu7 : upd H6 d (.lst [.int m7]) u = some (.tup [.str y]) := by rw [upd_ne nud]; exact hu6
      have hp7 : upd H6 d (.lst [.int m7]) p = some (.dK []) := by rw [upd_ne npd]; exact hp6
      have sx7 : SameX d H (upd H6 d (.lst [.int m7])) := sx6.trans SameX.upd
      generalize upd H6 d (.lst [.int m7]) = H7 at hO7 ht7 hu7 hp7 sx7 ⊢
      have hbl : bs.length = 6 := by rw [eb]; rfl
      obtain ⟨x, hx⟩ : ∃ x, bs[r.toNat]? = some x := ⟨_, List.getElem?_eq_getElem (by rw [hbl]; omega)⟩
      refine ⟨O, bs, r, x, rfl, rfl, SqL.of hO7, atI_int r0 hx, k _ 0 x sx7 (.inl ?_)⟩
      have hm := List.mem_of_getElem? hx
      rw [eb] at hm
      simp only [List.mem_cons, List.not_mem_nil, or_false] at hm
      rcases hm with rfl | rfl | rfl | rfl | rfl | rfl
      · exact .non
      · exact .int 5
      · exact .lst ht7
      · exact .tup hu7
      · exact .bl true
      · exact .dic hp7
    · exact ⟨_, rfl, k _ 0 _ sx2 (.inr ⟨y, rfl, by omega⟩)⟩
end
end K39

set_option Elab.async false
set_option linter.all false
set_option pp.deepTerms.threshold 14
set_option pp.maxSteps 2500
set_option maxRecDepth 100000
set_option maxHeartbeats 2000000
namespace K39
open PySem PySem.Spec PyProof.Rows L2 Vf
section
variable {P : Program} {w : World} {K : PySem.W.Frag} {mg : Str → Option Value} {base : Heap}
theorem oddS_ext {H H' : Hp} {x : V} (o : OddS H x) (s : Same H H') : OddS H' x := by
  cases o with
  | bl b => exact .bl b
  | non => exact .non
  | int i => exact .int i
  | tup h => exact .tup (s _ _ h)
  | lst h => exact .lst (s _ _ h)
  | dic h => exact .dic (s _ _ h)
def spLaw (K : PySem.W.Frag) : Sp := fun vs H Q _ => ∃ (a : Addr) (ns : List Int), vs = [.ref a] ∧ SqL K H a (ns.map V.int) ∧ ns.length ≤ 63 ∧ ∀ H', Q (.bl true) H'
def wi : Option Int → V
  | none => .non
  | some n => .int n
/-- what the law's reading and _law_read tell of a value, at once -/
theorem read_of (K : PySem.W.Frag) {H1 : Hp} {x : V} (hx : OddS H1 x ∨ ∃ y : Str, x = .str y ∧ y.length ≤ 400000) : ∃ o : Option Int, (∀ Q E, (∀ H', Same H1 H' → Q (wi o) H') → spWrl [x] H1 Q E) ∧
    ∀ H' Q E, Same H1 H' → (∀ n : Int, o = some n → ∀ H'' q, Same H' H'' → H' q = none → H'' q = some (.tup [.str "refused", .int n, .bl true, .bl false]) → Q (.ref q) H'') →
      (o = none → ∀ (y : Str) (m : _root_.Fin 8) (ss : List (Str × Int)) (ls : List (Option Int)), x = .str y → RnOk y m ss ls → ∀ H'' q p S L, Same H' H'' → H' q = none → H'' q = some (.tup [.str "told", .ref p]) → H'' p = some (.tup [.int (m.val : Int), .ref S, .ref L]) → StsA H'' S ss → H'' L = some (.lst (ls.map lkT)) → Q (.ref q) H'') → spLrd K [x] H' Q E := by
  have big : 1000000 ≤ sizeLine := by decide
  rcases hx with o | ⟨y, rfl, hy⟩
  · exact ⟨some 0, fun Q E h => ⟨x, rfl, .inl ⟨o, h _ (Same.refl _)⟩⟩, fun H' Q E s h1 _ => ⟨x, rfl, .inl ⟨oddS_ext o s, h1 0 rfl⟩⟩⟩
  · cases e : wrZ y with
    | none => exact ⟨none, fun Q E h => ⟨_, rfl, .inr ⟨y, rfl, by omega, fun H' s => by rw [e]; exact h H' s⟩⟩, fun H' Q E s _ h2 => ⟨_, rfl, .inr ⟨y, rfl, by omega, (fun n en => by rw [e] at en; cases en), fun m ss ls _ ok => h2 rfl y m ss ls rfl ok⟩⟩⟩
    | some n => exact ⟨some (n : Int), fun Q E h => ⟨_, rfl, .inr ⟨y, rfl, by omega, fun H' s => by rw [e]; exact h H' s⟩⟩, fun H' Q E s h1 _ => ⟨_, rfl, .inr ⟨y, rfl, by omega, (fun n' en => by rw [e] at en; cases en; exact h1 _ rfl), fun m ss ls en _ => by rw [e] at en; cases en⟩⟩⟩
theorem sc_law : FnScope ["_law_script", "_law_draw", "_law_big", "_law_shift", "_law_parts", "_law_text", "_law_many", "_law_k", "_law_spoiled_here", "_law_due", "_law_outcome"] ["_law_script"] (defScope s_law) := ⟨rfl, rfl, rfl, by decide +kernel, rfl, by decide +kernel, by decide +kernel⟩
-- slots: 0 _law_script, 1 _law_draw, 2 _law_big, 3 _law_shift, 4 _law_parts, 5 _law_text, 6 _law_many, 7 _law_k, 8 _law_spoiled_here, 9 _law_due, 10 _law_outcome
theorem ok_law {fd : FuncData} (F : FnD K ("law", none) "law" "law" s_law fd) (T : WTxt K mg) (O_law_cell : OkF P w K mg base CX0 1 "_law_cell" ["_law_script", "_law_k"] (Vf.spCell K)) (O_law_take : OkF P w K mg base CX0 1 "_law_take" ["_law_draw", "_law_size"] spTake)
    (O_law_run : OkF P w K mg base CX0 3 "_law_run" ["_law_draw", "_law_script", "_law_big"] (spRun K)) (O_law_run_text : OkF P w K mg base CX0 1 "_law_run_text" ["_law_shift", "_law_stays", "_law_looks"] spRtx) (O_law_spoiled : OkF P w K mg base CX0 3 "_law_spoiled" ["_law_draw", "_law_text"] (spSpl K)) (O_law_wrong_line : OkF P w K mg base CX0 3 "_law_wrong_line" ["_law_text"] spWrl)
    (O_law_read : OkF P w K mg base CX0 7 "_law_read" ["_law_text"] (spLrd K)) (O_write_run : OkF P w K mg base (L2.CX P w) 5 "write_run" ["phase", "stays", "looks"] (spWr K)) : FnOk P w K mg base CX0 8 (He.ga K "law") fd ["_law_script"] (spLaw K) := by
  refine F.ok sc_law (fun vs H Q E h => ?_) fun cdv A outer s H vs Q E hr h => ?_
  · obtain ⟨a, ns, rfl, _⟩ := h
    rfl
  · obtain ⟨a0, ns, rfl, hS, hlen, k⟩ := h
    refine ⟨_, PSs.nox (pss_cons (ps_set (i := 1) sc_law.nd rfl (Or.inl rfl) (pe_lst (pa_cons (c_fn O_law_cell hr (by decide) T.g_law_cell pass0 (pa_cons (pv 0) (pa_cons pe_int pa_nil))) pa_nil)))
  (pss_cons (ps_set (i := 2) sc_law.nd rfl (Or.inl rfl) (c_fn O_law_take hr (by decide) T.g_law_take pass0 (pa_cons (pv 1) (pa_cons pe_int pa_nil))))
  (pss_cons (ps_set (i := 3) sc_law.nd rfl (Or.inl rfl) (c_fn O_law_take hr (by decide) T.g_law_take pass0 (pa_cons (pv 1) (pa_cons pe_int pa_nil))))
  (pss_cons (ps_set (i := 4) sc_law.nd rfl (Or.inl rfl) (c_fn O_law_run hr (by decide) T.g_law_run pass0 (pa_cons (pv 1) (pa_cons (pv 0) (pa_cons (pv 2) pa_nil)))))
  (pss_cons (ps_set (i := 5) sc_law.nd rfl (Or.inl rfl) (c_fn O_law_run_text hr (by decide) T.g_law_run_text pass0 (pa_cons (pv 3) (pa_cons (pe_ix ix_list (pv 4) pe_int (fun _ _ => rfl)) (pa_cons (pe_ix ix_list (pv 4) pe_int (fun _ _ => rfl)) pa_nil)))))
  (pss_cons (ps_set (i := 6) sc_law.nd rfl (Or.inl rfl) (pe_op op_add pe_int (pe_callB (id := "len") call_len_seq (by rfl) T.z_len (by decide +kernel) (pa_cons (pe_slice sl_list (pv 0) (po_some pe_int) (po_some pe_int)) pa_nil))))
  (C8.pss_cut (ps_if (pt_cmpR op_lt (pv 2) pe_int (nomark _)) (pss_one (ps_set (i := 6) sc_law.nd rfl (Or.inl rfl) pe_int))
  pss_nil)
  (pss_cons (ps_for PassesOwn.never rfl (pi_range1 rfl T.z_range (pa_cons (pe_op op_add pe_int (pv 6)) pa_nil)) (pg_name (i := 7) sc_law.nd rfl (Or.inl rfl))
  (pss_cons (ps_set (i := 8) sc_law.nd rfl (Or.inl rfl) (pv 5))
  (C8.pss_cut (ps_if (pt_cmpR op_gt (pv 7) pe_int (nomark _)) (pss_one (ps_set (i := 8) sc_law.nd rfl (Or.inl rfl) (c_fn O_law_spoiled hr (by decide) T.g_law_spoiled pass0 (pa_cons (pe_lst (pa_cons (c_fn O_law_cell hr (by decide) T.g_law_cell pass0 (pa_cons (pv 0) (pa_cons (pe_op op_add pe_int (pv 7)) pa_nil))) pa_nil)) (pa_cons (pv 5) pa_nil)))))
  pss_nil)
  (pss_cons (ps_set (i := 9) sc_law.nd rfl (Or.inl rfl) (c_fn O_law_wrong_line hr (by decide) T.g_law_wrong_line pass0 (pa_cons (pv 8) pa_nil)))
  (pss_cons (ps_set (i := 10) sc_law.nd rfl (Or.inl rfl) (c_fn O_law_read hr (by decide) T.g_law_read pass0 (pa_cons (pv 8) pa_nil)))
  (pss_cons (ps_if (PW.pt (pw_andB (pt_cmpR op_notN (pv 9) pe_non (nomark _)) (pw_and1 (pt_cmpR (op_neD hr.units) (pv 10) (pe_tup (pa_cons pe_str (pa_cons (pv 9) (pa_cons pe_bl (pa_cons pe_bl pa_nil))))) (nomark _))))) (pss_one (ps_ret pe_bl))
  pss_nil)
  (pss_one (ps_if (pt_cmpR op_isN (pv 9) pe_non (nomark _)) (pss_one (ps_if (PW.pt (pw_orB (pt_cmpR (op_neD hr.units) (pe_ix ix_tup (pv 10) pe_int (fun _ _ => rfl)) pe_str (nomark _)) (pw_or1 (pt_cmpR op_ne (c_fn O_write_run hr (by decide) T.g_write_run passL (pa_cons (pe_ix ix_tup (pe_ix ix_tup (pv 10) pe_int (fun _ _ => rfl)) pe_int (fun _ _ => rfl)) (pa_cons (pe_ix ix_tup (pe_ix ix_tup (pv 10) pe_int (fun _ _ => rfl)) pe_int (fun _ _ => rfl)) (pa_cons (pe_ix ix_tup (pe_ix ix_tup (pv 10) pe_int (fun _ _ => rfl)) pe_int (fun _ _ => rfl)) pa_nil)))) (pv 8) (nomark _))))) (pss_one (ps_ret pe_bl))
  pss_nil))
  pss_nil))))))))
  (pss_one (ps_ret pe_bl)))))))))), ?_⟩
    have big : 10000000 ≤ sizeLine := by decide
    refine ⟨_, rfl, a0, ns, 0, rfl, hS, by decide, fun n0 => ⟨(by show 1 ≤ sizeLine; decide), fun d nd => ?_⟩⟩
    have s1 := same_new (o := .lst [.int n0]) nd
    have hd1 := upd_same (H := H) (a := d) (o := .lst [.int n0])
    generalize upd H d (.lst [.int n0]) = H1 at s1 hd1 ⊢
    refine ⟨_, rfl, d, n0, 24, rfl, hd1, by decide, by decide, fun bg m2 bg0 bg1 => ?_⟩
    have s2 : Same H (upd H1 d (.lst [.int m2])) := same_x2 s1 SameX.upd nd
    have hd2 := upd_same (H := H1) (a := d) (o := .lst [.int m2])
    generalize upd H1 d (.lst [.int m2]) = H2 at s2 hd2 ⊢
    refine ⟨_, rfl, d, m2, 8, rfl, hd2, by decide, by decide, fun sh m3 sh0 sh1 => ?_⟩
    have s3 : Same H (upd H2 d (.lst [.int m3])) := same_x2 s2 SameX.upd nd
    have hd3 := upd_same (H := H2) (a := d) (o := .lst [.int m3])
    generalize upd H2 d (.lst [.int m3]) = H3 at s3 hd3 ⊢
    clear s1 hd1 s2 hd2 H1 H2
    refine ⟨_, rfl, _, rfl, _, rfl, d, a0, m3, bg, ns, rfl, hd3, s3.seq hS, hlen, fun H4 p S L ss ls x4 hp hSs hL hss hls l1 l2 k1 k2 => ?_⟩
    have s4 : Same H H4 := same_x2 s3 x4 nd
    clear s3 hd3 x4 H3
    have hl9 : ∀ n, some n ∈ ls → 0 ≤ n ∧ n ≤ 9 := fun n e => ⟨(hls n e).1, by have := (hls n e).2; omega⟩
    refine ⟨_, rfl, _, rfl, p, _, 0, .ref S, rfl, rfl, SqL.of hp, atI0, _, rfl, p, _, 1, .ref L, rfl, rfl, SqL.of hp, atI1, ⟨sh.toNat, by omega⟩, S, L, ss, ls, ?_, hSs, hL, hss, hls, l2, k2, fun H5 s5 => ?_⟩
    · show [V.int sh, .ref S, .ref L] = [V.int (sh.toNat : Int), .ref S, .ref L]
      rw [Int.toNat_of_nonneg sh0]
    replace s5 := s4.trans s5
    clear s4 hp hSs hL H4
    obtain ⟨z, hzl⟩ : ∃ z : Str, z = rnT ((⟨sh.toNat, by omega⟩ : _root_.Fin 8)).val ss ls ∧ z.length ≤ 40000 := by
      refine ⟨_, rfl, ?_⟩
      have h1 := join_len "\n" (phL sh.toNat :: (ss.map syL ++ [lkL ls]))
      have h2 := rnT_sum (m := ⟨sh.toNat, by omega⟩) hss hl9
      have e2 : ("\n" : Str).length = 1 := by decide +kernel
      rw [e2, List.length_cons, List.length_append, List.length_map, List.length_singleton] at h1
      have h3 : (rnT sh.toNat ss ls).length ≤ _ := h1
      have h2 : ((phL sh.toNat :: (ss.map syL ++ [lkL ls])).map (·.length)).sum ≤ 17 + 12 * ss.length + 2 * ls.length := h2
      show (rnT sh.toNat ss ls).length ≤ 40000
      omega
    obtain ⟨hz, hzl⟩ := hzl
    rw [← hz]
    clear hz hl9 hss hls l1 l2 k1 k2
    refine ⟨_, rfl, 5, rfl, 20, rfl, a0, _, rfl, s5.seq hS, fun c nc => ?_⟩
    obtain ⟨cs, hcs⟩ : ∃ cs, cutV (ns.map V.int) (some 5) (some 20) = cs := ⟨_, rfl⟩
    have hcl : cs.length ≤ 63 := by
      rw [← hcs]
      have := cutV_length (ns.map V.int) (some 5) (some 20)
      rw [List.length_map] at this
      omega
    rw [hcs]
    have s6 := s5.trans (same_new (o := .lst cs) nc)
    have hc := upd_same (H := H5) (a := c) (o := .lst cs)
    generalize upd H5 c (.lst cs) = H6 at s6 hc ⊢
    refine ⟨c, _, rfl, .inl (SqL.of hc), 1, _, rfl, rfl, ?_⟩
    refine ⟨fun σ' H' => H' = H6 ∧ ∃ M : Int, 0 ≤ M ∧ M ≤ 64 ∧ σ' = [some (.ref a0), some (.ref d), some (.int bg), some (.int sh), some (.ref p), some (.str z), some (.int M), none, none, none, none], ?_, ?_⟩
    · exact ⟨_, rfl, _, 2, rfl, rfl, _, rfl, ite2 (fun _ => ⟨rfl, 1, by decide, by decide, rfl⟩) fun _ => ⟨rfl, _, by omega, by omega, rfl⟩⟩
    rintro σ H' ⟨rfl, M, M0, M1, rfl⟩
    refine ⟨_, rfl, 1, M, rfl, rfl, 1 + M, rfl, by omega, by omega, for_range (lo := 0) (n := (1 + M).toNat) (fun j σ H' => Same H H' ∧ ∃ v7 v8 v9 v10 : Option V, σ = [some (.ref a0), some (.ref d), some (.int bg), some (.int sh), some (.ref p), some (.str z), some (.int M), v7, v8, v9, v10]) ⟨s6, none, none, none, none, rfl⟩ ?_ ?_⟩
    · clear s6 hc H' nc hcs hcl cs c s5 H5
      rintro j σ H1 hj ⟨s1, v7, v8, v9, v10, rfl⟩
      refine ⟨_, rfl, ?_⟩
      refine ⟨fun σ' H' => Same H H' ∧ ∃ x : V, (OddS H' x ∨ ∃ y : Str, x = .str y ∧ y.length ≤ 400000) ∧ σ' = [some (.ref a0), some (.ref d), some (.int bg), some (.int sh), some (.ref p), some (.str z), some (.int M), some (.int (0 + (j : Int))), some x, v9, v10], ?_, ?_⟩
      · refine ⟨_, rfl, _, 0, rfl, rfl, _, rfl, ite2 (fun _ => ?_) fun _ => ⟨s1, .str z, .inr ⟨z, rfl, by omega⟩, rfl⟩⟩
        refine ⟨_, rfl, _, rfl, 2, _, rfl, rfl, a0, ns, 2 + j, ?_, s1.seq hS, by omega, fun n1 => ⟨(by show 1 ≤ sizeLine; decide), fun e ne => ?_⟩⟩
        · show [V.ref a0, V.int (2 + (0 + (j : Int)))] = [V.ref a0, V.int ((2 + j : Nat) : Int)]
          rw [show 2 + (0 + (j : Int)) = ((2 + j : Nat) : Int) by omega]
        have s2 := same_new (o := .lst [.int n1]) ne
        have he := upd_same (H := H1) (a := e) (o := .lst [.int n1])
        have ne0 := none_of s1 ne
        replace s2 := s1.trans s2
        generalize upd H1 e (.lst [.int n1]) = H2 at s2 he ⊢
        exact ⟨_, rfl, e, n1, z, rfl, he, hzl, fun H7 m7 x x7 hx => ⟨same_x2 s2 x7 ne0, x, hx, rfl⟩⟩
      clear s1 H1
      rintro σ H1 ⟨s1, x, hx, rfl⟩
      obtain ⟨o, w1, w2⟩ := read_of K hx
      refine ⟨_, rfl, ?_⟩
      unfold tNil
      dsimp only [List.nil_append, List.cons_append]
      refine w1 _ _ fun H2 s2 => ?_
      refine ⟨_, rfl, ?_⟩
      dsimp only [List.nil_append, List.cons_append]
      refine w2 _ _ _ s2 (fun n en H3 q s3 nq hq => ?_) fun eo y m ss' ls' ex ok H3 q p' S' L' s3 nq hq hp hS hL => ?_
      · subst en
        have s13 := s1.trans (s2.trans s3)
        have sh2 : SeqAt.shaped (.tuple [.str "refused", .int n, .bool true, .bool false]) = true := by
          have h2 : PyData.strOk "refused" = true := by decide +kernel
          unfold SeqAt.shaped
          rw [Bool.and_eq_true]
          refine ⟨by simp [PyData.canLay0, PyData.canLayAll0, h2], decide_eq_true ?_⟩
          simp only [PyData.depth, PyData.depthAll]
          omega
        have dp : ∀ {X : Hp} {u : Addr}, X u = some (.tup [.str "refused", .int n, .bl true, .bl false]) → Dp K X (.ref u) (.tuple [.str "refused", .int n, .bool true, .bool false]) := fun h => .tup (SqT.of h) (.cons (.str _) (.cons (.int _) (.cons (.bl _) (.cons (.bl _) .nil))))
        refine ⟨_, rfl, rfl, true, rfl, false, fun H' => Same H3 H', fun _ => ⟨_, rfl, _, rfl, (by show 4 ≤ sizeLine; decide), fun t nt => ⟨_, _, dp (same_new nt _ _ hq), dp upd_same, sh2, sh2, _, rfl, ?_, same_new nt⟩⟩, (fun c => Bool.noConfusion c), fun H4 s4 => ?_⟩
        · rw [SeqAt.eqv_refl _ (SeqAt.canLay_of_shaped sh2)]
          rfl
        · exact iteF ⟨_, rfl, rfl, false, rfl, iteF ⟨s13.trans s4, _, _, _, _, rfl⟩⟩
      · subst eo
        subst ex
        have s13 := s1.trans (s2.trans s3)
        have sh2 : SeqAt.shaped (.str "told") = true := by decide +kernel
        refine ⟨_, rfl, rfl, false, rfl, false, (· = H3), (fun c => Bool.noConfusion c), fun _ => rfl, fun H4 e => ?_⟩
        subst e
        refine iteF ⟨_, rfl, rfl, true, rfl, iteT ?_⟩
        refine ⟨_, rfl, q, _, 0, .str "told", rfl, rfl, SqT.of hq, atI0, .str "told", .str "told", .str _, .str _, sh2, sh2, ?_⟩
        rw [SeqAt.eqv_refl _ (SeqAt.canLay_of_shaped sh2)]
        refine ⟨_, rfl, false, fun H' => Same H4 H', fun _ => ?_, (fun c => Bool.noConfusion c), fun H5 s5 => iteF ⟨s13.trans s5, _, _, _, _, rfl⟩⟩
        refine ⟨_, rfl, q, _, 1, .ref p', rfl, rfl, SqT.of hq, atI1, p', _, 0, .int (m.val : Int), rfl, rfl, SqT.of hp, atI0, _, rfl, q, _, 1, .ref p', rfl, rfl, SqT.of hq, atI1, p', _, 1, .ref S', rfl, rfl, SqT.of hp, atI1, _, rfl, q, _, 1, .ref p', rfl, rfl, SqT.of hq, atI1, p', _, 2, .ref L', rfl, rfl, SqT.of hp, atI_nat (j := 2) rfl, ?_⟩
        refine ⟨_, _, _, rfl, .inr ⟨m, rfl, .inr ⟨S', ss', rfl, hS, ok.hs, ok.s1, ok.s2, .inr ⟨L', ls', rfl, hL, ok.hl.1, ok.hl.2.1, ok.hl.2.2, fun H5 s5 => ⟨_, rfl, rfl, _, rfl, ?_, s5⟩⟩⟩⟩⟩
        rw [ok.e, decide_eq_true rfl]
        rfl
    · rintro σ H1 ⟨s1, v7, v8, v9, v10, rfl⟩
      exact k _
end
end K39

set_option Elab.async false
set_option linter.all false
set_option maxRecDepth 100000
set_option maxHeartbeats 4000000
namespace K39
open PySem PySem.Spec PyProof.Rows L2 Vf
section
variable {K : PySem.W.Frag} {h : Heap} {mg : Str → Option Value}
theorem mk_WTxt (X : K.In h) (G : h.Ns mainGlobals mg) (c : ex K = true) : WTxt K mg := by
  obtain ⟨a, c⟩ := He.ba c
  have fact : ∀ (i : Nat) {f : He.Fa}, fa[i]? = some f → f.ok K = true := fun i f e => List.all_eq_true.mp a f (List.mem_of_getElem? e)
  obtain ⟨c0, c⟩ := He.ba c
  obtain ⟨c1, c⟩ := He.ba c
  obtain ⟨c2, c⟩ := He.ba c
  obtain ⟨c3, c⟩ := He.ba c
  obtain ⟨c4, c⟩ := He.ba c
  obtain ⟨c5, c⟩ := He.ba c
  obtain ⟨c6, c⟩ := He.ba c
  obtain ⟨c7, c⟩ := He.ba c
  exact
  { z_int := He.free_ok X G (fact 0 (f := .free "int") rfl)
    z_bool := He.free_ok X G (fact 1 (f := .free "bool") rfl)
    z_str := He.free_ok X G (fact 2 (f := .free "str") rfl)
    z_len := He.free_ok X G (fact 3 (f := .free "len") rfl)
    z_all := He.free_ok X G (fact 4 (f := .free "all") rfl)
    z_isinstance := He.free_ok X G (fact 5 (f := .free "isinstance") rfl)
    z_list := He.free_ok X G (fact 6 (f := .free "list") rfl)
    z_tuple := He.free_ok X G (fact 7 (f := .free "tuple") rfl)
    z_enumerate := He.free_ok X G (fact 8 (f := .free "enumerate") rfl)
    z_range := He.free_ok X G (fact 9 (f := .free "range") rfl)
    i_LONGEST_NAME := He.int_ok X G (fact 10 (f := .int "LONGEST_NAME" 8) rfl)
    i_MOST_TICKS := He.int_ok X G (fact 11 (f := .int "MOST_TICKS" 6) rfl)
    i_MOST_RUN_TICKS := He.int_ok X G (fact 12 (f := .int "MOST_RUN_TICKS" 2000) rfl)
    i_MOST_PERIOD := He.int_ok X G (fact 13 (f := .int "MOST_PERIOD" 8) rfl)
    i_MOST_RUN_TEXT := He.int_ok X G (fact 14 (f := .int "MOST_RUN_TEXT" 40000) rfl)
    i_DIGITS := He.str_ok X G (fact 15 (f := .str "DIGITS" "0123456789") rfl)
    i_LETTERS := He.str_ok X G (fact 16 (f := .str "LETTERS" "abcdefghijklmnopqrstuvwxyz") rfl)
    g_KEPT_WORDS := He.glo_ok X G (fact 17 (f := .glo "KEPT_WORDS") rfl)
    t_KEPT := c0
    g_is_integer := He.glo_ok X G (fact 18 (f := .glo "is_integer") rfl)
    g_is_integer_from := He.glo_ok X G (fact 19 (f := .glo "is_integer_from") rfl)
    g_is_name := He.glo_ok X G (fact 20 (f := .glo "is_name") rfl)
    g_write_run := He.glo_ok X G (fact 21 (f := .glo "write_run") rfl)
    g_read_run := He.glo_ok X G (fact 22 (f := .glo "read_run") rfl)
    g_lines_of := He.glo_ok X G (fact 23 (f := .glo "lines_of") rfl)
    g_check_end := He.glo_ok X G (fact 24 (f := .glo "check_end") rfl)
    g_has_right_length := He.glo_ok X G (fact 25 (f := .glo "has_right_length") rfl)
    g_is_stay_of_text := He.glo_ok X G (fact 26 (f := .glo "is_stay_of_text") rfl)
    g_is_look_of_text := He.glo_ok X G (fact 27 (f := .glo "is_look_of_text") rfl)
    g_phase_line := He.glo_ok X G (fact 28 (f := .glo "phase_line") rfl)
    g_stay_line := He.glo_ok X G (fact 29 (f := .glo "stay_line") rfl)
    g_looks_line := He.glo_ok X G (fact 30 (f := .glo "looks_line") rfl)
    g_digit_of := He.glo_ok X G (fact 31 (f := .glo "digit_of") rfl)
    g_phase_told := He.glo_ok X G (fact 32 (f := .glo "phase_told") rfl)
    g_stay_told := He.glo_ok X G (fact 33 (f := .glo "stay_told") rfl)
    g_looks_told := He.glo_ok X G (fact 34 (f := .glo "looks_told") rfl)
    g_BadRun := He.glo_ok X G (fact 35 (f := .glo "BadRun") rfl)
    g_BadText := He.glo_ok X G (fact 36 (f := .glo "BadText") rfl)
    x_BadRun := exI_ok c1
    x_BadText := exI_ok c2
    g_law_cell := He.glo_ok X G (fact 37 (f := .glo "_law_cell") rfl)
    g_law_take := He.glo_ok X G (fact 38 (f := .glo "_law_take") rfl)
    g_law_name := He.glo_ok X G (fact 39 (f := .glo "_law_name") rfl)
    g_law_run_text := He.glo_ok X G (fact 40 (f := .glo "_law_run_text") rfl)
    g_law_number := He.glo_ok X G (fact 41 (f := .glo "_law_number") rfl)
    g_law_is_name := He.glo_ok X G (fact 42 (f := .glo "_law_is_name") rfl)
    g_law_is_looks := He.glo_ok X G (fact 43 (f := .glo "_law_is_looks") rfl)
    g_law_is_stay := He.glo_ok X G (fact 44 (f := .glo "_law_is_stay") rfl)
    g_law_wrong_line := He.glo_ok X G (fact 45 (f := .glo "_law_wrong_line") rfl)
    g_law_read := He.glo_ok X G (fact 46 (f := .glo "_law_read") rfl)
    g_law_once := He.glo_ok X G (fact 47 (f := .glo "_law_once") rfl)
    g_law_run := He.glo_ok X G (fact 48 (f := .glo "_law_run") rfl)
    g_law_spoiled := He.glo_ok X G (fact 49 (f := .glo "_law_spoiled") rfl)
    hn := He.eqO_ok c3
    ht := of_decide_eq_true c4
    g_SeenError := He.glo_ok X G (fact 50 (f := .glo "SeenError") rfl)
    x1 := of_decide_eq_true c5
    p1 := of_decide_eq_true c6
    p2 := of_decide_eq_true c7 }
theorem facts {P : Program} {w : World} {f : Addr} (X : K.In h) (G : h.Ns mainGlobals mg) (hfa : mg ("law" : Str) = some (.ref f)) (c : SaysM ex fn K) :
    ∃ fd : FuncData, (∀ (s : Shared) (v : Value), BindsTo s fd ⟨[v], []⟩ [("_law_script", v)]) ∧ ∀ base : Heap, K.In base → base.Ns mainGlobals mg → FnOk P w K mg base CX0 8 f fd ["_law_script"] (spLaw K) := by
  obtain ⟨d0, F0⟩ := c.fn 0
  obtain ⟨d1, F1⟩ := c.fn 1
  obtain ⟨d2, F2⟩ := c.fn 2
  obtain ⟨d3, F3⟩ := c.fn 3
  obtain ⟨d4, F4⟩ := c.fn 4
  obtain ⟨d5, F5⟩ := c.fn 5
  obtain ⟨d6, F6⟩ := c.fn 6
  obtain ⟨d7, F7⟩ := c.fn 7
  obtain ⟨d8, F8⟩ := c.fn 8
  obtain ⟨d9, F9⟩ := c.fn 9
  obtain ⟨d10, F10⟩ := c.fn 10
  obtain ⟨d11, F11⟩ := c.fn 11
  obtain ⟨d12, F12⟩ := c.fn 12
  obtain ⟨d13, F13⟩ := c.fn 13
  obtain ⟨d14, F14⟩ := c.fn 14
  obtain ⟨d15, F15⟩ := c.fn 15
  obtain ⟨d16, F16⟩ := c.fn 16
  obtain ⟨d17, F17⟩ := c.fn 17
  obtain ⟨d18, F18⟩ := c.fn 18
  obtain ⟨d19, F19⟩ := c.fn 19
  obtain ⟨d20, F20⟩ := c.fn 20
  obtain ⟨d21, F21⟩ := c.fn 21
  obtain ⟨d22, F22⟩ := c.fn 22
  obtain ⟨d23, F23⟩ := c.fn 23
  obtain ⟨d24, F24⟩ := c.fn 24
  obtain ⟨d25, F25⟩ := c.fn 25
  obtain ⟨d26, F26⟩ := c.fn 26
  obtain ⟨d27, F27⟩ := c.fn 27
  obtain ⟨d28, F28⟩ := c.fn 28
  obtain ⟨d29, F29⟩ := c.fn 29
  obtain ⟨d30, F30⟩ := c.fn 30
  obtain ⟨d31, F31⟩ := c.fn 31
  obtain ⟨d32, F32⟩ := c.fn 32
  have hl : He.ga K "law" = f := by
    have e := He.glo_ok X G (List.all_eq_true.mp (He.ba c.ex).1 (.glo "law") (List.mem_of_getElem? (i := 51) rfl))
    rw [hfa] at e
    cases e
    rfl
  have b := FunD.bindsA (ps := ["_law_script"]) F32 fun _ _ _ _ _ _ us hl => match us, hl with | [_], _ => rfl
  refine ⟨d32, fun s v => b s [v] rfl, fun base _ _ => ?_⟩
  have ET := mk_WTxt X G c.ex
  have T := ET.toTxt
  have S := T.toPTxt
  have A_BadRun := ok_BadRun_init (P := P) (w := w) (mg := mg) (base := base) F0
  have A_BadText := ok_BadText_init (P := P) (w := w) (mg := mg) (base := base) F1
  have A_is_integer := ok_is_integer (P := P) (w := w) (base := base) F2 S
  have A_is_integer_from := ok_is_integer_from F3 S A_is_integer
  have A_is_name := ok_is_name (P := P) (w := w) (base := base) F4 S
  have A_hrl := ok_has_right_length (P := P) (w := w) (base := base) F9 S
  have A_ilt := ok_is_look_of_text F11 S A_is_integer_from
  have A_ist := ok_is_stay_of_text F10 S A_is_name A_is_integer_from
  have A_phl := ok_phase_line (P := P) (w := w) (base := base) F12 S
  have A_stl := ok_stay_line (P := P) (w := w) (base := base) F13 S
  have A_dig := ok_digit_of (P := P) (w := w) (base := base) F15 S
  have A_lkl := ok_looks_line (P := P) (w := w) (base := base) F14 S
  have A_lno := ok_lines_of F7 S A_BadText
  have A_cke := ok_check_end F8 S A_BadText
  have A_pht := ok_phase_told F16 S A_dig A_phl A_is_integer_from
  have A_lkt := ok_looks_told F18 S A_dig A_hrl A_ilt A_lkl
  have A_stt := ok_stay_told F17 S A_dig A_ist A_stl
  have A_wr := ok_write_run F5 S A_is_integer_from A_hrl A_ist A_ilt A_phl A_stl A_lkl A_BadRun
  have A_rd := ok_read_run F6 S A_lno A_pht A_lkt A_cke A_stt A_BadText
  have A_law_take := ok_law_take (P := P) (w := w) (base := base) F20 T
  have A_law_cell := ok_law_cell (P := P) (w := w) (base := base) F19 T
  have A_law_name := ok_law_name F21 T A_law_take
  have A_rtx := ok_law_run_text (P := P) (w := w) (base := base) F22 T
  have A_num := ok_law_number (P := P) (w := w) (base := base) F23 T
  have A_isn := ok_law_is_name (P := P) (w := w) (base := base) F24 T
  have A_isl := ok_law_is_looks F25 T A_num
  have A_iss := ok_law_is_stay F26 T A_num A_isn
  have A_wrl := ok_law_wrong_line F27 T A_num A_iss A_isl
  have A_lrd := ok_law_read F28 ET A_rd
  have A_onc := ok_law_once F29 T A_law_take
  have A_run := ok_law_run F30 T A_law_cell A_law_take A_law_name
  have A_spl := ok_law_spoiled F31 T A_law_take A_onc
  have r := ok_law F32 ET A_law_cell A_law_take A_run A_rtx A_spl A_wrl A_lrd A_wr
  rw [← hl]
  exact r
end
end K39
open PySem PySem.W PySem.Calls PyProof.Rows
theorem PySem.Challenge.cw_seenshares_k39_read_run_refusals_holds : PySem.Challenge.rw_seenshares_k39_read_run_refusals.Holds := by
  w_on; o_law
  refine HandSHeadRun.head_any (r := OpenLaw.row PySem.Challenge.rw_seenshares_k39_read_run_refusals) (q := view (OpenLaw.row PySem.Challenge.rw_seenshares_k39_read_run_refusals).prog [45]) (H := K39.hk) (ob := K39.ob) (M := 100000) (loose := K39.names)
    (d := HandSHeadRun.topDef (OpenLaw.row PySem.Challenge.rw_seenshares_k39_read_run_refusals).prog 45) (kwd := []) K39.ob_eq (by kernel_rfl) (fun s => by kernel_rfl) K39.run (by kernel_rfl) (by kernel_rfl) (by kernel_rfl) (by rfl) (by first | assumption | decide +kernel) (by decide +kernel) ⟨rfl, rfl, rfl, rfl, rfl, by decide +kernel⟩ ?hw ?hc
  case hw => w_witness2
  case hc =>
    refine L2.walk_ofE (l := PySem.Challenge.rw_seenshares_k39_read_run_refusals) (n := 63) (k := 8) (x := "_law_script") (CX := L2.CX0) rfl (by decide) (by kernel_rfl) ⟨rfl, by decide, by decide⟩ ?F (fun _ _ _ _ z => z)
    intro w mg fa h Y G hmg0
    obtain ⟨K, KX, c⟩ := Y
    have hmg : mg ("law" : PySem.Str) = some (.ref fa) := by
      have e : (HandSHeadRun.topDef (OpenLaw.row PySem.Challenge.rw_seenshares_k39_read_run_refusals).prog 45).name = ("law" : PySem.Str) := by kernel_rfl
      rw [← e]
      exact hmg0
    obtain ⟨fd, hb, hF⟩ := K39.facts (P := (PySem.Challenge.rw_seenshares_k39_read_run_refusals).prog) (w := w) KX G hmg c
    exact ⟨K, fd, K39.spLaw K, KX, hb, fun H a ns hl _ hS => ⟨a, ns, rfl, hS, hl, fun _ => rfl⟩, hF⟩
#print axioms PySem.Challenge.cw_seenshares_k39_read_run_refusals_holds
