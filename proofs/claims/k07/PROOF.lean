import PyProof.Rows.All
import Wide.All
import OpenK.AllK
import Wide.FinOn
import PyProof.EqAt
import PyProof.EqKinds
import PyProof.TupleCall
import KE.KStateDown
import KE.KCallOwn
import HandS.ForExc
import HandS.Wide
import HandS.Gcd
import HandS.Defaults
import HandS.IsInst
import HandS.ExcInit
import HandS.ExcField
import HandS.ExcIs
import HandS.FStr
import HandS.Codes
import HandS.Dict
import HandS.Head0
import HandS.Head1
import HandS.Head2
import HandS.Head3
import HandS.HeadEnd
import HandS.HeadHook1
import HandS.HeadHook2
import KE.KExcIs
import KE.KOpsOwn
import PyProof.FactsAll.int_1
import PyProof.FactsAll.int_2
import PyProof.FactsAll.int_3
import PyProof.FactsAll.int_5
import HandS.TryOnly
import HandS.Small
import PyProof.FactsAll.str_1
import PyProof.FactsAll.tuple_1
import PyProof.FactsAll.list_1
import PyProof.FactsAll.dict_1
import PyProof.FactsAll.bool_1
import PyProof.FactsAll.NoneType_1
import HandS.OwnEq
import HandS.Comp
import HandS.Walk
import HandS.MakeKwOnly
import HandS.MakeKw
import PyProof.Rows.StrIn
import KE.GoesMore
import HandS.DictComp
import HandS.Property
import HandS.DeepEq
import KE.KEqDict
import PyProof.NeKinds
import HandS.Exc
import HandS.SetFor
import HandS.Conv
import PyProof.CompUse
import PyProof.DictCopy
import PyProof.StrOps2
import HandS.WordsDict
import HandS.TupAny
import PySem.Challenge.RW_seenshares_k07_program_refusals
set_option Elab.async false
set_option linter.all false
set_option maxRecDepth 100000
set_option maxHeartbeats 2000000
namespace Vf
open PySem PySem.Spec PyProof.Rows L2
/-! ### defs at their places -/
abbrev Pl : Type := Str × Option Str
structure OkD (P : Program) (w : World) (K : PySem.W.Frag) (mg : Str → Option Value) (base : Heap) (CX : CXT) (k : Nat) (p : Pl) (ps : List Str) (dvs : List V) (sp : Sp) : Prop where
  ex : ∃ fd ds, FnOk P w K mg base CX k (He.fAd K p) fd ps sp ∧ Binds K fd ps ds ∧ Vals dvs ds
  kp : PySem.W.keepIn K (.ref (He.fAd K p)) = true
section
variable {X : Cx} {CX : CXT} {k j : Nat} {ps : List Str} {sp : Sp} {dvs : List V} {x m : Str} {p pos apos : Pos} {e o : Expr} {es : List Expr} {ta : TE} {t : TA}
theorem c_fn {E : XK} (O : OkD X.prog X.w X.K X.mg X.base CX k (x, none) ps dvs sp) (hr : Room j X.A) (hj : k ≤ j) (hm : X.mg x = some (.ref (He.ga X.K x))) (hx : Passes CX X E) (ha : PA X (e :: es) t) (hg : Gl X x := by rfl)
    (hdb : (x == ("__debug__" : Str)) = false := by decide) (he : starEach (e :: es) X.env = (false, eval e X.env) :: starEach es X.env := by rfl) (hpl : (backTo pos (starEach es X.env)).any (·.1) = false := by rfl) :
    PE X (.Call (.Name x p) (e :: es) [] pos) (tCall sp dvs E t) := by
  obtain ⟨fd, ds, F, b, v⟩ := O.ex
  exact pe_call F (hr.mono hj) hg hm O.kp b v hx ha hdb he hpl
theorem c_fnS {E : L2.St → XK} (O : OkD X.prog X.w X.K X.mg X.base CX k (x, none) ps [] sp) (hr : Room j X.A) (hj : k ≤ j) (hm : X.mg x = some (.ref (He.ga X.K x))) (hx : ∀ σ, PassesAt CX X σ (E σ)) (ha : PA X (e :: es) t) (hg : Gl X x := by rfl)
    (hdb : (x == ("__debug__" : Str)) = false := by decide) (he : starEach (e :: es) X.env = (false, eval e X.env) :: starEach es X.env := by rfl) (hpl : (backTo pos (starEach es X.env)).any (·.1) = false := by rfl) :
    PE X (.Call (.Name x p) (e :: es) [] pos) (tCallS sp E t) := by
  obtain ⟨fd, ds, F, b, v⟩ := O.ex
  cases v
  exact pe_callS F (hr.mono hj) hg hm O.kp b hx ha hdb he hpl
theorem mk_of {K : PySem.W.Frag} {x : Str} (c : (He.Fa.mkr x).ok K = true) : Mk K (He.ga K x) (He.fAd K (x, some "__init__")) := by
  obtain ⟨h1, h2⟩ := He.ba c
  obtain ⟨h2, h3⟩ := He.ba h2
  obtain ⟨h3, h4⟩ := He.ba h3
  exact ⟨h1, He.eqO_ok h2, h3, h4⟩
theorem meth_of {K : PySem.W.Frag} {x m : Str} (c : (He.Fa.meth x m).ok K = true) : Meth K (He.ga K x) m (He.fAd K (x, some m)) := by
  obtain ⟨h1, h2⟩ := He.ba c
  obtain ⟨h2, h3⟩ := He.ba h2
  exact ⟨He.eqO_ok h1, h2, h3⟩
theorem cls_of {K : PySem.W.Frag} {x : Str} (c : (He.Fa.cls x).ok K = true) : Cls K (He.ga K x) := by
  obtain ⟨h1, h2⟩ := He.ba c
  obtain ⟨h2, h3⟩ := He.ba h2
  obtain ⟨h3, h4⟩ := He.ba h3
  exact ⟨h1, h2, h3, He.eqO_ok h4⟩
theorem noat_of {K : PySem.W.Frag} {x f : Str} (c : (He.Fa.noat x f).ok K = true) : NoAttr K (He.ga K x) f := He.eqO_ok c
/-- C(e, ..) -/
theorem c_mk {E : XK} {C : Addr} (M : Mk X.K C (He.fAd X.K (x, some "__init__"))) (O : OkD X.prog X.w X.K X.mg X.base CX k (x, some "__init__") ps dvs sp) (hr : Room j X.A) (hj : k + 1 ≤ j) (hm : X.mg x = some (.ref C)) (hx : Passes CX X E) (ha : PA X (e :: es) t) (hg : Gl X x := by rfl)
    (hdb : (x == ("__debug__" : Str)) = false := by decide) (he : starEach (e :: es) X.env = (false, eval e X.env) :: starEach es X.env := by rfl) (hpl : (backTo pos (starEach es X.env)).any (·.1) = false := by rfl) :
    PE X (.Call (.Name x p) (e :: es) [] pos) (tMake C sp dvs E t) := by
  obtain ⟨fd, ds, F, b, v⟩ := O.ex
  exact pe_make M F (hr.mono hj) hg hm b v hx ha hdb he hpl
/-- o.m() -/
theorem c_me0 {E : XK} {C : Addr} {cn : Str} (hC : C = He.ga X.K cn) (he : PE X o ta) (c : Cls X.K C) (hm : Meth X.K C m (He.fAd X.K (cn, some m))) (O : OkD X.prog X.w X.K X.mg X.base CX k (cn, some m) ps dvs sp) (hr : Room j X.A) (hj : k ≤ j) (hx : Passes CX X E) {pl : Sem Bool}
    (ht : eval (.Call (.Attribute o m apos) [] [] pos) X.env = (do
      let ov ← eval o X.env
      standAt apos.atName
      let (f, first) ← holding [ov] (getMethod ov m pl)
      callWith pos f first (backTo pos (starEach [] X.env)) (backToKw pos (keywordEach [] X.env))) := by rfl) :
    PE X (.Call (.Attribute o m apos) [] [] pos) (tMeth C m sp dvs E ta tNil) := by
  obtain ⟨fd, ds, F, b, v⟩ := O.ex
  exact pe_meth0 he c hm F (hr.mono hj) b v hx ht
theorem c_me {E : XK} {C : Addr} {cn : Str} (hC : C = He.ga X.K cn) (hb : PE X o ta) (c : Cls X.K C) (hm : Meth X.K C m (He.fAd X.K (cn, some m))) (O : OkD X.prog X.w X.K X.mg X.base CX k (cn, some m) ps dvs sp) (hr : Room j X.A) (hj : k ≤ j) (hx : Passes CX X E) (ha : PA X (e :: es) t) {pl : Sem Bool}
    (hst : starEach (e :: es) X.env = (false, eval e X.env) :: starEach es X.env := by rfl) (hpl : (backTo pos (starEach es X.env)).any (·.1) = false := by rfl)
    (ht : eval (.Call (.Attribute o m apos) (e :: es) [] pos) X.env = (do
      let ov ← eval o X.env
      standAt apos.atName
      let (f, first) ← holding [ov] (getMethod ov m pl)
      callWith pos f first (backTo pos (starEach (e :: es) X.env)) (backToKw pos (keywordEach [] X.env))) := by rfl) :
    PE X (.Call (.Attribute o m apos) (e :: es) [] pos) (tMeth C m sp dvs E ta t) := by
  obtain ⟨fd, ds, F, b, v⟩ := O.ex
  exact pe_meth hb c hm F (hr.mono hj) b v hx ha hst hpl ht
end
/-! ### a try's body whose errors are wished for at any slots -/
theorem passAny {X : Cx} {W : WX} (n : Nat) (tk : Takes X W) (hn : X.N.length = n := by rfl) : Passes (L2.CX X.prog X.w) X (fun cls d H => ∀ σ : L2.St, σ.length = n → W cls d σ H) :=
  fun _ σ _ _ e s' I c => tk e s' (XE.of_call I (fun _ _ _ h => h σ (I.len.trans hn)) c)
/-! ### operators -/
section
variable {X : Cx}
/-- // by any divisor but 0 below 2 ^ 9000 -/
theorem op_fdivG : OpR X (binaryOp .FloorDiv) (rI (fun _ j => j ≠ 0 ∧ j.natAbs.log2 < 9000) fun i j => .int (i.fdiv j)) := opI fun i j _ _ _ _ _ hc q => floordiv_int hc.1 q (.inl (PyProof.noPylong_of_log2 hc.2))
/-- a built-in class as a value -/
theorem pe_ty {x : Str} {n : String} {pos : Pos} (hm : X.mg x = none) (hv : bootBuiltins x = some (.type n)) (hg : Gl X x := by rfl) (hn : x ≠ "__name__" := by decide) (hd : (x == ("__debug__" : Str)) = false := by decide) : PE X (.Name x pos) (tC (.ty n)) := pe_bltn hg hm hv rfl hn hd
/-- a class of the text as a value -/
theorem pe_cl {x : Str} {a : Addr} {pos : Pos} (hm : X.mg x = some (.ref a)) (hg : Gl X x := by rfl) (hd : (x == ("__debug__" : Str)) = false := by decide) : PE X (.Name x pos) (tC (.ref a)) := pe_glob hg hm rfl hd
/-- str(o), o of a class of the text that has its own __str__ -/
def rStrO (C : Addr) (sp : Sp) : List V → Hp → VK → Prop := fun xs H Q => ∃ a dx fs, xs = [.ref a] ∧ H a = some (.ins C dx fs) ∧ sp [.ref a] H (fun v H' => ∃ z, v = .str z ∧ Q (.str z) H') fun _ _ _ => False
theorem call_strO {k j : Nat} {C : Addr} {cn : Str} {ps : List Str} {sp : Sp} (hC : C = He.ga X.K cn) (hm : Meth X.K C "__str__" (He.fAd X.K (cn, some "__str__"))) (O : OkD X.prog X.w X.K X.mg X.base CX0 k (cn, some "__str__") ps [] sp) (hr : Room j X.A) (hj : k + 2 ≤ j) :
    CallR X (.type "str") (rStrO C sp) := by
  obtain ⟨fd, ds, F, b, v⟩ := O.ex
  cases v
  intro pins s σ H xs us Q I r h
  obtain ⟨a, dx, fs, rfl, ha, hsp⟩ := h
  obtain ⟨u, rfl, ru⟩ : ∃ u, us = [u] ∧ RelV (.ref a) u := by
    cases r with
    | cons p q => cases q; exact ⟨_, rfl, p⟩
  cases ru
  obtain ⟨mA, J, _⟩ := ins_get I.hok ha
  obtain ⟨od, J, _⟩ := J.look
  have hr2 : Room k X.A.in1.in1 := ((hr.mono hj).in1).in1
  refine PySem.W.kso_call hr2.units0 I.kIn J hm.at_ hm.fn ?_
  have hl := F.len _ _ _ _ hsp
  have hb := b s [.ref a] I.kIn (by simpa using hl)
  simp only [List.append_nil] at hb
  refine wpAny_call (codeAny_mono (F.run X.A.in1.in1 X.stack s H ⟨[.ref a], []⟩ [.ref a] [.ref a] _ _ hr2 I.env0.in1.in1 hb (.cons rfl .nil) hsp) fun r s' hq => ?_)
  cases r with
  | error e => exact hq.elim
  | ok fl =>
    cases fl with
    | ret w =>
      obtain ⟨z, H', I', rz, y, ez, q⟩ := I.after hq
      subst ez
      obtain ⟨tk, rfl⟩ := rz
      exact ⟨.str y, H', I', ⟨tk, rfl⟩, q⟩
    | next => exact False.elim hq
    | brk => exact False.elim hq
    | cont => exact False.elim hq
end
end Vf

set_option Elab.async false
set_option linter.all false
set_option maxRecDepth 100000
set_option maxHeartbeats 2000000
namespace Vf
open PySem PySem.Spec PyProof.Rows L2
/-! ### ints and other values -/
/-- a value that is no integer -/
inductive Odd (H : Hp) : V → Prop where
  | bl (b : Bool) : Odd H (.bl b)
  | non : Odd H .non
  | str (z : Str) : Odd H (.str z)
  | tup {a : Addr} {xs : List V} (h : H a = some (.tup xs)) : Odd H (.ref a)
  | lst {a : Addr} {xs : List V} (h : H a = some (.lst xs)) : Odd H (.ref a)
  | dic {a : Addr} {kvs : List (Key × V)} (h : H a = some (.dK kvs)) : Odd H (.ref a)
theorem Odd.ext {H H' : Hp} {x : V} (o : Odd H x) (s : Same H H') : Odd H' x := by
  cases o with
  | bl b => exact .bl b
  | non => exact .non
  | str z => exact .str z
  | tup h => exact .tup (s _ _ h)
  | lst h => exact .lst (s _ _ h)
  | dic h => exact .dic (s _ _ h)
theorem odd_ty (K : PySem.W.Frag) {H : Hp} {x : V} (o : Odd H x) : ∃ (n : String) (b1 b2 : Bool), TyX K H x (.type n) ∧ kitB n "int" = some b1 ∧ kitB n "bool" = some b2 ∧ (b1 && !b2) = false := by
  cases o with
  | bl b => exact ⟨"bool", true, true, .base (.bl b), by decide +kernel, by decide +kernel, rfl⟩
  | non => exact ⟨"NoneType", false, false, .base .non, by decide +kernel, by decide +kernel, rfl⟩
  | str z => exact ⟨"str", false, false, .base (.str z), by decide +kernel, by decide +kernel, rfl⟩
  | tup h => exact ⟨"tuple", false, false, .base (.tup h), by decide +kernel, by decide +kernel, rfl⟩
  | lst h => exact ⟨"list", false, false, .base (.lst h), by decide +kernel, by decide +kernel, rfl⟩
  | dic h => exact ⟨"dict", false, false, .base (.dK h), by decide +kernel, by decide +kernel, rfl⟩
theorem int_ty (K : PySem.W.Frag) (H : Hp) (n : Int) : TyX K H (.int n) (.type "int") ∧ kitB "int" "int" = some true ∧ kitB "int" "bool" = some false :=
  ⟨.base (.int n), by decide +kernel, by decide +kernel⟩
/-- is_integer(x) -/
def spIsInt : Sp := fun vs H Q _ => ∃ x, vs = [x] ∧ (((∃ n, x = .int n) ∧ Q (.bl true) H) ∨ (Odd H x ∧ Q (.bl false) H))
def t_isint (K : PySem.W.Frag) : TS := tRet (tAndV (tCB (rIsi K) (tCons (tVar 0) (tCons (tC (.ty "int")) tNil))) (tNotV (tCB (rIsi K) (tCons (tVar 0) (tCons (tC (.ty "bool")) tNil)))))
theorem run_isint {K : PySem.W.Frag} {N : List Str} {vs : List V} {H : Hp} {Q : VK} {E : XK} (h : spIsInt vs H Q E) : t_isint K { nx := fun _ H' => Q .non H', rt := Q } (start N vs) H := by
  obtain ⟨x, rfl, h⟩ := h
  have s0 : (start N [x])[0]? = some (some x) := rfl
  rcases h with ⟨⟨n, rfl⟩, q⟩ | ⟨o, q⟩
  · obtain ⟨t1, k1, k2⟩ := int_ty K H n
    refine ⟨_, s0, _, .ty "int", _, .type "int", true, rfl, .ty _, t1, kit_ty k1, true, rfl, ?_⟩
    refine iteT ?_
    exact ⟨_, s0, _, .ty "bool", _, .type "bool", false, rfl, .ty _, t1, kit_ty k2, false, rfl, q⟩
  · obtain ⟨n, b1, b2, t1, k1, k2, e⟩ := odd_ty K o
    refine ⟨_, s0, _, .ty "int", _, .type "int", b1, rfl, .ty _, t1, kit_ty k1, b1, rfl, ?_⟩
    cases b1 with
    | false => exact iteF q
    | true =>
      cases b2 with
      | false => cases e
      | true =>
        refine iteT ?_
        exact ⟨_, s0, _, .ty "bool", _, .type "bool", true, rfl, .ty _, t1, kit_ty k2, true, rfl, q⟩
/-! ### the draws -/
/-- _law_cell(script, k): some int -/
def spCell (K : PySem.W.Frag) : Sp := fun vs H Q _ => ∃ (l : Addr) (ns : List Int) (j : Nat), vs = [.ref l, .int (j : Int)] ∧ SqL K H l (ns.map V.int) ∧ j < 1000 ∧ ∀ n : Int, Q (.int n) H
/-- _law_take(draw, size) -/
def spTake : Sp := fun vs H Q _ => ∃ (d : Addr) (n s : Int), vs = [.ref d, .int s] ∧ H d = some (.lst [.int n]) ∧ 0 < s ∧ s < 1073741824 ∧ ∀ r m : Int, 0 ≤ r → r < s → Q (.int r) (upd H d (.lst [.int m]))
theorem atI0 {α : Type} {x : α} {xs : List α} : atI (x :: xs) 0 = some x := by simp [atI, ixN]
theorem atI1 {α : Type} {x y : α} {xs : List α} : atI (x :: y :: xs) 1 = some y := by
  have h : ixN (x :: y :: xs).length 1 = some 1 := by
    unfold ixN
    rw [if_pos (by omega), if_pos (by simp only [List.length_cons]; omega)]
    rfl
  unfold atI
  rw [h]
  rfl
theorem ixN0 {n : Nat} : ixN (n + 1) 0 = some 0 := by
  unfold ixN
  rw [if_pos (by omega), if_pos (by omega)]
  all_goals rfl
abbrev rAddI : R2 := rI0 fun i j => .int (i + j)
abbrev rModI : R2 := rI (fun _ j => 0 < j) fun i j => .int (i % j)
end Vf

set_option Elab.async false
set_option linter.all false
set_option maxRecDepth 100000
set_option maxHeartbeats 2000000
namespace Vf
open PySem PySem.Spec PyProof.Rows L2
/-! ### own errors: class C(..): def __init__(self, f): self.f = f -/
def oexB (K : PySem.W.Frag) (C : Addr) : Bool := match K.lookup C with
  | some ⟨.type "type", _, .cls cd, sl⟩ => (match cd.mro, sl.toList with
    | .ref C' :: bm, [_, _, _, _, some (.builtin n), _] => C' == C && n == "ValueError.__new__" && !cd.hasDel && cd.hasDict && PySem.HandSPX.refsVE bm
    | _, _ => false)
  | _ => false
theorem oexB_ok {K : PySem.W.Frag} {C : Addr} (q : oexB K C = true) : ∃ nm qn N bs bm sn sub ab col dd k0 k1 k2 k3 k5, K.lookup C = some (excClassObj nm qn C N bs bm true sn sub ab col dd k0 k1 k2 k3 k5 "ValueError.__new__") ∧ PySem.HandSPX.refsVE bm = true := by
  unfold oexB at q
  split at q
  · rename_i dd cd sl ho
    split at q
    · rename_i C' bm k0 k1 k2 k3 n k5 hm hs
      simp only [Bool.and_eq_true, beq_iff_eq, Bool.not_eq_true'] at q
      obtain ⟨⟨⟨⟨e1, e2⟩, hdel⟩, hh⟩, hbm⟩ := q
      obtain ⟨nm, bs, mro, ns, qn, hd, sn, sub, ab, col, del⟩ := cd
      obtain ⟨l⟩ := sl
      dsimp only at hm hdel hh hs
      subst hm hdel hh hs e1 e2
      exact ⟨nm, qn, ns, bs, bm, sn, sub, ab, col, dd, k0, k1, k2, k3, k5, ho, hbm⟩
    · cases q
  · cases q
/-- what is told of the error class x whose __init__ keeps its argument as f -/
structure ExD (K : PySem.W.Frag) (x : Str) : Prop where
  o : OexC K (He.ga K x)
  gg : PySem.W.findIn K (.ref (He.ga K x)) "__getattr__" = some none
  ga : PySem.W.findIn K (.ref (He.ga K x)) "__getattribute__" = some (some (.builtin "BaseException.__getattribute__"))
  ha : PySem.W.findIn K (.ref (He.ga K x)) "__class__" = some (some (.builtin "object.__class__"))
  hm : PySem.W.mroIn K (He.ga K x) (.type "object") = some true
  hd : PySem.W.hasDictIn K (He.ga K x) = true
  hcl : (PySem.W.clsIn K (He.ga K x)).isSome = true
def exD (K : PySem.W.Frag) (x : Str) : Bool :=
  oexB K (He.ga K x) && (He.eqO (PySem.W.findIn K (.ref (He.ga K x)) "__setattr__") (some (some (.builtin "object.__setattr__"))) && (decide (PySem.W.subIn K (.ref (He.ga K x)) (.type "BaseException") = some true) && (decide (PySem.W.typeIn K (.ref (He.ga K x)) = some (.type "type")) && (PySem.W.keepIn K (.ref (He.ga K x)) &&
  (He.eqO (PySem.W.findIn K (.ref (He.ga K x)) "__getattr__") (some none) && (He.eqO (PySem.W.findIn K (.ref (He.ga K x)) "__getattribute__") (some (some (.builtin "BaseException.__getattribute__"))) && (He.eqO (PySem.W.findIn K (.ref (He.ga K x)) "__class__") (some (some (.builtin "object.__class__"))) &&
  (decide (PySem.W.mroIn K (He.ga K x) (.type "object") = some true) && (PySem.W.hasDictIn K (He.ga K x) && (PySem.W.clsIn K (He.ga K x)).isSome)))))))))
theorem exD_ok {K : PySem.W.Frag} {x : Str} (h : exD K x = true) : ExD K x := by
  obtain ⟨h1, h⟩ := He.ba h
  obtain ⟨h2, h⟩ := He.ba h
  obtain ⟨h3, h⟩ := He.ba h
  obtain ⟨h4, h⟩ := He.ba h
  obtain ⟨h5, h⟩ := He.ba h
  obtain ⟨h6, h⟩ := He.ba h
  obtain ⟨h7, h⟩ := He.ba h
  obtain ⟨h8, h⟩ := He.ba h
  obtain ⟨h9, h⟩ := He.ba h
  obtain ⟨h10, h11⟩ := He.ba h
  exact ⟨⟨oexB_ok h1, He.eqO_ok h2, of_decide_eq_true h3, of_decide_eq_true h4, h5⟩, He.eqO_ok h6, He.eqO_ok h7, He.eqO_ok h8, of_decide_eq_true h9, h10, h11⟩
/-- .. with its __init__ and its field f -/
structure ExI (K : PySem.W.Frag) (x f : Str) : Prop where
  d : ExD K x
  i : PySem.W.findIn K (.ref (He.ga K x)) "__init__" = some (some (.ref (He.fAd K (x, some "__init__"))))
  t : PySem.W.typeIn K (.ref (He.fAd K (x, some "__init__"))) = some (.type "function")
  n : PySem.W.findIn K (.ref (He.ga K x)) f = some none
def exI (K : PySem.W.Frag) (x f : Str) : Bool :=
  exD K x && (He.eqO (PySem.W.findIn K (.ref (He.ga K x)) "__init__") (some (some (.ref (He.fAd K (x, some "__init__"))))) && (decide (PySem.W.typeIn K (.ref (He.fAd K (x, some "__init__"))) = some (.type "function")) && He.eqO (PySem.W.findIn K (.ref (He.ga K x)) f) (some none)))
theorem exI_ok {K : PySem.W.Frag} {x f : Str} (h : exI K x f = true) : ExI K x f := by
  obtain ⟨h1, h⟩ := He.ba h
  obtain ⟨h2, h⟩ := He.ba h
  obtain ⟨h3, h4⟩ := He.ba h
  exact ⟨exD_ok h1, He.eqO_ok h2, of_decide_eq_true h3, He.eqO_ok h4⟩
/-- the __init__: self.f = v -/
def spExI (K : PySem.W.Frag) (C : Addr) (f : Str) : Sp := fun vs H Q _ => ∃ (a : Addr) (v : V), vs = [.ref a, v] ∧ OexC K C ∧ PySem.W.findIn K (.ref C) f = some none ∧ H a = some (exo a C none) ∧
  ∀ dx, H dx = none → dx ≠ a → Q .non (upd (upd H dx (exd dx [(f, v)])) a (exo a C (some dx)))
theorem run_exI {K : PySem.W.Frag} {C : Addr} {f : Str} {N : List Str} {vs : List V} {H : Hp} {Q : VK} {E : XK} (h : spExI K C f vs H Q E) : tOst K f (tVar 0) (tVar 1) { nx := fun _ H' => Q .non H', rt := Q } (start N vs) H := by
  obtain ⟨a, v, rfl, T, hn, ea, q⟩ := h
  have s0 : (start N [.ref a, v])[0]? = some (some (.ref a)) := rfl
  have s1 : (start N [.ref a, v])[1]? = some (some v) := rfl
  exact ⟨_, s1, _, s0, a, C, rfl, T, hn, .inl ⟨ea, fun dx h1 h2 => q dx h1 h2⟩⟩
/-- the heap behind the making: the error's own dict alone is new -/
theorem exc_heap {H : Hp} {a d : Addr} {o1 o2 o3 o4 : HO} (ha : H a = none) (hda : d ≠ a) : upd (del (upd (upd (upd H a o1) d o2) a o3) a) d o4 = upd H d o4 := by
  funext b
  by_cases h1 : b = d
  · rw [h1, upd_same, upd_same]
  · rw [upd_ne h1, upd_ne h1]
    by_cases h2 : b = a
    · rw [h2, del_same, ha]
    · rw [del_ne h2, upd_ne h2, upd_ne h1, upd_ne h2]
theorem pa_weak {X : Cx} {es : List Expr} {ta : TA} (ha : PA X es ta) : PA X es (fun σ H Q => ∃ R, ta σ H R ∧ ∀ vs H1, R vs H1 → Q vs H1) := ⟨fun pos pins s σ H Q I h => by
  obtain ⟨R, h1, h2⟩ := h
  exact thn (ha.run pos pins s σ H R I h1) fun us s1 ⟨vs, H1, I1, r, q⟩ => ⟨vs, H1, I1, r, h2 _ _ q⟩⟩
section
variable {X : Cx} {CX : CXT} {k j : Nat} {ps : List Str} {x f : Str} {p pos pos2 : Pos} {e : Expr} {es : List Expr} {ta : TA} {W : WX}
/-- raise C(e): the error's dict, new, holds f -/
def tRaiseI (C : Addr) (f : Str) (W : WX) (ta : TA) : TS := fun _ σ H => ta σ H fun vs H1 => ∃ v, vs = [v] ∧ ∀ d, H1 d = none → W (.ref C) (some d) σ (upd H1 d (.xd [(f, v)]))
theorem c_raise (T : ExI X.K x f) (O : OkD X.prog X.w X.K X.mg X.base CX0 k (x, some "__init__") ps [] (spExI X.K (He.ga X.K x) f)) (hr : Room j X.A) (hj : k + 1 ≤ j) (hm : X.mg x = some (.ref (He.ga X.K x))) (tk : Takes X W) (ha : PA X (e :: es) ta) (hc : X.calm = true := by rfl) (hg : Gl X x := by rfl)
    (hdb : (x == ("__debug__" : Str)) = false := by decide) (he : starEach (e :: es) X.env = (false, eval e X.env) :: starEach es X.env := by rfl) (hpl : (backTo pos (starEach es X.env)).any (·.1) = false := by rfl) :
    PS X (.Raise (some (.Call (.Name x p) (e :: es) [] pos)) none pos2) (tRaiseI (He.ga X.K x) f W ta) := by
  obtain ⟨fd, ds, F, b, v⟩ := O.ex
  cases v
  refine ⟨fun pins s σ H D I h => (ps_raise hc tk (pmk_oex (p := p) T.d.o T.i T.t F (hr.mono hj) b .nil pass0 hg hm (pa_weak ha) hdb he hpl)).run pins s σ H D I ?_⟩
  refine ⟨_, h, fun vs H1 z => ?_⟩
  obtain ⟨v, rfl, q⟩ := z
  refine ⟨(by show 1 ≤ 1000; decide), fun a na => ⟨a, v, rfl, T.d.o, T.n, upd_same, fun dx h1 h2 => ?_⟩⟩
  have hdx : H1 dx = none := by
    rw [upd_ne h2] at h1
    exact h1
  refine ⟨rfl, dx, [(f, v)], upd_same, ?_, hdx, ?_⟩
  · rw [upd_ne h2, upd_same]
  · rw [exc_heap na h2]
    exact q dx hdx
end
/-! ### isinstance(e, c) of a caught error -/
section
variable {X : Cx}
theorem call_isiE {a D : Addr} {d : Option Addr} {oe : Obj} {pn : List (Addr × Obj)} {x : Str} (hD : D = He.ga X.K x) (T : ExD X.K x) (hn : PySem.W.specialIn X.K (.builtin "object.__class__") "__get__" = some (some (.builtin "getset_descriptor.__get__")))
    (ht : PySem.W.takesIn X.K (.builtin "object.__class__") = some true) {cls : Value} (hz : Zc cls d oe) (hf : ∃ vs, oe.data = .fields vs) : CallR (X.suite a ((a, oe) :: pn)) (.builtin "isinstance")
      (fun xs H Q => ∃ (c : V) (cv : Value) (b : Bool), xs = [.ref a, c] ∧ cls = .ref D ∧ ClsV c cv ∧ PySem.W.kitOne X.K (.ref D) cv = some b ∧ (∃ dd fs, d = some dd ∧ H dd = some (.xd fs)) ∧ Q (.bl b) H) := by
  subst hD
  intro pins s σ H xs us Q I r h
  obtain ⟨c, cv, b, rfl, ec, hcv, e, ⟨dd, fs, ed, hdd⟩, q⟩ := h
  obtain ⟨u1, u2, rfl, r1, r2⟩ := vals2 r
  have e2 := hcv.eq r2
  subst e2
  cases r1
  obtain ⟨hget, _⟩ := I.pin (a, oe) (List.mem_append.mpr (.inl List.mem_cons_self))
  obtain ⟨vs, hv⟩ := hf
  subst ed ec
  obtain ⟨mA, ⟨od, es, ep, ho, _⟩, _⟩ := (show ObjOk X.prog X.w H s.heap dd (.xd fs) from I.hok dd _ hdd)
  have J : PySem.W.InstAt s.heap a oe (He.ga X.K x) (some od) := by
    obtain ⟨oc, odd, oda, osl⟩ := oe
    obtain ⟨h1, h2⟩ := hz
    dsimp only at h1 h2 hv
    subst h1 h2 hv
    exact ⟨hget, rfl, rfl, ho⟩
  exact PySem.W.kia_one (PySem.W.kitx_exc T.hcl T.ga T.gg T.o.exC T.ha hn ht T.hm) I.kIn J e (fun z => nomatch z) fun tk => ⟨.bl b, H, I.kept (t' := tk) fun _ _ z => z, rfl, q⟩
end
/-! ### the head's hook: any Bool over the written part, the defs -/
abbrev AlM : Type := Bool × List He.FnW
def obsM (ex : PySem.W.Frag → Bool) (fn : List He.DefD) (K : PySem.W.Frag) : AlM := (ex K && fn.all fun d => d.ok K, fn.map fun d => He.fnW K d.at_)
def SaysM (ex : PySem.W.Frag → Bool) (fn : List He.DefD) (K : PySem.W.Frag) : Prop := obsM ex fn K = (true, fn.map He.DefD.val)
def obsMG (n : Nat) (ex : PySem.W.Frag → Bool) (fn : List He.DefD) (g : Addr → Option Obj) : AlM := obsM ex fn (He.frG g (He.asD g n))
def hookM (n : Nat) (ex : PySem.W.Frag → Bool) (fn : List He.DefD) : PySem.W.Hook where
  α := AlM
  obs := fun s => obsMG n ex fn s.heap.get?
  val := fun _ => (true, fn.map He.DefD.val)
  says := fun _ h => ∃ K : PySem.W.Frag, K.In h ∧ SaysM ex fn K
  of := fun _ _ e => ⟨_, He.frG_in, e⟩
  keeps := fun _ _ _ ⟨K, hK, c⟩ k => ⟨K, PySem.W.Frag.In.keeps hK k, c⟩
theorem obsMG_eq {n : Nat} {ex : PySem.W.Frag → Bool} {fn : List He.DefD} {g : Addr → Option Obj} {s : Shared} (h : ∀ a, g a = s.heap.get? a) : obsMG n ex fn g = (hookM n ex fn).obs s := by
  have e : g = s.heap.get? := funext h
  rw [e]
  rfl
theorem SaysM.ex {ex : PySem.W.Frag → Bool} {fn : List He.DefD} {K : PySem.W.Frag} (c : SaysM ex fn K) : ex K = true := (He.ba (congrArg (fun z : AlM => z.1) c)).1
theorem SaysM.fn {ex : PySem.W.Frag → Bool} {fn : List He.DefD} {K : PySem.W.Frag} (c : SaysM ex fn K) (i : Nat) {d : He.DefD} (h : fn[i]? = some d := by rfl) : ∃ fd, FunD K d.name d.qual d.params d.body d.scope (d.dvs K) (d.kws K) (He.fAd K d.at_) fd := by
  have c2 := (He.ba (congrArg (fun z : AlM => z.1) c)).2
  have e : fn.map (fun d => He.fnW K d.at_) = fn.map He.DefD.val := congrArg (fun z : AlM => z.2) c
  have e2 : He.fnW K d.at_ = d.val := by
    have e3 : (fn.map fun d => He.fnW K d.at_)[i]? = (fn.map He.DefD.val)[i]? := by rw [e]
    simp only [List.getElem?_map, h, Option.map_some] at e3
    exact Option.some.inj e3
  exact He.DefD.funD e2 (List.all_eq_true.mp c2 d (List.mem_of_getElem? h))

end Vf

set_option Elab.async false
set_option linter.all false
set_option maxRecDepth 100000
set_option maxHeartbeats 2000000
namespace Vf
open PySem PySem.Spec PyProof.Rows L2
/-! ### Euclid's loop -/
def Eu (g B i x y : Nat) : Prop := Nat.gcd x y = g ∧ ((i % 2 = 0 ∧ y * 2 ^ (i / 2) ≤ B) ∨ (i % 2 = 1 ∧ y < x ∧ x * 2 ^ (i / 2) ≤ B))
theorem Eu.start (x y : Nat) : Eu (Nat.gcd x y) y 0 x y := ⟨rfl, .inl ⟨rfl, by simp⟩⟩
theorem Eu.step {g B i x y : Nat} (h : Eu g B i x y) (hy : y ≠ 0) : Eu g B (i + 1) y (x % y) := by
  obtain ⟨hg, h⟩ := h
  have hg2 : Nat.gcd y (x % y) = g := by
    rw [← hg, Nat.gcd_comm x y, Nat.gcd_rec y x, Nat.gcd_comm]
  have hlt : x % y < y := Nat.mod_lt x (by omega)
  refine ⟨hg2, ?_⟩
  rcases h with ⟨he, hb⟩ | ⟨ho, hxy, hb⟩
  · refine .inr ⟨by omega, hlt, ?_⟩
    have e : (i + 1) / 2 = i / 2 := by omega
    rw [e]
    exact hb
  · refine .inl ⟨by omega, ?_⟩
    have e : (i + 1) / 2 = i / 2 + 1 := by omega
    have hd := Nat.div_add_mod x y
    have h1 : 1 ≤ x / y := Nat.div_pos (by omega) (by omega)
    have h2 : y * 1 ≤ y * (x / y) := Nat.mul_le_mul_left y h1
    have h3 : 2 * (x % y) ≤ x := by omega
    rw [e, Nat.pow_succ]
    calc x % y * (2 ^ (i / 2) * 2) = (2 * (x % y)) * 2 ^ (i / 2) := by rw [Nat.mul_comm (2 ^ (i / 2)) 2, ← Nat.mul_assoc, Nat.mul_comm (x % y) 2]
      _ ≤ x * 2 ^ (i / 2) := Nat.mul_le_mul_right _ h3
      _ ≤ B := hb
theorem Eu.last {g B x y : Nat} (h : Eu g B 500 x y) (hB : B < 2 ^ 250) : x = g := by
  obtain ⟨hg, h⟩ := h
  rcases h with ⟨_, hb⟩ | ⟨ho, _⟩
  · have e : (500 : Nat) / 2 = 250 := rfl
    rw [e] at hb
    have hy : y = 0 := by
      rcases Nat.eq_zero_or_pos y with h0 | h0
      · exact h0
      · exfalso
        have : 1 * 2 ^ 250 ≤ y * 2 ^ 250 := Nat.mul_le_mul_right _ h0
        omega
    rw [hy, Nat.gcd_zero_right] at hg
    exact hg
  · omega
theorem Eu.zero {g B i x : Nat} (h : Eu g B i x 0) : x = g := by
  have hg := h.1
  rw [Nat.gcd_zero_right] at hg
  exact hg
/-! ### lowest terms -/
def nG (t b : Int) : Int := ((Nat.gcd t.natAbs b.natAbs : Nat) : Int)
def nC (t b : Int) : Int := if b < 0 then -(nG t b) else nG t b
def nT (t b : Int) : Int := t.fdiv (nC t b)
def nB (t b : Int) : Int := b.fdiv (nC t b)
/-- a and b are t over b' in lowest terms -/
structure Nf (a b : Int) : Prop where
  pos : 0 < b
  cop : Nat.gcd a.natAbs b.natAbs = 1
structure NfOf (t u a b : Int) : Prop extends Nf a b where
  eq : a * u = t * b
  le1 : a.natAbs ≤ t.natAbs
  le2 : b.natAbs ≤ u.natAbs
theorem nG_pos {t b : Int} (hb : b ≠ 0) : 0 < nG t b := by
  have : 0 < Nat.gcd t.natAbs b.natAbs := Nat.gcd_pos_of_pos_right _ (by omega)
  unfold nG
  omega
theorem nC_abs (t b : Int) : (nC t b).natAbs = Nat.gcd t.natAbs b.natAbs := by
  unfold nC nG
  split <;> omega
theorem nC_ne {t b : Int} (hb : b ≠ 0) : nC t b ≠ 0 := by
  have := nG_pos (t := t) hb
  unfold nC
  split <;> omega
theorem nC_dvd1 (t b : Int) : nC t b ∣ t := by
  rw [← Int.natAbs_dvd_natAbs, nC_abs]
  exact Nat.gcd_dvd_left _ _
theorem nC_dvd2 (t b : Int) : nC t b ∣ b := by
  rw [← Int.natAbs_dvd_natAbs, nC_abs]
  exact Nat.gcd_dvd_right _ _
theorem nT_mul (t b : Int) : nT t b * nC t b = t := Int.fdiv_mul_cancel (nC_dvd1 t b)
theorem nB_mul (t b : Int) : nB t b * nC t b = b := Int.fdiv_mul_cancel (nC_dvd2 t b)
theorem nf_of (t : Int) {b : Int} (hb : b ≠ 0) : NfOf t b (nT t b) (nB t b) := by
  have e1 := nT_mul t b
  have e2 := nB_mul t b
  have hc := nC_ne (t := t) hb
  have ga := nC_abs t b
  have g0 : 0 < Nat.gcd t.natAbs b.natAbs := Nat.gcd_pos_of_pos_right _ (by omega)
  have a1 : (nT t b).natAbs * Nat.gcd t.natAbs b.natAbs = t.natAbs := by rw [← ga, ← Int.natAbs_mul, e1]
  have a2 : (nB t b).natAbs * Nat.gcd t.natAbs b.natAbs = b.natAbs := by rw [← ga, ← Int.natAbs_mul, e2]
  refine ⟨⟨?_, ?_⟩, ?_, ?_, ?_⟩
  · rcases (show 0 < nB t b ∨ nB t b ≤ 0 by omega) with h | h
    · exact h
    · exfalso
      by_cases hn : b < 0
      · have hc2 : nC t b < 0 := by
          have := nG_pos (t := t) hb
          unfold nC
          rw [if_pos hn]
          omega
        have := Int.mul_nonneg_of_nonpos_of_nonpos h (Int.le_of_lt hc2)
        omega
      · have hc2 : 0 < nC t b := by
          have := nG_pos (t := t) hb
          unfold nC
          rw [if_neg hn]
          omega
        have := Int.mul_nonpos_of_nonpos_of_nonneg h (Int.le_of_lt hc2)
        omega
  · have h := Nat.gcd_mul_right (nT t b).natAbs (Nat.gcd t.natAbs b.natAbs) (nB t b).natAbs
    rw [a1, a2] at h
    have h2 : 1 * Nat.gcd t.natAbs b.natAbs = Nat.gcd (nT t b).natAbs (nB t b).natAbs * Nat.gcd t.natAbs b.natAbs := by rw [Nat.one_mul]; exact h
    exact (Nat.eq_of_mul_eq_mul_right g0 h2).symm
  · calc nT t b * b = nT t b * (nB t b * nC t b) := by rw [e2]
      _ = (nT t b * nC t b) * nB t b := by rw [Int.mul_comm (nB t b), Int.mul_assoc]
      _ = t * nB t b := by rw [e1]
  · calc (nT t b).natAbs = (nT t b).natAbs * 1 := by rw [Nat.mul_one]
      _ ≤ (nT t b).natAbs * Nat.gcd t.natAbs b.natAbs := Nat.mul_le_mul_left _ g0
      _ = t.natAbs := a1
  · calc (nB t b).natAbs = (nB t b).natAbs * 1 := by rw [Nat.mul_one]
      _ ≤ (nB t b).natAbs * Nat.gcd t.natAbs b.natAbs := Nat.mul_le_mul_left _ g0
      _ = b.natAbs := a2
/-- bits: below 2 ^ n -/
def Bit (n : Nat) (x : Int) : Prop := x.natAbs < 2 ^ n
theorem Bit.mono {n m : Nat} {x : Int} (h : Bit n x) (l : n ≤ m) : Bit m x := Nat.lt_of_lt_of_le h (Nat.pow_le_pow_right (by decide) l)
theorem Bit.le {n : Nat} {x y : Int} (h : Bit n y) (l : x.natAbs ≤ y.natAbs) : Bit n x := Nat.lt_of_le_of_lt l h
theorem Bit.mul {n m : Nat} {x y : Int} (h : Bit n x) (h' : Bit m y) : Bit (n + m) (x * y) := by
  unfold Bit
  rw [Int.natAbs_mul, Nat.pow_add]
  exact Nat.mul_lt_mul'' h h'
theorem Bit.add {n : Nat} {x y : Int} (h : Bit n x) (h' : Bit n y) : Bit (n + 1) (x + y) := by
  unfold Bit at *
  rw [Nat.pow_succ]
  omega
theorem Bit.sub {n : Nat} {x y : Int} (h : Bit n x) (h' : Bit n y) : Bit (n + 1) (x - y) := by
  unfold Bit at *
  rw [Nat.pow_succ]
  omega
theorem Bit.neg {n : Nat} {x : Int} (h : Bit n x) : Bit n (-x) := by
  unfold Bit at *
  omega
theorem Bit.log {n m : Nat} {x : Int} (h : Bit n x) (h0 : 0 < n) (hm : n ≤ m) : x.natAbs.log2 < m := Nat.lt_of_lt_of_le (PySem.Flt.log2_lt_of h0 h) hm
theorem Bit.wm {n m : Nat} {x y : Int} (h : Bit n x) (h' : Bit m y) (h0 : 0 < n) (h1 : 0 < m) (l : n + m ≤ 1000000) : CMulW x y := wide_mul h h' h0 h1 l
end Vf

set_option Elab.async false
set_option linter.all false
set_option maxRecDepth 100000
set_option maxHeartbeats 2000000
namespace Vf
open PySem PySem.Spec PyProof.Rows L2
section
open PySem.W PySem.Calls
variable {prog : Program} {w : World} {A : Around} {E : Value → Shared → Prop} {s : Shared} {K : Frag} {x C f f0 L : Addr} {h₀ : Heap} {m : Str → Option Value} {ox : Obj} {od : Option Obj} {nm : String}
/-- a slot of int that is handed an instance of the text's own declines -/
theorem int_no {n : Int} {t : Tok} {name : String} {g : Int → Int → Sem Fin} {refl : Bool} (hd : ox.data = .plain) (hx : s.heap.get? x = some ox) {Q : Fin → Shared → Prop}
    (h : Q (.done (.ret .notImplemented)) s) : wpAny (model prog w) A (PySem.Builtin.Int.intBinary name g refl ⟨[.int n t, .ref x], []⟩) Q E s := by
  obtain ⟨hp, gg, d, tk, os⟩ := s
  obtain ⟨oc, odd, oda, osl⟩ := ox
  dsimp only at hd
  subst hd
  unfold PySem.Builtin.Int.intBinary
  wp_walk using AutoSeq1.wpAny_loadPart' hx
  exact h
/-- B declines an instance of the text's own -/
def Declines (B : Builtin) : Prop := ∀ (prog : Program) (w : World) (A : Around) (E : Value → Shared → Prop) (s : Shared) (n : Int) (t : Tok) (x : Addr) (ox : Obj) (Q : Fin → Shared → Prop), ox.data = .plain → s.heap.get? x = some ox → Q (.done (.ret .notImplemented)) s → wpAny (model prog w) A (B ⟨[.int n t, .ref x], []⟩) Q E s
theorem decl_bin (name : String) (g : Int → Int → Sem Fin) (r : Bool) : Declines (PySem.Builtin.Int.intBinary name g r) := fun _ _ _ _ _ _ _ _ _ _ hd hx h => int_no hd hx h
theorem decl_fdv : Declines PySem.Builtin.«int.__floordiv__» := fun prog w A E s n t x ox Q hd hx h => by
  obtain ⟨hp, gg, d, tk, os⟩ := s
  obtain ⟨oc, odd, oda, osl⟩ := ox
  dsimp only at hd
  subst hd
  unfold PySem.Builtin.«int.__floordiv__» PySem.Builtin.exactOperandsForPylong
  have k := fun g => int_no (prog := prog) (w := w) (A := A) (E := E) (n := n) (t := t) (name := "__floordiv__") (g := g) (refl := false) (s := ⟨hp, gg, d, tk, os⟩) rfl hx h
  wp_walk using AutoSeq1.wpAny_loadPart' hx
  all_goals first | exact k _ | exact h
/-- n op x, n an int, x an instance of the text's own: int's slot declines, the reflected one of x's class is asked -/
theorem bin_int_own {op : Operator} {n : Int} {t : Tok} {id : String} {B : Builtin} {Q : Value → Shared → Prop} (X : K.In s.heap) (I : InstAt s.heap x ox C od) (hp : ox.data = .plain) (hc : selfFirst K C = true)
    (hs : findIn K (.ref C) (PySem.dunder op.info.2) = some (some (.ref f0))) (hr : findIn K (.ref C) (dunderR op.info.2) = some (some (.ref f))) (hf : isFn K (.ref f) = true) (hm : mroIn K C (.type "int") = some false)
    (hfT : fillsNumberSlot (.type "int") op.info.2 = pure true) (slot : Slot "int" (PySem.dunder op.info.2) id) (entry : entryFor table id = some B) (ha : argsOk id ⟨[.int n t, .ref x], []⟩)
    (hB : Declines B)
    (h : wpAny (model prog w) A (call (.ref f) [.ref x, .int n t]) (PySem.W.CmpBack Q) E s) : wpAny (model prog w) A (binaryOp op (.int n t) (.ref x)) Q E s := by
  obtain ⟨cd, rest, hcd, hmro⟩ := ksp_first hc
  rcases hi : op.info with ⟨sym, nm'⟩
  rw [hi] at hs hr slot hfT
  dsimp only at hs hr slot hfT
  have one := ksp_try X I hr hf h
  have two : wpAny (model prog w) A (tryMethod (.int n t) (PySem.dunder nm') (.ref x)) (fun r s' => r = none ∧ s' = s) E s :=
    wpAny_tryMethod_declines (typeIs_int s n t) slot (wpAny_call_entry slot (typeIs_int s n t) entry (hB _ _ _ _ _ _ _ _ _ _ hp I.at_ ⟨_, rfl, rfl, rfl, rfl⟩) ha)
  obtain ⟨hh, gg, d, tt, os⟩ := s
  have L1 : Looks (model prog w) hh (typeOf (.int n t)) (.type "int") := Looks.of_pure rfl
  have L2 : Looks (model prog w) hh (typeOf (.ref x)) (.ref C) := I.type
  have L3 : Looks (model prog w) hh (fillsNumberSlot (.type "int") nm') true := Looks.of_pure hfT
  have L4 : Looks (model prog w) hh (fillsNumberSlot (.ref C) nm') true := fills_K X hcd hmro hs
  have L5 : Looks (model prog w) hh (isSubtype (.ref C) (.type "int")) false := looks_mroIn X hm
  have L6 : Looks (model prog w) hh (numberSlotInPython (.type "int") nm') false := Looks.of_pure rfl
  have hne : (Value.type "int" == Value.ref C) = false := Bool.eq_false_iff.mpr fun q => by cases beq_iff_eq.mp q
  simp only [binaryOp, hi]
  refine wpAny_holding (wpAny_bind ?_)
  unfold binaryOp1
  refine wpAny_bind (L1.at (wpAny_bind (L2.at (wpAny_bind (L3.at ?_)))))
  simp only [hne, Bool.false_eq_true, if_false]
  ksp_lk
  refine wpAny_mono two (fun r s' hr' => ?_) fun _ _ e => e
  obtain ⟨rfl, rfl⟩ := hr'
  ksp_lk
  refine wpAny_mono one (fun r s' hr' => ?_) fun _ _ e => e
  obtain ⟨v, rfl, hq⟩ := hr'
  ksp_lk
  exact hq
/-- n ? x for a comparison: int's slot declines, the swapped one of x's class is asked -/
theorem cmp_int_own {op : CmpOp} {n : Int} {t : Tok} {id : String} {B : Builtin} {Q : Value → Shared → Prop} (hu : A.units < cLine) (X : K.In s.heap) (I : InstAt s.heap x ox C od) (hp : ox.data = .plain)
    (hr : findIn K (.ref C) (cmpInfo op).2.2 = some (some (.ref f))) (hf : isFn K (.ref f) = true) (hm : mroIn K C (.type "int") = some false)
    (slot : Slot "int" (cmpInfo op).2.1 id) (entry : entryFor table id = some B) (ha : argsOk id ⟨[.int n t, .ref x], []⟩) (hB : Declines B)
    (h : wpAny (model prog w) A (call (.ref f) [.ref x, .int n t]) (PySem.W.CmpBack Q) E s) : wpAny (model prog w) A (richCompare op (.int n t) (.ref x)) Q E s := by
  have one : wpAny (model prog w) A (tryCompare (.ref x) (cmpInfo op).2.2 (.int n t)) (fun r s' => ∃ v, r = some v ∧ Q v s') E s := by
    unfold tryCompare
    refine wpAny_bind (ifBound_K X I hr hf (wpAny_mono h (fun v s' hv => ?_) fun _ _ e => e))
    cases v <;> first | exact hv.elim | exact wpAny_pure ⟨_, rfl, hv⟩
  have two : wpAny (model prog w) A (tryCompare (.int n t) (cmpInfo op).2.1 (.ref x)) (fun r s' => r = none ∧ s' = s) E s :=
    wpAny_tryCompare_declines (typeIs_int s n t) slot (wpAny_call_entry slot (typeIs_int s n t) entry (hB _ _ _ _ _ _ _ _ _ _ hp I.at_ ⟨_, rfl, rfl, rfl, rfl⟩) ha)
  have ot : oneThing? op (.int n t) (.ref x) = none := rfl
  have hne : (Value.type "int" != Value.ref C) = true := bne_iff_ne.mpr fun q => by cases q
  unfold richCompare
  simp only [ot]
  refine wpAny_holding (wpAny_bind (wpAny_cRoomFor hu ?_))
  refine wpAny_bind ((Looks.of_pure rfl : Looks (model prog w) s.heap (typeOf (.int n t)) (.type "int")).here (wpAny_bind (I.type.here ?_)))
  simp only [hne, if_true]
  refine wpAny_bind ((looks_mroIn X hm).here ?_)
  simp only [Bool.false_eq_true, if_false]
  refine wpAny_bind (wpAny_mono two (fun r s' z => ?_) fun _ _ e => e)
  obtain ⟨rfl, rfl⟩ := z
  simp only [Bool.not_false, if_true]
  refine wpAny_bind (wpAny_mono one (fun r s' z => ?_) fun _ _ e => e)
  obtain ⟨v, rfl, hq⟩ := z
  exact wpAny_pure hq
end
/-! ### readings over the layer -/
section
variable {X : Cx} {CX : CXT} {k j : Nat} {C : Addr} {cn m : Str} {ps : List Str} {sp : Sp} {E : XK}
theorem back_of {pins : List (Addr × Obj)} {σ : L2.St} {Q : VK} {u : Value} {s' : Shared} (h : EP X pins σ Q u s') : PySem.W.CmpBack (EP X pins σ Q) u s' := by
  obtain ⟨v, H', I, r, q⟩ := id h
  cases v with
  | non => cases (show u = Value.none from r); exact h
  | bl b => cases (show u = Value.bool b from r); exact h
  | int i => obtain ⟨t, e⟩ := (show ∃ t, u = Value.int i t from r); cases e; exact h
  | str z => obtain ⟨t, e⟩ := (show ∃ t, u = Value.str z t from r); cases e; exact h
  | byt z => obtain ⟨t, e⟩ := (show ∃ t, u = Value.bytes z t from r); cases e; exact h
  | flt z => obtain ⟨t, e⟩ := (show ∃ t, u = Value.float z t from r); cases e; exact h
  | ref a => cases (show u = Value.ref a from r); exact h
  | ty n => cases (show u = Value.type n from r); exact h
/-- a method of the text's own asked by the machine, at the running body's own depth -/
theorem run_own {f : Addr} {fd : FuncData} {pins : List (Addr × Obj)} {σ : L2.St} {H : Hp} {s : Shared} {Q : VK} {us : List Value} {vs : List V} (F : FnOk X.prog X.w X.K X.mg X.base CX k f fd ps sp) (hr : Room k X.A) (hb : L2.Binds X.K fd ps []) (hx : Passes CX X E)
    (I : L2.Inv X pins σ H s) (r : Vals vs us) (h : sp vs H Q E) : wpAny (model X.prog X.w) X.A (call (.ref f) us) (PySem.W.CmpBack (EP X pins σ Q)) X.xe s :=
  wpAny_mono (run_fn F hr hb .nil hx I r (by rw [List.append_nil]; exact h)) (fun _ _ z => back_of z) fun _ _ z => z
/-- o op p, both of the class at C -/
def rOO (C : Addr) (sp : Sp) (E : XK) : R2 := fun x y H Q => ∃ a b dx dy fs gs, x = .ref a ∧ y = .ref b ∧ H a = some (.ins C dx fs) ∧ H b = some (.ins C dy gs) ∧ sp [x, y] H Q E
/-- o op n, n an int -/
def rOI (C : Addr) (sp : Sp) (E : XK) : R2 := fun x y H Q => ∃ a n dx fs, x = .ref a ∧ y = .int n ∧ H a = some (.ins C dx fs) ∧ sp [x, y] H Q E
/-- n op o, n an int: the reflected method -/
def rIO (C : Addr) (sp : Sp) (E : XK) : R2 := fun x y H Q => ∃ n b dx fs, x = .int n ∧ y = .ref b ∧ H b = some (.ins C dx fs) ∧ sp [y, x] H Q E
theorem op_oo {op : Operator} (hd : PySem.dunder op.info.2 = m) (M : Meth X.K C m (He.fAd X.K (cn, some m))) (hc : PySem.W.selfFirst X.K C = true) (O : OkD X.prog X.w X.K X.mg X.base CX k (cn, some m) ps [] sp) (hr : Room j X.A) (hj : k ≤ j) (hx : Passes CX X E) : OpR X (binaryOp op) (rOO C sp E) := by
  obtain ⟨fd, ds, F, b, v⟩ := O.ex
  cases v
  intro pins s σ H x y v u Q I rx ry h
  obtain ⟨a, b', dx, dy, fs, gs, rfl, rfl, ha, hb, hsp⟩ := h
  cases rx
  cases ry
  obtain ⟨mA, J, _⟩ := ins_get I.hok ha
  obtain ⟨mB, J', _⟩ := ins_get I.hok hb
  obtain ⟨od, J, _⟩ := J.look
  obtain ⟨od', J', _⟩ := J'.look
  obtain ⟨mm, hF⟩ := I.fr
  exact PySem.W.binop_K hF I.ok.mod.kin J J'.type hc (by rw [hd]; exact M.at_) M.fn (run_own (vs := [V.ref a, V.ref b']) F (hr.mono hj) b hx I (.cons rfl (.cons rfl .nil)) hsp)
theorem op_oi {op : Operator} {fo ro rc : Option Value} (hd : PySem.dunder op.info.2 = m) (M : Meth X.K C m (He.fAd X.K (cn, some m))) (hc : PySem.W.selfFirst X.K C = true) (h2 : PySem.W.findIn X.K (.ref C) (dunderR op.info.2) = some rc) (hp : rc = none ∨ ∃ g : Addr, rc = some (.ref g))
    (h3 : PySem.W.findIn X.K (.type "int") (PySem.dunder op.info.2) = some fo) (h4 : PySem.W.findIn X.K (.type "int") (dunderR op.info.2) = some ro) (h5 : PySem.W.subIn X.K (.type "int") (.ref C) = some false)
    (O : OkD X.prog X.w X.K X.mg X.base CX k (cn, some m) ps [] sp) (hr : Room j X.A) (hj : k ≤ j) (hx : Passes CX X E) : OpR X (binaryOp op) (rOI C sp E) := by
  obtain ⟨fd, ds, F, b, v⟩ := O.ex
  cases v
  intro pins s σ H x y v u Q I rx ry h
  obtain ⟨a, n, dx, fs, rfl, rfl, ha, hsp⟩ := h
  cases rx
  obtain ⟨t, rfl⟩ := ry
  obtain ⟨mA, J, _⟩ := ins_get I.hok ha
  obtain ⟨od, J, _⟩ := J.look
  obtain ⟨mm, hF⟩ := I.fr
  exact PySem.W.ksp_binT hF I.ok.mod.kin J rfl hc (by rw [hd]; exact M.at_) M.fn h2 hp h3 h4 h5 (run_own (vs := [V.ref a, V.int n]) F (hr.mono hj) b hx I (.cons rfl (.cons ⟨t, rfl⟩ .nil)) hsp)
theorem op_io {op : Operator} {f0 : Addr} {id : String} {B : Builtin} (hd : dunderR op.info.2 = m) (M : Meth X.K C m (He.fAd X.K (cn, some m))) (hc : PySem.W.selfFirst X.K C = true) (h2 : PySem.W.findIn X.K (.ref C) (PySem.dunder op.info.2) = some (some (.ref f0))) (hm : PySem.W.mroIn X.K C (.type "int") = some false)
    (hfT : fillsNumberSlot (.type "int") op.info.2 = pure true) (slot : Slot "int" (PySem.dunder op.info.2) id) (entry : entryFor table id = some B) (ha : ∀ a b, argsOk id ⟨[a, b], []⟩) (hB : Declines B)
    (O : OkD X.prog X.w X.K X.mg X.base CX k (cn, some m) ps [] sp) (hr : Room j X.A) (hj : k ≤ j) (hx : Passes CX X E) : OpR X (binaryOp op) (rIO C sp E) := by
  obtain ⟨fd, ds, F, b, v⟩ := O.ex
  cases v
  intro pins s σ H x y v u Q I rx ry h
  obtain ⟨n, b', dx, fs, rfl, rfl, hb, hsp⟩ := h
  obtain ⟨t, rfl⟩ := rx
  cases ry
  obtain ⟨mA, J, _⟩ := ins_get I.hok hb
  obtain ⟨od, J, _⟩ := J.look
  exact bin_int_own I.kIn J rfl hc h2 (by rw [hd]; exact M.at_) M.fn hm hfT slot entry (ha _ _) hB (run_own (vs := [V.ref b', V.int n]) F (hr.mono hj) b hx I (.cons rfl (.cons ⟨t, rfl⟩ .nil)) hsp)
/-- -o -/
def rUO (C : Addr) (sp : Sp) (E : XK) : V → Hp → VK → Prop := fun x H Q => ∃ a dx fs, x = .ref a ∧ H a = some (.ins C dx fs) ∧ sp [x] H Q E
theorem un_negO (M : Meth X.K C "__neg__" (He.fAd X.K (cn, some "__neg__"))) (O : OkD X.prog X.w X.K X.mg X.base CX k (cn, some "__neg__") ps [] sp) (hr : Room j X.A) (hj : k ≤ j) (hx : Passes CX X E) : UnR X (unaryOp .USub) (rUO C sp E) := by
  obtain ⟨fd, ds, F, b, v⟩ := O.ex
  cases v
  intro pins s σ H x v Q I rx h
  obtain ⟨a, dx, fs, rfl, ha, hsp⟩ := h
  cases rx
  obtain ⟨mA, J, _⟩ := ins_get I.hok ha
  obtain ⟨od, J, _⟩ := J.look
  obtain ⟨mm, hF⟩ := I.fr
  exact PySem.W.ksp_neg hF I.ok.mod.kin J M.at_ M.fn (run_fn (vs := [V.ref a]) F (hr.mono hj) b .nil hx I (.cons rfl .nil) hsp)
/-- abs(o) -/
def rAbsO (C : Addr) (sp : Sp) : List V → Hp → VK → Prop := fun xs H Q => ∃ a dx fs, xs = [.ref a] ∧ H a = some (.ins C dx fs) ∧ sp xs H Q fun _ _ _ => False
theorem call_absO (M : Meth X.K C "__abs__" (He.fAd X.K (cn, some "__abs__"))) (O : OkD X.prog X.w X.K X.mg X.base CX0 k (cn, some "__abs__") ps [] sp) (hr : Room j X.A) (hj : k + 2 ≤ j) : CallR X (.builtin "abs") (rAbsO C sp) := by
  obtain ⟨fd, ds, F, b, v⟩ := O.ex
  cases v
  intro pins s σ H xs us Q I r h
  obtain ⟨a, dx, fs, rfl, ha, hsp⟩ := h
  obtain ⟨u, rfl, ru⟩ : ∃ u, us = [u] ∧ RelV (.ref a) u := by
    cases r with
    | cons p q => cases q; exact ⟨_, rfl, p⟩
  cases ru
  obtain ⟨mA, J, _⟩ := ins_get I.hok ha
  obtain ⟨od, J, _⟩ := J.look
  have hr2 : Room (k + 1) X.A.in1 := (hr.mono hj).in1
  have hr3 : Room k X.A.in1 := hr2.mono (by omega)
  have hl := F.len _ _ _ _ hsp
  have hb := b s [.ref a] I.kIn (by simpa using hl)
  simp only [List.append_nil] at hb
  refine PySem.Calls.call_function_entry PyProof.Rows.kind_abs PyProof.Rows.plain_abs PyProof.Rows.entry_abs (PyProof.Rows.args_abs _) ?_
  unfold PySem.Builtin.«abs»
  refine wpAny_bind (wpAny_pure ?_)
  refine wpAny_bind (m := callSpecial? (.ref a) (Str.ofString "__abs__")) (PySem.W.special_fn I.kIn J M.at_ (beq_iff_eq.mp M.fn) ?_)
  refine wpAny_call (codeAny_mono (F.run X.A.in1 X.stack s H ⟨[.ref a], []⟩ [.ref a] [.ref a] _ _ hr3 I.env0.in1 hb (.cons rfl .nil) hsp) fun r s' hq => ?_)
  cases r with
  | error e => exact hq.elim
  | ok fl =>
    cases fl with
    | ret w => exact wpAny_pure ⟨_, rfl, I.after hq⟩
    | next => exact False.elim hq
    | brk => exact False.elim hq
    | cont => exact False.elim hq
/-- comparisons -/
theorem cmp_oo {op : CmpOp} (hd : (cmpInfo op).2.1 = m) (hop : compareOp op = richCompare op) (M : Meth X.K C m (He.fAd X.K (cn, some m))) (O : OkD X.prog X.w X.K X.mg X.base CX k (cn, some m) ps [] sp) (hr : Room j X.A) (hj : k ≤ j) (hx : Passes CX X E) : OpR X (compareOp op) (rOO C sp E) := by
  obtain ⟨fd, ds, F, b, v⟩ := O.ex
  cases v
  intro pins s σ H x y v u Q I rx ry h
  obtain ⟨a, b', dx, dy, fs, gs, rfl, rfl, ha, hb, hsp⟩ := h
  cases rx
  cases ry
  obtain ⟨mA, J, _⟩ := ins_get I.hok ha
  obtain ⟨mB, J', _⟩ := ins_get I.hok hb
  obtain ⟨od, J, _⟩ := J.look
  obtain ⟨od', J', _⟩ := J'.look
  obtain ⟨mm, hF⟩ := I.fr
  rw [hop]
  exact PySem.W.cmp_K (tb := .ref C) hr.units0 hF I.ok.mod.kin J J'.type (by simp [PySem.W.notFirst]) (by rw [hd]; exact M.at_) M.fn (run_own (vs := [V.ref a, V.ref b']) F (hr.mono hj) b hx I (.cons rfl (.cons rfl .nil)) hsp)
theorem cmp_oi {op : CmpOp} (hd : (cmpInfo op).2.1 = m) (hop : compareOp op = richCompare op) (M : Meth X.K C m (He.fAd X.K (cn, some m))) (h5 : PySem.W.subIn X.K (.type "int") (.ref C) = some false)
    (O : OkD X.prog X.w X.K X.mg X.base CX k (cn, some m) ps [] sp) (hr : Room j X.A) (hj : k ≤ j) (hx : Passes CX X E) : OpR X (compareOp op) (rOI C sp E) := by
  obtain ⟨fd, ds, F, b, v⟩ := O.ex
  cases v
  intro pins s σ H x y v u Q I rx ry h
  obtain ⟨a, n, dx, fs, rfl, rfl, ha, hsp⟩ := h
  cases rx
  obtain ⟨t, rfl⟩ := ry
  obtain ⟨mA, J, _⟩ := ins_get I.hok ha
  obtain ⟨od, J, _⟩ := J.look
  obtain ⟨mm, hF⟩ := I.fr
  rw [hop]
  exact PySem.W.cmp_K (tb := .type "int") hr.units0 hF I.ok.mod.kin J (PySem.W.Looks.of_pure rfl) (by unfold PySem.W.notFirst; rw [h5]; simp) (by rw [hd]; exact M.at_) M.fn (run_own (vs := [V.ref a, V.int n]) F (hr.mono hj) b hx I (.cons rfl (.cons ⟨t, rfl⟩ .nil)) hsp)
theorem cmp_io {op : CmpOp} {id : String} {B : Builtin} (hd : (cmpInfo op).2.2 = m) (hop : compareOp op = richCompare op) (M : Meth X.K C m (He.fAd X.K (cn, some m))) (hm : PySem.W.mroIn X.K C (.type "int") = some false)
    (slot : Slot "int" (cmpInfo op).2.1 id) (entry : entryFor table id = some B) (ha : ∀ a b, argsOk id ⟨[a, b], []⟩) (hB : Declines B)
    (O : OkD X.prog X.w X.K X.mg X.base CX k (cn, some m) ps [] sp) (hr : Room j X.A) (hj : k ≤ j) (hx : Passes CX X E) : OpR X (compareOp op) (rIO C sp E) := by
  obtain ⟨fd, ds, F, b, v⟩ := O.ex
  cases v
  intro pins s σ H x y v u Q I rx ry h
  obtain ⟨n, b', dx, fs, rfl, rfl, hb, hsp⟩ := h
  obtain ⟨t, rfl⟩ := rx
  cases ry
  obtain ⟨mA, J, _⟩ := ins_get I.hok hb
  obtain ⟨od, J, _⟩ := J.look
  rw [hop]
  exact cmp_int_own hr.units0 I.kIn J rfl (by rw [hd]; exact M.at_) M.fn hm slot entry (ha _ _) hB (run_own (vs := [V.ref b', V.int n]) F (hr.mono hj) b hx I (.cons rfl (.cons ⟨t, rfl⟩ .nil)) hsp)
end
end Vf

set_option Elab.async false
set_option linter.all false
set_option maxRecDepth 100000
set_option maxHeartbeats 2000000
namespace Vf
open PySem PySem.Spec PyProof.Rows L2
section
variable {X : Cx} {C : Addr} {bmB : List Value} {B newId initId : String}
/-- X(), X an error of the text's own without an __init__ -/
theorem pmk_own0 {x : Str} {p pos : Pos} (F : ExcBaseFacts B newId initId bmB) (q : PySem.W.excIn X.K C bmB newId = true) (gC : X.mg x = some (.ref C)) (kC : PySem.W.keepIn X.K (.ref C) = true) (r : Raises X (.ref C)) (hg : Gl X x)
    (hdb : (x == ("__debug__" : Str)) = false := by decide) : PMk X (.Call (.Name x p) [] [] pos) (fun _ H Q => Q (.ref C) none H) := by
  intro pins s σ H Q I h
  refine wpAny_Call_Name_kw (ld_glob I hg gC ?_ hdb)
  refine PySem.W.callWith_K0 I.kIn kC ?_
  obtain ⟨_, _, _, _, _, _, _, _, _, _, _, _, _, _, _, _, _, hC, hN, hni, T⟩ := exc_obj I.kIn q
  show wpAny _ _ (call (.ref C) []) _ _ _
  exact wpAny_call_exc_subT F T hC hN hni (fun h' e hm => L2.mk_of I hm r h (I.hok.gone hm.new)) (Nat.zero_le _)
end
theorem c_raise0 {X : Cx} {x : Str} {p pos pos2 : Pos} {W : WX} (c : (He.Fa.exc x).ok X.K = true) (hm : X.mg x = some (.ref (He.ga X.K x))) (tk : Takes X W) (hc : X.calm = true := by rfl) (hg : Gl X x := by rfl) (hdb : (x == ("__debug__" : Str)) = false := by decide) :
    PS X (.Raise (some (.Call (.Name x p) [] [] pos)) none pos2) (fun _ σ H => W (.ref (He.ga X.K x)) none σ H) := by
  obtain ⟨h1, h2, h3, h4⟩ := He.exc_ok c
  exact ps_raise hc tk (pmk_own0 PySem.F.excBase_ValueError h1 hm h2 (raises_own h3 h4) hg hdb)
theorem passX {X : Cx} {E : XK} (tk : Takes X (fun cls d _ H => E cls d H)) : Passes (L2.CX X.prog X.w) X E := passes_call tk fun _ _ _ _ h => h
theorem opr_or {X : Cx} {f : Value → Value → Sem Value} {r1 r2 : R2} (h1 : OpR X f r1) (h2 : OpR X f r2) : OpR X f (fun x y H Q => r1 x y H Q ∨ r2 x y H Q) := fun pins s σ H x y v u Q I rx ry h => by
  rcases h with h | h
  · exact h1 pins s σ H x y v u Q I rx ry h
  · exact h2 pins s σ H x y v u Q I rx ry h
section
variable (K : PySem.W.Frag)
theorem int_add : PySem.W.findIn K (.type "int") (PySem.dunder "add") = some (some (.builtin "int.__add__")) := by kernel_rfl
theorem int_sub : PySem.W.findIn K (.type "int") (PySem.dunder "sub") = some (some (.builtin "int.__sub__")) := by kernel_rfl
theorem int_mul : PySem.W.findIn K (.type "int") (PySem.dunder "mul") = some (some (.builtin "int.__mul__")) := by kernel_rfl
theorem int_fdv : PySem.W.findIn K (.type "int") (PySem.dunder "floordiv") = some (some (.builtin "int.__floordiv__")) := by kernel_rfl
theorem int_radd : PySem.W.findIn K (.type "int") (dunderR "add") = some (some (.builtin "int.__radd__")) := by kernel_rfl
theorem int_rsub : PySem.W.findIn K (.type "int") (dunderR "sub") = some (some (.builtin "int.__rsub__")) := by kernel_rfl
theorem int_rmul : PySem.W.findIn K (.type "int") (dunderR "mul") = some (some (.builtin "int.__rmul__")) := by kernel_rfl
theorem int_rfdv : PySem.W.findIn K (.type "int") (dunderR "floordiv") = some (some (.builtin "int.__rfloordiv__")) := by kernel_rfl
end
end Vf

set_option Elab.async false
set_option linter.all false
set_option maxRecDepth 100000
set_option maxHeartbeats 2000000
namespace Vf
open PySem PySem.Spec PyProof.Rows L2
section
open PySem.W PySem.Calls
variable {prog : Program} {w : World} {A : Around} {E : Value → Shared → Prop} {s : Shared} {K : Frag} {x C f L : Addr} {h₀ : Heap} {m : Str → Option Value} {ox : Obj} {od : Option Obj}
/-- x, an instance of the text's own, is of no built-in type T -/
theorem inst_not {T : String} {Q : Bool → Shared → Prop} (X : K.In s.heap) (I : InstAt s.heap x ox C od) (hm : mroIn K C (.type T) = some false) (h : Q false s) : wpAny (model prog w) A (isInstance (.ref x) (.type T)) Q E s := by
  unfold isInstance
  exact wpAny_bind (I.type.here ((looks_mroIn X hm).here h))
theorem eq_no_none {Q : Fin → Shared → Prop} (h : Q (.done (.ret .notImplemented)) s) : wpAny (model prog w) A (PySem.Builtin.«NoneType.__eq__» ⟨[.none, .ref x], []⟩) Q E s := by
  unfold PySem.Builtin.«NoneType.__eq__»
  wp_walk
  exact h
theorem eq_no_int {n : Value} (hn : (∃ b, n = .bool b) ∨ ∃ i t, n = .int i t) (hd : ox.data = .plain) (hx : s.heap.get? x = some ox) {Q : Fin → Shared → Prop} (h : Q (.done (.ret .notImplemented)) s) : wpAny (model prog w) A (PySem.Builtin.«int.__eq__» ⟨[n, .ref x], []⟩) Q E s := by
  obtain ⟨hp, gg, d, tk, os⟩ := s
  obtain ⟨oc, odd, oda, osl⟩ := ox
  dsimp only at hd
  subst hd
  rcases hn with ⟨b, rfl⟩ | ⟨i, t, rfl⟩
  · wp_walk using AutoSeq1.wpAny_loadPart' hx
    exact h
  · wp_walk using AutoSeq1.wpAny_loadPart' hx
    exact h
theorem eq_no_str {z : Str} {t : Tok} (hd : ox.data = .plain) (hx : s.heap.get? x = some ox) {Q : Fin → Shared → Prop} (h : Q (.done (.ret .notImplemented)) s) : wpAny (model prog w) A (PySem.Builtin.«str.__eq__» ⟨[.str z t, .ref x], []⟩) Q E s := by
  obtain ⟨hp, gg, d, tk, os⟩ := s
  obtain ⟨oc, odd, oda, osl⟩ := ox
  dsimp only at hd
  subst hd
  wp_walk using AutoSeq1.wpAny_loadPart' hx
  exact h
theorem eq_no_tup {a : Addr} (X : K.In s.heap) (I : InstAt s.heap x ox C od) (hm : mroIn K C (.type "tuple") = some false) {Q : Fin → Shared → Prop} (h : Q (.done (.ret .notImplemented)) s) : wpAny (model prog w) A (PySem.Builtin.«tuple.__eq__» ⟨[.ref a, .ref x], []⟩) Q E s := by
  wp_walk using inst_not X I hm
  exact h
theorem eq_no_lst {a : Addr} (X : K.In s.heap) (I : InstAt s.heap x ox C od) (hm : mroIn K C (.type "list") = some false) {Q : Fin → Shared → Prop} (h : Q (.done (.ret .notImplemented)) s) : wpAny (model prog w) A (PySem.Builtin.«list.__eq__» ⟨[.ref a, .ref x], []⟩) Q E s := by
  wp_walk using inst_not X I hm
  exact h
theorem eq_no_dic {a : Addr} {oa : Obj} (ha : s.heap.get? a = some oa) (X : K.In s.heap) (I : InstAt s.heap x ox C od) (hm : mroIn K C (.type "dict") = some false) {Q : Fin → Shared → Prop} (h : Q (.done (.ret .notImplemented)) s) : wpAny (model prog w) A (PySem.Builtin.«dict.__eq__» ⟨[.ref a, .ref x], []⟩) Q E s := by
  wp_walk using inst_not X I hm
  exact h
/-- v == x: v's slot declines, x's own is asked -/
theorem eq_any_own {v : Value} {T id : String} {B : Builtin} {Q : Value → Shared → Prop} (hT : s.TypeIs v T) (hu : A.units < cLine) (X : K.In s.heap) (I : InstAt s.heap x ox C od)
    (hr : findIn K (.ref C) "__eq__" = some (some (.ref f))) (hf : isFn K (.ref f) = true) (hm : mroIn K C (.type T) = some false)
    (slot : Slot T (cmpInfo .Eq).2.1 id) (entry : entryFor table id = some B) (ha : argsOk id ⟨[v, .ref x], []⟩) (hB : ∀ Q : Fin → Shared → Prop, Q (.done (.ret .notImplemented)) s → wpAny (model prog w) A.in1 (B ⟨[v, .ref x], []⟩) Q E s)
    (h : wpAny (model prog w) A (call (.ref f) [.ref x, v]) (PySem.W.CmpBack Q) E s) : wpAny (model prog w) A (richCompare .Eq v (.ref x)) Q E s := by
  have one : wpAny (model prog w) A (tryCompare (.ref x) "__eq__" v) (fun r s' => ∃ z, r = some z ∧ Q z s') E s := by
    unfold tryCompare
    refine wpAny_bind (ifBound_K X I hr hf (wpAny_mono h (fun z s' hv => ?_) fun _ _ e => e))
    cases z <;> first | exact hv.elim | exact wpAny_pure ⟨_, rfl, hv⟩
  have two : wpAny (model prog w) A (tryCompare v (cmpInfo .Eq).2.1 (.ref x)) (fun r s' => r = none ∧ s' = s) E s :=
    wpAny_tryCompare_declines hT slot (wpAny_call_entry slot hT entry (hB _ ⟨_, rfl, rfl, rfl, rfl⟩) ha)
  have hne : (Value.type T != Value.ref C) = true := bne_iff_ne.mpr fun q => by cases q
  unfold richCompare
  simp only [hT.oneThing_none]
  refine wpAny_holding (wpAny_bind (wpAny_cRoomFor hu ?_))
  refine wpAny_bind (wpAny_typeOf hT (wpAny_bind (I.type.here ?_)))
  simp only [hne, if_true]
  refine wpAny_bind ((looks_mroIn X hm).here ?_)
  simp only [Bool.false_eq_true, if_false]
  refine wpAny_bind (wpAny_mono two (fun r s' z => ?_) fun _ _ e => e)
  obtain ⟨rfl, rfl⟩ := z
  simp only [Bool.not_false, if_true]
  refine wpAny_bind (wpAny_mono one (fun r s' z => ?_) fun _ _ e => e)
  obtain ⟨z, rfl, hq⟩ := z
  exact wpAny_pure hq
theorem sub_not {n : String} {l : List Value} (e : fastBuiltinMro n = some l) (h : ∀ a, l.contains (.ref a) = false) : subIn K (.type n) (.ref C) = some false := by
  show (fastBuiltinMro n).map (·.contains (.ref C)) = some false
  rw [e, Option.map_some, h]
end
theorem looks_ty {M : Model} {s : Shared} {u : Value} {n : String} (h : s.TypeIs u n) : PySem.W.Looks M s.heap (typeOf u) (.type n) := fun A Q E s' k q => by
  refine wpAny_typeOf (T := n) ?_ q
  cases u with
  | ref a =>
    obtain ⟨o, h1, h2⟩ := h
    exact ⟨o, k _ _ h1, h2⟩
  | _ => exact h
/-! ### odd values beside an own object -/
def oddK : List String := ["bool", "NoneType", "str", "tuple", "list", "dict"]
section
variable {X : Cx} {CX : CXT} {k j : Nat} {C : Addr} {cn m : Str} {ps : List Str} {sp : Sp} {E : XK}
/-- a built-in type none of our classes is over, nor they over it -/
theorem odd_is {pins : List (Addr × Obj)} {s : Shared} {σ : L2.St} {H : Hp} {x : V} {u : Value} (I : L2.Inv X pins σ H s) (o : Odd H x) (r : RelV x u) :
    ∃ n ∈ oddK, s.TypeIs u n := by
  cases o with
  | bl b => cases r; exact ⟨"bool", by simp [oddK], rfl⟩
  | non => cases r; exact ⟨"NoneType", by simp [oddK], rfl⟩
  | str z => obtain ⟨t, rfl⟩ := r; exact ⟨"str", by simp [oddK], rfl⟩
  | tup h =>
    cases r
    obtain ⟨_, _, _, o, h1, h2, _⟩ := (show ObjOk X.prog X.w H s.heap _ (.tup _) from I.hok _ _ h)
    exact ⟨"tuple", by simp [oddK], o, h1, h2⟩
  | lst h =>
    cases r
    obtain ⟨_, _, n, _, h1⟩ := (show ObjOk X.prog X.w H s.heap _ (.lst _) from I.hok _ _ h)
    exact ⟨"list", by simp [oddK], _, h1, rfl⟩
  | dic h =>
    cases r
    obtain ⟨_, _, vs, _, o, es, ep, h1, h2, _⟩ := (show ObjOk X.prog X.w H s.heap _ (.dK _) from I.hok _ _ h)
    exact ⟨"dict", by simp [oddK], o, h1, h2.1⟩
theorem odd_first {n : String} (h : n ∈ oddK) : PySem.W.subIn X.K (.type n) (.ref C) = some false := by
  simp only [oddK, List.mem_cons, List.not_mem_nil, or_false] at h
  rcases h with rfl | rfl | rfl | rfl | rfl | rfl
  · exact sub_not (l := [.type "bool", .type "int", .type "object"]) (by decide +kernel) fun a => by simp
  · exact sub_not (l := [.type "NoneType", .type "object"]) (by decide +kernel) fun a => by simp
  · exact sub_not (l := [.type "str", .type "object"]) (by decide +kernel) fun a => by simp
  · exact sub_not (l := [.type "tuple", .type "object"]) (by decide +kernel) fun a => by simp
  · exact sub_not (l := [.type "list", .type "object"]) (by decide +kernel) fun a => by simp
  · exact sub_not (l := [.type "dict", .type "object"]) (by decide +kernel) fun a => by simp
/-- a method of the text's own asked by the machine, somewhere below the running body -/
theorem run_ownA {A : Around} {f : Addr} {fd : FuncData} {pins : List (Addr × Obj)} {σ : L2.St} {H : Hp} {s : Shared} {Q : VK} {us : List Value} {vs : List V} (F : FnOk X.prog X.w X.K X.mg X.base CX k f fd ps sp) (sb : Sub X k A) (hb : L2.Binds X.K fd ps []) (hx : Passes CX X E)
    (I : L2.Inv X pins σ H s) (r : Vals vs us) (h : sp vs H Q E) : wpAny (model X.prog X.w) A (call (.ref f) us) (PySem.W.CmpBack (EP X pins σ Q)) X.xe s := by
  have e0 : Env0 X.prog X.w X.K X.mg X.base A X.stack s H := by
    have e := I.env0
    exact ⟨by rw [sb.fr]; exact e.frames, e.mod, e.bs, e.bsz, e.funs, e.frf, e.hok, e.bare⟩
  have hl := F.len _ _ _ _ h
  refine wpAny_call (codeAny_mono (F.run A X.stack s H ⟨us, []⟩ us vs _ E sb.room e0 (by
    have := hb s us I.kIn (by rw [List.append_nil, ← r.length, hl])
    simpa using this) r h) fun r s' hq => ?_)
  cases r with
  | error e => exact hx pins σ H s e s' I hq
  | ok fl =>
    cases fl with
    | ret w => exact back_of (I.after hq)
    | next => exact False.elim hq
    | brk => exact False.elim hq
    | cont => exact False.elim hq
/-- x == y, x odd, y of the class at C: its own == is asked -/
theorem rc_odd {A : Around} {pins : List (Addr × Obj)} {s : Shared} {σ : L2.St} {H : Hp} {x : V} {u : Value} {b dx : Addr} {fs : List (Str × V)} {Q : VK} (sb : Sub X k A) (M : Meth X.K C "__eq__" (He.fAd X.K (cn, some "__eq__")))
    (hm : ∀ n ∈ oddK, PySem.W.mroIn X.K C (.type n) = some false) (O : OkD X.prog X.w X.K X.mg X.base CX k (cn, some "__eq__") ps [] sp) (hx : Passes CX X E) (I : L2.Inv X pins σ H s) (o : Odd H x) (rx : RelV x u) (hb : H b = some (.ins C dx fs)) (h0 : sp [.ref b, x] H Q E) :
    wpAny (model X.prog X.w) A (richCompare .Eq u (.ref b)) (EP X pins σ Q) X.xe s := by
  obtain ⟨fd, ds, F, bi, v⟩ := O.ex
  cases v
  obtain ⟨mA, J, _⟩ := ins_get I.hok hb
  obtain ⟨od, J, _⟩ := J.look
  have go := run_ownA (vs := [V.ref b, x]) (us := [.ref b, u]) F sb bi hx I (.cons rfl (.cons rx .nil)) h0
  have hu := sb.room.units0
  cases o with
  | bl y =>
    cases rx
    exact eq_any_own (T := "bool") rfl hu I.kIn J M.at_ M.fn (hm _ (by simp [oddK])) PySem.F.slot_bool_eq PySem.F.entry_int_eq (PySem.F.args_int_eq_2 _ _) (fun Q q => eq_no_int (.inl ⟨_, rfl⟩) rfl J.at_ q) go
  | non =>
    cases rx
    exact eq_any_own (T := "NoneType") rfl hu I.kIn J M.at_ M.fn (hm _ (by simp [oddK])) PySem.F.slot_NoneType_eq PySem.F.entry_NoneType_eq (PySem.F.args_NoneType_eq_2 _ _) (fun Q q => eq_no_none q) go
  | str z =>
    obtain ⟨t, rfl⟩ := rx
    exact eq_any_own (T := "str") rfl hu I.kIn J M.at_ M.fn (hm _ (by simp [oddK])) PySem.F.slot_str_eq PySem.F.entry_str_eq (PySem.F.args_str_eq_2 _ _) (fun Q q => eq_no_str rfl J.at_ q) go
  | tup h =>
    cases rx
    obtain ⟨_, _, _, o, h1, h2, _⟩ := (show ObjOk X.prog X.w H s.heap _ (.tup _) from I.hok _ _ h)
    exact eq_any_own (T := "tuple") ⟨o, h1, h2⟩ hu I.kIn J M.at_ M.fn (hm _ (by simp [oddK])) PySem.F.slot_tuple_eq PySem.F.entry_tuple_eq (PySem.F.args_tuple_eq_2 _ _) (fun Q q => eq_no_tup I.kIn J (hm _ (by simp [oddK])) q) go
  | lst h =>
    cases rx
    obtain ⟨_, _, n, _, h1⟩ := (show ObjOk X.prog X.w H s.heap _ (.lst _) from I.hok _ _ h)
    exact eq_any_own (T := "list") ⟨_, h1, rfl⟩ hu I.kIn J M.at_ M.fn (hm _ (by simp [oddK])) PySem.F.slot_list_eq PySem.F.entry_list_eq (PySem.F.args_list_eq_2 _ _) (fun Q q => eq_no_lst I.kIn J (hm _ (by simp [oddK])) q) go
  | dic h =>
    cases rx
    obtain ⟨_, _, vs, _, o, es, ep, h1, h2, _⟩ := (show ObjOk X.prog X.w H s.heap _ (.dK _) from I.hok _ _ h)
    exact eq_any_own (T := "dict") ⟨o, h1, h2.1⟩ hu I.kIn J M.at_ M.fn (hm _ (by simp [oddK])) PySem.F.slot_dict_eq PySem.F.entry_dict_eq (PySem.F.args_dict_eq_2 _ _) (fun Q q => eq_no_dic h1 I.kIn J (hm _ (by simp [oddK])) q) go
/-- odd == o -/
def rDO (C : Addr) (sp : Sp) (E : XK) : R2 := fun x y H Q => ∃ b dx fs, Odd H x ∧ y = .ref b ∧ H b = some (.ins C dx fs) ∧ sp [y, x] H Q E
theorem eq_do (M : Meth X.K C "__eq__" (He.fAd X.K (cn, some "__eq__"))) (hm : ∀ n ∈ oddK, PySem.W.mroIn X.K C (.type n) = some false) (O : OkD X.prog X.w X.K X.mg X.base CX k (cn, some "__eq__") ps [] sp) (hr : Room j X.A) (hj : k ≤ j) (hx : Passes CX X E) : OpR X (compareOp .Eq) (rDO C sp E) := by
  intro pins s σ H x y v u Q I rx ry h
  obtain ⟨b, dx, fs, o, rfl, hb, hsp⟩ := h
  cases ry
  exact rc_odd ⟨hr.mono hj, rfl⟩ M hm O hx I o rx hb hsp
/-- o ? odd -/
def rOD (C : Addr) (sp : Sp) (E : XK) : R2 := fun x y H Q => ∃ a dx fs, x = .ref a ∧ H a = some (.ins C dx fs) ∧ Odd H y ∧ sp [x, y] H Q E
theorem cmp_od {op : CmpOp} (hd : (cmpInfo op).2.1 = m) (hop : compareOp op = richCompare op) (M : Meth X.K C m (He.fAd X.K (cn, some m))) (O : OkD X.prog X.w X.K X.mg X.base CX k (cn, some m) ps [] sp) (hr : Room j X.A) (hj : k ≤ j) (hx : Passes CX X E) : OpR X (compareOp op) (rOD C sp E) := by
  obtain ⟨fd, ds, F, b, v⟩ := O.ex
  cases v
  intro pins s σ H x y v u Q I rx ry h
  obtain ⟨a, dx, fs, rfl, ha, o, hsp⟩ := h
  cases rx
  obtain ⟨mA, J, _⟩ := ins_get I.hok ha
  obtain ⟨od, J, _⟩ := J.look
  obtain ⟨mm, hF⟩ := I.fr
  obtain ⟨n, hn, ht⟩ := odd_is I o ry
  rw [hop]
  exact PySem.W.cmp_K (tb := .type n) hr.units0 hF I.ok.mod.kin J (looks_ty ht) (by unfold PySem.W.notFirst; rw [odd_first hn]; simp) (by rw [hd]; exact M.at_) M.fn (run_own (vs := [V.ref a, y]) F (hr.mono hj) b hx I (.cons rfl (.cons ry .nil)) hsp)
/-! ### x in a list, where == is the text's own -/
/-- == inside a built-in's body: its answer; it only makes objects -/
abbrev Eqb := V → V → Hp → Bool → Prop
def EqB (X : Cx) (n : Nat) (D : Eqb) : Prop :=
  ∀ (A : Around) (pins : List (Addr × Obj)) (s : Shared) (σ : L2.St) (H : Hp) (x y : V) (u v : Value) (b : Bool), Sub X n A → L2.Inv X pins σ H s → RelV x u → RelV y v → D x y H b →
    wpAny (model X.prog X.w) A (eqBool u v) (fun r s' => r = b ∧ ∃ H', L2.Inv X pins σ H' s' ∧ Ext H H') X.xe s
theorem EqB.or {n : Nat} {D D' : Eqb} (h : EqB X n D) (h' : EqB X n D') : EqB X n (fun x y H b => D x y H b ∨ D' x y H b) := fun A pins s σ H x y u v b sb I rx ry d => by
  rcases d with d | d
  · exact h A pins s σ H x y u v b sb I rx ry d
  · exact h' A pins s σ H x y u v b sb I rx ry d
def DOO (C : Addr) (sp : Sp) (E : XK) : Eqb := fun x y H b => ∃ a c dx dy fs gs, x = .ref a ∧ y = .ref c ∧ H a = some (.ins C dx fs) ∧ H c = some (.ins C dy gs) ∧ (a = c → b = true) ∧ sp [x, y] H (fun v H' => v = .bl b ∧ Ext H H') E
def DDO (C : Addr) (sp : Sp) (E : XK) : Eqb := fun x y H b => ∃ c dy gs, Odd H x ∧ y = .ref c ∧ H c = some (.ins C dy gs) ∧ (x = y → b = true) ∧ sp [y, x] H (fun v H' => v = .bl b ∧ Ext H H') E
theorem eqB_of_rc {A : Around} {pins : List (Addr × Obj)} {s : Shared} {σ : L2.St} {H : Hp} {u v : Value} {b : Bool} (hs : (u == v) = true → b = true) (hf : ∀ i t, u ≠ .float i t) (I : L2.Inv X pins σ H s)
    (h : wpAny (model X.prog X.w) A (richCompare .Eq u v) (EP X pins σ (fun v H' => v = .bl b ∧ Ext H H')) X.xe s) : wpAny (model X.prog X.w) A (eqBool u v) (fun r s' => r = b ∧ ∃ H', L2.Inv X pins σ H' s' ∧ Ext H H') X.xe s := by
  unfold eqBool
  refine wpAny_holding ?_
  refine wpAny_ite_split (fun hab => ?_) (fun _ => ?_)
  · refine wpAny_bind (wpAny_rule ?_)
    exact wpAny_pure ⟨(hs hab).symm, H, I, Ext.rfl'⟩
  · have tail : wpAny (model X.prog X.w) A (richCompare .Eq u v >>= truthOfDropped) (fun r s' => r = b ∧ ∃ H', L2.Inv X pins σ H' s' ∧ Ext H H') X.xe s := by
      refine wpAny_bind (wpAny_mono h (fun z s' hz => ?_) fun _ _ x => x)
      obtain ⟨v', H', I', rz, e, ex⟩ := hz
      subst e
      cases rz
      exact wpAny_truthy_bool ⟨rfl, H', I', ex⟩
    cases u with
    | float i t => exact absurd rfl (hf i t)
    | _ => exact tail
theorem eqB_oo {n : Nat} (M : Meth X.K C "__eq__" (He.fAd X.K (cn, some "__eq__"))) (O : OkD X.prog X.w X.K X.mg X.base CX n (cn, some "__eq__") ps [] sp) (hx : Passes CX X E) : EqB X n (DOO C sp E) := by
  obtain ⟨fd, ds, F, bi, v⟩ := O.ex
  cases v
  intro A pins s σ H x y u v b sb I rx ry d
  obtain ⟨a, c, dx, dy, fs, gs, rfl, rfl, ha, hc, he, hsp⟩ := d
  cases rx
  cases ry
  obtain ⟨mA, J, _⟩ := ins_get I.hok ha
  obtain ⟨mB, J', _⟩ := ins_get I.hok hc
  obtain ⟨od, J, _⟩ := J.look
  obtain ⟨od', J', _⟩ := J'.look
  obtain ⟨mm, hF⟩ := I.fr
  refine eqB_of_rc (fun h => he (by have := eq_of_beq h; injection this)) (fun _ _ z => nomatch z) I ?_
  exact PySem.W.cmp_K (op := .Eq) (tb := .ref C) sb.room.units0 hF I.ok.mod.kin J J'.type (by simp [PySem.W.notFirst]) M.at_ M.fn (run_ownA (vs := [V.ref a, V.ref c]) F sb bi hx I (.cons rfl (.cons rfl .nil)) hsp)
theorem eqB_do {n : Nat} (M : Meth X.K C "__eq__" (He.fAd X.K (cn, some "__eq__"))) (hm : ∀ n ∈ oddK, PySem.W.mroIn X.K C (.type n) = some false) (O : OkD X.prog X.w X.K X.mg X.base CX n (cn, some "__eq__") ps [] sp) (hx : Passes CX X E) : EqB X n (DDO C sp E) := by
  intro A pins s σ H x y u v b sb I rx ry d
  obtain ⟨c, dy, gs, o, rfl, hc, he, hsp⟩ := d
  cases ry
  refine eqB_of_rc (fun h => he ?_) (fun i t z => ?_) I (rc_odd sb M hm O hx I o rx hc hsp)
  · have := eq_of_beq h
    subst this
    cases x with
    | ref a => cases rx; rfl
    | int i => obtain ⟨t, h⟩ := rx; cases h
    | str i => obtain ⟨t, h⟩ := rx; cases h
    | byt i => obtain ⟨t, h⟩ := rx; cases h
    | flt i => obtain ⟨t, h⟩ := rx; cases h
    | _ => cases rx
  · subst z
    cases o with
    | bl => cases rx
    | non => cases rx
    | str => obtain ⟨t, h⟩ := rx; cases h
    | tup => cases rx
    | lst => cases rx
    | dic => cases rx
/-- the loop of list.__contains__; at each turn the list is read anew -/
theorem in_loop {P : Program} {w : World} {A : Around} {R : Result → Shared → Prop} {l : Addr} {N : Nat} {x : Value} (J : Shared → Prop) (e : Nat → Bool)
    (hl : ∀ i s, J s → ∃ (its : List Value) (n : Nat) (dd : Option Addr) (sl : Array (Option Value)), s.heap.get? l = some { cls := .type "list", dict := dd, data := .seq its.toArray n, slots := sl } ∧ its.length = N ∧ ∀ h : i < its.length, wpAny (model P w) A.in1 (eqBool its[i] x) (fun r s' => r = e i ∧ J s') (fun e s' => R (.error e) s') s) (k : Nat) :
    ∀ i : Nat, N - i = k → i ≤ N → ∀ s, J s → (∀ s', J s' → R (.ok (.ret (.bool ((List.range' i k).any e)))) s') →
      wpAny (model P w) A.in1 (Builtin.«list.__contains__.loop» ⟨[.ref l, x, rawInt i], []⟩) (GQ.FinOf P w A R) (fun e s' => R (.error e) s') s := by
  induction k with
  | zero =>
    intro i hk hi s h fin
    obtain ⟨items, n, dd, sl, ho, hn, _⟩ := hl i s h
    have q := fin s h
    obtain ⟨hp, g, d, tk, os⟩ := s
    wp_walk using AutoSeq1.wpAny_loadPart' ho
    have hi : items.toArray[((i : Nat) : Int).toNat]? = none := by simp; omega
    rw [hi]
    wp_walk
    exact q
  | succ k ih =>
    intro i hk hi s h fin
    obtain ⟨items, n, dd, sl, ho, hn, turn⟩ := hl i s h
    have hlt : i < items.length := by omega
    have t := turn hlt
    obtain ⟨hp, g, d, tk, os⟩ := s
    wp_walk using AutoSeq1.wpAny_loadPart' ho
    have hi : items.toArray[((i : Nat) : Int).toNat]? = some items[i] := by simp [hlt]
    rw [hi]
    refine wpAny_bind (wpAny_mono t (fun r s2 q => ?_) fun _ _ z => z)
    obtain ⟨rfl, h2⟩ := q
    rw [List.range'_succ, List.any_cons] at fin
    cases hb : e i with
    | true =>
      rw [hb] at fin
      have q := fin s2 h2
      obtain ⟨hp2, g2, d2, tk2, os2⟩ := s2
      wp_walk
      exact q
    | false =>
      rw [hb] at fin
      have hc : ((i : Int) + 1) = ((i + 1 : Nat) : Int) := by push_cast; rfl
      have go := ih (i + 1) (by omega) (by omega) s2 h2 (fun s' h' => by simpa using fin s' h')
      obtain ⟨hp2, g2, d2, tk2, os2⟩ := s2
      wp_walk
      rw [hc]
      exact ⟨plainId_quiet MeetsSeq.plain_contains_loop _, codeAny_builtin MeetsSeq.entry_contains_loop (by
        rw [Around.under_plainId MeetsSeq.plain_contains_loop _]
        exact go)⟩
/-- x in the list at y: item by item D says how they compare -/
def rInB (K : PySem.W.Frag) (neg : Bool) (D : Eqb) : R2 := fun x y H Q => ∃ (p : Addr) (xs : List V) (bs : List Bool), y = .ref p ∧ SqL K H p xs ∧ Paired (fun z b => ∀ H', Ext H H' → D z x H' b) xs bs ∧ ∀ H', Ext H H' → Q (.bl (if neg then !bs.any id else bs.any id)) H'
theorem any_range (bs : List Bool) : (List.range' 0 bs.length).any (fun i => bs.getD i false) = bs.any id := by
  rw [← List.range_eq_range']
  rw [Bool.eq_iff_iff, List.any_eq_true, List.any_eq_true]
  constructor
  · rintro ⟨i, hi, e⟩
    have h := List.mem_range.mp hi
    refine ⟨bs[i], List.getElem_mem h, ?_⟩
    simpa [List.getD_eq_getElem?_getD, List.getElem?_eq_getElem h] using e
  · rintro ⟨b, hb, e⟩
    obtain ⟨i, h, rfl⟩ := List.mem_iff_getElem.mp hb
    exact ⟨i, List.mem_range.mpr h, by simpa [List.getD_eq_getElem?_getD, List.getElem?_eq_getElem h] using e⟩
theorem paired_get {α β : Type} {R : α → β → Prop} : ∀ {xs : List α} {bs : List β}, Paired R xs bs → ∀ i (h : i < xs.length), ∃ b, bs[i]? = some b ∧ R xs[i] b
  | _, _, .nil, i, h => absurd h (Nat.not_lt_zero _)
  | _ :: _, _ :: _, .cons r p, 0, _ => ⟨_, rfl, r⟩
  | _ :: _, _ :: _, .cons r p, i + 1, h => paired_get p i (by simpa using h)
theorem paired_len {α β : Type} {R : α → β → Prop} : ∀ {xs : List α} {bs : List β}, Paired R xs bs → xs.length = bs.length
  | _, _, .nil => rfl
  | _, _, .cons _ p => congrArg (· + 1) (paired_len p)
theorem in_body {n : Nat} {D : Eqb} {neg : Bool} (h : EqB X n D) (hr : Room (n + 1) X.A) {pins : List (Addr × Obj)} {s : Shared} {σ : L2.St} {H : Hp} {x y : V} {u v : Value} {Q : VK} (I : L2.Inv X pins σ H s) (rx : RelV x u) (ry : RelV y v) (hq : rInB X.K neg D x y H Q) :
    wpAny (model X.prog X.w) X.A (contains v u) (fun r s' => EP X pins σ Q (.bool (if neg then !r else r)) s') X.xe s := by
  obtain ⟨p, xs, bs, rfl, hS, pr, q⟩ := hq
  cases ry
  obtain ⟨its, r, pl, hz⟩ := I.list hS
  have hT : s.TypeIs (.ref p) "list" := by
    obtain ⟨⟨cls, dd, data, sl⟩, n', ho, hc, _⟩ := id pl
    exact ⟨_, ho, hc⟩
  have J0 : (fun s' => ∃ H', L2.Inv X pins σ H' s' ∧ Ext H H') s := ⟨H, I, Ext.rfl'⟩
  refine wpAny_contains_slot hT PySem.F.slot_list_contains ?_
  refine GQ.call_here PySem.F.slot_list_contains hT PySem.F.entry_list_contains (PySem.F.args_list_contains_2 _ _) ?_
  have lp := in_loop (P := X.prog) (w := X.w) (A := X.A) (R := wants (fun r s' => wpAny (model X.prog X.w) X.A (truthy r) (fun r s' => EP X pins σ Q (Value.bool (if neg = true then !r else r)) s') X.xe s') X.xe) (l := p) (N := xs.length) (x := u) (fun s' => ∃ H', L2.Inv X pins σ H' s' ∧ Ext H H') (fun i => bs.getD i false) ?hl bs.length 0 (by rw [paired_len pr]; rfl) (Nat.zero_le _) s J0 ?fin
  case hl =>
    rintro i s' ⟨H', I', e⟩
    obtain ⟨its', r', pl', _⟩ := I'.list (SqL.ext hS e)
    obtain ⟨o, n', ho, hc, hd, hs⟩ := pl'
    obtain ⟨cls, dd, data, sl⟩ := o
    dsimp only at hc hd hs
    refine ⟨its', n', dd, sl, by first | (rw [ho, hc, hs]) | (rw [ho]; subst hc; subst hs; rfl), r'.length.symm, fun hi => ?_⟩
    have hx : i < xs.length := by rw [r'.length]; exact hi
    obtain ⟨z, hz', rz⟩ := r'.get (List.getElem?_eq_getElem hx)
    rw [List.getElem?_eq_getElem hi] at hz'
    obtain ⟨b, hb, hd'⟩ := paired_get pr i hx
    have eb : bs.getD i false = b := by simp [List.getD_eq_getElem?_getD, hb]
    rw [Option.some.inj hz', eb]
    refine wpAny_mono (h X.A.in1 pins s' σ H' _ x _ u b ⟨hr.in1, rfl⟩ I' rz rx (hd' _ e)) (fun r2 s2 q2 => ?_) fun _ _ z => z
    obtain ⟨h2, H2, I2, e2⟩ := q2
    exact ⟨h2, H2, I2, e.trans e2⟩
  case fin =>
    rintro s' ⟨H', I', e⟩
    rw [any_range]
    exact wpAny_truthy_bool ⟨.bl _, H', I', rfl, q H' e⟩
  obtain ⟨hp, g, d, tk, os⟩ := s
  wp_walk
  exact ⟨plainId_quiet MeetsSeq.plain_contains_loop _, codeAny_builtin MeetsSeq.entry_contains_loop (by
    rw [Around.under_plainId MeetsSeq.plain_contains_loop _]
    exact lp)⟩
theorem op_inB {n : Nat} {D : Eqb} (h : EqB X n D) (hr : Room (n + 1) X.A) : OpR X (compareOp .In) (rInB X.K false D) := fun pins s σ H x y v u Q I rx ry hq => by
  show wpAny (model X.prog X.w) X.A (do return Value.bool (← contains u v)) (EP X pins σ Q) X.xe s
  exact wpAny_bind (wpAny_mono (in_body h hr I rx ry hq) (fun _ _ z => wpAny_pure z) fun _ _ z => z)
theorem op_notInB {n : Nat} {D : Eqb} (h : EqB X n D) (hr : Room (n + 1) X.A) : OpR X (compareOp .NotIn) (rInB X.K true D) := fun pins s σ H x y v u Q I rx ry hq => by
  show wpAny (model X.prog X.w) X.A (do return Value.bool (!(← contains u v))) (EP X pins σ Q) X.xe s
  exact wpAny_bind (wpAny_mono (in_body h hr I rx ry hq) (fun _ _ z => wpAny_pure z) fun _ _ z => z)
end
end Vf

set_option Elab.async false
set_option linter.all false
set_option maxRecDepth 100000
set_option maxHeartbeats 2000000
namespace Vf
open PySem PySem.Spec PyProof.Rows L2
/-! ### names of the text that stand for an int, a text, a tuple of texts -/
section
variable {X : Cx}
theorem c_gint {x : Str} {i : Int} {pos : Pos} (hm : ∃ t, X.mg x = some (.int i t)) (hg : Gl X x := by rfl) (hd : (x == ("__debug__" : Str)) = false := by decide) : PE X (.Name x pos) (tC (.int i)) := by
  obtain ⟨t, h⟩ := hm
  exact pe_glob hg h ⟨t, rfl⟩ hd
theorem c_gstr {x z : Str} {pos : Pos} (hm : ∃ t, X.mg x = some (.str z t)) (hg : Gl X x := by rfl) (hd : (x == ("__debug__" : Str)) = false := by decide) : PE X (.Name x pos) (tC (.str z)) := by
  obtain ⟨t, h⟩ := hm
  exact pe_glob hg h ⟨t, rfl⟩ hd
end
def strsB : List Value → List Str → Bool
  | [], [] => true
  | .str y _ :: us, z :: zs => decide (y = z) && strsB us zs
  | _, _ => false
theorem strsB_ok : ∀ {us : List Value} {zs : List Str}, strsB us zs = true → Vals (zs.map V.str) us
  | [], [], _ => .nil
  | .str y t :: us, z :: zs, h => by
    obtain ⟨h1, h2⟩ := He.ba h
    have e := of_decide_eq_true h1
    subst e
    exact .cons ⟨t, rfl⟩ (strsB_ok h2)
/-- at a a tuple of the texts zs -/
def kTup (K : PySem.W.Frag) (a : Addr) (zs : List Str) : Bool := match K.lookup a with
  | some ⟨.type n, _, .seq its _, _⟩ => decide (n = "tuple") && (decide (its.size ≤ sizeLine) && strsB its.toList zs)
  | _ => false
theorem kTup_ok {K : PySem.W.Frag} {a : Addr} {zs : List Str} (h : kTup K a zs = true) (H : Hp) : SqT K H a (zs.map V.str) := by
  unfold kTup at h
  split at h
  · rename_i n od its m sl e
    obtain ⟨h1, h2⟩ := He.ba h
    obtain ⟨h2, h3⟩ := He.ba h2
    have e1 := of_decide_eq_true h1
    subst e1
    exact .inr ⟨_, its, m, e, rfl, rfl, of_decide_eq_true h2, strsB_ok h3⟩
  · cases h
/-! ### C(.., k = v, ..) -/
structure OkK (P : Program) (w : World) (K : PySem.W.Frag) (mg : Str → Option Value) (base : Heap) (CX : CXT) (k : Nat) (p : Pl) (ps : List Str) (n : Nat) (ks : List Str) (gV : List V → List V → List V) (sp : Sp) : Prop where
  ex : ∃ fd g, FnOk P w K mg base CX k (He.fAd K p) fd ps sp ∧ KBn K fd ps n ks g gV
theorem c_mkK {X : Cx} {CX : CXT} {k j n : Nat} {ps ks : List Str} {sp : Sp} {x : Str} {p pos : Pos} {e : Expr} {es : List Expr} {kws : List Keyword} {t tk : TA} {gV : List V → List V → List V} {E : XK} {C : Addr} (M : Mk X.K C (He.fAd X.K (x, some "__init__"))) (O : OkK X.prog X.w X.K X.mg X.base CX k (x, some "__init__") ps (n + 1) ks gV sp) (hr : Room j X.A) (hj : k + 1 ≤ j) (hm : X.mg x = some (.ref C)) (hx : Passes CX X E) (ha : PA X (e :: es) t) (hkw : PK X kws tk) (hg : Gl X x := by rfl)
    (hall : (backToKw pos (keywordEach kws X.env)).all (·.1.isSome) = true := by rfl) (hks : (backToKw pos (keywordEach kws X.env)).filterMap (·.1) = ks := by rfl) (hdb : (x == ("__debug__" : Str)) = false := by decide)
    (he : starEach (e :: es) X.env = (false, eval e X.env) :: starEach es X.env := by rfl) (hpl : ((backTo pos (starEach (e :: es) X.env)).any (·.1) || (backToKw pos (keywordEach kws X.env)).any (·.1.isNone)) = false := by rfl) :
    PE X (.Call (.Name x p) (e :: es) kws pos) (tMakeK C n ks.length sp gV E t tk) := by
  obtain ⟨fd, g, F, b⟩ := O.ex
  exact pe_makeK M F (hr.mono hj) hg hm b hx ha hkw hall hks hdb he hpl
/-! ### texts -/
/-- one sign in a text -/
theorem sign_in (x : Str) (c : Nat) : (!(Builtin.Str.occurrences x ⟨#[c]⟩ 0 x.length 1).isEmpty) = decide (c ∈ x.cps.toList) := PySem.StrLaws.found_one x c
/-- a value that is no text -/
inductive OddS (H : Hp) : V → Prop where
  | bl (b : Bool) : OddS H (.bl b)
  | non : OddS H .non
  | int (i : Int) : OddS H (.int i)
  | tup {a : Addr} {xs : List V} (h : H a = some (.tup xs)) : OddS H (.ref a)
  | lst {a : Addr} {xs : List V} (h : H a = some (.lst xs)) : OddS H (.ref a)
  | dic {a : Addr} {kvs : List (Key × V)} (h : H a = some (.dK kvs)) : OddS H (.ref a)
theorem oddS_ty (K : PySem.W.Frag) {H : Hp} {x : V} (o : OddS H x) : ∃ n : String, TyX K H x (.type n) ∧ kitB n "str" = some false := by
  cases o with
  | bl b => exact ⟨"bool", .base (.bl b), by decide +kernel⟩
  | non => exact ⟨"NoneType", .base .non, by decide +kernel⟩
  | int i => exact ⟨"int", .base (.int i), by decide +kernel⟩
  | tup h => exact ⟨"tuple", .base (.tup h), by decide +kernel⟩
  | lst h => exact ⟨"list", .base (.lst h), by decide +kernel⟩
  | dic h => exact ⟨"dict", .base (.dK h), by decide +kernel⟩
/-- a value that is no bool -/
inductive OddB (H : Hp) : V → Prop where
  | str (z : Str) : OddB H (.str z)
  | non : OddB H .non
  | int (i : Int) : OddB H (.int i)
  | tup {a : Addr} {xs : List V} (h : H a = some (.tup xs)) : OddB H (.ref a)
  | lst {a : Addr} {xs : List V} (h : H a = some (.lst xs)) : OddB H (.ref a)
  | dic {a : Addr} {kvs : List (Key × V)} (h : H a = some (.dK kvs)) : OddB H (.ref a)
theorem oddB_ty (K : PySem.W.Frag) {H : Hp} {x : V} (o : OddB H x) : ∃ n : String, TyX K H x (.type n) ∧ kitB n "bool" = some false := by
  cases o with
  | str z => exact ⟨"str", .base (.str z), by decide +kernel⟩
  | non => exact ⟨"NoneType", .base .non, by decide +kernel⟩
  | int i => exact ⟨"int", .base (.int i), by decide +kernel⟩
  | tup h => exact ⟨"tuple", .base (.tup h), by decide +kernel⟩
  | lst h => exact ⟨"list", .base (.lst h), by decide +kernel⟩
  | dic h => exact ⟨"dict", .base (.dK h), by decide +kernel⟩
end Vf

set_option Elab.async false
set_option linter.all false
set_option maxRecDepth 100000
set_option maxHeartbeats 2000000
namespace Vf
open PySem PySem.Spec PyProof.Rows L2
/-- the callee's errors are the def's own -/
theorem passE {X : Cx} {E : XK} (hs : X.stack = X.env :: X.outer) (hf : X.env.frame = some X.env.locals) (hex : X.ex = []) {E₁ : Value → Shared → Prop}
    (hx : X.xe = fun e s' => wpAny (model X.prog X.w) X.A (leaving X.env e) (fun _ s'' => L2.CX X.prog X.w X.outer X.H_0 X.s_0 E e s'') E₁ s') : Passes (L2.CX X.prog X.w) X E :=
  passes_call (takes_of hs hf hex hx) fun _ _ _ _ h => h
/-! ### o.m(k = v, ..) -/
def tMethK (C : Addr) (m : Str) (n : Nat) (sp : Sp) (gV : List V → List V → List V) (E : XK) (ta : TE) (tk : TA) : TE := fun σ H Q => ta σ H fun x H1 => ∃ a dx fs, x = .ref a ∧ H1 a = some (.ins C dx fs) ∧ fs.lookup m = none ∧
  tk σ H1 fun zs H2 => zs.length = n ∧ sp (gV [.ref a] zs) H2 Q E
theorem c_meK {X : Cx} {CX : CXT} {k j : Nat} {ps ks : List Str} {sp : Sp} {m cn : Str} {o : Expr} {pos apos : Pos} {kws : List Keyword} {ta : TE} {tk : TA} {gV : List V → List V → List V} {E : XK} {C : Addr} (hC : C = He.ga X.K cn) (hb : PE X o ta) (c : Cls X.K C) (hm : Meth X.K C m (He.fAd X.K (cn, some m)))
    (O : OkK X.prog X.w X.K X.mg X.base CX k (cn, some m) ps 1 ks gV sp) (hr : Room j X.A) (hj : k ≤ j) (hx : Passes CX X E) (hkw : PK X kws tk) {pl : Sem Bool}
    (hall : (backToKw pos (keywordEach kws X.env)).all (·.1.isSome) = true := by rfl) (hks : (backToKw pos (keywordEach kws X.env)).filterMap (·.1) = ks := by rfl)
    (hpl : ((backTo pos (starEach [] X.env)).any (·.1) || (backToKw pos (keywordEach kws X.env)).any (·.1.isNone)) = false := by rfl)
    (ht : eval (.Call (.Attribute o m apos) [] kws pos) X.env = (do
      let ov ← eval o X.env
      standAt apos.atName
      let (f, first) ← holding [ov] (getMethod ov m pl)
      callWith pos f first (backTo pos (starEach [] X.env)) (backToKw pos (keywordEach kws X.env))) := by rfl) :
    PE X (.Call (.Attribute o m apos) [] kws pos) (tMethK C m ks.length sp gV E ta tk) := by
  obtain ⟨fd, g, F, b⟩ := O.ex
  refine ⟨fun pins s σ H Q I h => ?_⟩
  refine PySem.W.methodCall_KW (pl := pl) (thn (hb.run pins s σ H _ I h) fun u s1 ⟨x, H1, I1, rx, a, dx, fs, ex, ea, l, q⟩ => ?_) ht
  subst ex
  obtain rfl : u = Value.ref a := rx
  refine getmeth_ok I1 ea c hm l ?_
  refine PySem.W.callWith_KW0 (first := [.ref a]) (h₀ := X.base) I.ok.mod.kin hm.kp hall ?_ hpl
  refine thn (hkw.run pos pins s1 σ H1 _ I1 q) fun ws s2 ⟨zs, H2, I2, rz, l2, q2⟩ => ⟨I2.kIn, ?_⟩
  rw [hks]
  exact run_fnN (us := [.ref a]) (vs := [.ref a]) F (hr.mono hj) b hx I2 (.cons rfl .nil) rz rfl l2 q2
/-! ### o != o of a class with an own == alone -/
section
open PySem.W PySem.Calls
variable {M : Model} {prog : Program} {w : World} {A : Around} {E : Value → Shared → Prop} {s : Shared} {K : Frag} {x y C f : Addr} {ox oy : Obj} {od od' : Option Obj}
theorem ifBound_objNe {args : List Value} {Q : Option Value → Shared → Prop} (X : K.In s.heap) (I : InstAt s.heap x ox C od) (hs : findIn K (.ref C) "__ne__" = some (some (.builtin "object.__ne__")))
    (h : wpAny M A (call (.builtin "object.__ne__") (.ref x :: args)) (fun v => Q (some v)) E s) : wpAny M A (callSpecialIfBound? (.ref x) "__ne__" args) Q E s := by
  simp only [callSpecialIfBound?, bindSpecialIfBound?]
  refine wpAny_holding (wpAny_bind (wpAny_bind (wpAny_bind (I.type.here ((looks_findIn X hs).here ?_)))))
  refine wpAny_bind (wpAny_askSetting (wpAny_ite ?_))
  have fin : wpAny M A (call (.builtin "object.__ne__") ([.ref x] ++ args) >>= fun v => pure (some v)) Q E s := wpAny_bind (wpAny_mono h (fun v s' h' => wpAny_pure h') fun _ _ h' => h')
  split
  · exact wpAny_bind (wpAny_of_eq (F.cmp_object.ne.bind _) (wpAny_pure (by exact fin)))
  · exact wpAny_tryCatch (wpAny_bind (wpAny_of_eq (F.cmp_object.ne.bind _) (wpAny_pure (by exact fin))))
def NeBack (Q : Value → Shared → Prop) (v : Value) (s' : Shared) : Prop := ∃ t, v = .bool t ∧ Q (.bool (!t)) s'
theorem entry_ne {Q : Fin → Shared → Prop} (hu : A.units < cLine) (X : K.In s.heap) (I : InstAt s.heap x ox C od) (hs : findIn K (.ref C) "__eq__" = some (some (.ref f))) (hf : isFn K (.ref f) = true)
    (h : wpAny (model prog w) A (call (.ref f) [.ref x, .ref y]) (NeBack fun v => Q (.done (.ret v))) E s) : wpAny (model prog w) A (Builtin.«object.__ne__» ⟨[.ref x, .ref y], []⟩) Q E s := by
  have e : wpAny (model prog w) A (callSpecialIfBound? (.ref x) "__eq__" [.ref y]) (fun r s' => ∃ t, r = some (.bool t) ∧ Q (.done (.ret (.bool (!t)))) s') E s :=
    ifBound_K X I hs hf (wpAny_mono h (fun v s' hv => by obtain ⟨t, rfl, q⟩ := hv; exact ⟨t, rfl, q⟩) fun _ _ e => e)
  unfold Builtin.«object.__ne__»
  repeat (first | with_reducible refine wpAny_cRoomFor hu ?_ | with_reducible refine wpAny_mono e ?_ (fun _ _ e => e) | wp_step)
  rintro r s' ⟨t, rfl, q⟩
  refine wpAny_bind (wpAny_truthy_bool ?_)
  exact wpAny_pure q
theorem call_ne {Q : Value → Shared → Prop} (hu : A.in1.units < cLine) (X : K.In s.heap) (I : InstAt s.heap x ox C od) (hm : mroIn K C (.type "object") = some true) (hs : findIn K (.ref C) "__eq__" = some (some (.ref f))) (hf : isFn K (.ref f) = true)
    (h : wpAny (model prog w) A.in1 (call (.ref f) [.ref x, .ref y]) (NeBack Q) E s) :
    wpAny (model prog w) A (call (.builtin "object.__ne__") [.ref x, .ref y]) Q E s :=
  wpAny_call (codeAny_call_builtin F.cmp_object.ne.plain F.cmpEntry_ne (check_slot F.cmpKind_ne F.cmpSplit_ne (I.type.andThen (looks_mroIn X hm)) (F.cmpArgs_ne _ _) (entry_ne hu X I hs hf h)))
theorem rc_ne {Q : Value → Shared → Prop} (hu : A.units < cLine) (hu1 : A.in1.units < cLine) (X : K.In s.heap) (I : InstAt s.heap x ox C od) (I' : InstAt s.heap y oy C od') (hm : mroIn K C (.type "object") = some true)
    (hn : findIn K (.ref C) "__ne__" = some (some (.builtin "object.__ne__"))) (hs : findIn K (.ref C) "__eq__" = some (some (.ref f))) (hf : isFn K (.ref f) = true)
    (h : wpAny (model prog w) A.in1 (call (.ref f) [.ref x, .ref y]) (NeBack Q) E s) : wpAny (model prog w) A (richCompare .NotEq (.ref x) (.ref y)) Q E s := by
  have one : wpAny (model prog w) A (tryCompare (.ref x) "__ne__" (.ref y)) (fun r s' => ∃ v, r = some v ∧ Q v s') E s := by
    unfold tryCompare
    refine wpAny_bind (ifBound_objNe X I hn (call_ne hu1 X I hm hs hf (wpAny_mono h (fun v s' hv => ?_) fun _ _ e => e)))
    obtain ⟨t, rfl, q⟩ := hv
    exact ⟨t, rfl, wpAny_pure ⟨_, rfl, q⟩⟩
  unfold richCompare
  simp only [oneThing_ref]
  refine wpAny_holding (wpAny_bind (wpAny_cRoomFor hu ?_))
  refine wpAny_bind (I.type.here (wpAny_bind (I'.type.here ?_)))
  split
  · rename_i q
    exact absurd q (by simp)
  · refine wpAny_bind (wpAny_pure ?_)
    simp only [Bool.false_eq_true, if_false]
    refine wpAny_bind (wpAny_mono one (fun r s' z => ?_) fun _ _ e => e)
    obtain ⟨v, rfl, hq⟩ := z
    exact wpAny_pure hq
end
def rNeO (C : Addr) (sp : Sp) : R2 := fun x y H Q => ∃ a b dx dy fs gs, x = .ref a ∧ y = .ref b ∧ H a = some (.ins C dx fs) ∧ H b = some (.ins C dy gs) ∧ sp [.ref a, .ref b] H (fun v H' => ∃ t, v = .bl t ∧ Q (.bl (!t)) H') fun _ _ _ => False
theorem cmp_neO {X : Cx} {k j : Nat} {C : Addr} {cn : Str} {ps : List Str} {sp : Sp} (hC : C = He.ga X.K cn) (M : Meth X.K C "__eq__" (He.fAd X.K (cn, some "__eq__"))) (hn : PySem.W.findIn X.K (.ref C) "__ne__" = some (some (.builtin "object.__ne__"))) (hm : PySem.W.mroIn X.K C (.type "object") = some true)
    (O : OkD X.prog X.w X.K X.mg X.base CX0 k (cn, some "__eq__") ps [] sp) (hr : Room j X.A) (hj : k + 1 ≤ j) : OpR X (compareOp .NotEq) (rNeO C sp) := by
  obtain ⟨fd, ds, F, b, v⟩ := O.ex
  cases v
  intro pins s σ H x y v u Q I rx ry h
  obtain ⟨a, b', dx, dy, fs, gs, rfl, rfl, ha, hb, hsp⟩ := h
  cases rx
  cases ry
  obtain ⟨mA, J, _⟩ := ins_get I.hok ha
  obtain ⟨mB, J', _⟩ := ins_get I.hok hb
  obtain ⟨od, J, _⟩ := J.look
  obtain ⟨od', J', _⟩ := J'.look
  have hr1 : Room k X.A.in1 := (hr.mono hj).in1
  refine rc_ne hr.units0 hr1.units0 I.kIn J J' hm hn M.at_ M.fn ?_
  have hl := F.len _ _ _ _ hsp
  have hbb := b s [.ref a, .ref b'] I.kIn (by simpa using hl)
  simp only [List.append_nil] at hbb
  refine wpAny_call (codeAny_mono (F.run X.A.in1 X.stack s H ⟨[.ref a, .ref b'], []⟩ [.ref a, .ref b'] [.ref a, .ref b'] _ _ hr1 I.env0.in1 hbb (.cons rfl (.cons rfl .nil)) hsp) fun r s' hq => ?_)
  cases r with
  | error e => exact hq.elim
  | ok fl =>
    cases fl with
    | ret w =>
      obtain ⟨z, H', I', rz, t, ez, q⟩ := I.after hq
      subst ez
      cases rz
      exact ⟨t, rfl, .bl (!t), H', I', rfl, q⟩
    | next => exact False.elim hq
    | brk => exact False.elim hq
    | cont => exact False.elim hq
end Vf

set_option Elab.async false
set_option linter.all false
set_option maxRecDepth 100000
set_option maxHeartbeats 2000000
/-! ### enumerate over a tuple -/
namespace PySem
open Sem (wp)
open AutoSeq1 (wpAny_loadPart')
theorem vf_enum_newT (l : Addr) (items : Array Value) (n : Nat) (dct : Option Addr) (sl : Array (Option Value)) :
    Meets (Builtin.«enumerate.__new__» ⟨[.type "enumerate", .ref l], []⟩) (fun _ R s => s.heap.get? l = some { cls := .type "tuple", dict := dct, data := .seq items n, slots := sl } ∧
      R (.ok (.ret (.ref (s.heap.push { cls := .type "tuple_iterator", data := .fields #[.ref l, .int 0 0] }).objs.size)))
        { s with heap := (s.heap.push { cls := .type "tuple_iterator", data := .fields #[.ref l, .int 0 0] }).push { cls := .type "enumerate", data := .fields #[.none, .bool false, .ref s.heap.objs.size, rawInt 0, .none, .none] } }) :=
  .of_wp fun prog w A R s h => by
    obtain ⟨hp, g, d, tk, os⟩ := s; obtain ⟨hl, h⟩ := h
    have hsub := sub_enumerate
    have hL : Heap.IsTuple (Shared.heap ⟨hp, g, d, tk, os⟩) l items := ⟨_, hl, rfl, n, rfl⟩
    wp_walk using wpAny_loadPart' hl
    refine wpAny_stack_any fun st => wpAny_pure ?_
    split
    · rename_i c _ _ _ _ _
      cases (c == Value.type "enumerate")
      · wp_walk using wpAny_loadPart' hl, wpAny_pyIter_tuple hL
        exact ⟨_, rfl, h⟩
      · wp_walk using wpAny_loadPart' hl, wpAny_pyIter_tuple hL
        exact ⟨_, rfl, h⟩
    · wp_walk using wpAny_loadPart' hl, wpAny_pyIter_tuple hL
      exact ⟨_, rfl, h⟩
section
variable {prog : Program} {w : World} {A : Around} {E : Value → Shared → Prop} {s : Shared}
theorem vf_call_enumT {l : Addr} {items : Array Value} {Q : Value → Shared → Prop} (hL : s.heap.IsTuple l items)
    (h : ∀ h', IsEnum h' (s.heap.objs.size + 1) s.heap.objs.size 0 .none → h'.IsTupleIter s.heap.objs.size l 0 → h'.objs.size = s.heap.objs.size + 2 →
      (∀ b o, s.heap.get? b = some o → h'.get? b = some o) → Q (.ref (s.heap.objs.size + 1)) { s with heap := h' }) :
    wpAny (model prog w) A (call (.type "enumerate") [.ref l]) Q E s := by
  obtain ⟨⟨c, dct, dt, sl⟩, hl, hc, n, hd⟩ := hL
  replace hc : c = .type "tuple" := hc
  replace hd : dt = .seq items n := hd
  subst hc hd
  refine callType_new F.called_enumerate (by decide) (F.typeCall_enumerate_1 _) (F.newCall_enumerate_1 _) (fun obj => F.args_object_init_2 obj _) F.entry_enumerate_new
    (vf_enum_newT l items n dct sl) ⟨hl, ?_⟩
  have hz : (s.heap.push { cls := .type "tuple_iterator", data := .fields #[.ref l, .int 0 0] }).objs.size = s.heap.objs.size + 1 := Heap.size_push ..
  show _ ∧ _
  rw [hz]
  have he : IsEnum ((s.heap.push { cls := .type "tuple_iterator", data := .fields #[.ref l, .int 0 0] }).push
      { cls := .type "enumerate", data := .fields #[.none, .bool false, .ref s.heap.objs.size, rawInt 0, .none, .none] }) (s.heap.objs.size + 1) s.heap.objs.size 0 .none := by
    have := Heap.get?_push_size (s.heap.push { cls := .type "tuple_iterator", data := .fields #[.ref l, .int 0 0] })
      (o := { cls := .type "enumerate", data := .fields #[.none, .bool false, .ref s.heap.objs.size, rawInt 0, .none, .none] }) rfl
    rw [hz] at this; exact this
  refine ⟨⟨_, he, rfl⟩, h _ he ⟨_, Heap.get?_push_of_some _ (Heap.get?_push_size _ rfl), rfl, rfl⟩ (by rw [Heap.size_push, hz]) fun b o x => Heap.get?_push_of_some _ (Heap.get?_push_of_some _ x)⟩
end
end PySem
namespace Vf
open PySem PySem.Spec PyProof.Rows L2
/-- the tuple at a, each item in a new pair -/
def IteT (K : PySem.W.Frag) (a : Addr) : It :=
  ⟨fun i H => ∃ (xs : List V) (x : V), SqT K H a xs ∧ xs[i]? = some x, fun i H v H' => ∃ T x, v = .ref T ∧ H T = none ∧ H' = upd H T (.tup [.int (i : Nat), x]) ∧ ∀ xs, SqT K H a xs → xs[i]? = some x, fun i H => ∃ xs : List V, SqT K H a xs ∧ xs.length = i⟩
theorem turn_enumT {P : Program} {w : World} {K : PySem.W.Frag} {elts : List Expr} {kk : Nat} {tpos : Pos} (a e it : Addr) :
    Turn P w K (.Tuple elts kk tpos) (IteT K a) [e, it] e (fun i h => (∃ old, IsEnum h e it ((i : Nat) : Int) old) ∧ h.IsTupleIter it a i ∧ e ≠ it) where
  mem := by simp
  obj := fun i h st b hb => by
    obtain ⟨⟨old, he⟩, ⟨o, ho, hc, hd⟩, _⟩ := st
    have e' : b = e ∨ b = it := by simpa using hb
    rcases e' with z | z
    · rw [z]; exact ⟨_, he, fun v q => nomatch q⟩
    · rw [z]; exact ⟨o, ho, fun v q => by rw [hd] at q; cases q⟩
  keep := fun i h h' st k => let ⟨⟨old, he⟩, hi, hne⟩ := st; ⟨⟨old, k e (by simp) _ he⟩, hi.at fun o q => k it (by simp) o q, hne⟩
  item := by
    intro X hP hw hK hc i pins s σ H E I hf st hg
    subst hP hw hK
    obtain ⟨⟨old, he⟩, hit, hne⟩ := st
    obtain ⟨xs, x, hq, hx⟩ := hg
    obtain ⟨its, rv, p, hz⟩ := I.tuple hq
    obtain ⟨u, hu, ru⟩ := rv.get hx
    have pT : s.heap.IsTuple a its.toArray := p
    have hel : e < s.heap.objs.size := Heap.lt_size he
    have hil : it < s.heap.objs.size := by obtain ⟨_, q, _⟩ := hit; exact Heap.lt_size q
    have nai : a ≠ it := fun z => by
      subst z
      obtain ⟨o1, h1, c1, _⟩ := pT
      obtain ⟨o2, h2, c2, _⟩ := hit
      rw [h1] at h2
      cases h2
      rw [c1] at c2
      injection c2 with c2
      exact absurd c2 (by decide)
    have nae : a ≠ e := fun z => by
      subst z
      obtain ⟨o1, h1, c1, _⟩ := pT
      rw [show s.heap.get? a = _ from he] at h1
      cases h1
      injection c1 with c1
      exact absurd c1 (by decide)
    have hli : i < its.toArray.size := by
      have := (List.getElem?_eq_some_iff.mp hu).1
      simpa using this
    have hh : X.A.in1.handled = none := I.ok.hd hc
    refine wpAny_pyNext_enum_itemD (Draws.tuple hh it a nai its.toArray) he ⟨hit, pT⟩ hli hne (by simp [hne, nae.symm]) fun v h' tk hv ho hit' hT hsz hk => ?_
    have ev : v = u := by
      have h1 : its[i]? = some v := by simpa using hv
      rw [hu] at h1
      exact (Option.some.inj h1).symm
    subst ev
    refine ⟨_, rfl, wpAny_letOwnedTupleGo_enum (s := { s with heap := h', toks := tk + 1 }) ho fun h'' he' sb => ?_⟩
    have hT2 : h''.get? s.heap.objs.size = some { cls := .type "tuple", data := .seq #[.int i tk, v] } := (sb.2 _ (Nat.ne_of_gt hel)).trans hT
    have new : ObjOk X.prog X.w (upd H s.heap.objs.size (.tup [.int (i : Nat), x])) h'' s.heap.objs.size (.tup [.int (i : Nat), x]) :=
      ⟨by show 2 ≤ sizeLine; decide, [.int i tk, v], .cons ⟨_, rfl⟩ (.cons ru .nil), ⟨_, hT2, rfl, _, rfl⟩⟩
    have I1 : Inv X pins σ (upd H s.heap.objs.size (.tup [.int (i : Nat), x])) { s with heap := h'', toks := tk + 1 } :=
      I.turnedNew (ch := [e, it]) (fun b ob hb q => (sb.2 b (fun z => hb (by simp [z]))).trans (hk b ob (fun z => hb (by simp [z])) (fun z => hb (by simp [z])) q)) hf (Nat.le_refl _) new
    refine ⟨.ref s.heap.objs.size, _, I1, rfl, ⟨_, x, rfl, I.hok.fresh (Nat.le_refl _), rfl, fun ys hy => by rw [I.tuple_inj hy hq]; exact hx⟩, ⟨⟨v, ?_⟩, hit'.1.at fun o q => (sb.2 it (Ne.symm hne)).trans q, hne⟩, fun b hb => ?_⟩
    · have e1 : ((i + 1 : Nat) : Int) = (i : Int) + 1 := by omega
      rw [e1]; exact he'
    · have hb' : b < s.heap.objs.size := by
        have e' : b = e ∨ b = it := by simpa using hb
        rcases e' with z | z
        · rw [z]; exact hel
        · rw [z]; exact hil
      rw [upd_ne (Nat.ne_of_lt hb')]
      exact (hf b hb).1
  done := by
    intro X hP hw hK hc i pins s σ H E I hf st hg
    subst hP hw hK
    obtain ⟨⟨old, he⟩, hit, hne⟩ := st
    obtain ⟨xs, hq, hx⟩ := hg
    obtain ⟨its, rv, p, hz⟩ := I.tuple hq
    have pT : s.heap.IsTuple a its.toArray := p
    obtain ⟨f0, f1, f2, f3, f4, f5⟩ := hf it (by simp)
    have hl := rv.length
    have nai : a ≠ it := fun z => by
      subst z
      obtain ⟨o1, h1, c1, _⟩ := pT
      obtain ⟨o2, h2, c2, _⟩ := hit
      rw [h1] at h2
      cases h2
      rw [c1] at c2
      injection c2 with c2
      exact absurd c2 (by decide)
    have hh : X.A.in1.handled = none := I.ok.hd hc
    have hin : its.toArray.size = i := by simp; omega
    subst hin
    exact wpAny_pyNext_enum_endD (Draws.tuple hh it a nai its.toArray) he ⟨hit, pT⟩ fun h' eb => ⟨rfl, I.turned (t' := s.toks) (fun b o hb q => eb b o hb q) f0 f1 f3 f4 f5⟩
  self := fun A i s Q E st h => let ⟨⟨_, he⟩, _⟩ := st; wpAny_pyIter_enum he h
def iEnumT (K : PySem.W.Frag) (ta : TA) : TI := fun σ H R => ta σ H fun vs H1 => ∃ a xs, vs = [.ref a] ∧ SqT K H1 a xs ∧ R (IteT K a) H1
theorem pi_enumT {X : Cx} {e : Expr} {ta : TA} {p pos tpos : Pos} {elts : List Expr} {kk : Nat} (hg : Gl X "enumerate") (hm : X.mg "enumerate" = none) (ha : PA X [e] ta) (hs : starEach [e] X.env = [(false, eval e X.env)] := by rfl) :
    PI X (.Tuple elts kk tpos) (.Call (.Name "enumerate" p) [e] [] pos) (iEnumT X.K ta) := by
  refine ⟨fun pins s σ H R I h => ?_⟩
  refine Call_ (ld_blt I hg hm boot_enumerate (PyProof.Rows.callWith_type1 (thn (ha.run pos pins s σ H _ I h) fun us s1 ⟨vs, H1, I1, r1, q1⟩ => ?_) hs rfl))
  obtain ⟨a, xs, ex, hq, q⟩ := q1
  subst ex
  cases r1 with
  | cons r rr =>
    cases rr
    cases r
    obtain ⟨its, rv, p', hz⟩ := I1.tuple hq
    refine vf_call_enumT (show s1.heap.IsTuple a its.toArray from p') fun h' he hit hsz hk => wpAny_pyIter_enum he ?_
    have I2 : Inv X pins σ H1 { s1 with heap := h' } := I1.kept (t' := s1.toks) hk
    refine ⟨s1.heap.objs.size + 1, [s1.heap.objs.size + 1, s1.heap.objs.size], _, _, H1, rfl, I2, turn_enumT a (s1.heap.objs.size + 1) s1.heap.objs.size, ⟨⟨.none, he⟩, hit, Nat.succ_ne_self _⟩, fun b hb => ?_, q⟩
    have e' : b = s1.heap.objs.size + 1 ∨ b = s1.heap.objs.size := by simpa using hb
    have hle : s1.heap.objs.size ≤ b := by
      rcases e' with z | z
      · rw [z]; exact Nat.le_add_right _ _
      · rw [z]; exact Nat.le_refl _
    exact I1.fpOk hle (I1.hok.fresh hle)
theorem walk_enumT {K : PySem.W.Frag} {a : Addr} {xs : List V} : Walk (IteT K a) xs.length (fun H => SqT K H a xs) (YPair (fun i => some (.int (i : Nat))) (fun i => xs[i]?)) := by
  refine ⟨fun i _ hi q => ⟨xs, xs[i], q, by simp [hi]⟩, fun _ q => ⟨xs, q, rfl⟩, fun i H v H' _ q y => ?_⟩
  obtain ⟨T, x, h1, h2, h3, h4⟩ := y
  exact ⟨T, .int (i : Nat), x, h1, h2, h3, rfl, h4 xs q⟩
theorem ix_listK {X : Cx} {K : PySem.W.Frag} (h : X.K = K) : IxR X (rIxL K) := h ▸ ix_list
theorem ix_tupK {X : Cx} {K : PySem.W.Frag} (h : X.K = K) : IxR X (rIxT K) := h ▸ ix_tup
/-- a dict comprehension over any walk -/
theorem dc_it {J : It} {n : Nat} {G : Hp → Prop} {Y : Nat → Hp → V → Hp → Prop} (w : Walk J n G Y) {g : TG} {tt : TT} {tk tv : TE} {vs : List Nat} {σ : L2.St} {H1 : Hp} {D : Addr} {Qd : Hp → Prop} (Pv : Nat → Hp → Prop) (h0 : Pv 0 (upd H1 D (.dK []))) (hG : ∀ i H, i ≤ n → Pv i H → G H)
    (hs : ∀ i x H H', i < n → Pv i H → Y i H x H' → g x (wipe σ vs) H' fun σ2 H2 => wipe σ2 vs = wipe σ vs ∧ tt σ2 H2 fun b H3 =>
      if b = true then tk σ2 H3 fun y H4 => tv σ2 H4 fun z H5 => ∃ kvs k, y = kV k ∧ H5 D = some (.dK kvs) ∧ kvs.length < sizeLine ∧ Pv (i + 1) (upd H5 D (.dK (putK kvs k z))) else Pv (i + 1) H3) (hd : ∀ H, Pv n H → Qd H) :
    ∃ W : Nat → Nat → Hp → Prop, (∃ m, W 0 m (upd H1 D (.dK []))) ∧ ∀ i m H, W i m H →
      (J.stop i H ∧ Qd H) ∨ (J.go i H ∧ ∃ Nx : Hp → Prop, (∀ H', Nx H' → ∃ m', m' < m ∧ W (i + 1) m' H') ∧ ∀ x H', J.yld i H x H' → g x (wipe σ vs) H' fun σ2 H2 => wipe σ2 vs = wipe σ vs ∧ tt σ2 H2 fun b H3 =>
        if b = true then tk σ2 H3 fun y H4 => tv σ2 H4 fun z H5 => ∃ kvs k, y = kV k ∧ H5 D = some (.dK kvs) ∧ kvs.length < sizeLine ∧ Nx (upd H5 D (.dK (putK kvs k z))) else Nx H3) := by
  refine ⟨fun i m H => m = n - i ∧ i ≤ n ∧ Pv i H, ⟨n, by simp, Nat.zero_le _, h0⟩, ?_⟩
  rintro i m H ⟨rfl, hi, p⟩
  have q := hG i H hi p
  by_cases hlt : i < n
  · exact .inr ⟨w.goes i H hlt q, Pv (i + 1), fun H' p' => ⟨n - (i + 1), by omega, rfl, hlt, p'⟩, fun x H' y => hs i x H H' hlt p (w.yields i H x H' hlt q y)⟩
  · have e : i = n := by omega
    subst e
    exact .inl ⟨w.stops H q, hd H p⟩
end Vf

set_option Elab.async false
set_option linter.all false
set_option maxRecDepth 100000
set_option maxHeartbeats 2000000
namespace Vf
open PySem PySem.Spec PyProof.Rows L2
/-! ### x in o, o[x], len(o) of a class of the text's own -/
section
variable {X : Cx} {k j : Nat} {C : Addr} {cn : Str} {ps : List Str} {sp : Sp}
def rInO (neg : Bool) (C : Addr) (sp : Sp) : R2 := fun x y H Q => ∃ b dx fs, y = .ref b ∧ H b = some (.ins C dx fs) ∧ sp [.ref b, x] H (fun v H' => ∃ t, v = .bl t ∧ Q (.bl (if neg then !t else t)) H') fun _ _ _ => False
theorem in_run (M : Meth X.K C "__contains__" (He.fAd X.K (cn, some "__contains__"))) (O : OkD X.prog X.w X.K X.mg X.base CX0 k (cn, some "__contains__") ps [] sp) (hr : Room j X.A) (hj : k ≤ j) {pins : List (Addr × Obj)} {σ : L2.St} {H : Hp} {s : Shared} {x : V} {u : Value} {b : Addr} {Qv : VK}
    (I : L2.Inv X pins σ H s) (rx : RelV x u) (hsp : sp [.ref b, x] H (fun v H' => ∃ t, v = .bl t ∧ Qv (.bl t) H') fun _ _ _ => False) {Q : Value → Shared → Prop} (hq : ∀ t s' H', L2.Inv X pins σ H' s' → Qv (.bl t) H' → wpAny (model X.prog X.w) X.A (truthy (.bool t)) (fun b => Q (.bool b)) X.xe s') :
    wpAny (model X.prog X.w) X.A (call (.ref (He.fAd X.K (cn, some "__contains__"))) [.ref b, u]) (fun r s' => wpAny (model X.prog X.w) X.A (truthy r) (fun b => Q (.bool b)) X.xe s') X.xe s := by
  obtain ⟨fd, ds, F, bi, v⟩ := O.ex
  cases v
  have hl := F.len _ _ _ _ hsp
  have hb := bi s [.ref b, u] I.kIn (by simpa using hl)
  simp only [List.append_nil] at hb
  refine wpAny_call (codeAny_mono (F.run X.A X.stack s H ⟨[.ref b, u], []⟩ [.ref b, u] [.ref b, x] _ _ (hr.mono hj) I.env0 hb (.cons rfl (.cons rx .nil)) hsp) fun r s' hq' => ?_)
  cases r with
  | error e => exact hq'.elim
  | ok fl =>
    cases fl with
    | ret w =>
      obtain ⟨z, H', I', rz, t, ez, q⟩ := I.after hq'
      subst ez
      cases rz
      exact hq t s' H' I' q
    | next => exact False.elim hq'
    | brk => exact False.elim hq'
    | cont => exact False.elim hq'
theorem op_inO (M : Meth X.K C "__contains__" (He.fAd X.K (cn, some "__contains__"))) (O : OkD X.prog X.w X.K X.mg X.base CX0 k (cn, some "__contains__") ps [] sp) (hr : Room j X.A) (hj : k ≤ j) : OpR X (compareOp .In) (rInO false C sp) := by
  intro pins s σ H x y v u Q I rx ry h
  obtain ⟨b, dx, fs, rfl, hb, hsp⟩ := h
  cases ry
  obtain ⟨mA, J, _⟩ := ins_get I.hok hb
  obtain ⟨od, J, _⟩ := J.look
  obtain ⟨mm, hF⟩ := I.fr
  exact PySem.W.in_K hF I.ok.mod.kin J M.at_ M.fn (in_run (cn := cn) M O hr hj I rx hsp fun t s' H' I' q => wpAny_truthy_bool ⟨.bl t, H', I', rfl, q⟩)
theorem op_notInO (M : Meth X.K C "__contains__" (He.fAd X.K (cn, some "__contains__"))) (O : OkD X.prog X.w X.K X.mg X.base CX0 k (cn, some "__contains__") ps [] sp) (hr : Room j X.A) (hj : k ≤ j) : OpR X (compareOp .NotIn) (rInO true C sp) := by
  obtain ⟨fd, ds, F, bi, vd⟩ := O.ex
  cases vd
  intro pins s σ H x y v u Q I rx ry h
  obtain ⟨b, dx, fs, rfl, hb, hsp⟩ := h
  cases ry
  obtain ⟨mA, J, _⟩ := ins_get I.hok hb
  obtain ⟨od, J, _⟩ := J.look
  obtain ⟨mm, hF⟩ := I.fr
  have hl := F.len _ _ _ _ hsp
  have hb := bi s [.ref b, v] I.kIn (by simpa using hl)
  simp only [List.append_nil] at hb
  refine PySem.W.notIn_K hF I.ok.mod.kin J M.at_ M.fn (wpAny_call (codeAny_mono (F.run X.A X.stack s H ⟨[.ref b, v], []⟩ [.ref b, v] [.ref b, x] _ _ (hr.mono hj) I.env0 hb (.cons rfl (.cons rx .nil)) hsp) fun r s' hq' => ?_))
  cases r with
  | error e => exact hq'.elim
  | ok fl =>
    cases fl with
    | ret w =>
      obtain ⟨z, H', I', rz, t, ez, q⟩ := I.after hq'
      subst ez
      cases rz
      exact wpAny_truthy_bool ⟨.bl (!t), H', I', rfl, q⟩
    | next => exact False.elim hq'
    | brk => exact False.elim hq'
    | cont => exact False.elim hq'
/-- o[x] -/
def rSubO (C : Addr) (sp : Sp) (E : XK) : R2 := fun x y H Q => ∃ a dx fs, x = .ref a ∧ H a = some (.ins C dx fs) ∧ sp [.ref a, y] H Q E
theorem pe_subO {CX : CXT} {E : XK} {a b : Expr} {pos : Pos} {ta tb : TE} (ha : PE X a ta) (hb : PE X b tb) (M : Meth X.K C "__getitem__" (He.fAd X.K (cn, some "__getitem__"))) (hfn : PySem.W.fnIn X.K (He.fAd X.K (cn, some "__getitem__")) = true)
    (O : OkD X.prog X.w X.K X.mg X.base CX k (cn, some "__getitem__") ps [] sp) (hr : Room j X.A) (hj : k + 1 ≤ j) (hx : Passes CX X E)
    (hsl : ∀ x i, subscripted b true (.ref x) i = runValue (.builtin "lifetime.subscript" ⟨[.ref x, i], []⟩) := by intro _ _; rfl) : PE X (.Subscript a b pos) (tOp (rSubO C sp E) ta tb) := by
  obtain ⟨fd, ds, F, bi, v⟩ := O.ex
  cases v
  refine ⟨fun pins s σ H Q I h => ?_⟩
  refine Subscript_ (binT ha hb I h fun v u s2 x y H2 I2 rx ry q => ?_)
  obtain ⟨p, dx, fs, rfl, hp, hsp⟩ := q
  cases rx
  obtain ⟨mA, J, _⟩ := ins_get I2.hok hp
  obtain ⟨od, J, _⟩ := J.look
  obtain ⟨mm, hF⟩ := I2.fr
  have hl := F.len _ _ _ _ hsp
  have hbb := bi s2 [.ref p, u] I2.kIn (by simpa using hl)
  simp only [List.append_nil] at hbb
  refine PySem.W.sub_K hF I2.ok.mod.kin J M.at_ hfn M.fn (wpAny_call (codeAny_mono (F.run X.A.in1 X.stack s2 H2 ⟨[.ref p, u], []⟩ [.ref p, u] [.ref p, y] _ _ ((hr.mono hj).in1) I2.env0.in1 hbb (.cons rfl (.cons ry .nil)) hsp) fun r s' hq => ?_)) (hsl _ _)
  cases r with
  | error e => exact hx pins σ H2 s2 e s' I2 hq
  | ok fl =>
    cases fl with
    | ret w => exact I2.after hq
    | next => exact False.elim hq
    | brk => exact False.elim hq
    | cont => exact False.elim hq
/-- len(o) -/
def rLenO (C : Addr) (sp : Sp) : List V → Hp → VK → Prop := fun xs H Q => ∃ a dx fs, xs = [.ref a] ∧ H a = some (.ins C dx fs) ∧ sp [.ref a] H (fun v H' => ∃ n : Int, v = .int n ∧ 0 ≤ n ∧ n < 2 ^ 62 ∧ Q (.int n) H') fun _ _ _ => False
theorem call_lenO (M : Meth X.K C "__len__" (He.fAd X.K (cn, some "__len__"))) (O : OkD X.prog X.w X.K X.mg X.base CX0 k (cn, some "__len__") ps [] sp) (hr : Room j X.A) (hj : k + 1 ≤ j) : CallR X (.builtin "len") (rLenO C sp) := by
  obtain ⟨fd, ds, F, bi, v⟩ := O.ex
  cases v
  intro pins s σ H xs us Q I r h
  obtain ⟨a, dx, fs, rfl, ha, hsp⟩ := h
  obtain ⟨u, rfl, ru⟩ : ∃ u, us = [u] ∧ RelV (.ref a) u := by
    cases r with
    | cons p q => cases q; exact ⟨_, rfl, p⟩
  cases ru
  obtain ⟨mA, J, _⟩ := ins_get I.hok ha
  obtain ⟨od, J, _⟩ := J.look
  obtain ⟨mm, hF⟩ := I.fr
  have hl := F.len _ _ _ _ hsp
  have hb := bi s [.ref a] I.kIn (by simpa using hl)
  simp only [List.append_nil] at hb
  refine PySem.W.len_K hF I.ok.mod.kin J M.at_ M.fn (wpAny_call (codeAny_mono (F.run X.A.in1 X.stack s H ⟨[.ref a], []⟩ [.ref a] [.ref a] _ _ ((hr.mono hj).in1) I.env0.in1 hb (.cons rfl .nil) hsp) fun r s' hq => ?_))
  cases r with
  | error e => exact hq.elim
  | ok fl =>
    cases fl with
    | ret w =>
      obtain ⟨z, H', I', rz, n, ez, n0, n1, q⟩ := I.after hq
      subst ez
      obtain ⟨t, rfl⟩ := rz
      exact ⟨⟨n0, by omega⟩, .int n, H', I'.tok _, ⟨_, rfl⟩, q⟩
    | next => exact False.elim hq
    | brk => exact False.elim hq
    | cont => exact False.elim hq
end
end Vf
/-! ### == of dicts whose values have an == that runs -/
namespace PySem.W
open Lean Elab Tactic Meta PySem PySem.Calls PyProof.Rows PyProof.V PySem.Spec
section
variable {prog : Program} {w : World} {K : Type} [DecidableEq K] {knd : KeyKind prog w K} {A : Around} {E : Value → Shared → Prop} {s : Shared}
def VfEqJ (prog : Program) (w : World) (A : Around) (E : Value → Shared → Prop) (J : Shared → Prop) (v y : Value) (e : Bool) : Prop := ∀ (s : Shared) (Q : Bool → Shared → Prop), J s → (∀ s', J s' → Q e s') → wpAny (model prog w) A (eqBool v y) Q E s
inductive VfHits {K : Type} [DecidableEq K] (prog : Program) (w : World) (A : Around) (E : Value → Shared → Prop) (J : Shared → Prop) (kb : List (K × Value)) : List (K × Value) → Bool → Prop
  | nil : VfHits prog w A E J kb [] true
  | miss {k : K} {v : Value} {r : List (K × Value)} : valueAt kb k = none → VfHits prog w A E J kb ((k, v) :: r) false
  | hit {k : K} {v y : Value} {r : List (K × Value)} {e b : Bool} : valueAt kb k = some y → VfEqJ prog w A E J v y e → VfHits prog w A E J kb r b → VfHits prog w A E J kb ((k, v) :: r) (e && b)
theorem VfHits.inv {J : Shared → Prop} {kb : List (K × Value)} {k : K} {v : Value} {r : List (K × Value)} {b : Bool} (h : VfHits prog w A E J kb ((k, v) :: r) b) :
    (valueAt kb k = none ∧ b = false) ∨ ∃ y e b', valueAt kb k = some y ∧ VfEqJ prog w A E J v y e ∧ VfHits prog w A E J kb r b' ∧ b = (e && b') := by
  cases h with
  | miss hn => exact .inl ⟨hn, rfl⟩
  | hit hy he hr => exact .inr ⟨_, _, _, hy, he, hr, rfl⟩
theorem vf_samePairs {J : Shared → Prop} {nm : String} {a b : Addr} {ka kb : List (K × Value)} {r : Bool} {Q : Bool → Shared → Prop} (ha : (a == sysModules) = false) (hb : (b == sysModules) = false)
    (hJ : ∀ s', J s' → s'.heap.get? a = s.heap.get? a ∧ s'.heap.get? b = s.heap.get? b) (h0 : J s) (da : s.heap.DictOf knd a ka) (db : s.heap.DictOf knd b kb) (hits : ka.length = kb.length → VfHits prog w A E J kb ka r) (h : ∀ s', J s' → Q (ka.length == kb.length && r) s') :
    wpAny (model prog w) A (Builtin.Dict.samePairs nm a b) Q E s := by
  obtain ⟨oa, es, ep, hoa, _, hda, hka, hpa, _⟩ := da
  obtain ⟨ob, es', ep', hob, _, hdb, hkb, hpb, _⟩ := db
  have hla : ka.length = es.size := by rw [← hpa.length]; exact Array.length_toList
  have hlb : kb.length = es'.size := by rw [← hpb.length]; exact Array.length_toList
  have hfind : ∀ k, findBy knd.is es' k = valueAt kb k := fun k => by
    rw [← hpb.find k]
    clear hlb hpb hkb hdb hob
    obtain ⟨l⟩ := es'
    simp [findBy]
  have hA : ∀ {s'}, J s' → s'.heap.get? a = some oa := fun j => (hJ _ j).1.trans hoa
  have hB : ∀ {s'}, J s' → s'.heap.get? b = some ob := fun j => (hJ _ j).2.trans hob
  rw [hla, hlb] at h
  unfold Builtin.Dict.samePairs Builtin.Dict.showsAll
  rw [if_neg (show ¬ (a == sysModules) = true by rw [ha]; exact Bool.false_ne_true), if_neg (show ¬ (b == sysModules) = true by rw [hb]; exact Bool.false_ne_true)]
  refine wpAny_bind (wpAny_pure (wpAny_bind (wpAny_pure ?_)))
  refine wpAny_bind (wpAny_dictEntries hoa hda ?_)
  dsimp only
  refine wpAny_bind (wpAny_dictEntries hob hdb ?_)
  by_cases hsz : es.size = es'.size
  case neg =>
    rw [if_pos (by simpa using hsz)]
    have hbf : (es.size == es'.size) = false := by simpa using hsz
    rw [hbf, Bool.false_and] at h
    exact wpAny_bind (wpAny_rule (wpAny_pure (h _ h0)))
  case pos =>
    have h' : ∀ s', J s' → Q r s' := fun s' j => by simpa [hsz] using h s' j
    have hits' := hits (by rw [hla, hlb]; exact hsz)
    rw [if_neg (by rw [hsz]; simp)]
    refine wpAny_bind (wpAny_dictEpoch hoa hda ?_)
    refine wpAny_bind ?_
    rw [Std.Legacy.Range.forIn_eq_forIn_range']
    simp only [Std.Legacy.Range.size, Nat.sub_zero, Nat.add_sub_cancel, Nat.div_one]
    refine wpAny_forIn_list _
      (fun rest q s' => J s' ∧ q = (none, ()) ∧ ∃ i, rest = List.range' i (es.size - i) ∧ i ≤ es.size ∧ VfHits prog w A E J kb (ka.drop i) r)
      _ ?_ ?_ _ _ ⟨h0, rfl, 0, by simp, Nat.zero_le _, hits'⟩
    · rintro x rest q s' ⟨js, rfl, i, hr, hi, hpre⟩
      have hlt : i < es.size := by
        rcases Nat.lt_or_ge i es.size with h | h
        · exact h
        · rw [Nat.sub_eq_zero_of_le h] at hr; simp at hr
      obtain ⟨rfl, hrest⟩ : x = i ∧ rest = List.range' (i + 1) (es.size - (i + 1)) := by
        have e : es.size - i = (es.size - (i + 1)) + 1 := by omega
        rw [e, List.range'_succ] at hr
        injection hr with h1 h2
        exact ⟨h1, h2⟩
      refine wpAny_bind (wpAny_dictEntries (hA js) hda ?_)
      rw [Array.getElem?_eq_getElem hlt]
      have hlt' : x < ka.length := by rw [hla]; exact hlt
      obtain ⟨k, v, hkv⟩ : ∃ k v, ka[x] = (k, v) := ⟨_, _, rfl⟩
      have hdrop : ka.drop x = (k, v) :: ka.drop (x + 1) := by rw [← hkv]; exact List.drop_eq_getElem_cons hlt'
      obtain ⟨hkey, hval⟩ := hpa.get? (i := x) (e := es[x]) (k := k) (v := v) (by rw [Array.getElem?_toList]; exact Array.getElem?_eq_getElem hlt) (by rw [List.getElem?_eq_getElem hlt', hkv])
      obtain ⟨k', hk', hh⟩ := hka es[x] (Array.getElem_mem hlt)
      have ekk : k' = k := knd.inj _ _ _ hk' hkey
      rw [ekk] at hh
      rw [hdrop] at hpre
      show wpAny _ _ (holding [es[x].key, es[x].val] _ >>= _) _ _ _
      rw [hh]
      refine wpAny_bind (wpAny_holding (wpAny_bind (wpAny_dictFind_of hkey (hB js) hdb hkb ?_)))
      cases hj : es'.findIdx? fun e => knd.is k e.key with
      | none =>
        have hn : valueAt kb k = none := by rw [← hfind k, findBy_of_findIdx?, hj]
        rcases hpre.inv with ⟨_, er⟩ | ⟨y, _, _, hy, _⟩
        · rw [er] at h'
          refine wpAny_pure ?_
          show wpAny _ _ (if (!false) = true then _ else _) _ _ _
          rw [if_pos (by decide)]
          exact wpAny_pure (wpAny_pure (h' _ js))
        · rw [hn] at hy; exact nomatch hy
      | some j =>
        obtain ⟨hjlt, _, _⟩ := Array.findIdx?_eq_some_iff_getElem.mp hj
        have hv' : valueAt kb k = some es'[j].val := by
          rw [← hfind k, findBy_of_findIdx?, hj]
          simp [Array.getElem?_eq_getElem hjlt]
        refine wpAny_bind (wpAny_dictEntries (hB js) hdb ?_)
        rw [Array.getElem?_eq_getElem hjlt]
        rcases hpre.inv with ⟨hn, _⟩ | ⟨y, e, b', hy, he, hrr, er⟩
        · rw [hv'] at hn; exact nomatch hn
        · have ey : es'[j].val = y := Option.some.inj (hv'.symm.trans hy)
          rw [← ey, ← hval] at he
          refine wpAny_holding (he _ _ js fun s2 js2 => ?_)
          cases e with
          | false =>
            rw [er, Bool.false_and] at h'
            show wpAny _ _ (if (!false) = true then _ else _) _ _ _
            rw [if_pos (by decide)]
            exact wpAny_pure (wpAny_pure (h' _ js2))
          | true =>
            rw [Bool.true_and] at er
            rw [← er] at hrr
            show wpAny _ _ (if (!true) = true then _ else _) _ _ _
            rw [if_neg (by decide)]
            refine wpAny_bind (wpAny_dictEpoch (hA js2) hda ?_)
            rw [if_neg (by simp)]
            exact wpAny_pure ⟨js2, rfl, x + 1, hrest, hlt, hrr⟩
    · rintro q s' ⟨js, rfl, i, hr, hi, hpre⟩
      have hin : i = es.size := by
        rcases Nat.lt_or_ge i es.size with h | h
        · have e : es.size - i = (es.size - (i + 1)) + 1 := by omega
          rw [e, List.range'_succ] at hr; exact nomatch hr
        · exact Nat.le_antisymm hi h
      refine wpAny_pure ?_
      rw [hin, ← hla, List.drop_length] at hpre
      cases hpre
      exact h' _ js
theorem vf_rcDicts {J : Shared → Prop} {a b : Addr} {ka kb : List (K × Value)} {r : Bool} (ha : (a == sysModules) = false) (hb : (b == sysModules) = false)
    (hJ : ∀ s', J s' → s'.heap.get? a = s.heap.get? a ∧ s'.heap.get? b = s.heap.get? b) (h0 : J s) (da : s.heap.DictOf knd a ka) (db : s.heap.DictOf knd b kb) (hu : A.units < cLine) (hits : ka.length = kb.length → VfHits prog w A.in1 E J kb ka r) {Q : Value → Shared → Prop} (h : ∀ s', J s' → Q (.bool (ka.length == kb.length && r)) s') : wpAny (model prog w) A (compareOp .Eq (.ref a) (.ref b)) Q E s := by
  refine wpAny_richCompare_same_room (op := .Eq) da.typeIs db.typeIs PySem.F.slot_dict_eq (wpAny_call_entry PySem.F.slot_dict_eq da.typeIs PySem.F.entry_dict_eq ?_ (PySem.F.args_dict_eq_2 _ _)) hu
  show wpAny _ _ (Builtin.Dict.dictSlotArgs "__eq__" ⟨[.ref a, .ref b], []⟩ >>= _) _ _ s
  refine wpAny_bind ?_
  unfold Builtin.Dict.dictSlotArgs
  refine wpAny_bind (wpAny_notOrdered_dict da.typeIs ?_)
  show wpAny _ _ (pure (Value.ref a, Value.ref b)) _ _ s
  refine wpAny_pure ?_
  refine wpAny_bind (wpAny_isInstance (T := "dict") db.typeIs PySem.F.sub_dict_dict ?_)
  simp only [Bool.not_true, Bool.false_eq_true, if_false]
  refine wpAny_bind (wpAny_pure (wpAny_bind (wpAny_pure ?_)))
  refine wpAny_bind (vf_samePairs ha hb hJ h0 da db hits fun s' js => ?_)
  refine wpAny_pure ⟨_, rfl, ?_, ?_⟩
  · exact fun x => nomatch x
  · simpa using h s' js
end
end PySem.W
namespace Vf
open PySem PySem.Spec PyProof.Rows L2
/-- the entries of a dict against another dict; ls: the other one -/
inductive DHits (D : V → V → Bool → Prop) (ls : List (Key × V)) : List (Key × V) → Bool → Prop
  | nil : DHits D ls [] true
  | miss {k : Key} {v : V} {r : List (Key × V)} : valV ls k = none → DHits D ls ((k, v) :: r) false
  | hit {k : Key} {v y : V} {r : List (Key × V)} {e b : Bool} : valV ls k = some y → D v y e → DHits D ls r b → DHits D ls ((k, v) :: r) (e && b)
theorem DHits.vf {P : Program} {w : World} {A : Around} {E : Value → Shared → Prop} {J : Shared → Prop} {D : V → V → Bool → Prop} {ls : List (Key × V)} {vb : List (Key × Value)} (rb : KV ls vb)
    (hD : ∀ {x y u v b}, D x y b → RelV x u → RelV y v → PySem.W.VfEqJ P w A E J u v b) : ∀ {ks : List (Key × V)} {va : List (Key × Value)} {r : Bool}, KV ks va → DHits D ls ks r → PySem.W.VfHits P w A E J vb va r
  | [], _, _, ra, h => by
    cases h
    cases ra
    exact .nil
  | (k, x) :: ks, va, r, ra, h => by
    cases ra with
    | @cons _ q _ qs h1 h2 =>
      obtain ⟨e, rx⟩ := h1
      obtain ⟨k', u⟩ := q
      dsimp only at e
      subst e
      have hv := rb.val k
      cases h with
      | miss hn =>
        rw [hn] at hv
        refine .miss ?_
        cases hq : valueAt vb k with
        | none => rfl
        | some z =>
          rw [hq] at hv
          exact hv.elim
      | hit hy he hr =>
        rw [hy] at hv
        obtain ⟨z, hz, rz⟩ := hv.some_of
        exact .hit hz (hD he rx rz) (DHits.vf rb hD h2 hr)
section
variable {X : Cx}
/-- == of two dicts by the values' own == -/
def rEqDB (D : Eqb) : R2 := fun x y H Q => ∃ a b ks ls r, x = .ref a ∧ y = .ref b ∧ a ≠ b ∧ H a = some (.dK ks) ∧ H b = some (.dK ls) ∧
  (ks.length = ls.length → DHits (fun v y e => ∀ H', (∀ c o, c ≠ a → c ≠ b → H c = some o → H' c = some o) → D v y H' e) ls ks r) ∧ ∀ H', Ext H H' → Q (.bl (ks.length == ls.length && r)) H'
theorem op_eqDB {n : Nat} {D : Eqb} (h : EqB X n D) (hr : Room (n + 1) X.A) : OpR X (compareOp .Eq) (rEqDB D) := by
  intro pins s σ H x y v u Q I rx ry hq
  obtain ⟨a, b, ks, ls, r, rfl, rfl, nab, ea, eb, hits, q⟩ := hq
  cases rx
  cases ry
  obtain ⟨_, ya, va, ra, da⟩ := (show ObjOk X.prog X.w H s.heap a (.dK ks) from I.hok a _ ea)
  obtain ⟨_, yb, vb, rb, db⟩ := (show ObjOk X.prog X.w H s.heap b (.dK ls) from I.hok b _ eb)
  obtain ⟨oa, Ia⟩ := I.lock ea trivial
  have eb1 : (upd H a (.frz oa (.dK ks))) b = some (.dK ls) := by rw [upd_ne nab.symm]; exact eb
  obtain ⟨ob, Ib⟩ := Ia.lock eb1 trivial
  have fa : (upd (upd H a (.frz oa (.dK ks))) b (.frz ob (.dK ls))) a = some (.frz oa (.dK ks)) := by rw [upd_ne nab, upd_same]
  have fb : (upd (upd H a (.frz oa (.dK ks))) b (.frz ob (.dK ls))) b = some (.frz ob (.dK ls)) := upd_same
  have out : ∀ c o, c ≠ a → c ≠ b → H c = some o → (upd (upd H a (.frz oa (.dK ks))) b (.frz ob (.dK ls))) c = some o := fun c o h1 h2 e => by rw [upd_ne h2, upd_ne h1]; exact e
  have noa := I.nofrz ea trivial
  have nob := Ia.nofrz eb1 trivial
  generalize upd (upd H a (.frz oa (.dK ks))) b (.frz ob (.dK ls)) = H2 at Ib fa fb out
  refine PySem.W.vf_rcDicts (knd := mixKind X.prog X.w) (r := r) (J := fun s' => ∃ H', L2.Inv X pins σ H' s' ∧ Ext H2 H') ya yb (fun s' js => ?_) ⟨H2, Ib, Ext.rfl'⟩ da db hr.units0 (fun hl => ?_) fun s' js => ?_
  · obtain ⟨H', I', e⟩ := js
    exact ⟨(I'.frzK (e _ _ fa)).2.1.trans (Ib.frzK fa).2.1.symm, (I'.frzK (e _ _ fb)).2.1.trans (Ib.frzK fb).2.1.symm⟩
  · refine DHits.vf rb (fun {x y u v bb} hd rx ry s2 Q2 js k => ?_) ra (hits (by rw [ra.length, rb.length]; exact hl))
    obtain ⟨H', I', e⟩ := js
    refine wpAny_mono (h X.A.in1 pins s2 σ H' x y u v bb ⟨hr.in1, rfl⟩ I' rx ry (hd H' fun c o h1 h2 hc => e _ _ (out c o h1 h2 hc))) (fun r2 s3 q2 => ?_) fun _ _ z => z
    obtain ⟨h2, H3, I3, e2⟩ := q2
    subst h2
    exact k s3 ⟨H3, I3, e.trans e2⟩
  · obtain ⟨H', I', e⟩ := js
    have fa' := e _ _ fa
    have fb' := e _ _ fb
    have I2 := I'.unlock fb' nob
    have fa2 : (upd H' b (.dK ls)) a = some (.frz oa (.dK ks)) := by rw [upd_ne nab]; exact fa'
    have I3 := I2.unlock fa2 noa
    refine ⟨.bl _, _, I3, by rw [← ra.length, ← rb.length]; rfl, q _ fun c o hc => ?_⟩
    by_cases h1 : c = a
    · subst h1
      rw [ea] at hc
      cases hc
      exact upd_same
    · rw [upd_ne h1]
      by_cases h2 : c = b
      · subst h2
        rw [eb] at hc
        cases hc
        exact upd_same
      · rw [upd_ne h2]
        exact e _ _ (out c o h1 h2 hc)
/-- data beside data -/
def DDat (K : PySem.W.Frag) : Eqb := fun x y H b => ∃ d e, Dp K H x d ∧ Dp K H y e ∧ SeqAt.shaped d = true ∧ SeqAt.shaped e = true ∧ b = PyData.eqv d e ∧ (x = y → b = true)
theorem eqB_dat {n : Nat} : EqB X n (DDat X.K) := fun A pins s σ H x y u v b sb I rx ry hd => by
  obtain ⟨d, e, h1, h2, sd, se, rfl, hid⟩ := hd
  obtain ⟨as, r1⟩ := Dp.reads I d x u h1 rx
  obtain ⟨bs, r2⟩ := Dp.reads I e y v h2 ry
  have hf : ∀ i t, u ≠ .float i t := fun i t z => by
    subst z
    cases h1 <;> first | (cases rx; done) | (obtain ⟨_, z⟩ := rx; cases z; done)
  have hxy : (u == v) = true → x = y := fun z => by
    have euv := eq_of_beq z
    subst euv
    cases h1 <;> cases h2 <;> first
      | (cases rx; cases ry; rfl)
      | (cases rx; cases ry; done)
      | (obtain ⟨t, q⟩ := rx; obtain ⟨t', q'⟩ := ry; rw [q] at q'; injection q' with q1 q2; rw [q1])
      | (obtain ⟨t, q⟩ := rx; obtain ⟨t', q'⟩ := ry; rw [q] at q'; cases q'; done)
      | (cases rx; obtain ⟨t, q⟩ := ry; cases q; done)
      | (obtain ⟨t, q⟩ := rx; cases ry; cases q; done)
  exact eqB_of_rc (fun z => hid (hxy z)) hf I (SeqAt.compareEq_shaped (A := A) r1 r2 sd se sb.room.units ⟨.bl _, H, I, rfl, rfl, Ext.rfl'⟩)
end
end Vf

set_option Elab.async false
set_option linter.all false
set_option maxRecDepth 100000
set_option maxHeartbeats 2000000
namespace PySem.W
open PySem PySem.SeqAt MeetsSeq
section
variable {prog : Program} {w : World} {A : Around} {E : Value → Shared → Prop} {s : Shared} {a : Addr} {o : Obj}
theorem vf_no_dic_str {z : Str} {t : Tok} (ha : s.heap.get? a = some o) (hc : o.cls = .type "dict") {Q : Fin → Shared → Prop} (h : Q (.done (.ret .notImplemented)) s) : wpAny (model prog w) A (PySem.Builtin.«dict.__eq__» ⟨[.ref a, .str z t], []⟩) Q E s := by
  have f1 := PySem.F.sub_str_dict
  wp_walk
  exact h
theorem vf_no_str_dic {z : Str} {t : Tok} {es : Array DictEntry} {ep : Nat} (ha : s.heap.get? a = some o) (hd : o.data = .dict es ep) {Q : Fin → Shared → Prop} (h : Q (.done (.ret .notImplemented)) s) : wpAny (model prog w) A (PySem.Builtin.«str.__eq__» ⟨[.str z t, .ref a], []⟩) Q E s := by
  obtain ⟨hp, gg, d, tk, os⟩ := s
  obtain ⟨oc, odd, oda, osl⟩ := o
  dsimp only at hd
  subst hd
  wp_walk using AutoSeq1.wpAny_loadPart' ha
  exact h
theorem vf_rc_str_dict {b : Str} {u : Tok} {es : Array DictEntry} {ep : Nat} (ho : s.heap.get? a = some o) (hc : o.cls = .type "dict") (hd : o.data = .dict es ep) (hu : A.units < cLine) : RcAt A s (.str b u) (.ref a) false := fun prog w E Q h => by
  have tb : s.TypeIs (.ref a) "dict" := ⟨o, ho, hc⟩
  exact rc_eq_decline_or (k := false) (typeIs_str s b u) tb (by decide) PySem.F.sub_dict_str PySem.F.slot_str_eq PySem.F.slot_dict_eq_refl
    (fun _ hq => wpAny_call_entry PySem.F.slot_str_eq (typeIs_str s b u) PySem.F.entry_str_eq (vf_no_str_dic ho hd ⟨_, rfl, hq⟩) (PySem.F.args_str_eq_2 _ _))
    (fun _ hq => wpAny_call_entry PySem.F.slot_dict_eq_refl tb PySem.F.entry_dict_eq (vf_no_dic_str ho hc ⟨_, rfl, hq⟩) (PySem.F.args_dict_eq_2 _ _))
    (fun _ hq => wpAny_of_eq (rfl : isSame (.str b u) (.ref a) = pure false) hq) (.inr hu) h
theorem vf_str_dict {b : Str} {u : Tok} {es : Array DictEntry} {ep : Nat} (ho : s.heap.get? a = some o) (hc : o.cls = .type "dict") (hd : o.data = .dict es ep) (hu : A.units < cLine) : EqAt A s (.str b u) (.ref a) false := fun prog w E Q h => by
  unfold eqBool
  refine wpAny_holding ?_
  refine wpAny_ite_split (fun hab => absurd (eq_of_beq hab) nofun) (fun _ => ?_)
  exact wpAny_bind (vf_rc_str_dict ho hc hd hu prog w E _ (wpAny_truthy_bool h))
end
end PySem.W
namespace Vf
open PySem PySem.Spec PyProof.Rows L2
/-- == of two items, in place -/
inductive EqI (K : PySem.W.Frag) (H : Hp) : V → V → Bool → Prop
  | flat {x y : V} : flatV x = true → flatV y = true → EqI K H x y (eqV x y)
  | same (a : Addr) : EqI K H (.ref a) (.ref a) true
  | strT {z : Str} {a : Addr} {xs : List V} : SqT K H a xs → EqI K H (.str z) (.ref a) false
  | strL {z : Str} {a : Addr} {xs : List V} : SqL K H a xs → EqI K H (.str z) (.ref a) false
  | strD {z : Str} {a : Addr} {ks : List (Key × V)} : H a = some (.dK ks) → EqI K H (.str z) (.ref a) false
section
variable {X : Cx} {pins : List (Addr × Obj)} {σ : L2.St} {H : Hp} {s : Shared}
theorem EqI.at (I : L2.Inv X pins σ H s) {A : Around} {x y : V} {u v : Value} {b : Bool} (h : EqI X.K H x y b) (rx : RelV x u) (ry : RelV y v) (hu : A.units < cLine) : SeqAt.EqAt A s u v b := by
  cases h with
  | flat fx fy => exact eqAt_V rx ry fx fy
  | same a =>
    cases rx
    cases ry
    exact SeqAt.EqAt.same _
  | strT h =>
    obtain ⟨t, rfl⟩ := rx
    cases ry
    obtain ⟨its, r, p, _⟩ := I.tuple h
    exact SeqAt.EqAt.str_tuple _ _ p hu
  | strL h =>
    obtain ⟨t, rfl⟩ := rx
    cases ry
    obtain ⟨its, r, p, _⟩ := I.list h
    exact SeqAt.EqAt.str_list _ _ p.isList hu
  | strD h =>
    obtain ⟨t, rfl⟩ := rx
    cases ry
    obtain ⟨_, _, vs, _, o, es, ep, h1, h2, h3, _⟩ := (show ObjOk X.prog X.w H s.heap _ (.dK _) from I.hok _ _ h)
    exact PySem.W.vf_str_dict h1 h2.1 h3 hu
end
theorem vals_mem : ∀ {xs : List V} {us : List Value} {w : Value}, Vals xs us → w ∈ us → ∃ z ∈ xs, RelV z w
  | _, _, _, .nil, h => nomatch h
  | _, _, _, .cons r t, h => by
    rcases List.mem_cons.mp h with rfl | h
    · exact ⟨_, List.mem_cons_self, r⟩
    · obtain ⟨z, hz, rz⟩ := vals_mem t h
      exact ⟨z, List.mem_cons_of_mem _ hz, rz⟩
def answ (e : V → Bool) (w : Value) : Bool := match absV w with | some z => e z | none => false
theorem answ_of (e : V → Bool) {z : V} {w : Value} (r : RelV z w) : answ e w = e z := by
  unfold answ
  rw [r.abs]
theorem any_answ (e : V → Bool) : ∀ {xs : List V} {us : List Value}, Vals xs us → us.any (answ e) = xs.any e
  | _, _, .nil => rfl
  | _, _, .cons r t => by
    rw [List.any_cons, List.any_cons, answ_of e r, any_answ e t]
theorem items_at {A : Around} {s : Shared} {F : V → V → Prop} (ih : ∀ {x y v u}, RelV x v → RelV y u → F x y → SeqAt.EqAt A s v u true) {xs ys : List V} (hp : Paired F xs ys) :
    ∀ {us ws : List Value}, Vals xs us → Vals ys ws → ∀ j (h1 : j < us.length) (h2 : j < ws.length), SeqAt.EqAt A s us[j] ws[j] true := by
  induction hp with
  | nil =>
    intro us ws r1 r2 j h1 h2
    cases r1
    exact absurd h1 (Nat.not_lt_zero j)
  | cons h _ k =>
    intro us ws r1 r2 j h1 h2
    cases r1 with
    | cons a1 b1 =>
      cases r2 with
      | cons a2 b2 =>
        cases j with
        | zero => exact ih a1 a2 h
        | succ j => exact k b1 b2 j (Nat.lt_of_succ_lt_succ h1) (Nat.lt_of_succ_lt_succ h2)
section
variable {X : Cx}
/-- x not in l, l a list, item by item -/
def rNotInI (K : PySem.W.Frag) : R2 := fun x y H Q => ∃ (p : Addr) (xs : List V) (e : V → Bool), y = .ref p ∧ SqL K H p xs ∧ (∀ z ∈ xs, EqI K H z x (e z)) ∧ Q (.bl (!xs.any e)) H
theorem op_notInI (hu : X.A.units + 64 < cLine) : OpR X (compareOp .NotIn) (rNotInI X.K) := by
  intro pins s σ H x y v u Q I rx ry h
  obtain ⟨p, xs, e, rfl, hx, hall, q⟩ := h
  cases ry
  obtain ⟨its, r, pl, hz⟩ := I.list hx
  refine SeqAt.notIn_listAt (answ e) pl.isList (fun w hw => ?_) ⟨.bl _, H, I, rfl, ?_⟩
  · obtain ⟨z, hz, rz⟩ := vals_mem r (by simpa using hw)
    rw [answ_of e rz]
    exact (hall z hz).at I rz rx (by show X.A.units + 1 < cLine; omega)
  · rw [List.any_toArray, any_answ e r]
    exact q
/-- l != m, two lists or two tuples of equal items -/
def rNe0 (K : PySem.W.Frag) : R2 := fun x y H Q => ∃ (a b : Addr) (xs ys : List V), x = .ref a ∧ y = .ref b ∧ ((SqT K H a xs ∧ SqT K H b ys) ∨ (SqL K H a xs ∧ SqL K H b ys)) ∧ Paired (fun z z' => EqI K H z z' true) xs ys ∧ Q (.bl false) H
theorem op_ne0 (hu : X.A.units + 64 < cLine) : OpR X (compareOp .NotEq) (rNe0 X.K) := by
  intro pins s σ H x y v u Q I rx ry h
  obtain ⟨a, b, xs, ys, rfl, rfl, hq, hp, q⟩ := h
  cases rx
  cases ry
  have hu1 : X.A.in1.units < cLine := by show X.A.units + 1 < cLine; omega
  rcases hq with ⟨ha, hb⟩ | ⟨ha, hb⟩
  · obtain ⟨us, r1, p1, _⟩ := I.tuple ha
    obtain ⟨ws, r2, p2, _⟩ := I.tuple hb
    have hs : us.toArray.size = ws.toArray.size := by rw [List.size_toArray, List.size_toArray, ← r1.length, ← r2.length]; exact Paired.length hp
    refine SeqAt.RcNeAt.tuples (e := fun _ => true) p1 p2 (by omega) (fun j h1 h2 => ?_) _ _ _ _ ?_
    · have := items_at (fun r1 r2 k => EqI.at I k r1 r2 hu1) hp r1 r2 j (by simpa using h1) (by simpa using h2)
      simpa using this
    · rw [hs, show ((List.range (min ws.toArray.size ws.toArray.size)).all fun _ => true) = true from List.all_eq_true.mpr fun _ _ => rfl, beq_self_eq_true]
      exact ⟨.bl false, H, I, rfl, q⟩
  · obtain ⟨us, r1, p1, _⟩ := I.list ha
    obtain ⟨ws, r2, p2, _⟩ := I.list hb
    have hs : us.toArray.size = ws.toArray.size := by rw [List.size_toArray, List.size_toArray, ← r1.length, ← r2.length]; exact Paired.length hp
    refine SeqAt.RcNeAt.lists (e := fun _ => true) p1.isList p2.isList hs (by omega) (fun j h1 h2 => ?_) _ _ _ _ ?_
    · have := items_at (fun r1 r2 k => EqI.at I k r1 r2 hu1) hp r1 r2 j (by simpa using h1) (by simpa using h2)
      simpa using this
    · rw [show ((List.range us.toArray.size).all fun _ => true) = true from List.all_eq_true.mpr fun _ _ => rfl]
      exact ⟨.bl false, H, I, rfl, q⟩
/-- d != e, two dicts of equal items -/
def rNe0D (K : PySem.W.Frag) : R2 := fun x y H Q => ∃ (a b : Addr) (ks ls : List (Key × V)), x = .ref a ∧ y = .ref b ∧ H a = some (.dK ks) ∧ H b = some (.dK ls) ∧ ks.length = ls.length ∧ (∀ p ∈ ks, ∃ u, valV ls p.1 = some u ∧ EqI K H p.2 u true) ∧ Q (.bl false) H
theorem op_ne0D (hu : X.A.units + 64 < cLine) : OpR X (compareOp .NotEq) (rNe0D X.K) := by
  intro pins s σ H x y v u Q I rx ry h
  obtain ⟨a, b, ks, ls, rfl, rfl, ha, hb, hl, hp, q⟩ := h
  cases rx
  cases ry
  have hu1 : X.A.in1.units < cLine := by show X.A.units + 1 < cLine; omega
  obtain ⟨_, ya, va, ra, da⟩ := (show ObjOk X.prog X.w H s.heap a (.dK ks) from I.hok a _ ha)
  obtain ⟨_, yb, vb, rb, db⟩ := (show ObjOk X.prog X.w H s.heap b (.dK ls) from I.hok b _ hb)
  have e : va.length = vb.length := by rw [← ra.length, ← rb.length]; exact hl
  refine PySem.W.keq_ne (knd := mixKind X.prog X.w) (r := true) ya yb da db (by omega) (fun _ => ?_) ?_
  · have go : ∀ {ks : List (Key × V)} {va : List (Key × Value)}, KV ks va → (∀ p ∈ ks, ∃ u, valV ls p.1 = some u ∧ EqI X.K H p.2 u true) → PySem.W.KeqHits X.A.in1 s vb va true := by
      intro ks va ra
      unfold KV at ra
      induction ra with
      | nil => intro _; exact .nil
      | @cons p q ps qs h t k =>
        intro hp
        obtain ⟨h1, h2⟩ := h
        obtain ⟨u, e, f⟩ := hp p List.mem_cons_self
        have rr : RelO (some u) (valueAt vb p.1) := by rw [← e]; exact rb.val p.1
        obtain ⟨y, hy, ry⟩ := rr.some_of
        obtain ⟨key, v⟩ := q
        have h1' : p.1 = key := h1
        rw [h1'] at hy
        show PySem.W.KeqHits X.A.in1 s vb ((key, v) :: qs) (true && true)
        exact .hit hy (f.at I h2 ry hu1) (k fun p' hm => hp p' (List.mem_cons_of_mem _ hm))
    exact go ra hp
  · rw [show (!(va.length == vb.length && true)) = false from by rw [e]; simp]
    exact ⟨.bl false, H, I, rfl, q⟩
end
end Vf

set_option Elab.async false
set_option linter.all false
set_option maxRecDepth 100000
set_option maxHeartbeats 2000000
namespace Vf
open PySem PySem.Spec PyProof.Rows L2
/-! ### properties: their getters, found by the class and the name -/
def gAd (K : PySem.W.Frag) (c m : Str) : Addr := match PySem.W.recIn K (He.ma K (He.ga K c) m) "property" with
  | some (.ref f :: _) => f
  | _ => 0
structure GetD where
  cls : Str
  attr : Str
  d : He.DefD
def GetD.val (g : GetD) : He.FnW := g.d.val
def gnW (K : PySem.W.Frag) (g : GetD) : He.FnW := match K.lookup (gAd K g.cls g.attr) with
  | some ⟨_, _, .func fd, _⟩ => some (fd.name, fd.qualname, fd.params, fd.body, fd.scope, fd.globals, fd.closure, fd.builtins)
  | _ => none
def propB (K : PySem.W.Frag) (C : Addr) (m : Str) : Bool := He.eqO (PySem.W.findIn K (.ref C) m) (some (some (.ref (He.ma K C m)))) && (He.eqO (PySem.W.specialIn K (.ref (He.ma K C m)) "__get__") (some (some (.builtin "property.__get__"))) &&
  (decide (PySem.W.takesIn K (.ref (He.ma K C m)) = some true) && (match PySem.W.recIn K (He.ma K C m) "property" with
    | some (.ref _ :: _) => true
    | _ => false)))
def GetD.ok (K : PySem.W.Frag) (g : GetD) : Bool := propB K (He.ga K g.cls) g.attr && (PySem.W.keepIn K (.ref (gAd K g.cls g.attr)) && (match K.lookup (gAd K g.cls g.attr) with
  | some ⟨_, _, .func fd, _⟩ => PySem.W.codeIn K fd.code g.d.qual && (He.dflB K fd.defaults (g.d.dvs K) && He.kwdB K fd.kwdefaults (g.d.kws K))
  | _ => false))
theorem propB_ok {K : PySem.W.Frag} {c m : Str} (h : propB K (He.ga K c) m = true) : PropOf K (He.ga K c) m (He.ma K (He.ga K c) m) (gAd K c m) := by
  obtain ⟨h1, h⟩ := He.ba h
  obtain ⟨h2, h⟩ := He.ba h
  obtain ⟨h3, h4⟩ := He.ba h
  refine ⟨He.eqO_ok h1, He.eqO_ok h2, of_decide_eq_true h3, ?_⟩
  unfold gAd
  split at h4
  · rename_i f r e
    exact ⟨r, by rw [e]⟩
  · cases h4
theorem GetD.funD {K : PySem.W.Frag} {g : GetD} (e : gnW K g = g.d.val) (c : g.ok K = true) : (∃ fd, FunD K g.d.name g.d.qual g.d.params g.d.body g.d.scope (g.d.dvs K) (g.d.kws K) (gAd K g.cls g.attr) fd) ∧ PropOf K (He.ga K g.cls) g.attr (He.ma K (He.ga K g.cls) g.attr) (gAd K g.cls g.attr) := by
  obtain ⟨pr, c⟩ := He.ba c
  refine ⟨?_, propB_ok pr⟩
  obtain ⟨kp, c2⟩ := He.ba c
  unfold gnW at e
  cases q : K.lookup (gAd K g.cls g.attr) with
  | none =>
    rw [q] at c2
    cases c2
  | some o =>
    obtain ⟨oc, od, dt, osl⟩ := o
    rw [q] at c2 e
    cases dt with
    | func fd =>
      obtain ⟨n1, n2, n3, n4, n5, n6, n7, n8, n9, n10, n11, n12, n13, n14, n15⟩ := fd
      have e2 : (some (n1, n2, n3, n4, n5, n6, n7, n15) : He.FnW) = some (g.d.name, g.d.qual, g.d.params, .stmts g.d.body, g.d.scope, mainGlobals, [], builtinsNs) := e
      simp only [Option.some.injEq, Prod.mk.injEq] at e2
      obtain ⟨h1, h2, h3, h4, h5, h6, h7, h8⟩ := e2
      subst h1 h2 h3 h4 h5 h6 h7 h8
      have c3 : (PySem.W.codeIn K n13 g.d.qual && (He.dflB K n8 (g.d.dvs K) && He.kwdB K n9 (g.d.kws K))) = true := c2
      obtain ⟨k1, k2⟩ := He.ba c3
      obtain ⟨k3, k4⟩ := He.ba k2
      exact ⟨_, ⟨oc, od, n8, n9, n10, n11, n12, n13, n14, osl, rfl, q, k1, He.dflB_ok k3, He.kwdB_ok k4⟩, kp⟩
    | _ => cases c2
/-! ### the head's hook, with properties -/
abbrev AlP : Type := Bool × List He.FnW × List He.FnW
def obsP (ex : PySem.W.Frag → Bool) (fn : List He.DefD) (gs : List GetD) (K : PySem.W.Frag) : AlP := (ex K && ((fn.all fun d => d.ok K) && gs.all fun g => g.ok K), fn.map fun d => He.fnW K d.at_, gs.map (gnW K))
def SaysP (ex : PySem.W.Frag → Bool) (fn : List He.DefD) (gs : List GetD) (K : PySem.W.Frag) : Prop := obsP ex fn gs K = (true, fn.map He.DefD.val, gs.map GetD.val)
def obsPG (n : Nat) (ex : PySem.W.Frag → Bool) (fn : List He.DefD) (gs : List GetD) (g : Addr → Option Obj) : AlP := obsP ex fn gs (He.frG g (He.asD g n))
def hookP (n : Nat) (ex : PySem.W.Frag → Bool) (fn : List He.DefD) (gs : List GetD) : PySem.W.Hook where
  α := AlP
  obs := fun s => obsPG n ex fn gs s.heap.get?
  val := fun _ => (true, fn.map He.DefD.val, gs.map GetD.val)
  says := fun _ h => ∃ K : PySem.W.Frag, K.In h ∧ SaysP ex fn gs K
  of := fun _ _ e => ⟨_, He.frG_in, e⟩
  keeps := fun _ _ _ ⟨K, hK, c⟩ k => ⟨K, PySem.W.Frag.In.keeps hK k, c⟩
theorem obsPG_eq {n : Nat} {ex : PySem.W.Frag → Bool} {fn : List He.DefD} {gs : List GetD} {g : Addr → Option Obj} {s : Shared} (h : ∀ a, g a = s.heap.get? a) : obsPG n ex fn gs g = (hookP n ex fn gs).obs s := by
  have e : g = s.heap.get? := funext h
  rw [e]
  rfl
theorem SaysP.ex {ex : PySem.W.Frag → Bool} {fn : List He.DefD} {gs : List GetD} {K : PySem.W.Frag} (c : SaysP ex fn gs K) : ex K = true := (He.ba (congrArg (fun z : AlP => z.1) c)).1
theorem SaysP.fn {ex : PySem.W.Frag → Bool} {fn : List He.DefD} {gs : List GetD} {K : PySem.W.Frag} (c : SaysP ex fn gs K) (i : Nat) {d : He.DefD} (h : fn[i]? = some d := by rfl) : ∃ fd, FunD K d.name d.qual d.params d.body d.scope (d.dvs K) (d.kws K) (He.fAd K d.at_) fd := by
  have c2 := (He.ba (He.ba (congrArg (fun z : AlP => z.1) c)).2).1
  have e : fn.map (fun d => He.fnW K d.at_) = fn.map He.DefD.val := congrArg (fun z : AlP => z.2.1) c
  have e2 : He.fnW K d.at_ = d.val := by
    have e3 : (fn.map fun d => He.fnW K d.at_)[i]? = (fn.map He.DefD.val)[i]? := by rw [e]
    simp only [List.getElem?_map, h, Option.map_some] at e3
    exact Option.some.inj e3
  exact He.DefD.funD e2 (List.all_eq_true.mp c2 d (List.mem_of_getElem? h))
theorem SaysP.gt {ex : PySem.W.Frag → Bool} {fn : List He.DefD} {gs : List GetD} {K : PySem.W.Frag} (c : SaysP ex fn gs K) (i : Nat) {g : GetD} (h : gs[i]? = some g := by rfl) : (∃ fd, FunD K g.d.name g.d.qual g.d.params g.d.body g.d.scope (g.d.dvs K) (g.d.kws K) (gAd K g.cls g.attr) fd) ∧ PropOf K (He.ga K g.cls) g.attr (He.ma K (He.ga K g.cls) g.attr) (gAd K g.cls g.attr) := by
  have c2 := (He.ba (He.ba (congrArg (fun z : AlP => z.1) c)).2).2
  have e : (gs.map (gnW K)) = gs.map GetD.val := congrArg (fun z : AlP => z.2.2) c
  have e2 : gnW K g = g.val := by
    have e3 : (gs.map (gnW K))[i]? = (gs.map GetD.val)[i]? := by rw [e]
    simp only [List.getElem?_map, h, Option.map_some] at e3
    exact Option.some.inj e3
  exact GetD.funD e2 (List.all_eq_true.mp c2 g (List.mem_of_getElem? h))
/-- the getter keeps its promise -/
structure OkG (P : Program) (w : World) (K : PySem.W.Frag) (mg : Str → Option Value) (base : Heap) (CX : CXT) (k : Nat) (c m : Str) (sp : Sp) : Prop where
  ex : ∃ fd, FnOk P w K mg base CX k (gAd K c m) fd ["self"] sp ∧ Binds K fd ["self"] []
  pr : PropOf K (He.ga K c) m (He.ma K (He.ga K c) m) (gAd K c m)
theorem pe_propG {X : Cx} {k j : Nat} {c m : Str} {sp : Sp} {e : Expr} {pos : Pos} {ta : TE} (he : PE X e ta) (cl : Cls X.K (He.ga X.K c)) (O : OkG X.prog X.w X.K X.mg X.base CX0 k c m sp) (hr : Room j X.A) (hj : k + 1 ≤ j)
    (hab : attributeBase e m X.env (eval e X.env) = eval e X.env) : PE X (.Attribute e m pos) (tProp (He.ga X.K c) sp [] E0 ta) := by
  obtain ⟨fd, F, b⟩ := O.ex
  exact pe_prop he cl O.pr F (hr.mono hj) b .nil pass0 hab
end Vf

set_option Elab.async false
set_option linter.all false
set_option maxRecDepth 100000
set_option maxHeartbeats 2000000
namespace PySem.W
open PySem PySem.SeqAt MeetsSeq
section
variable {prog : Program} {w : World} {A : Around} {E : Value → Shared → Prop} {s : Shared} {a b : Addr} {o : Obj}
/-- a dict's slot declines what is no dict -/
theorem vf_dic_no {v : Value} {T : String} (ha : s.TypeIs (.ref a) "dict") (hT : s.TypeIs v T) (hs : isSubtype (.type T) (.type "dict") = pure false) {Q : Fin → Shared → Prop} (h : Q (.done (.ret .notImplemented)) s) : wpAny (model prog w) A (PySem.Builtin.«dict.__eq__» ⟨[.ref a, v], []⟩) Q E s := by
  wp_walk using wpAny_isInstance hT hs
  exact h
theorem vf_none_no {Q : Fin → Shared → Prop} (h : Q (.done (.ret .notImplemented)) s) : wpAny (model prog w) A (PySem.Builtin.«NoneType.__eq__» ⟨[.none, .ref a], []⟩) Q E s := by
  wp_walk
  exact h
theorem vf_int_no {v : Value} {es : Array DictEntry} {ep : Nat} (hv : (∃ c, v = .bool c) ∨ ∃ i t, v = .int i t) (ha : s.heap.get? a = some o) (hd : o.data = .dict es ep) {Q : Fin → Shared → Prop} (h : Q (.done (.ret .notImplemented)) s) : wpAny (model prog w) A (PySem.Builtin.«int.__eq__» ⟨[v, .ref a], []⟩) Q E s := by
  obtain ⟨hp, gg, d, tk, os⟩ := s
  obtain ⟨oc, odd, oda, osl⟩ := o
  dsimp only at hd
  subst hd
  rcases hv with ⟨c, rfl⟩ | ⟨i, t, rfl⟩
  · wp_walk using AutoSeq1.wpAny_loadPart' ha
    exact h
  · wp_walk using AutoSeq1.wpAny_loadPart' ha
    exact h
theorem vf_tup_no {T : String} (hT : s.TypeIs (.ref a) T) (hs : isSubtype (.type T) (.type "tuple") = pure false) {Q : Fin → Shared → Prop} (h : Q (.done (.ret .notImplemented)) s) : wpAny (model prog w) A (PySem.Builtin.«tuple.__eq__» ⟨[.ref b, .ref a], []⟩) Q E s := by
  wp_walk using wpAny_isInstance hT hs
  exact h
theorem vf_lst_no {T : String} (hT : s.TypeIs (.ref a) T) (hs : isSubtype (.type T) (.type "list") = pure false) {Q : Fin → Shared → Prop} (h : Q (.done (.ret .notImplemented)) s) : wpAny (model prog w) A (PySem.Builtin.«list.__eq__» ⟨[.ref b, .ref a], []⟩) Q E s := by
  wp_walk using wpAny_isInstance hT hs
  exact h
end
end PySem.W
namespace PySem.W
open PySem PySem.SeqAt MeetsSeq
/-- == answers no, asked either way -/
structure NoAt (A : Around) (s : Shared) (x y : Value) : Prop where
  rc : RcAt A s x y false
  eq : EqAt A s x y false
theorem eq_of_rc {A : Around} {s : Shared} {x y : Value} {b : Bool} (hxy : (x == y) = true → b = true) (hf : ∀ i t, x ≠ .float i t) (rc : RcAt A s x y b) : EqAt A s x y b := fun prog w E Q h => by
  unfold eqBool
  refine wpAny_holding ?_
  refine wpAny_ite_split (fun hab => ?_) (fun _ => ?_)
  · rw [hxy hab] at h
    first
      | exact wpAny_pure h
      | exact wpAny_bind (wpAny_rule (wpAny_pure h))
  · cases x with
    | float i t => exact absurd rfl (hf i t)
    | _ => exact wpAny_bind (rc prog w E _ (wpAny_truthy_bool h))
/-- both slots decline: not equal -/
theorem vf_no {A : Around} {s : Shared} {x y : Value} {Tx Ty idx idy : String} {Bx By : Builtin} (hx : s.TypeIs x Tx) (hy : s.TypeIs y Ty) (hne : (Value.type Tx != Value.type Ty) = true) (hxy : (x == y) = false) (hsub : isSubtype (.type Ty) (.type Tx) = pure false)
    (sx : Slot Tx (cmpInfo .Eq).2.1 idx) (sy : Slot Ty (cmpInfo .Eq).2.2 idy) (sy1 : Slot Ty (cmpInfo .Eq).2.1 idy) (ex : entryFor table idx = some Bx) (ey : entryFor table idy = some By) (ax : argsOk idx ⟨[x, y], []⟩) (ay : argsOk idy ⟨[y, x], []⟩)
    (bx : ∀ (prog : Program) (w : World) (A : Around) (E : Value → Shared → Prop) (Q : Fin → Shared → Prop), Q (.done (.ret .notImplemented)) s → wpAny (model prog w) A (Bx ⟨[x, y], []⟩) Q E s)
    (by_ : ∀ (prog : Program) (w : World) (A : Around) (E : Value → Shared → Prop) (Q : Fin → Shared → Prop), Q (.done (.ret .notImplemented)) s → wpAny (model prog w) A (By ⟨[y, x], []⟩) Q E s)
    (hs : ∀ (prog : Program) (w : World) (A : Around) (E : Value → Shared → Prop) (Q : Bool → Shared → Prop), Q false s → wpAny (model prog w) A (isSame x y) Q E s) (hf : ∀ i t, x ≠ .float i t) (hu : A.units < cLine) : NoAt A s x y := by
  have rc : RcAt A s x y false := fun prog w E Q h =>
    rc_eq_decline_or (k := false) hx hy hne hsub sx sy
      (fun _ hq => wpAny_call_entry sx hx ex (bx _ _ _ _ _ ⟨_, rfl, hq⟩) ax)
      (fun _ hq => wpAny_call_entry sy1 hy ey (by_ _ _ _ _ _ ⟨_, rfl, hq⟩) ay)
      (fun _ hq => hs _ _ _ _ _ hq) (.inr hu) h
  exact ⟨rc, eq_of_rc (fun z => absurd (z.symm.trans hxy) (by decide)) hf rc⟩
end PySem.W
namespace Vf
open PySem PySem.Spec PyProof.Rows L2 PySem.W
/-- == of two values: data, or a dict beside what is none, or two empty dicts -/
inductive EqW (K : PySem.W.Frag) (H : Hp) : V → V → Bool → Prop
  | dat {x y : V} {d e : PyData} : Dp K H x d → Dp K H y e → SeqAt.shaped d = true → SeqAt.shaped e = true → EqW K H x y (PyData.eqv d e)
  | dicL {y : V} {e : PyData} {a : Addr} {ks : List (Key × V)} : H a = some (.dK ks) → Dp K H y e → EqW K H (.ref a) y false
  | dicR {x : V} {d : PyData} {a : Addr} {ks : List (Key × V)} : Dp K H x d → H a = some (.dK ks) → EqW K H x (.ref a) false
  | dd {a b : Addr} : H a = some (.dK []) → H b = some (.dK []) → EqW K H (.ref a) (.ref b) true
section
variable {X : Cx} {pins : List (Addr × Obj)} {σ : L2.St} {H : Hp} {s : Shared}
theorem dic_obj (I : L2.Inv X pins σ H s) {a : Addr} {ks : List (Key × V)} (h : H a = some (.dK ks)) : ∃ o es ep, s.heap.get? a = some o ∧ o.cls = .type "dict" ∧ o.data = .dict es ep := by
  obtain ⟨_, _, vs, _, o, es, ep, h1, h2, h3, _⟩ := (show ObjOk X.prog X.w H s.heap _ (.dK _) from I.hok _ _ h)
  exact ⟨o, es, ep, h1, h2.1, h3⟩
theorem eqW_dicR (I : L2.Inv X pins σ H s) {A : Around} {x : V} {u : Value} {d : PyData} {a : Addr} {ks : List (Key × V)} (h : Dp X.K H x d) (ha : H a = some (.dK ks)) (rx : RelV x u) (hu : A.units < cLine) : NoAt A s u (.ref a) := by
  obtain ⟨o, es, ep, ho, hc, hd⟩ := dic_obj I ha
  have ta : s.TypeIs (.ref a) "dict" := ⟨o, ho, hc⟩
  cases h with
  | non =>
    cases rx
    exact vf_no (rfl : s.TypeIs .none "NoneType") ta (by decide) rfl PySem.F.sub_dict_NoneType PySem.F.slot_NoneType_eq PySem.F.slot_dict_eq_refl PySem.F.slot_dict_eq PySem.F.entry_NoneType_eq PySem.F.entry_dict_eq (PySem.F.args_NoneType_eq_2 _ _) (PySem.F.args_dict_eq_2 _ _)
      (fun _ _ _ _ _ q => vf_none_no q) (fun _ _ _ _ _ q => vf_dic_no (v := .none) (T := "NoneType") ta rfl PySem.F.sub_NoneType_dict q) (fun _ _ _ _ _ q => wpAny_of_eq (rfl : isSame .none (.ref a) = pure false) q) (fun _ _ z => nomatch z) hu
  | bl b =>
    cases rx
    exact vf_no (rfl : s.TypeIs (.bool b) "bool") ta (by decide) rfl PySem.F.sub_dict_bool PySem.F.slot_bool_eq PySem.F.slot_dict_eq_refl PySem.F.slot_dict_eq PySem.F.entry_int_eq PySem.F.entry_dict_eq (PySem.F.args_int_eq_2 _ _) (PySem.F.args_dict_eq_2 _ _)
      (fun _ _ _ _ _ q => vf_int_no (.inl ⟨_, rfl⟩) ho hd q) (fun _ _ _ _ _ q => vf_dic_no (v := .bool b) (T := "bool") ta rfl PySem.F.sub_bool_dict q) (fun _ _ _ _ _ q => wpAny_of_eq (rfl : isSame (.bool b) (.ref a) = pure false) q) (fun _ _ z => nomatch z) hu
  | int i =>
    obtain ⟨t, rfl⟩ := rx
    exact vf_no (rfl : s.TypeIs (.int i t) "int") ta (by decide) rfl PySem.F.sub_dict_int PySem.F.slot_int_eq PySem.F.slot_dict_eq_refl PySem.F.slot_dict_eq PySem.F.entry_int_eq PySem.F.entry_dict_eq (PySem.F.args_int_eq_2 _ _) (PySem.F.args_dict_eq_2 _ _)
      (fun _ _ _ _ _ q => vf_int_no (.inr ⟨_, _, rfl⟩) ho hd q) (fun _ _ _ _ _ q => vf_dic_no (v := .int i t) (T := "int") ta rfl PySem.F.sub_int_dict q) (fun _ _ _ _ _ q => wpAny_of_eq (rfl : isSame (.int i t) (.ref a) = pure false) q) (fun _ _ z => nomatch z) hu
  | str z =>
    obtain ⟨t, rfl⟩ := rx
    exact ⟨vf_rc_str_dict ho hc hd hu, vf_str_dict ho hc hd hu⟩
  | @lst l _ _ hs _ =>
    cases rx
    obtain ⟨its, r, p, _⟩ := I.list hs
    obtain ⟨ol, n, hl, hlc, hld, hlx⟩ := p
    have tl : s.TypeIs (.ref l) "list" := ⟨_, hl, hlc⟩
    have hne : l ≠ a := fun e => by
      rw [e, ho] at hl
      cases hl
      rw [hc] at hlc
      exact absurd hlc (by simp)
    exact vf_no tl ta (by decide) (by simpa using hne) PySem.F.sub_dict_list PySem.F.slot_list_eq PySem.F.slot_dict_eq_refl PySem.F.slot_dict_eq PySem.F.entry_list_eq PySem.F.entry_dict_eq (PySem.F.args_list_eq_2 _ _) (PySem.F.args_dict_eq_2 _ _)
      (fun _ _ _ _ _ q => vf_lst_no ta PySem.F.sub_dict_list q) (fun _ _ _ _ _ q => vf_dic_no ta tl PySem.F.sub_list_dict q) (fun _ _ _ _ _ q => SeqAt.wpAny_isSame_ref_other' hne hl ho (by rw [hc]; simp) q) (fun _ _ z => nomatch z) hu
  | @tup l _ _ hs _ =>
    cases rx
    obtain ⟨its, r, p, _⟩ := I.tuple hs
    obtain ⟨ol, hl, hlc, hld⟩ := p
    have tl : s.TypeIs (.ref l) "tuple" := ⟨_, hl, hlc⟩
    have hne : l ≠ a := fun e => by
      rw [e, ho] at hl
      cases hl
      rw [hc] at hlc
      exact absurd hlc (by simp)
    exact vf_no tl ta (by decide) (by simpa using hne) PySem.F.sub_dict_tuple PySem.F.slot_tuple_eq PySem.F.slot_dict_eq_refl PySem.F.slot_dict_eq PySem.F.entry_tuple_eq PySem.F.entry_dict_eq (PySem.F.args_tuple_eq_2 _ _) (PySem.F.args_dict_eq_2 _ _)
      (fun _ _ _ _ _ q => vf_tup_no ta PySem.F.sub_dict_tuple q) (fun _ _ _ _ _ q => vf_dic_no ta tl PySem.F.sub_tuple_dict q) (fun _ _ _ _ _ q => SeqAt.wpAny_isSame_ref_other' hne hl ho (by rw [hc]; simp) q) (fun _ _ z => nomatch z) hu
theorem eqW_dicL (I : L2.Inv X pins σ H s) {A : Around} {x : V} {u : Value} {d : PyData} {a : Addr} {ks : List (Key × V)} (h : Dp X.K H x d) (ha : H a = some (.dK ks)) (rx : RelV x u) (hu : A.units < cLine) : NoAt A s (.ref a) u := by
  obtain ⟨o, es, ep, ho, hc, hd⟩ := dic_obj I ha
  have ta : s.TypeIs (.ref a) "dict" := ⟨o, ho, hc⟩
  cases h with
  | non =>
    cases rx
    exact vf_no ta (show s.TypeIs .none "NoneType" from rfl) (by decide) rfl PySem.F.sub_NoneType_dict PySem.F.slot_dict_eq PySem.F.slot_NoneType_eq_refl PySem.F.slot_NoneType_eq PySem.F.entry_dict_eq PySem.F.entry_NoneType_eq (PySem.F.args_dict_eq_2 _ _) (PySem.F.args_NoneType_eq_2 _ _)
      (fun _ _ _ _ _ q => vf_dic_no (v := .none) (T := "NoneType") ta rfl PySem.F.sub_NoneType_dict q) (fun _ _ _ _ _ q => vf_none_no q) (fun _ _ _ _ _ q => wpAny_of_eq (rfl : isSame (.ref a) .none = pure false) q) (fun _ _ z => nomatch z) hu
  | bl b =>
    cases rx
    exact vf_no ta (show s.TypeIs (.bool b) "bool" from rfl) (by decide) rfl PySem.F.sub_bool_dict PySem.F.slot_dict_eq PySem.F.slot_bool_eq_refl PySem.F.slot_bool_eq PySem.F.entry_dict_eq PySem.F.entry_int_eq (PySem.F.args_dict_eq_2 _ _) (PySem.F.args_int_eq_2 _ _)
      (fun _ _ _ _ _ q => vf_dic_no (v := .bool b) (T := "bool") ta rfl PySem.F.sub_bool_dict q) (fun _ _ _ _ _ q => vf_int_no (.inl ⟨_, rfl⟩) ho hd q) (fun _ _ _ _ _ q => wpAny_of_eq (rfl : isSame (.ref a) (.bool b) = pure false) q) (fun _ _ z => nomatch z) hu
  | int i =>
    obtain ⟨t, rfl⟩ := rx
    exact vf_no ta (show s.TypeIs (.int i t) "int" from rfl) (by decide) rfl PySem.F.sub_int_dict PySem.F.slot_dict_eq PySem.F.slot_int_eq_refl PySem.F.slot_int_eq PySem.F.entry_dict_eq PySem.F.entry_int_eq (PySem.F.args_dict_eq_2 _ _) (PySem.F.args_int_eq_2 _ _)
      (fun _ _ _ _ _ q => vf_dic_no (v := .int i t) (T := "int") ta rfl PySem.F.sub_int_dict q) (fun _ _ _ _ _ q => vf_int_no (.inr ⟨_, _, rfl⟩) ho hd q) (fun _ _ _ _ _ q => wpAny_of_eq (rfl : isSame (.ref a) (.int i t) = pure false) q) (fun _ _ z => nomatch z) hu
  | str z =>
    obtain ⟨t, rfl⟩ := rx
    exact vf_no ta (show s.TypeIs (.str z t) "str" from rfl) (by decide) rfl PySem.F.sub_str_dict PySem.F.slot_dict_eq PySem.F.slot_str_eq_refl PySem.F.slot_str_eq PySem.F.entry_dict_eq PySem.F.entry_str_eq (PySem.F.args_dict_eq_2 _ _) (PySem.F.args_str_eq_2 _ _)
      (fun _ _ _ _ _ q => vf_dic_no (v := .str z t) (T := "str") ta rfl PySem.F.sub_str_dict q) (fun _ _ _ _ _ q => vf_no_str_dic ho hd q) (fun _ _ _ _ _ q => wpAny_of_eq (rfl : isSame (.ref a) (.str z t) = pure false) q) (fun _ _ z => nomatch z) hu
  | @lst l _ _ hs _ =>
    cases rx
    obtain ⟨its, r, p, _⟩ := I.list hs
    obtain ⟨ol, n, hl, hlc, hld, hlx⟩ := p
    have tl : s.TypeIs (.ref l) "list" := ⟨_, hl, hlc⟩
    have hne : a ≠ l := fun e => by
      rw [← e, ho] at hl
      cases hl
      rw [hc] at hlc
      exact absurd hlc (by simp)
    exact vf_no ta tl (by decide) (by simpa using hne) PySem.F.sub_list_dict PySem.F.slot_dict_eq PySem.F.slot_list_eq_refl PySem.F.slot_list_eq PySem.F.entry_dict_eq PySem.F.entry_list_eq (PySem.F.args_dict_eq_2 _ _) (PySem.F.args_list_eq_2 _ _)
      (fun _ _ _ _ _ q => vf_dic_no ta tl PySem.F.sub_list_dict q) (fun _ _ _ _ _ q => vf_lst_no ta PySem.F.sub_dict_list q) (fun _ _ _ _ _ q => wpAny_isSame_ref_other hne ho hl (by rw [hc]; simp) q) (fun _ _ z => nomatch z) hu
  | @tup l _ _ hs _ =>
    cases rx
    obtain ⟨its, r, p, _⟩ := I.tuple hs
    obtain ⟨ol, hl, hlc, hld⟩ := p
    have tl : s.TypeIs (.ref l) "tuple" := ⟨_, hl, hlc⟩
    have hne : a ≠ l := fun e => by
      rw [← e, ho] at hl
      cases hl
      rw [hc] at hlc
      exact absurd hlc (by simp)
    exact vf_no ta tl (by decide) (by simpa using hne) PySem.F.sub_tuple_dict PySem.F.slot_dict_eq PySem.F.slot_tuple_eq_refl PySem.F.slot_tuple_eq PySem.F.entry_dict_eq PySem.F.entry_tuple_eq (PySem.F.args_dict_eq_2 _ _) (PySem.F.args_tuple_eq_2 _ _)
      (fun _ _ _ _ _ q => vf_dic_no ta tl PySem.F.sub_tuple_dict q) (fun _ _ _ _ _ q => vf_tup_no ta PySem.F.sub_dict_tuple q) (fun _ _ _ _ _ q => wpAny_isSame_ref_other hne ho hl (by rw [hc]; simp) q) (fun _ _ z => nomatch z) hu
theorem EqW.run (I : L2.Inv X pins σ H s) {A : Around} {x y : V} {u v : Value} {b : Bool} (h : EqW X.K H x y b) (rx : RelV x u) (ry : RelV y v) (hu : A.units + 64 < cLine) :
    (∀ E Q : Value → Shared → Prop, Q (.bool b) s → wpAny (model X.prog X.w) A (richCompare .Eq u v) Q E s) ∧ SeqAt.EqP X.prog X.w A s u v b := by
  cases h with
  | dat h1 h2 sd se =>
    obtain ⟨as, r1⟩ := Dp.reads I _ x u h1 rx
    obtain ⟨bs, r2⟩ := Dp.reads I _ y v h2 ry
    exact ⟨fun E Q q => SeqAt.compareEq_shaped r1 r2 sd se hu q, (SeqAt.eqAt_reads _ _ A s u v as bs r1 r2 (SeqAt.canLay_of_shaped sd) (SeqAt.canLay_of_shaped se) (SeqAt.room_of_shaped sd hu)).eqP⟩
  | dicL h1 h2 =>
    cases rx
    have := eqW_dicL I (A := A) h2 h1 ry (by omega)
    exact ⟨this.rc X.prog X.w, this.eq.eqP⟩
  | dicR h1 h2 =>
    cases ry
    have := eqW_dicR I (A := A) h1 h2 rx (by omega)
    exact ⟨this.rc X.prog X.w, this.eq.eqP⟩
  | @dd a b h1 h2 =>
    cases rx
    cases ry
    obtain ⟨_, ya, va, ra, da⟩ := (show ObjOk X.prog X.w H s.heap a (.dK []) from I.hok a _ h1)
    obtain ⟨_, yb, vb, rb, db⟩ := (show ObjOk X.prog X.w H s.heap b (.dK []) from I.hok b _ h2)
    cases ra
    cases rb
    have rc : ∀ E Q : Value → Shared → Prop, Q (.bool true) s → wpAny (model X.prog X.w) A (richCompare .Eq (.ref a) (.ref b)) Q E s := fun E Q q =>
      PySem.W.rcP_dicts (knd := mixKind X.prog X.w) (r := true) ya yb da db (by omega) (fun _ => .nil) E Q q
    refine ⟨rc, ?_⟩
    by_cases e : a = b
    · subst e
      exact (SeqAt.EqAt.same _).eqP
    · exact SeqAt.eqP_refs e rc
/-- x == y of such values -/
def rEqW (K : PySem.W.Frag) : R2 := fun x y H Q => ∃ b, EqW K H x y b ∧ Q (.bl b) H
theorem op_eqW (hu : X.A.units + 64 < cLine) : OpR X (compareOp .Eq) (rEqW X.K) := by
  intro pins s σ H x y v u Q I rx ry h
  obtain ⟨b, h, q⟩ := h
  exact (h.run I rx ry hu).1 _ _ ⟨.bl b, H, I, rfl, q⟩
/-- in, not in: such values -/
def DW (K : PySem.W.Frag) : Eqb := fun x y H b => EqW K H x y b
theorem eqB_w {n : Nat} : EqB X n (DW X.K) := fun A pins s σ H x y u v b sb I rx ry hd => (hd.run I rx ry sb.room.units).2 _ _ ⟨rfl, H, I, Ext.rfl'⟩
mutual
theorem Dp_ext {K : PySem.W.Frag} {H H' : Hp} (sm : Same H H') : ∀ (d : PyData) (x : V), Dp K H x d → Dp K H' x d
  | _, _, .non => .non
  | _, _, .bl b => .bl b
  | _, _, .int i => .int i
  | _, _, .str z => .str z
  | .list ds, _, .lst h hs => .lst (sm.seq h) (DpAll_ext sm ds _ hs)
  | .tuple ds, _, .tup h hs => .tup (SqT.ext h sm) (DpAll_ext sm ds _ hs)
theorem DpAll_ext {K : PySem.W.Frag} {H H' : Hp} (sm : Same H H') : ∀ (ds : List PyData) (xs : List V), DpAll K H xs ds → DpAll K H' xs ds
  | _, _, .nil => .nil
  | d :: ds, _, .cons h hs => .cons (Dp_ext sm d _ h) (DpAll_ext sm ds _ hs)
end
theorem EqW.ext {K : PySem.W.Frag} {H H' : Hp} (sm : Same H H') {x y : V} {b : Bool} (h : EqW K H x y b) : EqW K H' x y b := by
  cases h with
  | dat h1 h2 sd se => exact .dat (Dp_ext sm _ _ h1) (Dp_ext sm _ _ h2) sd se
  | dicL h1 h2 => exact .dicL (sm _ _ h1) (Dp_ext sm _ _ h2)
  | dicR h1 h2 => exact .dicR (Dp_ext sm _ _ h1) (sm _ _ h2)
  | dd h1 h2 => exact .dd (sm _ _ h1) (sm _ _ h2)
end
end Vf

set_option Elab.async false
set_option linter.all false
set_option maxRecDepth 100000
set_option maxHeartbeats 2000000
/-! try with several clauses that bind their error; over the library's readings of one clause and of clauses without names. -/
namespace Vf
open PySem PySem.Spec PyProof.Rows L2
abbrev Clause : Type := Value × Nat × (Addr → Value → Option Addr → TS)
/-- the ends of a clause: its name goes -/
def goneE (i : Nat) (D : Ends) : Ends := { nx := fun τ G => D.nx (τ.set i none) G, rt := D.rt, bk := fun τ G => D.bk (τ.set i none) G, ct := fun τ G => D.ct (τ.set i none) G }
def wClauses (K : PySem.W.Frag) (Wout : WX) (D : Ends) : List Clause → WX
  | [] => Wout
  | (c, i, ts) :: r => fun cls d τ G => ∃ t, PySem.W.exmOne K cls c = some t ∧ (t = true → ∀ a, G a = none → ts a cls d (goneE i D) (τ.set i (some (.ref a))) G) ∧ (t = false → wClauses K Wout D r cls d τ G)
inductive Clauses (X : Cx) : List ExceptHandler → List Clause → Prop
  | nil : Clauses X [] []
  | cons {x n : Str} {c : Value} {i : Nat} {ts : Addr → Value → Option Addr → TS} {b₀ : Stmt} {suite : List Stmt} {np np' : Pos} {hds : List ExceptHandler} {l : List Clause} (hi : X.N[i]? = some n) (hl : X.env.kindOf n = some .local) (hc : Names X x c)
      (hsu : ∀ (a : Addr) (oe : Obj) (cls : Value) (d : Option Addr) (pn : List (Addr × Obj)), Zc cls d oe → (∃ vs, oe.data = .fields vs) → PSs (X.suite a ((a, oe) :: pn)) (b₀ :: suite) (ts a cls d)) (r : Clauses X hds l) :
      Clauses X (.ExceptHandler (some (.Name x np)) (some n) (b₀ :: suite) np' :: hds) ((c, i, ts) :: l)
section
variable {X : Cx} {body : List Stmt} {h₀ : ExceptHandler} {hds : List ExceptHandler} {l : List Clause} {pos : Pos} {tb : WX → TS} {Wout : WX}
theorem ps_try_clauses (hst : X.stack = X.env :: X.outer) (hfr0 : X.env.frame = some X.env.locals) (hN : X.N.Nodup) (tk : Takes X Wout)
    (hb : ∀ (W : WX) (pn : List (Addr × Obj)) (xe : Value → Shared → Prop), Takes (X.tr pn xe) W → PassesOwn (model X.prog X.w) X.A X.env xe → PSs (X.tr pn xe) body (tb W))
    (hh : Clauses X (h₀ :: hds) l) : PS X (.Try body (h₀ :: hds) [] [] pos) (fun D σ H => tb (wClauses X.K Wout D l) D σ H) := by
  refine ⟨fun pins s σ H D I hyp => ?_⟩
  have iok := I.ok
  have hframes : X.A.frames = some (X.env :: X.outer) := by rw [iok.frames, hst]
  refine wpAny_Try_except (wpAny_mono ((hb (wClauses X.K Wout D l) (X.pn ++ pins) (fun er t1 => wpAny (model X.prog X.w) X.A (noteFrame er X.env) (fun _ t2 => wpAny (model X.prog X.w) X.A (setFlight er none) (fun _ t3 =>
    wpAny (model X.prog X.w) X.A (handleBy er X.env (h₀ :: hds)) (SP X pins D) X.xe t3) X.xe t2) X.xe t1) (fun u s' air => ?_) PassesOwn.looking).run [] s σ H D (I.toTry _) hyp) (fun fl t1 done => ?_) (fun er t1 q => q))
  · obtain ⟨a, B, sI, pins', τ, G, cls, d, rfl, Ja, newB, upA, sky, gNone, osEq, bare, wish⟩ := air
    have Jb : Inv X pins τ G sI := Ja.ofTry iok
    have skyB : Sky B (X.env :: X.outer) a (Zc cls d) X.env.locals s'.heap := by rw [← hst]; exact sky
    show wpAny (model X.prog X.w) X.A (noteFrame (.ref a) X.env) _ _ _
    refine Sky.land Zc.steady hframes hfr0 skyB fun hp3 fly3 up3 => ?_
    have J3 : Inv X pins τ G { s' with heap := hp3 } := Jb.landed newB fly3.1 (upA.trans up3) osEq bare
    obtain ⟨o3, w3, there3, zc3, dat3⟩ := fly3.there
    have off : a ∉ frs (X.env :: X.outer) := fun hm => by
      obtain ⟨_, o', e', hno⟩ := fly3.2.2.1.mem hm
      rw [there3] at e'
      cases e'
      exact hno _ dat3
    have offL : a ≠ X.env.locals := fun z => off (List.mem_filterMap.mpr ⟨X.env, List.mem_cons_self, by rw [hfr0, z]⟩)
    have offF : a ∉ X.fs := fun hm => by
      obtain ⟨en, hen, q⟩ := List.mem_filterMap.mp hm
      exact off (List.mem_filterMap.mpr ⟨en, List.mem_cons_of_mem _ hen, q⟩)
    have S3 := J3.suite there3 dat3 gNone offL offF
    have walk : ∀ {hs2 : List ExceptHandler} {l2 : List Clause}, Clauses X hs2 l2 → wClauses X.K Wout D l2 cls d τ G → wpAny (model X.prog X.w) X.A (handleBy (.ref a) X.env hs2) (SP X pins D) X.xe { s' with heap := hp3 } := by
      intro hs2 l2 hk
      induction hk with
      | nil =>
        intro out
        refine wpAny_handleBy_nil ?_
        obtain ⟨_, _, _, oe, vs, T, oT, _, there, zc, dat, v1, _⟩ := id fly3
        unfold PySem.passOn
        refine wpAny_bind (wpAny_field there dat v1 ?_)
        rw [if_neg (by simp : ¬ ((Value.ref T == Value.none) = true))]
        have last : wpAny (model X.prog X.w) X.A (setFlight (.ref a) X.env.frame) (fun _ t4 => wpAny (model X.prog X.w) X.A (throw (.ref a) : Sem Flow) (SP X pins D) X.xe t4) X.xe { s' with heap := hp3 } := by
          rw [hfr0]
          refine HandSPX.setFlight_upZ fly3 fun hp4 fly4 up4 => wpAny_throw (tk _ _ ⟨a, B, sI, pins, τ, G, cls, d, rfl, Jb, newB, (upA.trans up3).trans up4, .inr (.inr (by rw [hst]; exact fly4)), gNone, osEq, bare, out⟩)
        first
          | exact wpAny_bind (wpAny_pure (wpAny_bind last))
          | exact wpAny_bind last
      | @cons x n c i ts b₀ suite np np' hds2 l2 hi hl hc hsu r ih =>
        rintro ⟨t, et, yes, no⟩
        refine wpAny_handleBy_cons (codeAny_handlers_test ?_) (by intro q; cases q)
        have look : PySem.W.Looks (model X.prog X.w) hp3 (typeOf (.ref a)) cls := fun A Q E t keep q => wpAny_typeOf_ref (keep _ _ there3) (by rw [zc3.1]; exact q)
        have match_ := PySem.W.exm_one (M := model X.prog X.w) (J3.kIn) look et
        have name : ∀ {Q E : Value → Shared → Prop}, Q c { s' with heap := hp3 } → wpAny (model X.prog X.w) (X.A.mark (some (.ref a))) (eval (.Name x np) X.env) Q E { s' with heap := hp3 } := fun {Q E} q => by
          obtain ⟨g1, g2, g3 | ⟨g3, g4, g5⟩⟩ := hc
          · exact ld_glob (X := X.suite a ((a, o3) :: (X.pn ++ pins))) S3 g1 g3 q g2
          · exact ld_blt (X := X.suite a ((a, o3) :: (X.pn ++ pins))) S3 g1 g3 g4 q g5 g2
        refine name (match_.here ?_)
        cases t with
        | false =>
          show wpAny _ X.A (handleBy (.ref a) X.env hds2) _ _ _
          exact ih (no rfl)
        | true =>
          refine codeAny_handlers_suite_as (HandSPX.lands_againZ fly3 fun hp4 fly4 up4 => ?_)
          have J4 : Inv X pins τ G { s' with heap := hp4 } := Jb.landed newB fly4.1 ((upA.trans up3).trans up4) osEq bare
          obtain ⟨o4, w4, there4, zc4, dat4⟩ := fly4.there
          refine store_ok (X := X.suite a ((a, o4) :: (X.pn ++ pins))) (v := .ref a) (J4.suite there4 dat4 gNone offL offF) hN hi (.inl hl) rfl (fun t5 S5 => ?_) (.inr hl)
          refine wpAny_mono ((hsu a o4 cls d (X.pn ++ pins) zc4 ⟨_, dat4⟩).run [] t5 _ G _ S5 (yes rfl a gNone)) (fun fl t6 done => ?_) (fun _ _ z => False.elim z)
          have bye : ∀ {τ6 : L2.St} {G6 : Hp} {Q : Shared → Prop}, Inv (X.suite a ((a, o4) :: (X.pn ++ pins))) [] τ6 G6 t6 → (∀ t7, Inv X pins (τ6.set i none) G6 t7 → Q t7) →
              wpAny (model X.prog X.w) X.A (do bindName X.env n .none; unbindBehindTheSuite X.env n np') (fun _ t7 => Q t7) X.xe t6 := fun {τ6 G6 Q} S6 q => gone_ok (S6.unsuite iok) hN hi hl q
          cases fl with
          | ret u =>
            obtain ⟨v6, τ6, G6, S6, r6, q6⟩ := done
            exact bye S6 fun t7 J7 => ⟨_, _, _, J7, r6, q6⟩
          | _ =>
            obtain ⟨τ6, G6, S6, q6⟩ := done
            exact bye S6 fun t7 J7 => ⟨_, _, J7, q6⟩
    exact walk hh wish
  · cases fl with
    | ret u =>
      obtain ⟨v, τ, G, Ja, rv, q⟩ := done
      exact ⟨v, τ, G, Ja.ofTry iok, rv, q⟩
    | next =>
      obtain ⟨τ, G, Ja, q⟩ := done
      exact wpAny_execs_nil ⟨τ, G, Ja.ofTry iok, q⟩
    | _ =>
      obtain ⟨τ, G, Ja, q⟩ := done
      exact ⟨τ, G, Ja.ofTry iok, q⟩
end
end Vf

set_option Elab.async false
set_option linter.all false
set_option maxRecDepth 100000
set_option maxHeartbeats 2000000
namespace Vf
open PySem PySem.Spec PyProof.Rows L2
section
variable {X : Cx}
/-- xs.count(y), flat items -/
def rCntV (K : PySem.W.Frag) : V → List V → Hp → VK → Prop := fun x xs H Q => ∃ (p : Addr) (ys : List V) (y : V), x = .ref p ∧ xs = [y] ∧ SqL K H p ys ∧ flatV y = true ∧ ys.all flatV = true ∧ Q (.int ((ys.countP fun z => eqV z y : Nat) : Int)) H
theorem count_answ (e : V → Bool) : ∀ {xs : List V} {us : List Value}, Vals xs us → us.countP (answ e) = xs.countP e
  | _, _, .nil => rfl
  | _, _, .cons r t => by
    rw [List.countP_cons, List.countP_cons, answ_of e r, count_answ e t]
theorem mt_lcountV : MtR X "list.count" (rCntV X.K) := by
  intro pins s σ H x xs v us Q I rx rxs h
  obtain ⟨p, ys, y, rfl, rfl, hs, fy, fs, q⟩ := h
  cases rx
  obtain ⟨u, rfl, ru⟩ := rxs.one
  obtain ⟨its, rv, ⟨⟨cls, dd, data, sl⟩, n, ho, hc, hdn, hd⟩, hlen⟩ := I.list hs
  simp only at hc hd
  subst hc hd
  refine call_meets PySem.F.slot_list_count ⟨_, ho, rfl⟩ PySem.F.entry_list_count (PySem.F.args_list_count_2 _ _)
    (SeqAt.list_countAt p its.toArray n dd sl u (answ fun z => eqV z y)) ⟨ho, fun w hw => ?_, ?_⟩
  · obtain ⟨z, hz, rz⟩ := vals_mem rv (by simpa using hw)
    rw [answ_of _ rz]
    exact eqAt_V rz ru (List.all_eq_true.mp fs z hz) fy
  · have ec : its.toArray.toList.countP (answ fun z => eqV z y) = ys.countP fun z => eqV z y := count_answ _ rv
    refine ⟨.int ((ys.countP fun z => eqV z y : Nat) : Int), H, I.tok _, ⟨s.toks, ?_⟩, q⟩
    show Value.int ((its.toArray.toList.countP (answ fun z => eqV z y) : Nat) : Int) s.toks = Value.int ((ys.countP fun z => eqV z y : Nat) : Int) s.toks
    rw [ec]
/-! ### readings over a given K -/
theorem mt_lcountVK {K : PySem.W.Frag} (h : X.K = K) : MtR X "list.count" (rCntV K) := h ▸ mt_lcountV
theorem sl_listK {K : PySem.W.Frag} (h : X.K = K) : SlR X (rSlL K) := h ▸ sl_list
theorem sl_tupK {K : PySem.W.Frag} (h : X.K = K) : SlR X (rSlT K) := h ▸ sl_tup
theorem op_in_seqK {K : PySem.W.Frag} (hK : X.K = K) : OpR X (compareOp .In) (rIn K false) := hK ▸ op_in_seq
theorem op_notIn_seqK {K : PySem.W.Frag} (hK : X.K = K) : OpR X (compareOp .NotIn) (rIn K true) := hK ▸ op_notIn_seq
theorem op_notInIK {K : PySem.W.Frag} (hK : X.K = K) (hu : X.A.units + 64 < cLine) : OpR X (compareOp .NotIn) (rNotInI K) := hK ▸ op_notInI hu
theorem op_inBK {K : PySem.W.Frag} {n : Nat} (hK : X.K = K) (hr : Room (n + 1) X.A) : OpR X (compareOp .In) (rInB K false (DW K)) := hK ▸ op_inB (n := n) eqB_w hr
end
section
variable {X : Cx} {o e : Expr} {es : List Expr} {to : TE} {t : TA} {name : Str} {apos cpos : Pos} {T id : String} {r : V → List V → Hp → VK → Prop}
theorem pe_bmK {K : PySem.W.Frag} (hK : X.K = K) (pa : PlainAttrs T) (slot : Slot T name id) (hty : typeOf (.builtin id) = pure (.type "method_descriptor")) (hm : MtR X id r) (ho : PE X o to) (ha : PA X (e :: es) t)
    (hbase : attributeBase o name X.env (eval o X.env) = eval o X.env := by rfl)
    (hfew : ((backTo cpos (starEach (e :: es) X.env)).all (fun x => !x.1) && (backToKw cpos (keywordEach [] X.env)).all (fun x => x.1.isSome)
      && decide ((e :: es).length + ([] : List Keyword).length + (if ([] : List Keyword).isEmpty then 0 else 1) < 30)) = true := by rfl)
    (hline : (apos.endLine == cpos.line) = true := by rfl) (hs : starEach (e :: es) X.env = (false, eval e X.env) :: starEach es X.env := by rfl) (hplain : (backTo cpos (starEach es X.env)).any (·.1) = false := by rfl) :
    PE X (.Call (.Attribute o name apos) (e :: es) [] cpos) (tBM K T r to t) := hK ▸ pe_bm pa slot hty hm ho ha hbase hfew hline hs hplain
end
/-! ### a comprehension of two walks -/
theorem lc2_it {J : It} {n : Nat} {G : Hp → Prop} {Y : Nat → Hp → V → Hp → Prop} (w : Walk J n G Y) {g g1 : TG} {tt tt1 : TT} {wi1 : TI} {te : TE} {vs vs1 : List Nat} {σ : L2.St} {H1 : Hp} {D : Addr} {Qd : Hp → Prop} (Pv : Nat → Hp → Prop) (h0 : Pv 0 (upd H1 D (.lst []))) (hG : ∀ i H, i ≤ n → Pv i H → G H)
    (hs : ∀ i x H H', i < n → Pv i H → Y i H x H' → g x (wipe σ vs) H' fun σ2 H2 => wipe σ2 vs = wipe σ vs ∧ tt σ2 H2 fun b H3 =>
      if b = true then wi1 σ2 H3 fun J1 H4 => ∃ W1 : Nat → Nat → Hp → Prop, (∃ m, W1 0 m H4) ∧ ∀ j k H, W1 j k H →
        (J1.stop j H ∧ Pv (i + 1) H) ∨ (J1.go j H ∧ ∃ Nx1 : Hp → Prop, (∀ H', Nx1 H' → ∃ k', k' < k ∧ W1 (j + 1) k' H') ∧ ∀ x H', J1.yld j H x H' → g1 x (wipe σ2 vs1) H' fun σ3 H5 => wipe σ3 vs1 = wipe σ2 vs1 ∧ tt1 σ3 H5 fun b H6 =>
          if b = true then te σ3 H6 fun y H7 => ∃ acc, H7 D = some (.lst acc) ∧ acc.length < sizeLine ∧ Nx1 (upd H7 D (.lst (acc ++ [y]))) else Nx1 H6)
      else Pv (i + 1) H3) (hd : ∀ H, Pv n H → Qd H) :
    ∃ W : Nat → Nat → Hp → Prop, (∃ m, W 0 m (upd H1 D (.lst []))) ∧ ∀ i m H, W i m H →
      (J.stop i H ∧ Qd H) ∨ (J.go i H ∧ ∃ Nx : Hp → Prop, (∀ H', Nx H' → ∃ m', m' < m ∧ W (i + 1) m' H') ∧ ∀ x H', J.yld i H x H' → g x (wipe σ vs) H' fun σ2 H2 => wipe σ2 vs = wipe σ vs ∧ tt σ2 H2 fun b H3 =>
        if b = true then wi1 σ2 H3 fun J1 H4 => ∃ W1 : Nat → Nat → Hp → Prop, (∃ m, W1 0 m H4) ∧ ∀ j k H, W1 j k H →
          (J1.stop j H ∧ Nx H) ∨ (J1.go j H ∧ ∃ Nx1 : Hp → Prop, (∀ H', Nx1 H' → ∃ k', k' < k ∧ W1 (j + 1) k' H') ∧ ∀ x H', J1.yld j H x H' → g1 x (wipe σ2 vs1) H' fun σ3 H5 => wipe σ3 vs1 = wipe σ2 vs1 ∧ tt1 σ3 H5 fun b H6 =>
            if b = true then te σ3 H6 fun y H7 => ∃ acc, H7 D = some (.lst acc) ∧ acc.length < sizeLine ∧ Nx1 (upd H7 D (.lst (acc ++ [y]))) else Nx1 H6)
        else Nx H3) := by
  refine ⟨fun i m H => m = n - i ∧ i ≤ n ∧ Pv i H, ⟨n, by simp, Nat.zero_le _, h0⟩, ?_⟩
  rintro i m H ⟨rfl, hi, p⟩
  have q := hG i H hi p
  by_cases hlt : i < n
  · exact .inr ⟨w.goes i H hlt q, Pv (i + 1), fun H' p' => ⟨n - (i + 1), by omega, rfl, hlt, p'⟩, fun x H' y => hs i x H H' hlt p (w.yields i H x H' hlt q y)⟩
  · have e : i = n := by omega
    subst e
    exact .inl ⟨w.stops H q, hd H p⟩
/-- its inner walk -/
theorem lc2_in {J1 : It} {n : Nat} {G : Hp → Prop} {Y : Nat → Hp → V → Hp → Prop} (w : Walk J1 n G Y) {g1 : TG} {tt1 : TT} {te : TE} {vs1 : List Nat} {σ2 : L2.St} {H4 : Hp} {D : Addr} {Qd : Hp → Prop} (Pv : Nat → Hp → Prop) (h0 : Pv 0 H4) (hG : ∀ i H, i ≤ n → Pv i H → G H)
    (hs : ∀ i x H H', i < n → Pv i H → Y i H x H' → g1 x (wipe σ2 vs1) H' fun σ3 H5 => wipe σ3 vs1 = wipe σ2 vs1 ∧ tt1 σ3 H5 fun b H6 =>
      if b = true then te σ3 H6 fun y H7 => ∃ acc, H7 D = some (.lst acc) ∧ acc.length < sizeLine ∧ Pv (i + 1) (upd H7 D (.lst (acc ++ [y]))) else Pv (i + 1) H6) (hd : ∀ H, Pv n H → Qd H) :
    ∃ W1 : Nat → Nat → Hp → Prop, (∃ m, W1 0 m H4) ∧ ∀ j k H, W1 j k H →
      (J1.stop j H ∧ Qd H) ∨ (J1.go j H ∧ ∃ Nx1 : Hp → Prop, (∀ H', Nx1 H' → ∃ k', k' < k ∧ W1 (j + 1) k' H') ∧ ∀ x H', J1.yld j H x H' → g1 x (wipe σ2 vs1) H' fun σ3 H5 => wipe σ3 vs1 = wipe σ2 vs1 ∧ tt1 σ3 H5 fun b H6 =>
        if b = true then te σ3 H6 fun y H7 => ∃ acc, H7 D = some (.lst acc) ∧ acc.length < sizeLine ∧ Nx1 (upd H7 D (.lst (acc ++ [y]))) else Nx1 H6) := by
  refine ⟨fun i m H => m = n - i ∧ i ≤ n ∧ Pv i H, ⟨n, by simp, Nat.zero_le _, h0⟩, ?_⟩
  rintro i m H ⟨rfl, hi, p⟩
  have q := hG i H hi p
  by_cases hlt : i < n
  · exact .inr ⟨w.goes i H hlt q, Pv (i + 1), fun H' p' => ⟨n - (i + 1), by omega, rfl, hlt, p'⟩, fun x H' y => hs i x H H' hlt p (w.yields i H x H' hlt q y)⟩
  · have e : i = n := by omega
    subst e
    exact .inl ⟨w.stops H q, hd H p⟩
/-! ### name = {..: .. for ..} on one line -/
section
variable {X : Cx}
theorem sw_trueD {kx vx : Expr} {gs : List Comprehension} {scope : Scope} {pos py : Pos} {y : Str} {l : Nat} {env : Env} (hk : env.scope.kind = .function) (hy : env.scope.names.lookup y = some .local) (hl : (py.line == pos.line) = true)
    (ha : (scope.names.any fun (n, k) => n == y && (k == .local || k == .cell)) = false) : swapsWith (.DictComp kx vx gs scope pos) (some (.Name y py)) l env = pure true := by
  have ky : env.kindOf y = some .local := hy
  have hb : env.blockKind = .function := by unfold Env.blockKind; rw [hk]; rfl
  unfold swapsWith
  simp only [hb, ky, ha, Expr.pos, hl]
  rfl
theorem ps_setDc {i : Nat} {y : Str} {py : Pos} {kx vx tg iter : Expr} {ifs : List Expr} {scope : Scope} {own : List (Str × Nat)} {pos spos : Pos} {wi : TI} {g : TG} {tt : TT} {tk tv : TE} (hc : X.calm = true) (hN : X.N.Nodup) (hy : X.N[i]? = some y) (hyl : X.env.scope.names.lookup y = some .local)
    (hsw : swapsWith (.DictComp kx vx [⟨tg, iter, ifs, 0⟩] scope pos) (some (.Name y py)) spos.line X.env = pure true) (hi : PI X tg iter wi) (ok : BlkOk X.N X.env.scope scope own)
    (hg : ∀ (s : Shared) (H : Hp) (C : Addr) (cl : List (Str × Addr)) (fp : List Addr), PG (X.blk s H scope (compEnvC scope cl C X.env) fp) tg g) (ht : ∀ (s : Shared) (H : Hp) (C : Addr) (cl : List (Str × Addr)) (fp : List Addr), PTs (X.blk s H scope (compEnvC scope cl C X.env) fp) ifs tt)
    (hk : ∀ (s : Shared) (H : Hp) (C : Addr) (cl : List (Str × Addr)) (fp : List Addr), PE (X.blk s H scope (compEnvC scope cl C X.env) fp) kx tk)
    (he : ∀ (s : Shared) (H : Hp) (C : Addr) (cl : List (Str × Addr)) (fp : List Addr), PE (X.blk s H scope (compEnvC scope cl C X.env) fp) vx tv) (hs : ∀ x, foldedSetIterable iter X.env x = pure x := by intro _; rfl) :
    PS X (.Assign [.Name y py] (.DictComp kx vx [⟨tg, iter, ifs, 0⟩] scope pos) spos) (tAsg (tDc wi g tt tk tv (own.map (·.2))) (gName i)) := by
  refine ⟨fun pins s σ H D I h => ?_⟩
  rw [PySem.exec_Assign_Name_used _ _ _ _ hsw]
  refine wpAny_bind (wpAny_standAt (wpAny_bind ?_))
  show wpAny _ X.A (do let _ ← comprehension (.DictComp kx vx [⟨tg, iter, ifs, 0⟩] scope pos) scope X.env (firstIterPos [⟨tg, iter, ifs, 0⟩] pos) newDict false (eval iter X.env) (some (assign (.Name y py) X.env))) _ _ s
  have h : tDc wi g tt tk tv (own.map (·.2)) σ H (fun x H1 => gName i x σ H1 D.nx) := h
  refine wpAny_bind (thn (dc_core (Qf := fun _ s' => SP X pins D .next s') hc hN I hi ok hg ht hk he hs h fun L C s' m H' I' q hn f => ?_) fun _ s' hq => wpAny_pure (wpAny_pure hq))
  show wpAny _ _ (assign (.Name y py) X.env (.ref L)) _ _ _
  refine wpAny_assign_Name (store_ok2 (v := V.ref L) I' hN hy (.inl hyl) rfl (fun s2 I2 ⟨a, sb, ha⟩ => ?_) (.inr hyl))
  obtain ⟨f0, f1, f2, f3, f4, f5⟩ := f
  have haC : C ≠ a := by
    rcases ha with z | z
    · rw [z]; exact f1
    · exact fun e => f4 y a z e.symm
  refine ⟨m, hn.sameBut sb haC, fun h3 sb3 => ?_⟩
  exact ⟨_, H', I2.turned (t' := s2.toks) (fun b o hb e => (sb3.2 b hb).trans e) f0 f1 f3 f4 f5, q⟩
end
end Vf

set_option Elab.async false
set_option linter.all false
set_option maxRecDepth 100000
set_option maxHeartbeats 2000000
namespace Vf
open PySem PySem.Spec PyProof.Rows L2
/-! ### and, or: one way on, whatever the parts answer -/
section
variable {X : Cx} {e a b : Expr} {rest : List Expr} {pos : Pos}
def tWk (t : TE) : TE := fun σ H Q => ∃ R : VK, t σ H R ∧ ∀ v H', R v H' → Q v H'
def tTWk (t : TT) : TT := fun σ H Q => ∃ R : Bool → Hp → Prop, t σ H R ∧ ∀ c H', R c H' → Q c H'
theorem pe_weak {t : TE} (h : PE X e t) : PE X e (tWk t) := ⟨fun pins s σ H Q I ⟨R, h1, k⟩ =>
  PySem.wpAny_mono (h.run pins s σ H R I h1) (fun v s' ⟨x, H', I', r, q⟩ => ⟨x, H', I', r, k _ _ q⟩) fun _ _ z => z⟩
theorem pt_weak {t : TT} (h : PT X e t) : PT X e (tTWk t) := ⟨fun pins s σ H Q I ⟨R, h1, k⟩ =>
  PySem.wpAny_mono (h.run pins s σ H R I h1) (fun v s' ⟨H', I', q⟩ => ⟨H', I', k _ _ q⟩) fun _ _ z => z⟩
theorem pw_weak {t : TT} (h : PW X e t) : PW X e (tTWk t) := ⟨fun wh pins s σ H Q I ⟨R, h1, k⟩ =>
  PySem.wpAny_mono (h.run wh pins s σ H R I h1) (fun v s' ⟨H', I', q⟩ => ⟨H', I', k _ _ q⟩) fun _ _ z => z⟩
def tAndB (t u : TT) : TT := fun σ H Q => t σ H fun c H1 => ∃ (d : Bool) (R : Hp → Prop), (c = true → u σ H1 fun b H2 => b = d ∧ R H2) ∧ (c = false → R H1) ∧ ∀ H2, R H2 → Q (c && d) H2
def tOrB (t u : TT) : TT := fun σ H Q => t σ H fun c H1 => ∃ (d : Bool) (R : Hp → Prop), (c = false → u σ H1 fun b H2 => b = d ∧ R H2) ∧ (c = true → R H1) ∧ ∀ H2, R H2 → Q (c || d) H2
def tAndVB (t u : TE) : TE := fun σ H Q => t σ H fun x H1 => ∃ (c d : Bool) (R : Hp → Prop), x = .bl c ∧ (c = true → u σ H1 fun b H2 => b = .bl d ∧ R H2) ∧ (c = false → R H1) ∧ ∀ H2, R H2 → Q (.bl (c && d)) H2
def tOrVB (t u : TE) : TE := fun σ H Q => t σ H fun x H1 => ∃ (c d : Bool) (R : Hp → Prop), x = .bl c ∧ (c = false → u σ H1 fun b H2 => b = .bl d ∧ R H2) ∧ (c = true → R H1) ∧ ∀ H2, R H2 → Q (.bl (c || d)) H2
theorem pw_andB {t u : TT} (ha : PT X a t) (hb : PW X (.BoolOp .And (b :: rest) pos) u) : PW X (.BoolOp .And (a :: b :: rest) pos) (tAndB t u) :=
  ⟨fun wh pins s σ H Q I h => (pw_and (pt_weak ha) (pw_weak hb)).run wh pins s σ H Q I ⟨_, h, fun c H1 ⟨d, R, h1, h2, k⟩ => by
    cases c with
    | true => exact iteT ⟨_, h1 rfl, fun b H2 ⟨e, r⟩ => e ▸ k H2 r⟩
    | false => exact iteF (k H1 (h2 rfl))⟩⟩
theorem pw_orB {t u : TT} (ha : PT X a t) (hb : PW X (.BoolOp .Or (b :: rest) pos) u) : PW X (.BoolOp .Or (a :: b :: rest) pos) (tOrB t u) :=
  ⟨fun wh pins s σ H Q I h => (pw_or (pt_weak ha) (pw_weak hb)).run wh pins s σ H Q I ⟨_, h, fun c H1 ⟨d, R, h1, h2, k⟩ => by
    cases c with
    | true => exact iteT (k H1 (h2 rfl))
    | false => exact iteF ⟨_, h1 rfl, fun b H2 ⟨e, r⟩ => e ▸ k H2 r⟩⟩⟩
theorem pe_andB {t u : TE} (ha : PE X a t) (hb : PE X (.BoolOp .And (b :: rest) pos) u) : PE X (.BoolOp .And (a :: b :: rest) pos) (tAndVB t u) :=
  ⟨fun pins s σ H Q I h => (pe_and (pe_weak ha) (pe_weak hb)).run pins s σ H Q I ⟨_, h, fun x H1 ⟨c, d, R, e, h1, h2, k⟩ => ⟨c, e, by
    cases c with
    | true => exact iteT ⟨_, h1 rfl, fun b H2 ⟨e, r⟩ => e ▸ k H2 r⟩
    | false => exact iteF (k H1 (h2 rfl))⟩⟩⟩
theorem pe_orB {t u : TE} (ha : PE X a t) (hb : PE X (.BoolOp .Or (b :: rest) pos) u) : PE X (.BoolOp .Or (a :: b :: rest) pos) (tOrVB t u) :=
  ⟨fun pins s σ H Q I h => (pe_or (pe_weak ha) (pe_weak hb)).run pins s σ H Q I ⟨_, h, fun x H1 ⟨c, d, R, e, h1, h2, k⟩ => ⟨c, e, by
    cases c with
    | true => exact iteT (k H1 (h2 rfl))
    | false => exact iteF ⟨_, h1 rfl, fun b H2 ⟨e, r⟩ => e ▸ k H2 r⟩⟩⟩⟩
/-- a if t else b: one value -/
def tIfB (t : TT) (u v : TE) : TE := fun σ H Q => t σ H fun c H1 => ∃ (x : V) (R : Hp → Prop), (c = true → u σ H1 fun y H2 => y = x ∧ R H2) ∧ (c = false → v σ H1 fun y H2 => y = x ∧ R H2) ∧ ∀ H2, R H2 → Q x H2
theorem pe_ifExpB {c : Expr} {t : TT} {u v : TE} (hc : PT X c t) (ha : PE X a u) (hb : PE X b v) : PE X (.IfExp c a b pos) (tIfB t u v) :=
  ⟨fun pins s σ H Q I h => (pe_ifExp (pt_weak hc) (pe_weak ha) (pe_weak hb)).run pins s σ H Q I ⟨_, h, fun c H1 ⟨x, R, h1, h2, k⟩ => by
    cases c with
    | true => exact iteT ⟨_, h1 rfl, fun y H2 ⟨e, r⟩ => e ▸ k H2 r⟩
    | false => exact iteF ⟨_, h2 rfl, fun y H2 ⟨e, r⟩ => e ▸ k H2 r⟩⟩⟩
/-- a tuple as target, within a comprehension -/
theorem pg_tupK {K : PySem.W.Frag} {es : List Expr} {k : Nat} {t : TGs} (hK : X.K = K) (n : Nat) (hc : X.calm = true) (h : PGs X es t)
    (hn : (assignEach es X.env).length = n := by rfl) (hst : (assignEach es X.env).findIdx? (·.1) = none := by rfl) : PG X (.Tuple es k pos) (gTup K n t) := hK ▸ pg_tup hc h hn hst
/-- a test whose two ways are told by one -/
theorem ite_one {c : Bool} {A B : Prop} (h1 : c = true → A) (h2 : c = false → B) : if c = true then A else B := by
  cases c with
  | true => exact iteT (h1 rfl)
  | false => exact iteF (h2 rfl)
end
/-! ### f(e, .., k = v, ..) of a def with defaults -/
def tFnK (n m : Nat) (sp : Sp) (gV : List V → List V → List V) (E : XK) (t tk : TA) : TE := fun σ H Q => t σ H fun vs H1 => tk σ H1 fun zs H2 => vs.length = n ∧ zs.length = m ∧ sp (gV vs zs) H2 Q E
theorem c_fnK {X : Cx} {CX : CXT} {k j n : Nat} {ps ks : List Str} {sp : Sp} {x : Str} {p pos : Pos} {e : Expr} {es : List Expr} {kws : List Keyword} {t tk : TA} {gV : List V → List V → List V} {E : XK} (O : OkK X.prog X.w X.K X.mg X.base CX k (x, none) ps n ks gV sp) (hr : Room j X.A) (hj : k ≤ j) (kp : PySem.W.keepIn X.K (.ref (He.fAd X.K (x, none))) = true)
    (hm : X.mg x = some (.ref (He.ga X.K x))) (hx : Passes CX X E) (ha : PA X (e :: es) t) (hkw : PK X kws tk) (hg : Gl X x := by rfl) (hall : (backToKw pos (keywordEach kws X.env)).all (·.1.isSome) = true := by rfl) (hks : (backToKw pos (keywordEach kws X.env)).filterMap (·.1) = ks := by rfl)
    (hdb : (x == ("__debug__" : Str)) = false := by decide) (he : starEach (e :: es) X.env = (false, eval e X.env) :: starEach es X.env := by rfl) (hpl : ((backTo pos (starEach (e :: es) X.env)).any (·.1) || (backToKw pos (keywordEach kws X.env)).any (·.1.isNone)) = false := by rfl) :
    PE X (.Call (.Name x p) (e :: es) kws pos) (tFnK n ks.length sp gV E t tk) := by
  obtain ⟨fd, g, F, b⟩ := O.ex
  refine ⟨fun pins s σ H Q I h => wpAny_Call_Name_kw (ld_glob I hg hm ?_ hdb)⟩
  refine PySem.W.callWith_KW (h₀ := X.base) I.ok.mod.kin kp hall (thn (ha.run pos pins s σ H _ I h) fun us s1 ⟨vs, H1, I1, r, q⟩ => thn (hkw.run pos pins s1 σ H1 _ I1 q) fun ws s2 ⟨zs, H2, I2, rz, l1, l2, q2⟩ => ⟨I2.kIn, ?_⟩) hpl he
  rw [hks]
  refine wpAny_call (codeAny_mono (F.run X.A X.stack s2 H2 ⟨us, ks.zip ws⟩ (g us ws) (gV vs zs) Q E (hr.mono hj) I2.env0 (b.to s2 us ws I2.kIn (r.length.symm.trans l1) (rz.length.symm.trans l2)) (b.rel r rz) q2) fun r s' hq => ?_)
  match r, hq with
  | .error e, hq => exact hx pins σ H2 s2 e s' I2 hq
  | .ok (.ret u), hq => exact I2.after hq
end Vf

set_option Elab.async false
set_option linter.all false
set_option maxRecDepth 100000
set_option maxHeartbeats 1000000
namespace Vf
open PySem PySem.Spec PyProof.Rows L2
section
variable {X : Cx}
/-- t == u, two tuples of equal items -/
def rEq0 (K : PySem.W.Frag) : R2 := fun x y H Q => ∃ (a b : Addr) (xs ys : List V), x = .ref a ∧ y = .ref b ∧ SqT K H a xs ∧ SqT K H b ys ∧ Paired (fun z z' => EqI K H z z' true) xs ys ∧ Q (.bl true) H
theorem op_eq0 (hu : X.A.units + 64 < cLine) : OpR X (compareOp .Eq) (rEq0 X.K) := by
  intro pins s σ H x y v u Q I rx ry h
  obtain ⟨a, b, xs, ys, rfl, rfl, ha, hb, hp, q⟩ := h
  cases rx
  cases ry
  have hu1 : X.A.in1.units < cLine := by show X.A.units + 1 < cLine; omega
  obtain ⟨us, r1, p1, _⟩ := I.tuple ha
  obtain ⟨ws, r2, p2, _⟩ := I.tuple hb
  have hs : us.toArray.size = ws.toArray.size := by rw [List.size_toArray, List.size_toArray, ← r1.length, ← r2.length]; exact Paired.length hp
  refine SeqAt.RcAt.tuples (e := fun _ => true) p1 p2 (by omega) (fun j h1 h2 => ?_) _ _ _ _ ?_
  · have := items_at (fun r1 r2 k => EqI.at I k r1 r2 hu1) hp r1 r2 j (by simpa using h1) (by simpa using h2)
    simpa using this
  · rw [hs, show ((List.range (min ws.toArray.size ws.toArray.size)).all fun _ => true) = true from List.all_eq_true.mpr fun _ _ => rfl, beq_self_eq_true]
    exact ⟨.bl true, H, I, rfl, q⟩
end
end Vf

set_option Elab.async false
set_option linter.all false
set_option maxRecDepth 100000
set_option maxHeartbeats 1000000
namespace Vf
open PySem PySem.Spec PyProof.Rows L2
section
variable {X : Cx}
/-- l == m, two lists: of unlike lengths, or of equal items -/
def rEqL0 (K : PySem.W.Frag) : R2 := fun x y H Q => ∃ (a b : Addr) (xs ys : List V), x = .ref a ∧ y = .ref b ∧ SqL K H a xs ∧ SqL K H b ys ∧ ((xs.length ≠ ys.length ∧ Q (.bl false) H) ∨ (Paired (fun z z' => EqI K H z z' true) xs ys ∧ Q (.bl true) H))
theorem op_eqL0 (hu : X.A.units + 64 < cLine) : OpR X (compareOp .Eq) (rEqL0 X.K) := by
  intro pins s σ H x y v u Q I rx ry h
  obtain ⟨a, b, xs, ys, rfl, rfl, ha, hb, h⟩ := h
  cases rx
  cases ry
  have hu1 : X.A.in1.units < cLine := by show X.A.units + 1 < cLine; omega
  obtain ⟨us, r1, p1, _⟩ := I.list ha
  obtain ⟨ws, r2, p2, _⟩ := I.list hb
  rcases h with ⟨hn, q⟩ | ⟨hp, q⟩
  · have hs : (us.toArray.size != ws.toArray.size) = true := by
      rw [List.size_toArray, List.size_toArray, ← r1.length, ← r2.length]
      simpa using hn
    exact SeqAt.RcAt.lists_lengths p1.isList p2.isList hs (by omega) _ _ _ _ ⟨.bl false, H, I, rfl, q⟩
  · have hs : us.toArray.size = ws.toArray.size := by rw [List.size_toArray, List.size_toArray, ← r1.length, ← r2.length]; exact Paired.length hp
    refine SeqAt.RcAt.lists (e := fun _ => true) p1.isList p2.isList hs (by omega) (fun j h1 h2 => ?_) _ _ _ _ ?_
    · have := items_at (fun r1 r2 k => EqI.at I k r1 r2 hu1) hp r1 r2 j (by simpa using h1) (by simpa using h2)
      simpa using this
    · rw [show ((List.range us.toArray.size).all fun _ => true) = true from List.all_eq_true.mpr fun _ _ => rfl]
      exact ⟨.bl true, H, I, rfl, q⟩
/-- l == [] -/
def rEqNil (K : PySem.W.Frag) : R2 := fun x y H Q => ∃ (a b : Addr) (xs : List V), x = .ref a ∧ y = .ref b ∧ SqL K H a xs ∧ SqL K H b [] ∧ Q (.bl xs.isEmpty) H
theorem op_eqNil (hu : X.A.units + 64 < cLine) : OpR X (compareOp .Eq) (rEqNil X.K) := by
  intro pins s σ H x y v u Q I rx ry h
  obtain ⟨a, b, xs, rfl, rfl, ha, hb, q⟩ := h
  refine op_eqL0 hu _ _ _ _ _ _ _ _ _ I rx ry ⟨a, b, xs, [], rfl, rfl, ha, hb, ?_⟩
  cases xs with
  | nil => exact .inr ⟨.nil, q⟩
  | cons x xs => exact .inl ⟨(by simp), q⟩
end
end Vf

set_option Elab.async false
set_option linter.all false
set_option maxRecDepth 100000
set_option maxHeartbeats 1000000
namespace Vf
open PySem PySem.Spec PyProof.Rows L2
section
variable {X : Cx}
/-- d.copy() -/
def rDCopy : V → List V → Hp → VK → Prop := fun x vs H Q => ∃ (a : Addr) (kvs : List (Key × V)), x = .ref a ∧ vs = [] ∧ H a = some (.dK kvs) ∧ ∀ p, H p = none → Q (.ref p) (upd H p (.dK kvs))
theorem mt_dcopy : MtR X "dict.copy" rDCopy := by
  intro pins s σ H x vs v us Q I rx rv h
  obtain ⟨a, kvs, rfl, rfl, ha, q⟩ := h
  cases rx
  cases rv
  obtain ⟨hz, hsys, vs, rel, dof⟩ := dk_of I.hok ha
  refine call_meetsIn F.slot_dict_copy dof.typeIs F.entry_dict_copy (F.args_dict_copy_1 _) (meets_dict_copy (mixKind X.prog X.w) a hsys) ⟨vs, dof, (by rw [← KV.length rel]; exact hz), fun h' d1 d2 keep => ?_⟩
  exact ⟨.ref _, upd H _ (.dK kvs), I.laid (t' := s.toks) keep (Nat.le_refl _) (show ObjOk X.prog X.w _ _ _ (.dK kvs) from ⟨hz, beq_eq_false_iff_ne.mpr (Ne.symm (Nat.ne_of_lt I.big)), vs, rel, d1⟩), rfl, q _ (I.hok.fresh (Nat.le_refl _))⟩
/-- text * int -/
def strN (z : Str) (n : Nat) : Str := ⟨(List.replicate n z.cps).foldl (· ++ ·) #[]⟩
def rMulS : R2 := fun x y H Q => ∃ (z : Str) (k : Nat), x = .str z ∧ y = .int (k : Int) ∧ 2 ≤ k ∧ k ≤ 100 ∧ 1 ≤ z.length ∧ z.length ≤ 100 ∧ (strN z k).length ≤ sizeLine ∧ Q (.str (strN z k)) H
theorem op_mulS : OpR X (binaryOp .Mult) rMulS := by
  intro pins s σ H x y v u Q I rx ry h
  obtain ⟨z, k, rfl, rfl, k2, k100, z1, z100, zl, q⟩ := h
  obtain ⟨t, rfl⟩ := rx
  obtain ⟨t', rfl⟩ := ry
  have hl : z.length * ((k : Int)).toNat ≤ 10000 := by
    rw [Int.toNat_natCast]
    exact Nat.mul_le_mul z100 k100
  refine PySem.P.mul_str ?_ (fun _ _ => ?_) (fun _ _ => ?_) ?_
  · rw [decide_eq_false (by omega), decide_eq_false (by omega)]
    rfl
  · have : ((2 ^ 63 - 1 : Int)) / (k : Int) ≥ ((2 ^ 63 - 1 : Int)) / 100 := by
      refine Int.le_ediv_of_mul_le (by omega) ?_
      have h1 : ((2 ^ 63 - 1 : Int)) / 100 * (k : Int) ≤ ((2 ^ 63 - 1 : Int)) / 100 * 100 := Int.mul_le_mul_of_nonneg_left (by omega) (by decide)
      exact Int.le_trans h1 (by decide)
    have h2 : ((2 ^ 63 - 1 : Int)) / 100 > 100 := by decide
    omega
  · show decide _ = false
    exact decide_eq_false (by have : (10000 : Nat) ≤ sizeLine := by decide
                              omega)
  · rw [if_neg (by omega), if_neg (by
      have e1 : ((k : Int) == 1) = false := beq_eq_false_iff_ne.mpr (by omega)
      have e2 : (z.length == 0) = false := beq_eq_false_iff_ne.mpr (by omega)
      rw [e1, e2]
      decide)]
    rw [Int.toNat_natCast]
    exact ⟨zl, .str _, H, I.tok _, ⟨_, rfl⟩, q⟩
/-- x != y: of flat values, of lists or tuples of equal items, of dicts of equal items -/
def rNeK (K : PySem.W.Frag) : R2 := fun x y H Q => (flatV x = true ∧ x = y ∧ Q (.bl false) H) ∨ rNe0 K x y H Q ∨ rNe0D K x y H Q
theorem op_neK (hu : X.A.units + 64 < cLine) : OpR X (compareOp .NotEq) (rNeK X.K) := by
  intro pins s σ H x y v u Q I rx ry h
  rcases h with ⟨hf, rfl, q⟩ | h | h
  · refine op_ne _ _ _ _ _ _ _ _ _ I rx ry ⟨?_, ?_⟩
    · cases x <;> first | rfl | cases hf
    · rw [decide_eq_true rfl]
      exact q
  · exact op_ne0 hu _ _ _ _ _ _ _ _ _ I rx ry h
  · exact op_ne0D hu _ _ _ _ _ _ _ _ _ I rx ry h
end
end Vf

set_option Elab.async false
set_option linter.all false
set_option maxRecDepth 100000
set_option maxHeartbeats 2000000
namespace K7
open PySem PySem.Spec PyProof.Rows L2 Vf
def top (i : Nat) : Stmt := PySem.Challenge.pw_seenshares_k07_program_refusals.main.body.getD i (.Pass ⟨0, 0, 0, 0⟩)
abbrev OkF (P : Program) (w : World) (K : PySem.W.Frag) (mg : Str → Option Value) (base : Heap) (CX : CXT) (k : Nat) (x : Str) (ps : List Str) (sp : Sp) : Prop := OkD P w K mg base CX k (x, none) ps [] sp
abbrev OkM (P : Program) (w : World) (K : PySem.W.Frag) (mg : Str → Option Value) (base : Heap) (CX : CXT) (k : Nat) (c m : Str) (ps : List Str) (sp : Sp) : Prop := OkD P w K mg base CX k (c, some m) ps [] sp
abbrev FnD (K : PySem.W.Frag) (p : Pl) (x q : Str) (st : Stmt) (fd : FuncData) : Prop := FunD K x q (defArgs st) (defBody st) (defScope st) [] [] (He.fAd K p) fd
abbrev CP (K : PySem.W.Frag) : Addr := He.ga K "Place"
abbrev CBP (K : PySem.W.Frag) : Addr := He.ga K "BadPlace"
def KEPT : List Str := ["any", "closed", "end", "open", "to"]
def LET : Str := "abcdefghijklmnopqrstuvwxyz"
structure PTxt (K : PySem.W.Frag) (mg : Str → Option Value) : Prop where
  z_int : mg "int" = none
  z_bool : mg "bool" = none
  z_str : mg "str" = none
  z_len : mg "len" = none
  z_all : mg "all" = none
  z_isinstance : mg "isinstance" = none
  i_LONGEST_NAME : ∃ t, mg "LONGEST_NAME" = some (.int 8 t)
  i_MOST_TICKS : ∃ t, mg "MOST_TICKS" = some (.int 6 t)
  i_LETTERS : ∃ t, mg "LETTERS" = some (.str LET t)
  g_KEPT_WORDS : mg "KEPT_WORDS" = some (.ref (He.ga K "KEPT_WORDS"))
  t_KEPT : kTup K (He.ga K "KEPT_WORDS") KEPT = true
  g_is_integer : mg "is_integer" = some (.ref (He.ga K "is_integer"))
  g_is_integer_from : mg "is_integer_from" = some (.ref (He.ga K "is_integer_from"))
  g_is_flag : mg "is_flag" = some (.ref (He.ga K "is_flag"))
  g_is_name : mg "is_name" = some (.ref (He.ga K "is_name"))
  g_Place : mg "Place" = some (.ref (He.ga K "Place"))
  g_BadPlace : mg "BadPlace" = some (.ref (He.ga K "BadPlace"))
  c_Place : Cls K (He.ga K "Place")
  m_Place : Mk K (He.ga K "Place") (He.fAd K ("Place", some "__init__"))
  nN : NoAttr K (He.ga K "Place") "name"
  nL : NoAttr K (He.ga K "Place") "least"
  nM : NoAttr K (He.ga K "Place") "most"
  nT : NoAttr K (He.ga K "Place") "let"
  x_BadPlace : ExI K "BadPlace" "why"
  hn : PySem.W.specialIn K (.builtin "object.__class__") "__get__" = some (some (.builtin "getset_descriptor.__get__"))
  ht : PySem.W.takesIn K (.builtin "object.__class__") = some true
  ha : PySem.W.findIn K (.ref (He.ga K "Place")) "__class__" = some (some (.builtin "object.__class__"))
  hm : PySem.W.mroIn K (He.ga K "Place") (.type "object") = some true
  k1 : PySem.W.kitOne K (.ref (He.ga K "Place")) (.ref (He.ga K "Place")) = some true
/-! ### a place's fields -/
def plf (z : Str) (l m : Int) (b : Bool) : List (Str × V) := putF "let" (.bl b) (putF "most" (.int m) (putF "least" (.int l) (putF "name" (.str z) [])))
theorem plf_name (z : Str) (l m : Int) (b : Bool) : (plf z l m b).lookup ("name" : Str) = some (.str z) := by
  unfold plf
  rw [lookup_putF, if_neg (by decide +kernel), lookup_putF, if_neg (by decide +kernel), lookup_putF, if_neg (by decide +kernel), lookup_putF, if_pos rfl]
theorem plf_least (z : Str) (l m : Int) (b : Bool) : (plf z l m b).lookup ("least" : Str) = some (.int l) := by
  unfold plf
  rw [lookup_putF, if_neg (by decide +kernel), lookup_putF, if_neg (by decide +kernel), lookup_putF, if_pos rfl]
theorem plf_most (z : Str) (l m : Int) (b : Bool) : (plf z l m b).lookup ("most" : Str) = some (.int m) := by
  unfold plf
  rw [lookup_putF, if_neg (by decide +kernel), lookup_putF, if_pos rfl]
theorem plf_let (z : Str) (l m : Int) (b : Bool) : (plf z l m b).lookup ("let" : Str) = some (.bl b) := by
  unfold plf
  rw [lookup_putF, if_pos rfl]
/-- at p a place -/
def PlA (C : Addr) (H : Hp) (p : Addr) (z : Str) (l m : Int) (b : Bool) : Prop := ∃ dx, H p = some (.ins C dx (plf z l m b))
theorem PlA.ext {C : Addr} {H H' : Hp} {p : Addr} {z : Str} {l m : Int} {b : Bool} (h : PlA C H p z l m b) (s : Same H H') : PlA C H' p z l m b := by
  obtain ⟨dx, e⟩ := h
  exact ⟨dx, s _ _ e⟩
theorem same_new {H : Hp} {p : Addr} {o : HO} (h : H p = none) : Same H (upd H p o) := fun b u e => by
  rw [upd_ne (ne_of_none e h)]
  exact e
theorem same_make {H : Hp} {x dx : Addr} {o1 o2 : HO} (nx : H x = none) (ndx : H dx = none) : Same H (upd (upd H dx o1) x o2) := fun b o e => by
  rw [upd_ne (ne_of_none e nx), upd_ne (ne_of_none e ndx)]
  exact e
theorem same_make2 {H : Hp} {x dx : Addr} {o1 o2 o3 : HO} (nx : H x = none) (ndx : H dx = none) : Same H (upd (upd (upd H dx o1) x o2) x o3) := by
  rw [upd_upd]
  exact same_make nx ndx
theorem same_app {H H1 H2 : Hp} {D : Addr} {o : HO} (s : Same H H1) (s2 : Same H1 H2) (nD : H D = none) : Same H (upd H2 D o) := fun b u e => by
  rw [upd_ne (ne_of_none e nD)]
  exact s2 _ _ (s _ _ e)
section
variable {P : Program} {w : World} {K : PySem.W.Frag} {mg : Str → Option Value} {base : Heap}
theorem okd {CX : CXT} {k : Nat} {p : Pl} {x q : Str} {st : Stmt} {fd : FuncData} {ps : List Str} {sp : Sp} (F : FnD K p x q st fd) (ok : FnOk P w K mg base CX k (He.fAd K p) fd ps sp)
    (h : ∀ (kV doc pm : Value) (an : Option Addr) (cdv ct : Value) (us : List Value), us.length = ps.length → bindArgs (PySem.W.fnOf x q (defArgs st) (defBody st) (defScope st) .none kV doc pm an cdv ct) ⟨us, []⟩ = pure (ps.zip us)) : OkD P w K mg base CX k p ps [] sp :=
  ⟨⟨fd, [], ok, FunD.bindsN F h, .nil⟩, F.kp⟩
abbrev s_is_integer : Stmt := top 10
theorem sc_is_integer : FnScope ["x"] ["x"] (defScope s_is_integer) := ⟨rfl, rfl, rfl, by decide +kernel, rfl, by decide +kernel, by decide +kernel⟩
-- slots: 0 x
theorem ok_is_integer {fd : FuncData} (F : FnD K ("is_integer", none) "is_integer" "is_integer" s_is_integer fd) (T : PTxt K mg) : OkF P w K mg base CX0 1 "is_integer" ["x"] spIsInt := by
  refine okd F (F.ok sc_is_integer (fun vs H Q E h => ?_) fun cdv A outer s H vs Q E hr h => ⟨t_isint K, PSs.nox ?_, run_isint h⟩) fun _ _ _ _ _ _ us hl => match us, hl with | [_], _ => rfl
  · obtain ⟨x, rfl, _⟩ := h
    rfl
  · exact (pss_one (ps_ret (pe_and (pe_callB (id := "isinstance") call_isi (by rfl) T.z_isinstance (by decide +kernel) (pa_cons (pv 0) (pa_cons (pe_ty (n := "int") T.z_int (by decide +kernel)) pa_nil))) (pe_one (pe_not (pe_callB (id := "isinstance") call_isi (by rfl) T.z_isinstance (by decide +kernel) (pa_cons (pv 0) (pa_cons (pe_ty (n := "bool") T.z_bool (by decide +kernel)) pa_nil))))))))
abbrev s_is_integer_from : Stmt := top 11
theorem sc_is_integer_from : FnScope ["x", "low", "high"] ["x", "low", "high"] (defScope s_is_integer_from) := ⟨rfl, rfl, rfl, by decide +kernel, rfl, by decide +kernel, by decide +kernel⟩
-- slots: 0 x, 1 low, 2 high
/-- l is no integer from lo to hi -/
def NotFr (H : Hp) (l : V) (lo hi : Int) : Prop := (∃ n, l = .int n ∧ ¬ (lo ≤ n ∧ n ≤ hi)) ∨ Odd H l
def spFr : Sp := fun vs H Q _ => ∃ (x : V) (lo hi : Int), vs = [x, .int lo, .int hi] ∧ ((∃ n, x = .int n ∧ lo ≤ n ∧ n ≤ hi ∧ Q (.bl true) H) ∨ (NotFr H x lo hi ∧ Q (.bl false) H))
theorem ok_is_integer_from {fd : FuncData} (F : FnD K ("is_integer_from", none) "is_integer_from" "is_integer_from" s_is_integer_from fd) (T : PTxt K mg) (O_is_integer : OkF P w K mg base CX0 1 "is_integer" ["x"] spIsInt) : OkF P w K mg base CX0 2 "is_integer_from" ["x", "low", "high"] spFr := by
  refine okd F (F.ok sc_is_integer_from (fun vs H Q E h => ?_) fun cdv A outer s H vs Q E hr h => ?_) fun _ _ _ _ _ _ us hl => match us, hl with | [_, _, _], _ => rfl
  · obtain ⟨x, lo, hi, rfl, _⟩ := h
    rfl
  · obtain ⟨x, lo, hi, rfl, h⟩ := h
    refine ⟨_, PSs.nox (pss_one (ps_ret (pe_and (c_fn O_is_integer hr (by decide) T.g_is_integer pass0 (pa_cons (pv 0) pa_nil)) (pe_one (pe_chain op_le op_le (pv 1) (pv 0) (pv 2)))))), ?_⟩
    rcases h with ⟨n, rfl, l1, l2, q⟩ | ⟨⟨n, rfl, hn⟩ | o, q⟩
    · refine ⟨_, rfl, _, rfl, .inl ⟨⟨n, rfl⟩, true, rfl, iteT ?_⟩⟩
      refine ⟨_, rfl, _, rfl, lo, n, rfl, rfl, true, congrArg V.bl (decide_eq_true l1), iteT ⟨_, rfl, n, hi, rfl, rfl, ?_⟩⟩
      show Q (.bl (decide (n ≤ hi))) H
      rw [decide_eq_true l2]
      exact q
    · refine ⟨_, rfl, _, rfl, .inl ⟨⟨n, rfl⟩, true, rfl, iteT ?_⟩⟩
      by_cases l1 : lo ≤ n
      · have l2 : ¬ n ≤ hi := fun z => hn ⟨l1, z⟩
        refine ⟨_, rfl, _, rfl, lo, n, rfl, rfl, true, congrArg V.bl (decide_eq_true l1), iteT ⟨_, rfl, n, hi, rfl, rfl, ?_⟩⟩
        show Q (.bl (decide (n ≤ hi))) H
        rw [decide_eq_false l2]
        exact q
      · exact ⟨_, rfl, _, rfl, lo, n, rfl, rfl, false, congrArg V.bl (decide_eq_false l1), iteF q⟩
    · exact ⟨_, rfl, _, rfl, .inr ⟨o, false, rfl, iteF q⟩⟩
abbrev s_is_flag : Stmt := top 12
theorem sc_is_flag : FnScope ["x"] ["x"] (defScope s_is_flag) := ⟨rfl, rfl, rfl, by decide +kernel, rfl, by decide +kernel, by decide +kernel⟩
-- slots: 0 x
def spFlag : Sp := fun vs H Q _ => ∃ x, vs = [x] ∧ ((∃ b, x = .bl b ∧ Q (.bl true) H) ∨ (OddB H x ∧ Q (.bl false) H))
theorem ok_is_flag {fd : FuncData} (F : FnD K ("is_flag", none) "is_flag" "is_flag" s_is_flag fd) (T : PTxt K mg) : OkF P w K mg base CX0 1 "is_flag" ["x"] spFlag := by
  refine okd F (F.ok sc_is_flag (fun vs H Q E h => ?_) fun cdv A outer s H vs Q E hr h => ?_) fun _ _ _ _ _ _ us hl => match us, hl with | [_], _ => rfl
  · obtain ⟨x, rfl, _⟩ := h
    rfl
  · obtain ⟨x, rfl, h⟩ := h
    refine ⟨_, PSs.nox (pss_one (ps_ret (pe_callB (id := "isinstance") call_isi (by rfl) T.z_isinstance (by decide +kernel) (pa_cons (pv 0) (pa_cons (pe_ty (n := "bool") T.z_bool (by decide +kernel)) pa_nil))))), ?_⟩
    rcases h with ⟨b, rfl, q⟩ | ⟨o, q⟩
    · exact ⟨_, rfl, .bl b, .ty "bool", .type "bool", .type "bool", true, rfl, .ty _, .base (.bl _), kit_ty (by decide +kernel), q⟩
    · obtain ⟨n, t1, k1⟩ := oddB_ty K o
      exact ⟨_, rfl, x, .ty "bool", .type n, .type "bool", false, rfl, .ty _, t1, kit_ty k1, q⟩
abbrev s_is_name : Stmt := top 13
theorem sc_is_name : FnScope ["x", "letter"] ["x"] (defScope s_is_name) := ⟨rfl, rfl, rfl, by decide +kernel, rfl, by decide +kernel, by decide +kernel⟩
-- slots: 0 x, 1 letter
/-- a text that is a name -/
def nmB (z : Str) : Bool := decide (1 ≤ z.length) && (decide (z.length ≤ 8) && (!inV (.str z) (KEPT.map V.str) && z.cps.toList.all fun c => decide (c ∈ LET.cps.toList)))
def spName : Sp := fun vs H Q _ => ∃ x, vs = [x] ∧ ((∃ z, x = .str z ∧ z.length ≤ sizeLine ∧ ∀ H', Same H H' → Q (.bl (nmB z)) H') ∨ (OddS H x ∧ Q (.bl false) H))
theorem ok_is_name {fd : FuncData} (F : FnD K ("is_name", none) "is_name" "is_name" s_is_name fd) (T : PTxt K mg) : OkF P w K mg base CX0 1 "is_name" ["x"] spName := by
  refine okd F (F.ok sc_is_name (fun vs H Q E h => ?_) fun cdv A outer s H vs Q E hr h => ?_) fun _ _ _ _ _ _ us hl => match us, hl with | [_], _ => rfl
  · obtain ⟨x, rfl, _⟩ := h
    rfl
  · obtain ⟨x, rfl, h⟩ := h
    refine ⟨_, PSs.nox (pss_cons (ps_if (PW.pt (pw_or (pt_not (pt_val (pe_callB (id := "isinstance") call_isi (by rfl) T.z_isinstance (by decide +kernel) (pa_cons (pv 0) (pa_cons (pe_ty (n := "str") T.z_str (by decide +kernel)) pa_nil))))) (pw_or1 (pt_not (pt_chain op_le op_le pe_int (pe_callB call_len_str (by rfl) T.z_len (by decide +kernel) (pa_cons (pv 0) pa_nil)) (c_gint T.i_LONGEST_NAME)))))) (pss_one (ps_ret pe_bl))
  pss_nil)
  (pss_one (ps_ret (pe_and (pe_cmpR op_notIn_seq (pv 0) (pe_cl T.g_KEPT_WORDS) rfl) (pe_one (pe_callB (id := "all") (cr_all rfl) (by rfl) T.z_all (by decide +kernel) (pa_cons (pe_lc (own := [("letter", 1)]) (g := gName 1) (tt := tYes) (by rfl) sc_is_name.nd (pi_str (pv 0)) (blkOk_by (N := ["x", "letter"]) (sc := defScope s_is_name) (by decide +kernel)) (fun _ _ _ _ _ => (pg_name (i := 1) sc_is_name.nd rfl (Or.inl rfl))) (fun _ _ _ _ _ => pts_nil) (fun _ _ _ _ _ => (pe_cmpR op_in_str (pv 1) (c_gstr T.i_LETTERS) rfl))) pa_nil))))))), ?_⟩
    rcases h with ⟨z, rfl, hz, k⟩ | ⟨o, q⟩
    · refine ⟨_, rfl, .str z, .ty "str", .type "str", .type "str", true, rfl, .ty _, .base (.str _), kit_ty (by decide +kernel), true, rfl, iteF ?_⟩
      have go : ∀ b : Bool, nmB z = b → ∀ H', Same H H' → Q (.bl b) H' := fun b e H' s => e ▸ k H' s
      by_cases l1 : (1 : Int) ≤ z.length
      · by_cases l2 : (z.length : Int) ≤ 8
        · refine ⟨_, rfl, z, rfl, hz, 1, z.length, rfl, rfl, true, congrArg V.bl (decide_eq_true l1), iteT ⟨z.length, 8, rfl, rfl, true, congrArg V.bl (decide_eq_true l2), iteF ?_⟩⟩
          refine ⟨_, rfl, _, _, rfl, .inr (kTup_ok T.t_KEPT _), rfl, by decide +kernel, _, rfl, ?_⟩
          have e1 : decide (1 ≤ z.length) = true := decide_eq_true (by omega)
          have e2 : decide (z.length ≤ 8) = true := decide_eq_true (by omega)
          unfold nmB at go
          rw [e1, e2, Bool.true_and, Bool.true_and] at go
          show if (!inV (.str z) (KEPT.map V.str)) = true then _ else _
          cases hv : inV (.str z) (KEPT.map V.str) with
          | true =>
            rw [hv] at go
            exact iteF (go false rfl _ fun _ _ h => h)
          | false =>
            rw [hv] at go
            refine iteT ?_
            refine ⟨_, rfl, z, rfl, fun D nD => lc_it walk_str (fun i H' => Same H H' ∧ H' D = some (.lst ((z.cps.toList.take i).map fun c => V.bl (decide (c ∈ LET.cps.toList))))) ⟨same_new nD, upd_same⟩ (fun _ _ _ _ => trivial) ?_ ?_⟩
            · rintro i x H1 H' hi ⟨sg, hD⟩ ⟨rfl, c, hc, rfl⟩
              have hc2 : z.cps.toList[i]? = some c := by simpa using hc
              refine ⟨rfl, _, rfl, _, _, rfl, rfl, ?_⟩
              refine ⟨_, hD, ?_, same_app sg (Same.refl _) nD, ?_⟩
              · rw [List.length_map, List.length_take]
                have hl : z.cps.toList.length = z.length := by simp [Str.length]
                have : min i z.cps.toList.length < 9 := by omega
                exact Nat.lt_of_lt_of_le this (by decide)
              · rw [upd_same, sign_in, List.take_add_one, List.map_append, hc2]
                rfl
            · rintro H' ⟨sg, hD⟩
              have hD2 : H' D = some (.lst ((z.cps.toList.map fun c => decide (c ∈ LET.cps.toList)).map V.bl)) := by
                rw [hD, List.map_map, List.take_of_length_le (by simp)]
                rfl
              refine ⟨D, _, rfl, SqL.of hD2, go _ ?_ _ sg⟩
              rw [List.all_map]
              rfl
        · refine ⟨_, rfl, z, rfl, hz, 1, z.length, rfl, rfl, true, congrArg V.bl (decide_eq_true l1), iteT ⟨z.length, 8, rfl, rfl, false, congrArg V.bl (decide_eq_false l2), iteT ?_⟩⟩
          refine go false ?_ _ fun _ _ h => h
          unfold nmB
          rw [show decide (z.length ≤ 8) = false from decide_eq_false (by omega)]
          simp
      · refine ⟨_, rfl, z, rfl, hz, 1, z.length, rfl, rfl, false, congrArg V.bl (decide_eq_false l1), iteF ⟨false, rfl, iteT ?_⟩⟩
        refine go false ?_ _ fun _ _ h => h
        unfold nmB
        rw [show decide (1 ≤ z.length) = false from decide_eq_false (by omega)]
        simp
    · obtain ⟨n, t1, k1⟩ := oddS_ty K o
      exact ⟨_, rfl, x, .ty "str", .type n, .type "str", false, rfl, .ty _, t1, kit_ty k1, false, rfl, iteT q⟩
end
end K7

set_option Elab.async false
set_option linter.all false
set_option pp.deepTerms.threshold 14
set_option pp.maxSteps 2500
set_option maxRecDepth 100000
set_option maxHeartbeats 2000000
namespace K7
open PySem PySem.Spec PyProof.Rows L2 Vf
section
variable {P : Program} {w : World} {K : PySem.W.Frag} {mg : Str → Option Value} {base : Heap}
abbrev s_BadPlace_init : Stmt := inClass (top 3) 0
theorem sc_BadPlace_init : FnScope ["self", "why"] ["self", "why"] (defScope s_BadPlace_init) := ⟨rfl, rfl, rfl, by decide +kernel, rfl, by decide +kernel, by decide +kernel⟩
-- slots: 0 self, 1 why
theorem ok_BadPlace_init {fd : FuncData} (F : FnD K ("BadPlace", some "__init__") "__init__" "BadPlace.__init__" s_BadPlace_init fd) : OkD P w K mg base CX0 1 ("BadPlace", some "__init__") ["self", "why"] [] (spExI K (CBP K) "why") := by
  refine okd F (F.ok sc_BadPlace_init (fun vs H Q E h => ?_) fun cdv A outer s H vs Q E hr h => ⟨tOst K "why" (tVar 0) (tVar 1), PSs.nox ?_, run_exI h⟩) fun _ _ _ _ _ _ us hl => match us, hl with | [_, _], _ => rfl
  · obtain ⟨a, v, rfl, _⟩ := h
    rfl
  · exact pss_one (ps_ost (pv 0) (pv 1))
/-- what a place is made of -/
inductive PlIn (H : Hp) (x l m t : V) : Str → Prop where
  | name (h : (∃ z, x = .str z ∧ z.length ≤ sizeLine ∧ nmB z = false) ∨ OddS H x) : PlIn H x l m t "name"
  | least (z : Str) (hx : x = .str z) (hz : z.length ≤ sizeLine) (hn : nmB z = true) (h : NotFr H l 1 6) : PlIn H x l m t "least"
  | most (z : Str) (hx : x = .str z) (hz : z.length ≤ sizeLine) (hn : nmB z = true) (n : Int) (hl : l = .int n) (n1 : 1 ≤ n) (n2 : n ≤ 6) (hm : m ≠ .non) (h : NotFr H m n 6) : PlIn H x l m t "most"
  | let_ (z : Str) (hx : x = .str z) (hz : z.length ≤ sizeLine) (hn : nmB z = true) (n : Int) (hl : l = .int n) (n1 : 1 ≤ n) (n2 : n ≤ 6) (hm : m = .non ∨ ∃ k : Int, m = .int k ∧ n ≤ k ∧ k ≤ 6) (h : OddB H t) : PlIn H x l m t "let"
/-- the parts of a place that is made -/
def PlOk (x l m t : V) (z : Str) (n k : Int) (b : Bool) : Prop := x = .str z ∧ z.length ≤ sizeLine ∧ nmB z = true ∧ l = .int n ∧ 1 ≤ n ∧ n ≤ k ∧ k ≤ 6 ∧ (m = .int k ∨ (m = .non ∧ k = n)) ∧ t = .bl b
theorem Odd.same {H H' : Hp} {x : V} (o : Odd H x) (s : Same H H') : Odd H' x := o.ext s
theorem oddB_ext {H H' : Hp} {x : V} (o : OddB H x) (s : Same H H') : OddB H' x := by
  cases o with
  | str z => exact .str z
  | non => exact .non
  | int i => exact .int i
  | tup h => exact .tup (s _ _ h)
  | lst h => exact .lst (s _ _ h)
  | dic h => exact .dic (s _ _ h)
theorem NotFr.ext {H H' : Hp} {x : V} {lo hi : Int} (o : NotFr H x lo hi) (s : Same H H') : NotFr H' x lo hi := o.elim .inl fun o => .inr (o.ext s)
def spPlI (K : PySem.W.Frag) : Sp := fun vs H Q E => ∃ (p dx : Addr) (x l m t : V), vs = [.ref p, x, l, m, t] ∧ H p = some (.ins (CP K) dx []) ∧
  ((∃ w, PlIn H x l m t w ∧ ∀ H' d, Same H H' → H' d = none → E (.ref (CBP K)) (some d) (upd H' d (.xd [("why", .str w)]))) ∨
   (∃ z n k b, PlOk x l m t z n k b ∧ ∀ H', Same H H' → Q .non (upd H' p (.ins (CP K) dx (plf z n k b)))))
abbrev s_Place_init : Stmt := inClass (top 18) 0
theorem sc_Place_init : FnScope ["self", "name", "least", "most", "let"] ["self", "name", "least", "most", "let"] (defScope s_Place_init) := ⟨rfl, rfl, rfl, by decide +kernel, rfl, by decide +kernel, by decide +kernel⟩
-- slots: 0 self, 1 name, 2 least, 3 most, 4 let
theorem ok_Place_init {fd : FuncData} (F : FunD K "__init__" "Place.__init__" (defArgs s_Place_init) (defBody s_Place_init) (defScope s_Place_init) [.int 1, .non] [("let", .bl true)] (He.fAd K ("Place", some "__init__")) fd) (T : PTxt K mg)
    (O_is_name : OkF P w K mg base CX0 1 "is_name" ["x"] spName) (O_is_integer_from : OkF P w K mg base CX0 2 "is_integer_from" ["x", "low", "high"] spFr) (O_is_flag : OkF P w K mg base CX0 1 "is_flag" ["x"] spFlag)
    (O_BadPlace_init : OkD P w K mg base CX0 1 ("BadPlace", some "__init__") ["self", "why"] [] (spExI K (CBP K) "why")) :
    FnOk P w K mg base (L2.CX P w) 4 (He.fAd K ("Place", some "__init__")) fd ["self", "name", "least", "most", "let"] (spPlI K) := by
  refine F.ok sc_Place_init (fun vs H Q E h => ?_) fun cdv A outer s H vs Q E hr h => ?_
  · obtain ⟨p, dx, x, l, m, t, rfl, _⟩ := h
    rfl
  · obtain ⟨p, dx, x, l, m, t, rfl, hp, h⟩ := h
    refine ⟨_, (pss_cons (ps_if (pt_not (pt_val (c_fn O_is_name hr (by decide) T.g_is_name pass0 (pa_cons (pv 1) pa_nil)))) (pss_one (c_raise T.x_BadPlace O_BadPlace_init hr (by decide) T.g_BadPlace (takes_of rfl rfl rfl rfl) (pa_cons pe_str pa_nil)))
  pss_nil)
  (pss_cons (ps_if (pt_not (pt_val (c_fn O_is_integer_from hr (by decide) T.g_is_integer_from pass0 (pa_cons (pv 2) (pa_cons pe_int (pa_cons (c_gint T.i_MOST_TICKS) pa_nil)))))) (pss_one (c_raise T.x_BadPlace O_BadPlace_init hr (by decide) T.g_BadPlace (takes_of rfl rfl rfl rfl) (pa_cons pe_str pa_nil)))
  pss_nil)
  (pss_cons (ps_if (PW.pt (pw_and (pt_cmpR op_notN (pv 3) pe_non (nomark _)) (pw_and1 (pt_not (pt_val (c_fn O_is_integer_from hr (by decide) T.g_is_integer_from pass0 (pa_cons (pv 3) (pa_cons (pv 2) (pa_cons (c_gint T.i_MOST_TICKS) pa_nil))))))))) (pss_one (c_raise T.x_BadPlace O_BadPlace_init hr (by decide) T.g_BadPlace (takes_of rfl rfl rfl rfl) (pa_cons pe_str pa_nil)))
  pss_nil)
  (pss_cons (ps_if (pt_not (pt_val (c_fn O_is_flag hr (by decide) T.g_is_flag pass0 (pa_cons (pv 4) pa_nil)))) (pss_one (c_raise T.x_BadPlace O_BadPlace_init hr (by decide) T.g_BadPlace (takes_of rfl rfl rfl rfl) (pa_cons pe_str pa_nil)))
  pss_nil)
  (pss_cons (ps_fld (pv 0) (pv 1) rfl)
  (pss_cons (ps_fld (pv 0) (pv 2) rfl)
  (pss_cons (ps_fld (pv 0) (pe_ifExp (pt_cmpR op_isN (pv 3) pe_non (nomark _)) (pv 2) (pv 3)) rfl)
  (pss_one (ps_fld (pv 0) (pv 4) rfl))))))))), ?_⟩
    rcases h with ⟨w, hi, k⟩ | ⟨z, n, kk, b, ⟨rfl, hz, hn, rfl, n1, n2, n3, hm, rfl⟩, k⟩
    · cases hi with
      | name h =>
        rcases h with ⟨z, rfl, hz, hn⟩ | o
        · refine ⟨_, rfl, _, rfl, .inl ⟨z, rfl, hz, fun H1 s1 => ⟨false, by rw [hn], iteT ⟨_, rfl, fun d hd => k H1 d s1 hd⟩⟩⟩⟩
        · exact ⟨_, rfl, _, rfl, .inr ⟨o, false, rfl, iteT ⟨_, rfl, fun d hd => k H d (Same.refl _) hd⟩⟩⟩
      | least z hx hz hn h =>
        subst hx
        refine ⟨_, rfl, _, rfl, .inl ⟨z, rfl, hz, fun H1 s1 => ⟨true, by rw [hn], iteF ?_⟩⟩⟩
        exact ⟨_, rfl, _, _, _, rfl, .inr ⟨h.ext s1, false, rfl, iteT ⟨_, rfl, fun d hd => k H1 d s1 hd⟩⟩⟩
      | most z hx hz hn n hl n1 n2 hm h =>
        subst hx hl
        refine ⟨_, rfl, _, rfl, .inl ⟨z, rfl, hz, fun H1 s1 => ⟨true, by rw [hn], iteF ?_⟩⟩⟩
        refine ⟨_, rfl, _, _, _, rfl, .inl ⟨n, rfl, n1, n2, true, rfl, iteF ?_⟩⟩
        exact ⟨_, rfl, rfl, true, by rw [decide_eq_false hm]; rfl, iteT ⟨_, rfl, _, rfl, _, _, _, rfl, .inr ⟨h.ext s1, false, rfl, iteT ⟨_, rfl, fun d hd => k H1 d s1 hd⟩⟩⟩⟩
      | let_ z hx hz hn n hl n1 n2 hm h =>
        subst hx hl
        refine ⟨_, rfl, _, rfl, .inl ⟨z, rfl, hz, fun H1 s1 => ⟨true, by rw [hn], iteF ?_⟩⟩⟩
        refine ⟨_, rfl, _, _, _, rfl, .inl ⟨n, rfl, n1, n2, true, rfl, iteF ?_⟩⟩
        have fin := fun d hd => k H1 d s1 hd
        rcases hm with rfl | ⟨kk, rfl, k1, k2⟩
        · exact ⟨_, rfl, rfl, false, rfl, iteF ⟨_, rfl, _, rfl, .inr ⟨oddB_ext h s1, false, rfl, iteT ⟨_, rfl, fin⟩⟩⟩⟩
        · exact ⟨_, rfl, rfl, true, rfl, iteT ⟨_, rfl, _, rfl, _, _, _, rfl, .inl ⟨kk, rfl, k1, k2, true, rfl, iteF ⟨_, rfl, _, rfl, .inr ⟨oddB_ext h s1, false, rfl, iteT ⟨_, rfl, fin⟩⟩⟩⟩⟩⟩
    · refine ⟨_, rfl, _, rfl, .inl ⟨z, rfl, hz, fun H1 s1 => ⟨true, by rw [hn], iteF ?_⟩⟩⟩
      refine ⟨_, rfl, _, _, _, rfl, .inl ⟨n, rfl, n1, by omega, true, rfl, iteF ?_⟩⟩
      have hp1 := s1 _ _ hp
      have z0 : (0 : Nat) < 1000 := by decide
      have fin := k H1 s1
      rcases hm with rfl | ⟨rfl, rfl⟩
      · refine ⟨_, rfl, rfl, true, rfl, iteT ⟨_, rfl, _, rfl, _, _, _, rfl, .inl ⟨kk, rfl, n2, n3, true, rfl, iteF ⟨_, rfl, _, rfl, .inl ⟨b, rfl, true, rfl, iteF ?_⟩⟩⟩⟩⟩
        refine ⟨_, rfl, _, rfl, p, _, dx, [], rfl, hp1, T.c_Place, T.nN, (by show 0 < 1000; decide), ?_⟩
        refine ⟨_, rfl, _, rfl, p, _, dx, _, rfl, upd_same, T.c_Place, T.nL, (by show 1 < 1000; decide), ?_⟩
        rw [upd_upd]
        refine ⟨_, rfl, rfl, false, rfl, iteF ⟨_, rfl, _, rfl, p, _, dx, _, rfl, upd_same, T.c_Place, T.nM, (by show 2 < 1000; decide), ?_⟩⟩
        rw [upd_upd]
        refine ⟨_, rfl, _, rfl, p, _, dx, _, rfl, upd_same, T.c_Place, T.nT, (by show 3 < 1000; decide), ?_⟩
        rw [upd_upd]
        exact fin
      · refine ⟨_, rfl, rfl, false, rfl, iteF ⟨_, rfl, _, rfl, .inl ⟨b, rfl, true, rfl, iteF ?_⟩⟩⟩
        refine ⟨_, rfl, _, rfl, p, _, dx, [], rfl, hp1, T.c_Place, T.nN, (by show 0 < 1000; decide), ?_⟩
        refine ⟨_, rfl, _, rfl, p, _, dx, _, rfl, upd_same, T.c_Place, T.nL, (by show 1 < 1000; decide), ?_⟩
        rw [upd_upd]
        refine ⟨_, rfl, rfl, true, rfl, iteT ⟨_, rfl, _, rfl, p, _, dx, _, rfl, upd_same, T.c_Place, T.nM, (by show 2 < 1000; decide), ?_⟩⟩
        rw [upd_upd]
        refine ⟨_, rfl, _, rfl, p, _, dx, _, rfl, upd_same, T.c_Place, T.nT, (by show 3 < 1000; decide), ?_⟩
        rw [upd_upd]
        exact fin
/-- Place(name, least, most, let=t); the shorter ones -/
theorem O_Place3k {fd : FuncData} (F : FunD K "__init__" "Place.__init__" (defArgs s_Place_init) (defBody s_Place_init) (defScope s_Place_init) [.int 1, .non] [("let", .bl true)] (He.fAd K ("Place", some "__init__")) fd) (G : FnOk P w K mg base (L2.CX P w) 4 (He.fAd K ("Place", some "__init__")) fd ["self", "name", "least", "most", "let"] (spPlI K)) :
    OkK P w K mg base (L2.CX P w) 4 ("Place", some "__init__") ["self", "name", "least", "most", "let"] 4 ["let"] (fun vs zs => vs ++ zs) (spPlI K) := by
  obtain ⟨its, mv, b⟩ := F.kbinds (ps := ["self", "name", "least", "most", "let"]) 4 ["let"] [] (fun us _ _ ws => us ++ ws) (by decide) (by decide) (fun _ h => nomatch h) (fun r1 _ _ r4 => r1.append r4)
    fun T D doc pm an cdv ct us its mv ws h1 h2 h3 h4 => match us, its, mv, ws, h1, h2, h3, h4 with | [_, _, _, _], [_, _], [], [_], _, _, _, _ => ⟨_, rfl, rfl⟩
  exact ⟨fd, _, G, b⟩
theorem O_Place2 {fd : FuncData} (F : FunD K "__init__" "Place.__init__" (defArgs s_Place_init) (defBody s_Place_init) (defScope s_Place_init) [.int 1, .non] [("let", .bl true)] (He.fAd K ("Place", some "__init__")) fd) (G : FnOk P w K mg base (L2.CX P w) 4 (He.fAd K ("Place", some "__init__")) fd ["self", "name", "least", "most", "let"] (spPlI K)) :
    OkK P w K mg base (L2.CX P w) 4 ("Place", some "__init__") ["self", "name", "least", "most", "let"] 3 [] (fun vs _ => vs ++ [.non, .bl true]) (spPlI K) := by
  obtain ⟨its, mv, b⟩ := F.kbinds (ps := ["self", "name", "least", "most", "let"]) 3 [] [("let", .bl true)] (fun us its mv _ => us ++ (its.drop 1 ++ mv)) (by decide) (by decide) (fun _ h => h) (fun r1 r2 r3 _ => r1.append ((r2.drop 1).append r3))
    fun T D doc pm an cdv ct us its mv ws h1 h2 h3 h4 => match us, its, mv, ws, h1, h2, h3, h4 with | [_, _, _], [_, _], [_], [], _, _, _, _ => ⟨_, rfl, _, _, _, _, _, _, rfl, rfl, rfl⟩
  exact ⟨fd, _, G, b⟩
theorem O_Place1 {fd : FuncData} (F : FunD K "__init__" "Place.__init__" (defArgs s_Place_init) (defBody s_Place_init) (defScope s_Place_init) [.int 1, .non] [("let", .bl true)] (He.fAd K ("Place", some "__init__")) fd) (G : FnOk P w K mg base (L2.CX P w) 4 (He.fAd K ("Place", some "__init__")) fd ["self", "name", "least", "most", "let"] (spPlI K)) :
    OkK P w K mg base (L2.CX P w) 4 ("Place", some "__init__") ["self", "name", "least", "most", "let"] 2 [] (fun vs _ => vs ++ [.int 1, .non, .bl true]) (spPlI K) := by
  obtain ⟨its, mv, b⟩ := F.kbinds (ps := ["self", "name", "least", "most", "let"]) 2 [] [("let", .bl true)] (fun us its mv _ => us ++ (its ++ mv)) (by decide) (by decide) (fun _ h => h) (fun r1 r2 r3 _ => r1.append (r2.append r3))
    fun T D doc pm an cdv ct us its mv ws h1 h2 h3 h4 => match us, its, mv, ws, h1, h2, h3, h4 with | [_, _], [_, _], [_], [], _, _, _, _ => ⟨_, rfl, _, _, _, _, _, _, rfl, rfl, rfl⟩
  exact ⟨fd, _, G, b⟩
abbrev s_Place_eq : Stmt := inClass (top 18) 1
theorem sc_Place_eq : FnScope ["self", "other"] ["self", "other"] (defScope s_Place_eq) := ⟨rfl, rfl, rfl, by decide +kernel, rfl, by decide +kernel, by decide +kernel⟩
-- slots: 0 self, 1 other
def plB (z z' : Str) (l l' m m' : Int) (b b' : Bool) : Bool := decide (z = z') && (decide (l = l') && (decide (m = m') && decide (b = b')))
def spPlE (C : Addr) : Sp := fun vs H Q _ => ∃ (p q : Addr) (z z' : Str) (l l' m m' : Int) (b b' : Bool), vs = [.ref p, .ref q] ∧ PlA C H p z l m b ∧ PlA C H q z' l' m' b' ∧ Q (.bl (plB z z' l l' m m' b b')) H
theorem str_dec (a c : Str) : decide (V.str a = V.str c) = decide (a = c) := decide_eq_decide.mpr ⟨fun h => V.str.inj h, fun h => by rw [h]⟩
theorem int_dec (a c : Int) : decide (V.int a = V.int c) = decide (a = c) := decide_eq_decide.mpr ⟨fun h => V.int.inj h, fun h => by rw [h]⟩
theorem bl_dec (a c : Bool) : decide (V.bl a = V.bl c) = decide (a = c) := decide_eq_decide.mpr ⟨fun h => V.bl.inj h, fun h => by rw [h]⟩
theorem ok_Place_eq {fd : FuncData} (F : FnD K ("Place", some "__eq__") "__eq__" "Place.__eq__" s_Place_eq fd) (T : PTxt K mg) : OkM P w K mg base CX0 1 "Place" "__eq__" ["self", "other"] (spPlE (CP K)) := by
  refine okd F (F.ok sc_Place_eq (fun vs H Q E h => ?_) fun cdv A outer s H vs Q E hr h => ?_) fun _ _ _ _ _ _ us hl => match us, hl with | [_, _], _ => rfl
  · obtain ⟨p, q, z, z', l, l', m, m', b, b', rfl, _⟩ := h
    rfl
  · obtain ⟨p, q, z, z', l, l', m, m', b, b', rfl, ⟨dx, hp⟩, ⟨dy, hq⟩, k⟩ := h
    refine ⟨_, PSs.nox (pss_one (ps_ret (pe_and (pe_callB (id := "isinstance") call_isi (by rfl) T.z_isinstance (by decide +kernel) (pa_cons (pv 1) (pa_cons (pe_cl T.g_Place) pa_nil))) (pe_and (pe_cmpR op_eq (pe_fld (pv 0) rfl) (pe_fld (pv 1) rfl) (nomark _)) (pe_and (pe_cmpR op_eq (pe_fld (pv 0) rfl) (pe_fld (pv 1) rfl) (nomark _)) (pe_and (pe_cmpR op_eq (pe_fld (pv 0) rfl) (pe_fld (pv 1) rfl) (nomark _)) (pe_one (pe_cmpR op_eq (pe_fld (pv 0) rfl) (pe_fld (pv 1) rfl) (nomark _))))))))), ?_⟩
    refine ⟨_, rfl, .ref q, .ref (CP K), .ref (CP K), .ref (CP K), true, rfl, .own _, .base (.ins hq T.c_Place T.ha T.hn T.ht T.hm), T.k1, true, rfl, iteT ?_⟩
    unfold plB at k
    rw [← str_dec, ← int_dec, ← int_dec, ← bl_dec] at k
    refine ⟨_, rfl, p, _, dx, _, _, rfl, hp, T.c_Place, T.nN, plf_name .., _, rfl, q, _, dy, _, _, rfl, hq, T.c_Place, T.nN, plf_name .., rfl, _, rfl, ?_⟩
    cases e1 : decide (V.str z = V.str z') with
    | false =>
      rw [e1] at k
      exact iteF k
    | true =>
      rw [e1] at k
      refine iteT ⟨_, rfl, p, _, dx, _, _, rfl, hp, T.c_Place, T.nL, plf_least .., _, rfl, q, _, dy, _, _, rfl, hq, T.c_Place, T.nL, plf_least .., rfl, _, rfl, ?_⟩
      cases e2 : decide (V.int l = V.int l') with
      | false =>
        rw [e2] at k
        exact iteF k
      | true =>
        rw [e2] at k
        refine iteT ⟨_, rfl, p, _, dx, _, _, rfl, hp, T.c_Place, T.nM, plf_most .., _, rfl, q, _, dy, _, _, rfl, hq, T.c_Place, T.nM, plf_most .., rfl, _, rfl, ?_⟩
        cases e3 : decide (V.int m = V.int m') with
        | false =>
          rw [e3] at k
          exact iteF k
        | true =>
          rw [e3] at k
          exact iteT ⟨_, rfl, p, _, dx, _, _, rfl, hp, T.c_Place, T.nT, plf_let .., _, rfl, q, _, dy, _, _, rfl, hq, T.c_Place, T.nT, plf_let .., rfl, k⟩
end
end K7

set_option Elab.async false
set_option linter.all false
set_option pp.deepTerms.threshold 14
set_option pp.maxSteps 2500
set_option maxRecDepth 100000
set_option maxHeartbeats 2000000
namespace K7
open PySem PySem.Spec PyProof.Rows L2 Vf
section
variable {P : Program} {w : World} {K : PySem.W.Frag} {mg : Str → Option Value} {base : Heap}
structure GTxt (K : PySem.W.Frag) (mg : Str → Option Value) : Prop extends PTxt K mg where
  z_enumerate : mg "enumerate" = none
  z_list : mg "list" = none
  z_tuple : mg "tuple" = none
  z_dict : mg "dict" = none
  i_MOST_PLACES : ∃ t, mg "MOST_PLACES" = some (.int 6 t)
  g_has_twins : mg "has_twins" = some (.ref (He.ga K "has_twins"))
  g_is_one_of : mg "is_one_of" = some (.ref (He.ga K "is_one_of"))
  g_are_places : mg "are_places" = some (.ref (He.ga K "are_places"))
  g_are_nexts : mg "are_nexts" = some (.ref (He.ga K "are_nexts"))
  g_is_choice : mg "is_choice" = some (.ref (He.ga K "is_choice"))
  g_Program : mg "Program" = some (.ref (He.ga K "Program"))
  g_BadProgram : mg "BadProgram" = some (.ref (He.ga K "BadProgram"))
  g_NoPlace : mg "NoPlace" = some (.ref (He.ga K "NoPlace"))
  c_Program : Cls K (He.ga K "Program")
  m_Program : Mk K (He.ga K "Program") (He.fAd K ("Program", some "__init__"))
  nA : NoAttr K (He.ga K "Program") "names"
  nB : NoAttr K (He.ga K "Program") "start"
  nC : NoAttr K (He.ga K "Program") "_places"
  nD : NoAttr K (He.ga K "Program") "_nexts"
  x_BadProgram : ExI K "BadProgram" "why"
  x_NoPlace : ExI K "NoPlace" "name"
  pa : PySem.W.findIn K (.ref (He.ga K "Program")) "__class__" = some (some (.builtin "object.__class__"))
  pm : PySem.W.mroIn K (He.ga K "Program") (.type "object") = some true
  pk : PySem.W.kitOne K (.ref (He.ga K "Program")) (.ref (He.ga K "Program")) = some true
abbrev CG (K : PySem.W.Frag) : Addr := He.ga K "Program"
abbrev CBG (K : PySem.W.Frag) : Addr := He.ga K "BadProgram"
theorem pe_fldK {X : Cx} {K : PySem.W.Frag} {e : Expr} {f : Str} {pos : Pos} {ta : TE} (hK : X.K = K) (he : PE X e ta) (hb : attributeBase e f X.env (eval e X.env) = eval e X.env) : PE X (.Attribute e f pos) (tFld K ta f) := hK ▸ pe_fld he hb
theorem call_isiB {X : Cx} {K : PySem.W.Frag} (hK : X.K = K) : CallR X (.builtin "isinstance") (rIsi K) := hK ▸ call_isi
theorem cutV_upto {xs : List V} {i : Nat} (h : i ≤ xs.length) : cutV xs none (some (i : Int)) = xs.take i := by
  unfold cutV
  have e1 : HT.sIx xs.length 0 none = 0 := rfl
  have e2 : HT.sIx xs.length xs.length (some (i : Int)) = i := by
    rw [HT.sIx_nat]
    omega
  rw [e1, e2]
  simp
theorem nodup_snoc (zs : List Str) (z : Str) : (!decide (zs ++ [z]).Nodup) = (!decide zs.Nodup || decide (z ∈ zs)) := by
  rw [Bool.eq_iff_iff]
  simp only [Bool.not_eq_true', decide_eq_false_iff_not, Bool.or_eq_true, decide_eq_true_eq, List.nodup_append, List.mem_singleton]
  constructor
  · intro h
    by_cases hn : zs.Nodup
    · right
      exact Classical.byContradiction fun hz => h ⟨hn, by simp, fun a ha b hb => by rw [hb]; exact fun e => hz (e ▸ ha)⟩
    · exact .inl hn
  · rintro (h | h) ⟨h1, _, h3⟩
    · exact h h1
    · exact h3 z h z rfl rfl
abbrev s_has_twins : Stmt := top 14
theorem sc_has_twins : FnScope ["items", "at", "item", "earlier"] ["items"] (defScope s_has_twins) := ⟨rfl, rfl, rfl, by decide +kernel, rfl, by decide +kernel, by decide +kernel⟩
-- slots: 0 items, 1 at, 2 item, 3 earlier
/-- texts at a: are two of them equal -/
def spTw (K : PySem.W.Frag) : Sp := fun vs H Q _ => ∃ (a : Addr) (zs : List Str), vs = [.ref a] ∧ zs.length ≤ 1000 ∧ (SqL K H a (zs.map V.str) ∨ SqT K H a (zs.map V.str)) ∧ ∀ H', Same H H' → Q (.bl (!decide zs.Nodup)) H'
theorem ok_has_twins {fd : FuncData} (F : FnD K ("has_twins", none) "has_twins" "has_twins" s_has_twins fd) (T : GTxt K mg) : OkF P w K mg base CX0 1 "has_twins" ["items"] (spTw K) := by
  refine okd F (F.ok sc_has_twins (fun vs H Q E h => ?_) fun cdv A outer s H vs Q E hr h => ?_) fun _ _ _ _ _ _ us hl => match us, hl with | [_], _ => rfl
  · obtain ⟨a, zs, rfl, _⟩ := h
    rfl
  · obtain ⟨a, zs, rfl, hlen, hS | hS, k⟩ := h
    · refine ⟨_, PSs.nox (pss_cons (ps_for PassesOwn.never rfl (pi_enum (by rfl) T.z_enumerate (pa_cons (pv 0) pa_nil)) (pg_tup rfl (pgs_cons (pg_name (i := 1) sc_has_twins.nd rfl (Or.inl rfl)) (pgs_cons (pg_name (i := 2) sc_has_twins.nd rfl (Or.inl rfl)) pgs_nil)))
  (pss_one (ps_for PassesOwn.never rfl (pi_list (pe_slice sl_list (pv 0) po_none (po_some (pv 1)))) (pg_name (i := 3) sc_has_twins.nd rfl (Or.inl rfl))
  (pss_one (ps_if (pt_cmpR op_eq (pv 2) (pv 3) (nomark _)) (pss_one (ps_ret pe_bl))
  pss_nil)))))
  (pss_one (ps_ret pe_bl))), ?_⟩
      refine ⟨_, rfl, a, _, rfl, hS, for_it walk_enum (fun i σ H' => Same H H' ∧ (zs.take i).Nodup ∧ ∃ v1 v2 v3 : Option V, σ = [some (.ref a), v1, v2, v3]) ⟨Same.refl _, List.nodup_nil, none, none, none, rfl⟩ (fun i σ H' _ h => h.1.seq hS) ?_ ?_⟩
      · rintro i x σ H1 H2 hi ⟨sg, hn, v1, v2, v3, rfl⟩ hy
        obtain ⟨T', x', y', rfl, nT', rfl, hx', hy'⟩ := hy
        cases (Option.some.inj hx')
        replace hy' : (zs.map V.str)[i]? = some y' := hy'
        rw [List.getElem?_map] at hy'
        obtain ⟨z, hz, rfl⟩ : ∃ z, zs[i]? = some z ∧ y' = .str z := by
          cases hq : zs[i]? with
          | none => rw [hq] at hy'; cases hy'
          | some z =>
            rw [hq] at hy'
            exact ⟨z, rfl, (Option.some.inj hy').symm⟩
        have hi' : i < zs.length := (List.getElem?_eq_some_iff.mp hz).1
        have sT := sg.trans (same_new (o := .tup [.int (i : Nat), .str z]) nT')
        refine ⟨T', _, rfl, SqT.of upd_same, rfl, _, _, rfl, _, _, rfl, rfl, ?_⟩
        have ecut : cutV (zs.map V.str) none (some ((i : Nat) : Int)) = (zs.take i).map V.str := by
          rw [cutV_upto (xs := zs.map V.str) (i := i) (by rw [List.length_map]; omega), List.map_take]
        refine ⟨_, rfl, _, rfl, (i : Int), rfl, a, _, rfl, sT.seq hS, fun p np => ?_⟩
        rw [ecut]
        have sp := sT.trans (same_new (o := .lst ((zs.take i).map V.str)) np)
        have hp := upd_same (H := upd H1 T' (.tup [.int (i : Nat), .str z])) (a := p) (o := .lst ((zs.take i).map V.str))
        generalize upd (upd H1 T' (.tup [.int (i : Nat), .str z])) p (.lst ((zs.take i).map V.str)) = H3 at sp hp ⊢
        refine ⟨p, rfl, ⟨_, SqL.of hp⟩, for_list (K := K) (a := p) (xs := (zs.take i).map V.str) (fun j σ H' => H' = H3 ∧ (∀ w ∈ (zs.take i).take j, w ≠ z) ∧ ∃ v3 : Option V, σ = [some (.ref a), some (.int (i : Int)), some (.str z), v3]) ⟨rfl, (fun _ h => by cases h), v3, rfl⟩ (fun j σ H' _ h => h.1 ▸ SqL.of hp) ?_ ?_⟩
        · rintro j w σ H' hj ⟨rfl, hne, v, rfl⟩
          rw [List.getElem?_map] at hj
          obtain ⟨u, hu, rfl⟩ : ∃ u, (zs.take i)[j]? = some u ∧ w = .str u := by
            cases hq : (zs.take i)[j]? with
            | none => rw [hq] at hj; cases hj
            | some u =>
              rw [hq] at hj
              exact ⟨u, rfl, (Option.some.inj hj).symm⟩
          refine ⟨_, rfl, _, rfl, rfl, _, rfl, ite2 (fun e => ?_) fun e => ?_⟩
          · have ez : z = u := V.str.inj (of_decide_eq_true e)
            have hd : ¬ zs.Nodup := fun hn2 => by
              have h1 : (zs.take (i + 1)).Nodup := hn2.sublist (List.take_sublist _ _)
              rw [List.take_add_one, hz] at h1
              exact (List.nodup_append.mp h1).2.2 u (List.mem_of_getElem? hu) z (by simp) ez.symm
            have := k _ sp
            rw [decide_eq_false hd] at this
            exact this
          · refine ⟨rfl, fun v hv => ?_, _, rfl⟩
            rw [List.take_add_one, hu] at hv
            rcases List.mem_append.mp hv with hv | hv
            · exact hne v hv
            · have : v = u := by simpa using hv
              rw [this]
              exact fun ez => e (decide_eq_true (by rw [ez]))
        · rintro σ H' ⟨rfl, hne, v, rfl⟩
          refine ⟨sp, ?_, _, _, _, rfl⟩
          rw [List.length_map, List.take_length] at hne
          rw [List.take_add_one, hz]
          exact List.nodup_append.mpr ⟨hn, by simp, fun w hw w' hw' => by
            have : w' = z := by simpa using hw'
            rw [this]
            exact hne w hw⟩
      · rintro σ H1 ⟨sg, hn, v1, v2, v3, rfl⟩
        rw [List.length_map, List.take_length] at hn
        have := k H1 sg
        rw [decide_eq_true hn] at this
        exact this
    · refine ⟨_, PSs.nox (pss_cons (ps_for PassesOwn.never rfl (pi_enumT (by rfl) T.z_enumerate (pa_cons (pv 0) pa_nil)) (pg_tup rfl (pgs_cons (pg_name (i := 1) sc_has_twins.nd rfl (Or.inl rfl)) (pgs_cons (pg_name (i := 2) sc_has_twins.nd rfl (Or.inl rfl)) pgs_nil)))
  (pss_one (ps_for PassesOwn.never rfl (pi_tup (pe_slice sl_tup (pv 0) po_none (po_some (pv 1)))) (pg_name (i := 3) sc_has_twins.nd rfl (Or.inl rfl))
  (pss_one (ps_if (pt_cmpR op_eq (pv 2) (pv 3) (nomark _)) (pss_one (ps_ret pe_bl))
  pss_nil)))))
  (pss_one (ps_ret pe_bl))), ?_⟩
      refine ⟨_, rfl, a, _, rfl, hS, for_it walk_enumT (fun i σ H' => Same H H' ∧ (zs.take i).Nodup ∧ ∃ v1 v2 v3 : Option V, σ = [some (.ref a), v1, v2, v3]) ⟨Same.refl _, List.nodup_nil, none, none, none, rfl⟩ (fun i σ H' _ h => SqT.ext hS h.1) ?_ ?_⟩
      · rintro i x σ H1 H2 hi ⟨sg, hn, v1, v2, v3, rfl⟩ hy
        obtain ⟨T', x', y', rfl, nT', rfl, hx', hy'⟩ := hy
        cases (Option.some.inj hx')
        replace hy' : (zs.map V.str)[i]? = some y' := hy'
        rw [List.getElem?_map] at hy'
        obtain ⟨z, hz, rfl⟩ : ∃ z, zs[i]? = some z ∧ y' = .str z := by
          cases hq : zs[i]? with
          | none => rw [hq] at hy'; cases hy'
          | some z =>
            rw [hq] at hy'
            exact ⟨z, rfl, (Option.some.inj hy').symm⟩
        have hi' : i < zs.length := (List.getElem?_eq_some_iff.mp hz).1
        have sT := sg.trans (same_new (o := .tup [.int (i : Nat), .str z]) nT')
        refine ⟨T', _, rfl, SqT.of upd_same, rfl, _, _, rfl, _, _, rfl, rfl, ?_⟩
        have ecut : cutV (zs.map V.str) none (some ((i : Nat) : Int)) = (zs.take i).map V.str := by
          rw [cutV_upto (xs := zs.map V.str) (i := i) (by rw [List.length_map]; omega), List.map_take]
        have nw : ¬ (HT.sIx (zs.map V.str).length 0 none = 0 ∧ HT.sIx (zs.map V.str).length (zs.map V.str).length (some (i : Int)) = (zs.map V.str).length) := fun z => by
          have e1 : HT.sIx (zs.map V.str).length (zs.map V.str).length (some (i : Int)) = min i (zs.map V.str).length := HT.sIx_nat ..
          rw [e1, List.length_map] at z
          omega
        refine ⟨_, rfl, _, rfl, (i : Int), rfl, a, _, rfl, SqT.ext hS sT, nw, fun p np => ?_⟩
        rw [ecut]
        have sp := sT.trans (same_new (o := .tup ((zs.take i).map V.str)) np)
        have hp := upd_same (H := upd H1 T' (.tup [.int (i : Nat), .str z])) (a := p) (o := .tup ((zs.take i).map V.str))
        generalize upd (upd H1 T' (.tup [.int (i : Nat), .str z])) p (.tup ((zs.take i).map V.str)) = H3 at sp hp ⊢
        refine ⟨p, rfl, ⟨_, SqT.of hp⟩, for_tup (K := K) (a := p) (xs := (zs.take i).map V.str) (fun j σ H' => H' = H3 ∧ (∀ w ∈ (zs.take i).take j, w ≠ z) ∧ ∃ v3 : Option V, σ = [some (.ref a), some (.int (i : Int)), some (.str z), v3]) ⟨rfl, (fun _ h => by cases h), v3, rfl⟩ (fun j σ H' _ h => h.1 ▸ SqT.of hp) ?_ ?_⟩
        · rintro j w σ H' hj ⟨rfl, hne, v, rfl⟩
          rw [List.getElem?_map] at hj
          obtain ⟨u, hu, rfl⟩ : ∃ u, (zs.take i)[j]? = some u ∧ w = .str u := by
            cases hq : (zs.take i)[j]? with
            | none => rw [hq] at hj; cases hj
            | some u =>
              rw [hq] at hj
              exact ⟨u, rfl, (Option.some.inj hj).symm⟩
          refine ⟨_, rfl, _, rfl, rfl, _, rfl, ite2 (fun e => ?_) fun e => ?_⟩
          · have ez : z = u := V.str.inj (of_decide_eq_true e)
            have hd : ¬ zs.Nodup := fun hn2 => by
              have h1 : (zs.take (i + 1)).Nodup := hn2.sublist (List.take_sublist _ _)
              rw [List.take_add_one, hz] at h1
              exact (List.nodup_append.mp h1).2.2 u (List.mem_of_getElem? hu) z (by simp) ez.symm
            have := k _ sp
            rw [decide_eq_false hd] at this
            exact this
          · refine ⟨rfl, fun v hv => ?_, _, rfl⟩
            rw [List.take_add_one, hu] at hv
            rcases List.mem_append.mp hv with hv | hv
            · exact hne v hv
            · have : v = u := by simpa using hv
              rw [this]
              exact fun ez => e (decide_eq_true (by rw [ez]))
        · rintro σ H' ⟨rfl, hne, v, rfl⟩
          refine ⟨sp, ?_, _, _, _, rfl⟩
          rw [List.length_map, List.take_length] at hne
          rw [List.take_add_one, hz]
          exact List.nodup_append.mpr ⟨hn, by simp, fun w hw w' hw' => by
            have : w' = z := by simpa using hw'
            rw [this]
            exact hne w hw⟩
      · rintro σ H1 ⟨sg, hn, v1, v2, v3, rfl⟩
        rw [List.length_map, List.take_length] at hn
        have := k H1 sg
        rw [decide_eq_true hn] at this
        exact this
theorem inV_str (z : Str) (zs : List Str) : inV (.str z) (zs.map V.str) = decide (z ∈ zs) := by
  rw [Bool.eq_iff_iff, decide_eq_true_eq]
  unfold inV
  rw [List.any_eq_true]
  constructor
  · rintro ⟨y, hy, he⟩
    obtain ⟨w, hw, rfl⟩ := List.mem_map.mp hy
    have : (w == z) = true := he
    rw [← eq_of_beq this]
    exact hw
  · intro h
    exact ⟨.str z, List.mem_map_of_mem h, by show (z == z) = true; simp⟩
theorem flat_str (zs : List Str) : (zs.map V.str).all flatV = true := by
  rw [List.all_map, List.all_eq_true]
  exact fun _ _ => rfl
abbrev s_is_one_of : Stmt := top 20
theorem sc_is_one_of : FnScope ["x", "names"] ["x", "names"] (defScope s_is_one_of) := ⟨rfl, rfl, rfl, by decide +kernel, rfl, by decide +kernel, by decide +kernel⟩
-- slots: 0 x, 1 names
/-- is x one of the texts at t -/
def spOne (K : PySem.W.Frag) : Sp := fun vs H Q _ => ∃ (x : V) (t : Addr) (zs : List Str), vs = [x, .ref t] ∧ SqT K H t (zs.map V.str) ∧ ((∃ z, x = .str z ∧ Q (.bl (decide (z ∈ zs))) H) ∨ (OddS H x ∧ Q (.bl false) H))
theorem ok_is_one_of {fd : FuncData} (F : FnD K ("is_one_of", none) "is_one_of" "is_one_of" s_is_one_of fd) (T : GTxt K mg) : OkF P w K mg base CX0 1 "is_one_of" ["x", "names"] (spOne K) := by
  refine okd F (F.ok sc_is_one_of (fun vs H Q E h => ?_) fun cdv A outer s H vs Q E hr h => ?_) fun _ _ _ _ _ _ us hl => match us, hl with | [_, _], _ => rfl
  · obtain ⟨x, t, zs, rfl, _⟩ := h
    rfl
  · obtain ⟨x, t, zs, rfl, hS, h⟩ := h
    refine ⟨_, PSs.nox (pss_one (ps_ret (pe_and (pe_callB (id := "isinstance") call_isi (by rfl) T.z_isinstance (by decide +kernel) (pa_cons (pv 0) (pa_cons (pe_ty (n := "str") T.z_str (by decide +kernel)) pa_nil))) (pe_one (pe_cmpR op_in_seq (pv 0) (pv 1) rfl))))), ?_⟩
    rcases h with ⟨z, rfl, q⟩ | ⟨o, q⟩
    · refine ⟨_, rfl, .str z, .ty "str", .type "str", .type "str", true, rfl, .ty _, .base (.str _), kit_ty (by decide +kernel), true, rfl, iteT ?_⟩
      refine ⟨_, rfl, _, rfl, t, _, rfl, .inr hS, rfl, flat_str zs, ?_⟩
      show Q (.bl (inV (.str z) (zs.map V.str))) H
      rw [inV_str]
      exact q
    · obtain ⟨n, t1, k1⟩ := oddS_ty K o
      exact ⟨_, rfl, x, .ty "str", .type n, .type "str", false, rfl, .ty _, t1, kit_ty k1, false, rfl, iteF q⟩
end
end K7

set_option Elab.async false
set_option linter.all false
set_option pp.deepTerms.threshold 14
set_option pp.maxSteps 2500
set_option maxRecDepth 100000
set_option maxHeartbeats 2000000
namespace K7
open PySem PySem.Spec PyProof.Rows L2 Vf
section
variable {P : Program} {w : World} {K : PySem.W.Frag} {mg : Str → Option Value} {base : Heap}
abbrev s_is_choice : Stmt := top 23
theorem sc_is_choice : FnScope ["ways", "names", "way"] ["ways", "names"] (defScope s_is_choice) := ⟨rfl, rfl, rfl, by decide +kernel, rfl, by decide +kernel, by decide +kernel⟩
-- slots: 0 ways, 1 names, 2 way
def spChoice (K : PySem.W.Frag) : Sp := fun vs H Q _ => ∃ (t n : Addr) (ws zs : List Str), vs = [.ref t, .ref n] ∧ H t = some (.tup (ws.map V.str)) ∧ H n = some (.tup (zs.map V.str)) ∧ (∀ y ∈ ws, y ∈ zs) ∧ ws.Nodup ∧ ws.length ≤ 1000 ∧ ∀ H', Same H H' → Q (.bl true) H'
theorem take_rep (i : Nat) : (List.replicate i true).map V.bl ++ [V.bl true] = (List.replicate (i + 1) true).map V.bl := by
  rw [List.replicate_succ', List.map_append]
  rfl
theorem all_rep (i : Nat) : (List.replicate i true).all id = true := by
  rw [List.all_eq_true]
  intro x hx
  rw [List.mem_replicate] at hx
  rw [hx.2]
  rfl
theorem ok_is_choice {fd : FuncData} (F : FnD K ("is_choice", none) "is_choice" "is_choice" s_is_choice fd) (T : GTxt K mg) (O_is_one_of : OkF P w K mg base CX0 1 "is_one_of" ["x", "names"] (spOne K)) (O_has_twins : OkF P w K mg base CX0 1 "has_twins" ["items"] (spTw K)) : OkF P w K mg base CX0 2 "is_choice" ["ways", "names"] (spChoice K) := by
  refine okd F (F.ok sc_is_choice (fun vs H Q E h => ?_) fun cdv A outer s H vs Q E hr h => ?_) fun _ _ _ _ _ _ us hl => match us, hl with | [_, _], _ => rfl
  · obtain ⟨t, n, ws, zs, rfl, _⟩ := h
    rfl
  · obtain ⟨t, n, ws, zs, rfl, ht, hn, hsub, hnd, hlen, k⟩ := h
    refine ⟨_, PSs.nox (pss_cons (ps_if (PW.pt (pw_or (pt_not (pt_val (pe_callB (id := "isinstance") call_isi (by rfl) T.z_isinstance (by decide +kernel) (pa_cons (pv 0) (pa_cons (pe_ty (n := "tuple") T.z_tuple (by decide +kernel)) pa_nil))))) (pw_or1 (pt_not (pt_val (pe_callB (id := "all") (cr_all rfl) (by rfl) T.z_all (by decide +kernel) (pa_cons (pe_lc (own := [("way", 2)]) (g := gName 2) (tt := tYes) (by rfl) sc_is_choice.nd (pi_tup (pv 0)) (blkOk_by (N := ["ways", "names", "way"]) (sc := defScope s_is_choice) (by decide +kernel)) (fun _ _ _ _ _ => (pg_name (i := 2) sc_is_choice.nd rfl (Or.inl rfl))) (fun _ _ _ _ _ => pts_nil) (fun _ _ _ _ _ => (c_fn O_is_one_of hr (by decide) T.g_is_one_of pass0 (pa_cons (pv 2) (pa_cons (pv 1) pa_nil))))) pa_nil))))))) (pss_one (ps_ret pe_bl))
  pss_nil)
  (pss_one (ps_ret (pe_not (c_fn O_has_twins hr (by decide) T.g_has_twins pass0 (pa_cons (pv 0) pa_nil)))))), ?_⟩
    refine ⟨_, rfl, .ref t, .ty "tuple", .type "tuple", .type "tuple", true, rfl, .ty _, .base (.tup ht), kit_ty (by decide +kernel), true, rfl, iteF ?_⟩
    refine ⟨_, rfl, t, rfl, ⟨_, SqT.of ht⟩, fun D nD => lc_it walk_tup (fun i H' => Same H H' ∧ H' D = some (.lst ((List.replicate i true).map V.bl))) ⟨same_new nD, upd_same⟩ (fun i H' _ h => SqT.ext (SqT.of ht) h.1) ?_ ?_⟩
    · rintro i x H1 H' hi ⟨sg, hD⟩ ⟨rfl, hx⟩
      rw [List.getElem?_map] at hx
      obtain ⟨y, hy, rfl⟩ : ∃ y, ws[i]? = some y ∧ x = .str y := by
        cases hq : ws[i]? with
        | none => rw [hq] at hx; cases hx
        | some y =>
          rw [hq] at hx
          exact ⟨y, rfl, (Option.some.inj hx).symm⟩
      have hin := hsub y (List.mem_of_getElem? hy)
      refine ⟨rfl, _, rfl, _, rfl, .str y, n, zs, rfl, SqT.ext (SqT.of hn) sg, .inl ⟨y, rfl, ?_⟩⟩
      rw [decide_eq_true hin]
      refine ⟨_, hD, ?_, same_app sg (Same.refl _) nD, by rw [upd_same, take_rep]⟩
      rw [List.length_map, List.length_replicate]
      rw [List.length_map] at hi
      exact Nat.lt_of_lt_of_le hi (Nat.le_trans hlen (by decide))
    · rintro H' ⟨sg, hD⟩
      refine ⟨D, _, rfl, SqL.of hD, ?_⟩
      rw [all_rep]
      refine ⟨true, rfl, iteF ⟨_, rfl, t, ws, rfl, hlen, .inr (SqT.ext (SqT.of ht) sg), fun H2 s2 => ?_⟩⟩
      rw [decide_eq_true hnd]
      exact ⟨_, rfl, k H2 (sg.trans s2)⟩
structure Rw where
  z : Str
  l : Int
  m : Int
  b : Bool
  ns : List Str
deriving DecidableEq
/-- a place, the tuple of its nexts, its row -/
abbrev PgE : Type := Addr × Addr × Rw
def zsOf (xs : List PgE) : List Str := xs.map fun x => x.2.2.z
def PlE (K : PySem.W.Frag) (H : Hp) (x : PgE) : Prop := PlA (CP K) H x.1 x.2.2.z x.2.2.l x.2.2.m x.2.2.b
theorem PlE.ext {K : PySem.W.Frag} {H H' : Hp} {x : PgE} (h : PlE K H x) (s : Same H H') : PlE K H' x := PlA.ext h s
theorem getE {xs : List PgE} {f : PgE → V} {i : Nat} {x : V} (h : (xs.map f)[i]? = some x) : ∃ y, xs[i]? = some y ∧ x = f y := by
  rw [List.getElem?_map] at h
  cases hq : xs[i]? with
  | none => rw [hq] at h; cases h
  | some y =>
    rw [hq] at h
    exact ⟨y, rfl, (Option.some.inj h).symm⟩
abbrev s_are_places : Stmt := top 21
theorem sc_are_places : FnScope ["places", "place"] ["places"] (defScope s_are_places) := ⟨rfl, rfl, rfl, by decide +kernel, rfl, by decide +kernel, by decide +kernel⟩
-- slots: 0 places, 1 place
def spArePl (K : PySem.W.Frag) : Sp := fun vs H Q _ => ∃ (L : Addr) (xs : List PgE), vs = [.ref L] ∧ (H L = some (.lst (xs.map fun x => V.ref x.1)) ∨ H L = some (.tup (xs.map fun x => V.ref x.1))) ∧ (∀ x ∈ xs, PlE K H x) ∧ 1 ≤ xs.length ∧ xs.length ≤ 6 ∧ (zsOf xs).Nodup ∧ ∀ H', Same H H' → Q (.bl true) H'
theorem ok_are_places {fd : FuncData} (F : FnD K ("are_places", none) "are_places" "are_places" s_are_places fd) (T : GTxt K mg) (O_has_twins : OkF P w K mg base CX0 1 "has_twins" ["items"] (spTw K)) : OkF P w K mg base CX0 2 "are_places" ["places"] (spArePl K) := by
  refine okd F (F.ok sc_are_places (fun vs H Q E h => ?_) fun cdv A outer s H vs Q E hr h => ?_) fun _ _ _ _ _ _ us hl => match us, hl with | [_], _ => rfl
  · obtain ⟨L, xs, rfl, _⟩ := h
    rfl
  · obtain ⟨L, xs, rfl, hL | hL, hp, l1, l6, hnd, k⟩ := h
    · refine ⟨_, PSs.nox (pss_cons (ps_if (PW.pt (pw_or (pt_not (pt_val (pe_callB (id := "isinstance") call_isiT (by rfl) T.z_isinstance (by decide +kernel) (pa_cons (pv 0) (pa_cons (pe_tup (pa_cons (pe_ty (n := "list") T.z_list (by decide +kernel)) (pa_cons (pe_ty (n := "tuple") T.z_tuple (by decide +kernel)) pa_nil))) pa_nil))))) (pw_or1 (pt_not (pt_chain op_le op_le pe_int (pe_callB (id := "len") call_len_seq (by rfl) T.z_len (by decide +kernel) (pa_cons (pv 0) pa_nil)) (c_gint T.i_MOST_PLACES)))))) (pss_one (ps_ret pe_bl))
  pss_nil)
  (pss_cons (ps_if (pt_not (pt_val (pe_callB (id := "all") (cr_all rfl) (by rfl) T.z_all (by decide +kernel) (pa_cons (pe_lc (own := [("place", 1)]) (g := gName 1) (tt := tYes) (by rfl) sc_are_places.nd (pi_list (pv 0)) (blkOk_by (N := ["places", "place"]) (sc := defScope s_are_places) (by decide +kernel)) (fun _ _ _ _ _ => (pg_name (i := 1) sc_are_places.nd rfl (Or.inl rfl))) (fun _ _ _ _ _ => pts_nil) (fun _ _ _ _ _ => (pe_callB (id := "isinstance") (call_isiB (K := K) rfl) (by rfl) T.z_isinstance (by decide +kernel) (pa_cons (pv 1) (pa_cons (pe_cl T.g_Place) pa_nil))))) pa_nil)))) (pss_one (ps_ret pe_bl))
  pss_nil)
  (pss_one (ps_ret (pe_not (c_fn O_has_twins hr (by decide) T.g_has_twins pass0 (pa_cons (pe_lc (own := [("place", 1)]) (g := gName 1) (tt := tYes) (by rfl) sc_are_places.nd (pi_list (pv 0)) (blkOk_by (N := ["places", "place"]) (sc := defScope s_are_places) (by decide +kernel)) (fun _ _ _ _ _ => (pg_name (i := 1) sc_are_places.nd rfl (Or.inl rfl))) (fun _ _ _ _ _ => pts_nil) (fun _ _ _ _ _ => (pe_fldK (K := K) rfl (pv 1) rfl))) pa_nil))))))), ?_⟩
      refine ⟨_, rfl, (by show 2 ≤ sizeLine; decide), fun tp ntp => ⟨.ref L, tp, [.ty "list", .ty "tuple"], .type "list", [.type "list", .type "tuple"], true, rfl, upd_same, .cons (.ty _) (.cons (.ty _) .nil), .base (.lst (same_new ntp _ _ hL)), kitAny_cons (b := true) (kit_ty (by decide +kernel)) (fun z => nomatch z) (fun _ => rfl), true, rfl, iteF ?_⟩⟩
      have s1 := same_new (o := .tup [.ty "list", .ty "tuple"]) ntp
      have hL1 := s1 _ _ hL
      generalize upd H tp (.tup [.ty "list", .ty "tuple"]) = H1 at s1 hL1 ⊢
      clear ntp
      refine ⟨_, rfl, L, _, rfl, .inl (SqL.of hL1), 1, _, rfl, rfl, true, congrArg V.bl (decide_eq_true (by rw [List.length_map]; omega)), iteT ⟨_, 6, rfl, rfl, true, congrArg V.bl (decide_eq_true (by rw [List.length_map]; omega)), iteF ?_⟩⟩
      refine ⟨_, rfl, L, rfl, ⟨_, SqL.of hL1⟩, fun D nD => lc_it walk_list (fun i H' => Same H1 H' ∧ H' D = some (.lst ((List.replicate i true).map V.bl))) ⟨same_new nD, upd_same⟩ (fun i H' _ h => h.1.seq (SqL.of hL1)) ?_ ?_⟩
      · rintro i x H2 H' hi ⟨sg, hD⟩ ⟨rfl, hx⟩
        obtain ⟨y, hy, rfl⟩ := getE hx
        obtain ⟨dy, ey⟩ := (hp y (List.mem_of_getElem? hy)).ext (s1.trans sg)
        refine ⟨rfl, _, rfl, .ref y.1, .ref (CP K), .ref (CP K), .ref (CP K), true, rfl, .own _, .base (.ins ey T.c_Place T.ha T.hn T.ht T.hm), T.k1, ?_⟩
        refine ⟨_, hD, ?_, same_app sg (Same.refl _) nD, by rw [upd_same, take_rep]⟩
        rw [List.length_map, List.length_replicate]
        rw [List.length_map] at hi
        exact Nat.lt_of_lt_of_le hi (Nat.le_trans l6 (by decide))
      · rintro H2 ⟨sg, hD⟩
        refine ⟨D, _, rfl, SqL.of hD, ?_⟩
        rw [all_rep]
        refine ⟨true, rfl, iteF ?_⟩
        have hL2 := sg _ _ hL1
        refine ⟨_, rfl, L, rfl, ⟨_, SqL.of hL2⟩, fun D2 nD2 => lc_it walk_list (fun i H' => Same H2 H' ∧ H' D2 = some (.lst (((zsOf xs).take i).map V.str))) ⟨same_new nD2, upd_same⟩ (fun i H' _ h => h.1.seq (SqL.of hL2)) ?_ ?_⟩
        · rintro i x H3 H' hi ⟨sg3, hD3⟩ ⟨rfl, hx⟩
          obtain ⟨y, hy, rfl⟩ := getE hx
          obtain ⟨dy, ey⟩ := (hp y (List.mem_of_getElem? hy)).ext (s1.trans (sg.trans sg3))
          refine ⟨rfl, _, rfl, y.1, _, dy, _, _, rfl, ey, T.c_Place, T.nN, plf_name .., ?_⟩
          refine ⟨_, hD3, ?_, same_app sg3 (Same.refl _) nD2, ?_⟩
          · rw [List.length_map, List.length_take]
            rw [List.length_map] at hi
            exact Nat.lt_of_le_of_lt (Nat.min_le_left _ _) (Nat.lt_of_lt_of_le hi (Nat.le_trans l6 (by decide)))
          · rw [upd_same, List.take_add_one, List.map_append]
            have : (zsOf xs)[i]? = some y.2.2.z := by
              unfold zsOf
              rw [List.getElem?_map, hy]
              rfl
            rw [this]
            rfl
        · rintro H3 ⟨sg3, hD3⟩
          have hlz : (zsOf xs).length = xs.length := List.length_map ..
          rw [List.length_map, ← hlz, List.take_length] at hD3
          refine ⟨D2, zsOf xs, rfl, by omega, .inl (SqL.of hD3), fun H4 s4 => ?_⟩
          rw [decide_eq_true hnd]
          exact ⟨_, rfl, k H4 (s1.trans (sg.trans (sg3.trans s4)))⟩
    · refine ⟨_, PSs.nox (pss_cons (ps_if (PW.pt (pw_or (pt_not (pt_val (pe_callB (id := "isinstance") call_isiT (by rfl) T.z_isinstance (by decide +kernel) (pa_cons (pv 0) (pa_cons (pe_tup (pa_cons (pe_ty (n := "list") T.z_list (by decide +kernel)) (pa_cons (pe_ty (n := "tuple") T.z_tuple (by decide +kernel)) pa_nil))) pa_nil))))) (pw_or1 (pt_not (pt_chain op_le op_le pe_int (pe_callB (id := "len") call_len_seq (by rfl) T.z_len (by decide +kernel) (pa_cons (pv 0) pa_nil)) (c_gint T.i_MOST_PLACES)))))) (pss_one (ps_ret pe_bl))
  pss_nil)
  (pss_cons (ps_if (pt_not (pt_val (pe_callB (id := "all") (cr_all rfl) (by rfl) T.z_all (by decide +kernel) (pa_cons (pe_lc (own := [("place", 1)]) (g := gName 1) (tt := tYes) (by rfl) sc_are_places.nd (pi_tup (pv 0)) (blkOk_by (N := ["places", "place"]) (sc := defScope s_are_places) (by decide +kernel)) (fun _ _ _ _ _ => (pg_name (i := 1) sc_are_places.nd rfl (Or.inl rfl))) (fun _ _ _ _ _ => pts_nil) (fun _ _ _ _ _ => (pe_callB (id := "isinstance") (call_isiB (K := K) rfl) (by rfl) T.z_isinstance (by decide +kernel) (pa_cons (pv 1) (pa_cons (pe_cl T.g_Place) pa_nil))))) pa_nil)))) (pss_one (ps_ret pe_bl))
  pss_nil)
  (pss_one (ps_ret (pe_not (c_fn O_has_twins hr (by decide) T.g_has_twins pass0 (pa_cons (pe_lc (own := [("place", 1)]) (g := gName 1) (tt := tYes) (by rfl) sc_are_places.nd (pi_tup (pv 0)) (blkOk_by (N := ["places", "place"]) (sc := defScope s_are_places) (by decide +kernel)) (fun _ _ _ _ _ => (pg_name (i := 1) sc_are_places.nd rfl (Or.inl rfl))) (fun _ _ _ _ _ => pts_nil) (fun _ _ _ _ _ => (pe_fldK (K := K) rfl (pv 1) rfl))) pa_nil))))))), ?_⟩
      refine ⟨_, rfl, (by show 2 ≤ sizeLine; decide), fun tp ntp => ⟨.ref L, tp, [.ty "list", .ty "tuple"], .type "tuple", [.type "list", .type "tuple"], true, rfl, upd_same, .cons (.ty _) (.cons (.ty _) .nil), .base (.tup (same_new ntp _ _ hL)), kitAny_cons (b := false) (kit_ty (by decide +kernel)) (fun _ => kitAny_cons (b := true) (kit_ty (by decide +kernel)) (fun z => nomatch z) (fun _ => rfl)) (fun z => nomatch z), true, rfl, iteF ?_⟩⟩
      have s1 := same_new (o := .tup [.ty "list", .ty "tuple"]) ntp
      have hL1 := s1 _ _ hL
      generalize upd H tp (.tup [.ty "list", .ty "tuple"]) = H1 at s1 hL1 ⊢
      clear ntp
      refine ⟨_, rfl, L, _, rfl, .inr (SqT.of hL1), 1, _, rfl, rfl, true, congrArg V.bl (decide_eq_true (by rw [List.length_map]; omega)), iteT ⟨_, 6, rfl, rfl, true, congrArg V.bl (decide_eq_true (by rw [List.length_map]; omega)), iteF ?_⟩⟩
      refine ⟨_, rfl, L, rfl, ⟨_, SqT.of hL1⟩, fun D nD => lc_it walk_tup (fun i H' => Same H1 H' ∧ H' D = some (.lst ((List.replicate i true).map V.bl))) ⟨same_new nD, upd_same⟩ (fun i H' _ h => SqT.ext (SqT.of hL1) h.1) ?_ ?_⟩
      · rintro i x H2 H' hi ⟨sg, hD⟩ ⟨rfl, hx⟩
        obtain ⟨y, hy, rfl⟩ := getE hx
        obtain ⟨dy, ey⟩ := (hp y (List.mem_of_getElem? hy)).ext (s1.trans sg)
        refine ⟨rfl, _, rfl, .ref y.1, .ref (CP K), .ref (CP K), .ref (CP K), true, rfl, .own _, .base (.ins ey T.c_Place T.ha T.hn T.ht T.hm), T.k1, ?_⟩
        refine ⟨_, hD, ?_, same_app sg (Same.refl _) nD, by rw [upd_same, take_rep]⟩
        rw [List.length_map, List.length_replicate]
        rw [List.length_map] at hi
        exact Nat.lt_of_lt_of_le hi (Nat.le_trans l6 (by decide))
      · rintro H2 ⟨sg, hD⟩
        refine ⟨D, _, rfl, SqL.of hD, ?_⟩
        rw [all_rep]
        refine ⟨true, rfl, iteF ?_⟩
        have hL2 := sg _ _ hL1
        refine ⟨_, rfl, L, rfl, ⟨_, SqT.of hL2⟩, fun D2 nD2 => lc_it walk_tup (fun i H' => Same H2 H' ∧ H' D2 = some (.lst (((zsOf xs).take i).map V.str))) ⟨same_new nD2, upd_same⟩ (fun i H' _ h => SqT.ext (SqT.of hL2) h.1) ?_ ?_⟩
        · rintro i x H3 H' hi ⟨sg3, hD3⟩ ⟨rfl, hx⟩
          obtain ⟨y, hy, rfl⟩ := getE hx
          obtain ⟨dy, ey⟩ := (hp y (List.mem_of_getElem? hy)).ext (s1.trans (sg.trans sg3))
          refine ⟨rfl, _, rfl, y.1, _, dy, _, _, rfl, ey, T.c_Place, T.nN, plf_name .., ?_⟩
          refine ⟨_, hD3, ?_, same_app sg3 (Same.refl _) nD2, ?_⟩
          · rw [List.length_map, List.length_take]
            rw [List.length_map] at hi
            exact Nat.lt_of_le_of_lt (Nat.min_le_left _ _) (Nat.lt_of_lt_of_le hi (Nat.le_trans l6 (by decide)))
          · rw [upd_same, List.take_add_one, List.map_append]
            have : (zsOf xs)[i]? = some y.2.2.z := by
              unfold zsOf
              rw [List.getElem?_map, hy]
              rfl
            rw [this]
            rfl
        · rintro H3 ⟨sg3, hD3⟩
          have hlz : (zsOf xs).length = xs.length := List.length_map ..
          rw [List.length_map, ← hlz, List.take_length] at hD3
          refine ⟨D2, zsOf xs, rfl, by omega, .inl (SqL.of hD3), fun H4 s4 => ?_⟩
          rw [decide_eq_true hnd]
          exact ⟨_, rfl, k H4 (s1.trans (sg.trans (sg3.trans s4)))⟩
end
end K7

set_option Elab.async false
set_option linter.all false
set_option pp.deepTerms.threshold 14
set_option pp.maxSteps 2500
set_option maxRecDepth 100000
set_option maxHeartbeats 2000000
namespace K7
open PySem PySem.Spec PyProof.Rows L2 Vf
section
variable {P : Program} {w : World} {K : PySem.W.Frag} {mg : Str → Option Value} {base : Heap}
theorem dget_of {H : Hp} {N : Addr} {kvs : List (Key × V)} {z : Str} {o : Option V} (hN : H N = some (.dK kvs)) (hv : valV kvs (Sum.inr z) = o) : DGet H N (.str z) o := hv ▸ DGet.k (k := Sum.inr z) hN
/-- the dict at N: for each row the tuple of its nexts -/
def NxA (H : Hp) (N : Addr) (xs : List PgE) : Prop := ∃ kvs, H N = some (.dK kvs) ∧ kvs.length = xs.length ∧ ∀ x ∈ xs, valV kvs (Sum.inr x.2.2.z) = some (.ref x.2.1)
theorem NxA.ext {H H' : Hp} {N : Addr} {xs : List PgE} (h : NxA H N xs) (s : Same H H') : NxA H' N xs := by
  obtain ⟨kvs, h1, h2, h3⟩ := h
  exact ⟨kvs, s _ _ h1, h2, h3⟩
/-- the tuple of a row's nexts -/
def NsE (H : Hp) (zs : List Str) (x : PgE) : Prop := H x.2.1 = some (.tup (x.2.2.ns.map V.str)) ∧ (∀ y ∈ x.2.2.ns, y ∈ zs) ∧ x.2.2.ns.Nodup ∧ x.2.2.ns.length ≤ 1000
theorem NsE.ext {H H' : Hp} {zs : List Str} {x : PgE} (h : NsE H zs x) (s : Same H H') : NsE H' zs x := ⟨s _ _ h.1, h.2⟩
theorem zsAt {xs : List PgE} {i : Nat} {v : V} (h : ((zsOf xs).map V.str)[i]? = some v) : ∃ x, xs[i]? = some x ∧ v = .str x.2.2.z := by
  rw [zsOf, List.map_map] at h
  exact getE h
abbrev s_are_nexts : Stmt := top 22
theorem sc_are_nexts : FnScope ["nexts", "names", "name"] ["nexts", "names"] (defScope s_are_nexts) := ⟨rfl, rfl, rfl, by decide +kernel, rfl, by decide +kernel, by decide +kernel⟩
-- slots: 0 nexts, 1 names, 2 name
def spAreNx (K : PySem.W.Frag) : Sp := fun vs H Q _ => ∃ (N n : Addr) (xs : List PgE), vs = [.ref N, .ref n] ∧ NxA H N xs ∧ H n = some (.tup ((zsOf xs).map V.str)) ∧ (∀ x ∈ xs, NsE H (zsOf xs) x) ∧ xs.length ≤ 6 ∧ ∀ H', Same H H' → Q (.bl true) H'
theorem ok_are_nexts {fd : FuncData} (F : FnD K ("are_nexts", none) "are_nexts" "are_nexts" s_are_nexts fd) (T : GTxt K mg) (O_is_choice : OkF P w K mg base CX0 2 "is_choice" ["ways", "names"] (spChoice K)) : OkF P w K mg base CX0 3 "are_nexts" ["nexts", "names"] (spAreNx K) := by
  refine okd F (F.ok sc_are_nexts (fun vs H Q E h => ?_) fun cdv A outer s H vs Q E hr h => ?_) fun _ _ _ _ _ _ us hl => match us, hl with | [_, _], _ => rfl
  · obtain ⟨N, n, xs, rfl, _⟩ := h
    rfl
  · obtain ⟨N, n, xs, rfl, ⟨kvs, hN, hlen, hv⟩, hn, hns, l6, k⟩ := h
    refine ⟨_, PSs.nox (pss_cons (ps_if (PW.pt (pw_or (pt_not (pt_val (pe_callB (id := "isinstance") call_isi (by rfl) T.z_isinstance (by decide +kernel) (pa_cons (pv 0) (pa_cons (pe_ty (n := "dict") T.z_dict (by decide +kernel)) pa_nil))))) (pw_or1 (pt_cmpR op_ne (pe_callB call_lenD (by rfl) T.z_len (by decide +kernel) (pa_cons (pv 0) pa_nil)) (pe_callB (id := "len") call_len_seq (by rfl) T.z_len (by decide +kernel) (pa_cons (pv 1) pa_nil)) (nomark _))))) (pss_one (ps_ret pe_bl))
  pss_nil)
  (pss_one (ps_ret (pe_callB (id := "all") (cr_all rfl) (by rfl) T.z_all (by decide +kernel) (pa_cons (pe_lc (own := [("name", 2)]) (g := gName 2) (tt := tYes) (by rfl) sc_are_nexts.nd (pi_tup (pv 1)) (blkOk_by (N := ["nexts", "names", "name"]) (sc := defScope s_are_nexts) (by decide +kernel)) (fun _ _ _ _ _ => (pg_name (i := 2) sc_are_nexts.nd rfl (Or.inl rfl))) (fun _ _ _ _ _ => pts_nil) (fun _ _ _ _ _ => (pe_and (pe_cmp (pc_din (hu_of hr) (pv 2) (pv 0)) rfl) (pe_one (c_fn O_is_choice hr (by decide) T.g_is_choice pass0 (pa_cons (pe_dget (hu_of hr) (pv 0) (pv 2) (fun _ _ => rfl)) (pa_cons (pv 1) pa_nil))))))) pa_nil))))), ?_⟩
    have hlz : (zsOf xs).length = xs.length := List.length_map ..
    refine ⟨_, rfl, .ref N, .ty "dict", .type "dict", .type "dict", true, rfl, .ty _, .base (.dK hN), kit_ty (by decide +kernel), true, rfl, iteF ?_⟩
    refine ⟨_, rfl, N, kvs, rfl, hN, _, rfl, n, _, rfl, .inr (SqT.of hn), rfl, false, ?_, iteF ?_⟩
    · rw [List.length_map, hlz, hlen, decide_eq_true rfl]
      rfl
    refine ⟨_, rfl, n, rfl, ⟨_, SqT.of hn⟩, fun D nD => lc_it walk_tup (fun i H' => Same H H' ∧ H' D = some (.lst ((List.replicate i true).map V.bl))) ⟨same_new nD, upd_same⟩ (fun i H' _ h => SqT.ext (SqT.of hn) h.1) ?_ ?_⟩
    · rintro i x H1 H' hi ⟨sg, hD⟩ ⟨rfl, hx⟩
      obtain ⟨y, hy, rfl⟩ := zsAt hx
      have hm := List.mem_of_getElem? hy
      obtain ⟨e1, e2, e3, e4⟩ := (hns y hm).ext sg
      refine ⟨rfl, _, rfl, _, rfl, N, _, rfl, dget_of (sg _ _ hN) (hv y hm), true, rfl, iteT ?_⟩
      refine ⟨_, rfl, _, rfl, N, _, rfl, dget_of (sg _ _ hN) (hv y hm), _, rfl, y.2.1, n, y.2.2.ns, zsOf xs, rfl, e1, sg _ _ hn, e2, e3, e4, fun H2 s2 => ?_⟩
      refine ⟨_, s2 _ _ hD, ?_, same_app sg s2 nD, by rw [upd_same, take_rep]⟩
      rw [List.length_map, List.length_replicate]
      rw [List.length_map, hlz] at hi
      exact Nat.lt_of_lt_of_le hi (Nat.le_trans l6 (by decide))
    · rintro H2 ⟨sg, hD⟩
      refine ⟨D, _, rfl, SqL.of hD, ?_⟩
      rw [all_rep]
      exact k H2 sg
/-! ### a program's fields -/
def pgf (tn : Addr) (st : Str) (dP dN : Addr) : List (Str × V) := putF "_nexts" (.ref dN) (putF "_places" (.ref dP) (putF "start" (.str st) (putF "names" (.ref tn) [])))
section
variable (tn : Addr) (st : Str) (dP dN : Addr)
theorem pgf_names : (pgf tn st dP dN).lookup ("names" : Str) = some (.ref tn) := by
  unfold pgf
  rw [lookup_putF, if_neg (by decide +kernel), lookup_putF, if_neg (by decide +kernel), lookup_putF, if_neg (by decide +kernel), lookup_putF, if_pos rfl]
theorem pgf_start : (pgf tn st dP dN).lookup ("start" : Str) = some (.str st) := by
  unfold pgf
  rw [lookup_putF, if_neg (by decide +kernel), lookup_putF, if_neg (by decide +kernel), lookup_putF, if_pos rfl]
theorem pgf_places : (pgf tn st dP dN).lookup ("_places" : Str) = some (.ref dP) := by
  unfold pgf
  rw [lookup_putF, if_neg (by decide +kernel), lookup_putF, if_pos rfl]
theorem pgf_nexts : (pgf tn st dP dN).lookup ("_nexts" : Str) = some (.ref dN) := by
  unfold pgf
  rw [lookup_putF, if_pos rfl]
end
def kvP (xs : List PgE) : List (Key × V) := xs.map fun x => (Sum.inr x.2.2.z, V.ref x.1)
def kvN (xs : List PgE) : List (Key × V) := xs.map fun x => (Sum.inr x.2.2.z, V.ref x.2.1)
/-- at g a program of the rows xs with the start st -/
structure PgA (K : PySem.W.Frag) (H : Hp) (g : Addr) (xs : List PgE) (st : Str) (dx tn dP dN : Addr) : Prop where
  hg : H g = some (.ins (CG K) dx (pgf tn st dP dN))
  hn : H tn = some (.tup ((zsOf xs).map V.str))
  hP : H dP = some (.dK (kvP xs))
  hN : H dN = some (.dK (kvN xs))
  pl : ∀ x ∈ xs, PlE K H x
  ns : ∀ x ∈ xs, NsE H (zsOf xs) x
  nd : (zsOf xs).Nodup
  l1 : 1 ≤ xs.length
  l6 : xs.length ≤ 6
  nm : ∀ z ∈ zsOf xs, nmB z = true
theorem PgA.ext {K : PySem.W.Frag} {H H' : Hp} {g : Addr} {xs : List PgE} {st : Str} {dx tn dP dN : Addr} (h : PgA K H g xs st dx tn dP dN) (s : Same H H') : PgA K H' g xs st dx tn dP dN :=
  ⟨s _ _ h.hg, s _ _ h.hn, s _ _ h.hP, s _ _ h.hN, fun x hx => (h.pl x hx).ext s, fun x hx => (h.ns x hx).ext s, h.nd, h.l1, h.l6, h.nm⟩
/-- all but what stands at d is as it was -/
def SameX (d : Addr) (H H' : Hp) : Prop := ∀ b o, b ≠ d → H b = some o → H' b = some o
theorem SameX.trans {d : Addr} {H H1 H2 : Hp} (a : SameX d H H1) (b : SameX d H1 H2) : SameX d H H2 := fun c o n h => b c o n (a c o n h)
theorem same_x {d : Addr} {H H' : Hp} (s : Same H H') : SameX d H H' := fun b o _ h => s b o h
theorem SameX.upd {d : Addr} {H : Hp} {o : HO} : SameX d H (upd H d o) := fun b u n h => by rw [upd_ne n]; exact h
/-- keys apart: what a row's name finds -/
theorem val_row {f : PgE → V} : ∀ {xs : List PgE} {i : Nat} {x : PgE}, (zsOf xs).Nodup → xs[i]? = some x → valV (xs.map fun y => ((Sum.inr y.2.2.z : Key), f y)) (Sum.inr x.2.2.z) = some (f x)
  | y :: ys, 0, x, nd, h => by
    cases h
    exact valV_pos rfl
  | y :: ys, i + 1, x, nd, h => by
    have h' : ys[i]? = some x := h
    have nd' : (y.2.2.z :: zsOf ys).Nodup := nd
    rw [List.nodup_cons] at nd'
    rw [List.map_cons, valV_neg fun z => nd'.1 ?_]
    · exact val_row nd'.2 h'
    · have : y.2.2.z = x.2.2.z := Sum.inr.inj z
      rw [this]
      exact List.mem_map_of_mem (List.mem_of_getElem? h')
theorem val_miss {f : PgE → V} {z : Str} : ∀ {xs : List PgE}, z ∉ zsOf xs → valV (xs.map fun y => ((Sum.inr y.2.2.z : Key), f y)) (Sum.inr z) = none
  | [], _ => rfl
  | y :: ys, h => by
    have h1 : ¬ y.2.2.z = z := fun e => h (e ▸ List.mem_cons_self ..)
    rw [List.map_cons, valV_neg (fun e => h1 (Sum.inr.inj e))]
    exact val_miss fun hm => h (List.mem_cons_of_mem _ hm)
theorem put_row {f : PgE → V} {xs : List PgE} {i : Nat} {x : PgE} (nd : (zsOf xs).Nodup) (h : xs[i]? = some x) : putK ((xs.take i).map fun y => ((Sum.inr y.2.2.z : Key), f y)) (Sum.inr x.2.2.z) (f x) = (xs.take (i + 1)).map fun y => ((Sum.inr y.2.2.z : Key), f y) := by
  have hn : x.2.2.z ∉ zsOf (xs.take i) := fun hm => by
    have h1 : (zsOf (xs.take (i + 1))).Nodup := by
      have : zsOf (xs.take (i + 1)) = (zsOf xs).take (i + 1) := List.map_take ..
      rw [this]
      exact nd.sublist (List.take_sublist _ _)
    rw [List.take_add_one, h] at h1
    have h2 : (zsOf (xs.take i) ++ [x.2.2.z]).Nodup := by simpa [zsOf] using h1
    exact (List.nodup_append.mp h2).2.2 _ hm _ (by simp) rfl
  rw [putK_new _ (val_miss hn), List.take_add_one, h, List.map_append]
  rfl
end
end K7

set_option Elab.async false
set_option linter.all false
set_option pp.deepTerms.threshold 14
set_option pp.maxSteps 2500
set_option maxRecDepth 100000
set_option maxHeartbeats 2000000
namespace K7
open PySem PySem.Spec PyProof.Rows L2 Vf
section
variable {P : Program} {w : World} {K : PySem.W.Frag} {mg : Str → Option Value} {base : Heap}
abbrev s_BadProgram_init : Stmt := inClass (top 4) 0
theorem sc_BadProgram_init : FnScope ["self", "why"] ["self", "why"] (defScope s_BadProgram_init) := ⟨rfl, rfl, rfl, by decide +kernel, rfl, by decide +kernel, by decide +kernel⟩
-- slots: 0 self, 1 why
theorem ok_BadProgram_init {fd : FuncData} (F : FnD K ("BadProgram", some "__init__") "__init__" "BadProgram.__init__" s_BadProgram_init fd) : OkD P w K mg base CX0 1 ("BadProgram", some "__init__") ["self", "why"] [] (spExI K (CBG K) "why") := by
  refine okd F (F.ok sc_BadProgram_init (fun vs H Q E h => ?_) fun cdv A outer s H vs Q E hr h => ⟨tOst K "why" (tVar 0) (tVar 1), PSs.nox ?_, run_exI h⟩) fun _ _ _ _ _ _ us hl => match us, hl with | [_, _], _ => rfl
  · obtain ⟨a, v, rfl, _⟩ := h
    rfl
  · exact pss_one (ps_ost (pv 0) (pv 1))
theorem pl_ne {K : PySem.W.Frag} {H : Hp} {x : PgE} {g dx : Addr} (h : PlE K H x) (hg : H g = some (.ins (CG K) dx [])) : x.1 ≠ g := by
  obtain ⟨dy, e⟩ := h
  refine ne_of e hg fun z => ?_
  injection z with _ _ z
  have := plf_name x.2.2.z x.2.2.l x.2.2.m x.2.2.b
  rw [z] at this
  cases this
/-- the parts of a right program -/
structure PartsOk (K : PySem.W.Frag) (H : Hp) (o : List V → HO) (L N : Addr) (xs : List PgE) : Prop where
  hL : H L = some (o (xs.map fun x => V.ref x.1))
  pl : ∀ x ∈ xs, PlE K H x
  nx : NxA H N xs
  ns : ∀ x ∈ xs, NsE H (zsOf xs) x
  nd : (zsOf xs).Nodup
  l1 : 1 ≤ xs.length
  l6 : xs.length ≤ 6
  nm : ∀ z ∈ zsOf xs, nmB z = true
  ho : o = HO.lst ∨ o = HO.tup
theorem PartsOk.ext {K : PySem.W.Frag} {H H' : Hp} {o : List V → HO} {L N : Addr} {xs : List PgE} (h : PartsOk K H o L N xs) (s : Same H H') : PartsOk K H' o L N xs := ⟨s _ _ h.hL, fun x hx => (h.pl x hx).ext s, h.nx.ext s, fun x hx => (h.ns x hx).ext s, h.nd, h.l1, h.l6, h.nm, h.ho⟩
theorem PartsOk.extX {K : PySem.W.Frag} {H H' : Hp} {o : List V → HO} {L N g dx : Addr} {xs : List PgE} (h : PartsOk K H o L N xs) (hg : H g = some (.ins (CG K) dx [])) (s : SameX g H H') : PartsOk K H' o L N xs := by
  refine ⟨s _ _ (ne_of h.hL hg (by intro z; rcases h.ho with e | e <;> (rw [e] at z; cases z))) h.hL, fun x hx => ?_, ?_, fun x hx => ?_, h.nd, h.l1, h.l6, h.nm, h.ho⟩
  · have n := pl_ne (h.pl x hx) hg
    obtain ⟨dy, e⟩ := h.pl x hx
    exact ⟨dy, s _ _ n e⟩
  · obtain ⟨kvs, h1, h2, h3⟩ := h.nx
    exact ⟨kvs, s _ _ (ne_of h1 hg (by intro z; cases z)) h1, h2, h3⟩
  · obtain ⟨h1, h2⟩ := h.ns x hx
    exact ⟨s _ _ (ne_of h1 hg (by intro z; cases z)) h1, h2⟩
def spPgI (K : PySem.W.Frag) : Sp := fun vs H Q _ => ∃ (g dx L N : Addr) (o : List V → HO) (xs : List PgE) (st : V) (s : Str), vs = [.ref g, .ref L, .ref N, st] ∧ H g = some (.ins (CG K) dx []) ∧ PartsOk K H o L N xs ∧ s ∈ zsOf xs ∧ (st = .str s ∨ (st = .non ∧ (zsOf xs)[0]? = some s)) ∧
  ∀ H' dx tn dP dN, SameX g H H' → PgA K H' g xs s dx tn dP dN → H dP = none → H dN = none → Q .non H'
theorem same_xg {d : Addr} {H H1 H2 : Hp} (a : SameX d H H1) (b : Same H1 H2) : SameX d H H2 := a.trans (same_x b)
abbrev s_Program_init : Stmt := inClass (top 19) 0
theorem sc_Program_init : FnScope ["self", "places", "nexts", "start", "names", "place", "name"] ["self", "places", "nexts", "start"] (defScope s_Program_init) := ⟨rfl, rfl, rfl, by decide +kernel, rfl, by decide +kernel, by decide +kernel⟩
-- slots: 0 self, 1 places, 2 nexts, 3 start, 4 names, 5 place, 6 name
theorem ok_Program_init {fd : FuncData} (F : FunD K "__init__" "Program.__init__" (defArgs s_Program_init) (defBody s_Program_init) (defScope s_Program_init) [] [("start", .non)] (He.fAd K ("Program", some "__init__")) fd) (T : GTxt K mg)
    (O_are_places : OkF P w K mg base CX0 2 "are_places" ["places"] (spArePl K)) (O_are_nexts : OkF P w K mg base CX0 3 "are_nexts" ["nexts", "names"] (spAreNx K)) (O_is_one_of : OkF P w K mg base CX0 1 "is_one_of" ["x", "names"] (spOne K))
    (O_BadProgram_init : OkD P w K mg base CX0 1 ("BadProgram", some "__init__") ["self", "why"] [] (spExI K (CBG K) "why")) :
    FnOk P w K mg base (L2.CX P w) 5 (He.fAd K ("Program", some "__init__")) fd ["self", "places", "nexts", "start"] (spPgI K) := by
  refine F.ok sc_Program_init (fun vs H Q E h => ?_) fun cdv A outer s H vs Q E hr h => ?_
  · obtain ⟨g, dx, L, N, o, xs, st, s, rfl, _⟩ := h
    rfl
  · obtain ⟨g, dx, L, N, o, xs, st, z, rfl, hg, hp, hz, hst, k⟩ := h
    have hpo := hp.ho
    rcases hpo with rfl | rfl
    · refine ⟨_, (pss_cons (ps_if (pt_not (pt_val (c_fn O_are_places hr (by decide) T.g_are_places pass0 (pa_cons (pv 1) pa_nil)))) (pss_one (c_raise T.x_BadProgram O_BadProgram_init hr (by decide) T.g_BadProgram (takes_of rfl rfl rfl rfl) (pa_cons pe_str pa_nil)))
  pss_nil)
  (pss_cons (ps_set (i := 4) sc_Program_init.nd rfl (Or.inl rfl) (pe_callTy call_tuple_of (by rfl) T.z_tuple (by decide +kernel) (pa_cons (pe_lc (own := [("place", 5)]) (g := gName 5) (tt := tYes) (by rfl) sc_Program_init.nd (pi_list (pv 1)) (blkOk_by (N := ["self", "places", "nexts", "start", "names", "place", "name"]) (sc := defScope s_Program_init) (by decide +kernel)) (fun _ _ _ _ _ => (pg_name (i := 5) sc_Program_init.nd rfl (Or.inl rfl))) (fun _ _ _ _ _ => pts_nil) (fun _ _ _ _ _ => (pe_fldK (K := K) rfl (pv 5) rfl))) pa_nil)))
  (pss_cons (ps_if (pt_not (pt_val (c_fn O_are_nexts hr (by decide) T.g_are_nexts pass0 (pa_cons (pv 2) (pa_cons (pv 4) pa_nil))))) (pss_one (c_raise T.x_BadProgram O_BadProgram_init hr (by decide) T.g_BadProgram (takes_of rfl rfl rfl rfl) (pa_cons pe_str pa_nil)))
  pss_nil)
  (pss_cons (ps_if (PW.pt (pw_and (pt_cmpR op_notN (pv 3) pe_non (nomark _)) (pw_and1 (pt_not (pt_val (c_fn O_is_one_of hr (by decide) T.g_is_one_of pass0 (pa_cons (pv 3) (pa_cons (pv 4) pa_nil)))))))) (pss_one (c_raise T.x_BadProgram O_BadProgram_init hr (by decide) T.g_BadProgram (takes_of rfl rfl rfl rfl) (pa_cons pe_str pa_nil)))
  pss_nil)
  (pss_cons (ps_fld (pv 0) (pv 4) rfl)
  (pss_cons (ps_fld (pv 0) (pe_ifExp (pt_cmpR op_isN (pv 3) pe_non (nomark _)) (pe_ix ix_tup (pv 4) pe_int (fun _ _ => rfl)) (pv 3)) rfl)
  (pss_cons (ps_fld (pv 0) (pe_dc (own := [("place", 5)]) (g := gName 5) (tt := tYes) (by rfl) sc_Program_init.nd (pi_list (pv 1)) (blkOk_by (N := ["self", "places", "nexts", "start", "names", "place", "name"]) (sc := defScope s_Program_init) (by decide +kernel)) (fun _ _ _ _ _ => (pg_name (i := 5) sc_Program_init.nd rfl (Or.inl rfl))) (fun _ _ _ _ _ => pts_nil) (fun _ _ _ _ _ => (pe_fldK (K := K) rfl (pv 5) rfl)) (fun _ _ _ _ _ => (pv 5))) rfl)
  (pss_one (ps_fld (pv 0) (pe_dc (own := [("name", 6)]) (g := gName 6) (tt := tYes) (by rfl) sc_Program_init.nd (pi_tup (pv 4)) (blkOk_by (N := ["self", "places", "nexts", "start", "names", "place", "name"]) (sc := defScope s_Program_init) (by decide +kernel)) (fun _ _ _ _ _ => (pg_name (i := 6) sc_Program_init.nd rfl (Or.inl rfl))) (fun _ _ _ _ _ => pts_nil) (fun _ _ _ _ _ => (pv 6)) (fun _ _ _ _ _ => (pe_dget (hu_of hr) (pv 2) (pv 6) (fun _ _ => rfl)))) rfl))))))))), ?_⟩
      have hlz : (zsOf xs).length = xs.length := List.length_map ..
      refine ⟨_, rfl, L, xs, rfl, .inl hp.hL, hp.pl, hp.l1, hp.l6, hp.nd, fun H1 s1 => ⟨true, rfl, iteF ?_⟩⟩
      have hp1 := hp.ext s1
      -- the names
      refine ⟨_, rfl, L, rfl, ⟨_, SqL.of hp1.hL⟩, fun D nD => lc_it walk_list (fun i H' => Same H1 H' ∧ H' D = some (.lst (((zsOf xs).take i).map V.str))) ⟨same_new nD, upd_same⟩ (fun i H' _ h => h.1.seq (SqL.of hp1.hL)) ?_ ?_⟩
      · rintro i x H3 H' hi ⟨sg3, hD3⟩ ⟨rfl, hx⟩
        obtain ⟨y, hy, rfl⟩ := getE hx
        obtain ⟨dy, ey⟩ := (hp1.pl y (List.mem_of_getElem? hy)).ext sg3
        refine ⟨rfl, _, rfl, y.1, _, dy, _, _, rfl, ey, T.c_Place, T.nN, plf_name .., ?_⟩
        refine ⟨_, hD3, ?_, same_app sg3 (Same.refl _) nD, ?_⟩
        · rw [List.length_map, List.length_take]
          rw [List.length_map] at hi
          exact Nat.lt_of_le_of_lt (Nat.min_le_left _ _) (Nat.lt_of_lt_of_le hi (Nat.le_trans hp.l6 (by decide)))
        · rw [upd_same, List.take_add_one, List.map_append]
          have : (zsOf xs)[i]? = some y.2.2.z := by
            unfold zsOf
            rw [List.getElem?_map, hy]
            rfl
          rw [this]
          rfl
      rintro H2 ⟨s12, hD⟩
      rw [List.length_map, ← hlz, List.take_length] at hD
      refine ⟨D, _, rfl, .inl ⟨SqL.of hD, fun tn ntn => ?_⟩⟩
      have s2t := same_new (o := .tup ((zsOf xs).map V.str)) ntn
      have hn : (upd H2 tn (.tup ((zsOf xs).map V.str))) tn = some (.tup ((zsOf xs).map V.str)) := upd_same
      have s3 := s1.trans (s12.trans s2t)
      generalize upd H2 tn (.tup ((zsOf xs).map V.str)) = H3 at hn s3 ⊢
      clear s2t ntn hD nD s12 hp1 s1
      have hp3 := hp.ext s3
      refine ⟨_, rfl, _, rfl, N, tn, xs, rfl, hp3.nx, hn, hp3.ns, hp.l6, fun H4 s34 => ⟨true, rfl, iteF ?_⟩⟩
      have s4 := s3.trans s34
      have hn4 := s34 _ _ hn
      have hg4 := s4 _ _ hg
      have ngt : tn ≠ g := ne_of hn4 hg4 (by intro z; cases z)
      clear hp3 hn s34 s3 H1 H2 H3
      have none_x : ∀ {H5 : Hp} {D : Addr}, SameX g H H5 → D ≠ g → H5 D = none → H D = none := fun {H5 D} x n e => by
        cases q : H D with
        | none => rfl
        | some o =>
          have := x D o n q
          rw [e] at this
          cases this
      have fin : ∀ H5 : Hp, SameX g H H5 → H5 tn = some (.tup ((zsOf xs).map V.str)) → ∀ dP : Addr, H5 dP = some (.dK (kvP xs)) → ∀ dN : Addr, H5 dN = some (.dK (kvN xs)) → H5 g = some (.ins (CG K) dx (pgf tn z dP dN)) → H dP = none → H dN = none → Q .non H5 := fun H5 x5 h1 dP h2 dN h3 h4 h5 h6 => by
        have hq := hp.extX hg x5
        exact k H5 dx tn dP dN x5 ⟨h4, h1, h2, h3, hq.pl, hq.ns, hq.nd, hq.l1, hq.l6, hq.nm⟩ h5 h6
      rcases hst with rfl | ⟨rfl, h0⟩
      · refine ⟨_, rfl, rfl, true, rfl, iteT ⟨_, rfl, _, rfl, .str z, tn, zsOf xs, rfl, SqT.of hn4, .inl ⟨z, rfl, true, by rw [decide_eq_true hz], iteF ?_⟩⟩⟩
        refine ⟨_, rfl, _, rfl, g, _, dx, [], rfl, hg4, T.c_Program, T.nA, (by show 0 < 1000; decide), ?_⟩
        refine ⟨_, rfl, rfl, false, rfl, iteF ⟨_, rfl, _, rfl, g, _, dx, _, rfl, upd_same, T.c_Program, T.nB, (by show 1 < 1000; decide), ?_⟩⟩
        have x5 : SameX g H (upd (upd H4 g (.ins (CG K) dx (putF "names" (.ref tn) []))) g (.ins (CG K) dx (putF "start" (.str z) (putF "names" (.ref tn) [])))) := (same_x s4).trans (SameX.upd.trans SameX.upd)
        have hg5 : (upd (upd H4 g (.ins (CG K) dx (putF "names" (.ref tn) []))) g (.ins (CG K) dx (putF "start" (.str z) (putF "names" (.ref tn) [])))) g = some (.ins (CG K) dx (putF "start" (.str z) (putF "names" (.ref tn) []))) := upd_same
        have hn5 : (upd (upd H4 g (.ins (CG K) dx (putF "names" (.ref tn) []))) g (.ins (CG K) dx (putF "start" (.str z) (putF "names" (.ref tn) [])))) tn = some (.tup ((zsOf xs).map V.str)) := by rw [upd_ne ngt, upd_ne ngt]; exact hn4
        generalize upd (upd H4 g (.ins (CG K) dx (putF "names" (.ref tn) []))) g (.ins (CG K) dx (putF "start" (.str z) (putF "names" (.ref tn) []))) = H5 at x5 hg5 hn5 ⊢
        clear hn4 hg4 s4 H4
        have hp5 := hp.extX hg x5
        refine ⟨_, rfl, L, rfl, ⟨_, SqL.of hp5.hL⟩, fun D nD => dc_it walk_list (fun i H' => Same H5 H' ∧ H' D = some (.dK ((xs.take i).map fun y => ((Sum.inr y.2.2.z : Key), V.ref y.1)))) ⟨same_new nD, by rw [upd_same]; rfl⟩ (fun i H' _ h => h.1.seq (SqL.of hp5.hL)) ?_ ?_⟩
        · rintro i x H6 H' hi ⟨sg, hD⟩ ⟨rfl, hx⟩
          obtain ⟨y, hy, rfl⟩ := getE hx
          obtain ⟨dy, ey⟩ := (hp5.pl y (List.mem_of_getElem? hy)).ext sg
          refine ⟨rfl, _, rfl, y.1, _, dy, _, _, rfl, ey, T.c_Place, T.nN, plf_name .., _, rfl, _, Sum.inr y.2.2.z, rfl, hD, ?_, same_app sg (Same.refl _) nD, ?_⟩
          · rw [List.length_map, List.length_take]
            rw [List.length_map] at hi
            exact Nat.lt_of_le_of_lt (Nat.min_le_left _ _) (Nat.lt_of_lt_of_le hi (Nat.le_trans hp.l6 (by decide)))
          · rw [upd_same, put_row (f := fun y => V.ref y.1) hp.nd hy]
        rintro H6 ⟨s56, hD⟩
        rw [List.length_map, List.take_length] at hD
        have hg6 := s56 _ _ hg5
        have nDg : D ≠ g := ne_of hD hg6 (by intro z; cases z)
        refine ⟨_, rfl, g, _, dx, _, rfl, hg6, T.c_Program, T.nC, (by show 2 < 1000; decide), ?_⟩
        have x7 : SameX g H (upd H6 g (.ins (CG K) dx (putF "_places" (.ref D) (putF "start" (.str z) (putF "names" (.ref tn) []))))) := (x5.trans (same_x s56)).trans SameX.upd
        have hg7 : (upd H6 g (.ins (CG K) dx (putF "_places" (.ref D) (putF "start" (.str z) (putF "names" (.ref tn) []))))) g = some (.ins (CG K) dx (putF "_places" (.ref D) (putF "start" (.str z) (putF "names" (.ref tn) [])))) := upd_same
        have hn7 : (upd H6 g (.ins (CG K) dx (putF "_places" (.ref D) (putF "start" (.str z) (putF "names" (.ref tn) []))))) tn = some (.tup ((zsOf xs).map V.str)) := by rw [upd_ne ngt]; exact s56 _ _ hn5
        have hD7 : (upd H6 g (.ins (CG K) dx (putF "_places" (.ref D) (putF "start" (.str z) (putF "names" (.ref tn) []))))) D = some (.dK (kvP xs)) := by rw [upd_ne nDg]; exact hD
        generalize upd H6 g (.ins (CG K) dx (putF "_places" (.ref D) (putF "start" (.str z) (putF "names" (.ref tn) [])))) = H7 at x7 hg7 hn7 hD7 ⊢
        have nD0 := none_x x5 nDg nD
        clear hg6 hD s56 nD hp5 hn5 hg5 x5 H6 H5
        have hp7 := hp.extX hg x7
        obtain ⟨kvs, hN, hl, hv⟩ := hp7.nx
        refine ⟨_, rfl, tn, rfl, ⟨_, SqT.of hn7⟩, fun D2 nD2 => dc_it walk_tup (fun i H' => Same H7 H' ∧ H' D2 = some (.dK ((xs.take i).map fun y => ((Sum.inr y.2.2.z : Key), V.ref y.2.1)))) ⟨same_new nD2, by rw [upd_same]; rfl⟩ (fun i H' _ h => SqT.ext (SqT.of hn7) h.1) ?_ ?_⟩
        · rintro i x H8 H' hi ⟨sg, hD2⟩ ⟨rfl, hx⟩
          obtain ⟨y, hy, rfl⟩ := zsAt hx
          refine ⟨rfl, _, rfl, _, rfl, _, rfl, N, _, rfl, dget_of (sg _ _ hN) (hv y (List.mem_of_getElem? hy)), _, Sum.inr y.2.2.z, rfl, hD2, ?_, same_app sg (Same.refl _) nD2, ?_⟩
          · rw [List.length_map, List.length_take]
            rw [List.length_map, hlz] at hi
            exact Nat.lt_of_le_of_lt (Nat.min_le_left _ _) (Nat.lt_of_lt_of_le hi (Nat.le_trans hp.l6 (by decide)))
          · rw [upd_same, put_row (f := fun y => V.ref y.2.1) hp.nd hy]
        rintro H8 ⟨s78, hD2⟩
        rw [List.length_map, hlz, List.take_length] at hD2
        have hg8 := s78 _ _ hg7
        have nDg2 : D2 ≠ g := ne_of hD2 hg8 (by intro z; cases z)
        refine ⟨_, rfl, g, _, dx, _, rfl, hg8, T.c_Program, T.nD, (by show 3 < 1000; decide), ?_⟩
        exact fin _ ((x7.trans (same_x s78)).trans SameX.upd) (by rw [upd_ne ngt]; exact s78 _ _ hn7) D (by rw [upd_ne nDg]; exact s78 _ _ hD7) D2 (by rw [upd_ne nDg2]; exact hD2) upd_same nD0 (none_x x7 nDg2 nD2)
      · refine ⟨_, rfl, rfl, false, rfl, iteF ?_⟩
        refine ⟨_, rfl, _, rfl, g, _, dx, [], rfl, hg4, T.c_Program, T.nA, (by show 0 < 1000; decide), ?_⟩
        have a0 : atI ((zsOf xs).map V.str) 0 = some (.str z) := atI_nat (j := 0) (by rw [List.getElem?_map, h0]; rfl)
        have hn4' : (upd H4 g (.ins (CG K) dx (putF "names" (.ref tn) []))) tn = some (.tup ((zsOf xs).map V.str)) := by rw [upd_ne ngt]; exact hn4
        refine ⟨_, rfl, rfl, true, rfl, iteT ⟨_, rfl, tn, _, 0, .str z, rfl, rfl, SqT.of hn4', a0, _, rfl, g, _, dx, _, rfl, upd_same, T.c_Program, T.nB, (by show 1 < 1000; decide), ?_⟩⟩
        clear hn4' a0
        have x5 : SameX g H (upd (upd H4 g (.ins (CG K) dx (putF "names" (.ref tn) []))) g (.ins (CG K) dx (putF "start" (.str z) (putF "names" (.ref tn) [])))) := (same_x s4).trans (SameX.upd.trans SameX.upd)
        have hg5 : (upd (upd H4 g (.ins (CG K) dx (putF "names" (.ref tn) []))) g (.ins (CG K) dx (putF "start" (.str z) (putF "names" (.ref tn) [])))) g = some (.ins (CG K) dx (putF "start" (.str z) (putF "names" (.ref tn) []))) := upd_same
        have hn5 : (upd (upd H4 g (.ins (CG K) dx (putF "names" (.ref tn) []))) g (.ins (CG K) dx (putF "start" (.str z) (putF "names" (.ref tn) [])))) tn = some (.tup ((zsOf xs).map V.str)) := by rw [upd_ne ngt, upd_ne ngt]; exact hn4
        generalize upd (upd H4 g (.ins (CG K) dx (putF "names" (.ref tn) []))) g (.ins (CG K) dx (putF "start" (.str z) (putF "names" (.ref tn) []))) = H5 at x5 hg5 hn5 ⊢
        clear hn4 hg4 s4 H4
        have hp5 := hp.extX hg x5
        refine ⟨_, rfl, L, rfl, ⟨_, SqL.of hp5.hL⟩, fun D nD => dc_it walk_list (fun i H' => Same H5 H' ∧ H' D = some (.dK ((xs.take i).map fun y => ((Sum.inr y.2.2.z : Key), V.ref y.1)))) ⟨same_new nD, by rw [upd_same]; rfl⟩ (fun i H' _ h => h.1.seq (SqL.of hp5.hL)) ?_ ?_⟩
        · rintro i x H6 H' hi ⟨sg, hD⟩ ⟨rfl, hx⟩
          obtain ⟨y, hy, rfl⟩ := getE hx
          obtain ⟨dy, ey⟩ := (hp5.pl y (List.mem_of_getElem? hy)).ext sg
          refine ⟨rfl, _, rfl, y.1, _, dy, _, _, rfl, ey, T.c_Place, T.nN, plf_name .., _, rfl, _, Sum.inr y.2.2.z, rfl, hD, ?_, same_app sg (Same.refl _) nD, ?_⟩
          · rw [List.length_map, List.length_take]
            rw [List.length_map] at hi
            exact Nat.lt_of_le_of_lt (Nat.min_le_left _ _) (Nat.lt_of_lt_of_le hi (Nat.le_trans hp.l6 (by decide)))
          · rw [upd_same, put_row (f := fun y => V.ref y.1) hp.nd hy]
        rintro H6 ⟨s56, hD⟩
        rw [List.length_map, List.take_length] at hD
        have hg6 := s56 _ _ hg5
        have nDg : D ≠ g := ne_of hD hg6 (by intro z; cases z)
        refine ⟨_, rfl, g, _, dx, _, rfl, hg6, T.c_Program, T.nC, (by show 2 < 1000; decide), ?_⟩
        have x7 : SameX g H (upd H6 g (.ins (CG K) dx (putF "_places" (.ref D) (putF "start" (.str z) (putF "names" (.ref tn) []))))) := (x5.trans (same_x s56)).trans SameX.upd
        have hg7 : (upd H6 g (.ins (CG K) dx (putF "_places" (.ref D) (putF "start" (.str z) (putF "names" (.ref tn) []))))) g = some (.ins (CG K) dx (putF "_places" (.ref D) (putF "start" (.str z) (putF "names" (.ref tn) [])))) := upd_same
        have hn7 : (upd H6 g (.ins (CG K) dx (putF "_places" (.ref D) (putF "start" (.str z) (putF "names" (.ref tn) []))))) tn = some (.tup ((zsOf xs).map V.str)) := by rw [upd_ne ngt]; exact s56 _ _ hn5
        have hD7 : (upd H6 g (.ins (CG K) dx (putF "_places" (.ref D) (putF "start" (.str z) (putF "names" (.ref tn) []))))) D = some (.dK (kvP xs)) := by rw [upd_ne nDg]; exact hD
        generalize upd H6 g (.ins (CG K) dx (putF "_places" (.ref D) (putF "start" (.str z) (putF "names" (.ref tn) [])))) = H7 at x7 hg7 hn7 hD7 ⊢
        have nD0 := none_x x5 nDg nD
        clear hg6 hD s56 nD hp5 hn5 hg5 x5 H6 H5
        have hp7 := hp.extX hg x7
        obtain ⟨kvs, hN, hl, hv⟩ := hp7.nx
        refine ⟨_, rfl, tn, rfl, ⟨_, SqT.of hn7⟩, fun D2 nD2 => dc_it walk_tup (fun i H' => Same H7 H' ∧ H' D2 = some (.dK ((xs.take i).map fun y => ((Sum.inr y.2.2.z : Key), V.ref y.2.1)))) ⟨same_new nD2, by rw [upd_same]; rfl⟩ (fun i H' _ h => SqT.ext (SqT.of hn7) h.1) ?_ ?_⟩
        · rintro i x H8 H' hi ⟨sg, hD2⟩ ⟨rfl, hx⟩
          obtain ⟨y, hy, rfl⟩ := zsAt hx
          refine ⟨rfl, _, rfl, _, rfl, _, rfl, N, _, rfl, dget_of (sg _ _ hN) (hv y (List.mem_of_getElem? hy)), _, Sum.inr y.2.2.z, rfl, hD2, ?_, same_app sg (Same.refl _) nD2, ?_⟩
          · rw [List.length_map, List.length_take]
            rw [List.length_map, hlz] at hi
            exact Nat.lt_of_le_of_lt (Nat.min_le_left _ _) (Nat.lt_of_lt_of_le hi (Nat.le_trans hp.l6 (by decide)))
          · rw [upd_same, put_row (f := fun y => V.ref y.2.1) hp.nd hy]
        rintro H8 ⟨s78, hD2⟩
        rw [List.length_map, hlz, List.take_length] at hD2
        have hg8 := s78 _ _ hg7
        have nDg2 : D2 ≠ g := ne_of hD2 hg8 (by intro z; cases z)
        refine ⟨_, rfl, g, _, dx, _, rfl, hg8, T.c_Program, T.nD, (by show 3 < 1000; decide), ?_⟩
        exact fin _ ((x7.trans (same_x s78)).trans SameX.upd) (by rw [upd_ne ngt]; exact s78 _ _ hn7) D (by rw [upd_ne nDg]; exact s78 _ _ hD7) D2 (by rw [upd_ne nDg2]; exact hD2) upd_same nD0 (none_x x7 nDg2 nD2)
    · refine ⟨_, (pss_cons (ps_if (pt_not (pt_val (c_fn O_are_places hr (by decide) T.g_are_places pass0 (pa_cons (pv 1) pa_nil)))) (pss_one (c_raise T.x_BadProgram O_BadProgram_init hr (by decide) T.g_BadProgram (takes_of rfl rfl rfl rfl) (pa_cons pe_str pa_nil)))
  pss_nil)
  (pss_cons (ps_set (i := 4) sc_Program_init.nd rfl (Or.inl rfl) (pe_callTy call_tuple_of (by rfl) T.z_tuple (by decide +kernel) (pa_cons (pe_lc (own := [("place", 5)]) (g := gName 5) (tt := tYes) (by rfl) sc_Program_init.nd (pi_tup (pv 1)) (blkOk_by (N := ["self", "places", "nexts", "start", "names", "place", "name"]) (sc := defScope s_Program_init) (by decide +kernel)) (fun _ _ _ _ _ => (pg_name (i := 5) sc_Program_init.nd rfl (Or.inl rfl))) (fun _ _ _ _ _ => pts_nil) (fun _ _ _ _ _ => (pe_fldK (K := K) rfl (pv 5) rfl))) pa_nil)))
  (pss_cons (ps_if (pt_not (pt_val (c_fn O_are_nexts hr (by decide) T.g_are_nexts pass0 (pa_cons (pv 2) (pa_cons (pv 4) pa_nil))))) (pss_one (c_raise T.x_BadProgram O_BadProgram_init hr (by decide) T.g_BadProgram (takes_of rfl rfl rfl rfl) (pa_cons pe_str pa_nil)))
  pss_nil)
  (pss_cons (ps_if (PW.pt (pw_and (pt_cmpR op_notN (pv 3) pe_non (nomark _)) (pw_and1 (pt_not (pt_val (c_fn O_is_one_of hr (by decide) T.g_is_one_of pass0 (pa_cons (pv 3) (pa_cons (pv 4) pa_nil)))))))) (pss_one (c_raise T.x_BadProgram O_BadProgram_init hr (by decide) T.g_BadProgram (takes_of rfl rfl rfl rfl) (pa_cons pe_str pa_nil)))
  pss_nil)
  (pss_cons (ps_fld (pv 0) (pv 4) rfl)
  (pss_cons (ps_fld (pv 0) (pe_ifExp (pt_cmpR op_isN (pv 3) pe_non (nomark _)) (pe_ix ix_tup (pv 4) pe_int (fun _ _ => rfl)) (pv 3)) rfl)
  (pss_cons (ps_fld (pv 0) (pe_dc (own := [("place", 5)]) (g := gName 5) (tt := tYes) (by rfl) sc_Program_init.nd (pi_tup (pv 1)) (blkOk_by (N := ["self", "places", "nexts", "start", "names", "place", "name"]) (sc := defScope s_Program_init) (by decide +kernel)) (fun _ _ _ _ _ => (pg_name (i := 5) sc_Program_init.nd rfl (Or.inl rfl))) (fun _ _ _ _ _ => pts_nil) (fun _ _ _ _ _ => (pe_fldK (K := K) rfl (pv 5) rfl)) (fun _ _ _ _ _ => (pv 5))) rfl)
  (pss_one (ps_fld (pv 0) (pe_dc (own := [("name", 6)]) (g := gName 6) (tt := tYes) (by rfl) sc_Program_init.nd (pi_tup (pv 4)) (blkOk_by (N := ["self", "places", "nexts", "start", "names", "place", "name"]) (sc := defScope s_Program_init) (by decide +kernel)) (fun _ _ _ _ _ => (pg_name (i := 6) sc_Program_init.nd rfl (Or.inl rfl))) (fun _ _ _ _ _ => pts_nil) (fun _ _ _ _ _ => (pv 6)) (fun _ _ _ _ _ => (pe_dget (hu_of hr) (pv 2) (pv 6) (fun _ _ => rfl)))) rfl))))))))), ?_⟩
      have hlz : (zsOf xs).length = xs.length := List.length_map ..
      refine ⟨_, rfl, L, xs, rfl, .inr hp.hL, hp.pl, hp.l1, hp.l6, hp.nd, fun H1 s1 => ⟨true, rfl, iteF ?_⟩⟩
      have hp1 := hp.ext s1
      -- the names
      refine ⟨_, rfl, L, rfl, ⟨_, SqT.of hp1.hL⟩, fun D nD => lc_it walk_tup (fun i H' => Same H1 H' ∧ H' D = some (.lst (((zsOf xs).take i).map V.str))) ⟨same_new nD, upd_same⟩ (fun i H' _ h => SqT.ext (SqT.of hp1.hL) h.1) ?_ ?_⟩
      · rintro i x H3 H' hi ⟨sg3, hD3⟩ ⟨rfl, hx⟩
        obtain ⟨y, hy, rfl⟩ := getE hx
        obtain ⟨dy, ey⟩ := (hp1.pl y (List.mem_of_getElem? hy)).ext sg3
        refine ⟨rfl, _, rfl, y.1, _, dy, _, _, rfl, ey, T.c_Place, T.nN, plf_name .., ?_⟩
        refine ⟨_, hD3, ?_, same_app sg3 (Same.refl _) nD, ?_⟩
        · rw [List.length_map, List.length_take]
          rw [List.length_map] at hi
          exact Nat.lt_of_le_of_lt (Nat.min_le_left _ _) (Nat.lt_of_lt_of_le hi (Nat.le_trans hp.l6 (by decide)))
        · rw [upd_same, List.take_add_one, List.map_append]
          have : (zsOf xs)[i]? = some y.2.2.z := by
            unfold zsOf
            rw [List.getElem?_map, hy]
            rfl
          rw [this]
          rfl
      rintro H2 ⟨s12, hD⟩
      rw [List.length_map, ← hlz, List.take_length] at hD
      refine ⟨D, _, rfl, .inl ⟨SqL.of hD, fun tn ntn => ?_⟩⟩
      have s2t := same_new (o := .tup ((zsOf xs).map V.str)) ntn
      have hn : (upd H2 tn (.tup ((zsOf xs).map V.str))) tn = some (.tup ((zsOf xs).map V.str)) := upd_same
      have s3 := s1.trans (s12.trans s2t)
      generalize upd H2 tn (.tup ((zsOf xs).map V.str)) = H3 at hn s3 ⊢
      clear s2t ntn hD nD s12 hp1 s1
      have hp3 := hp.ext s3
      refine ⟨_, rfl, _, rfl, N, tn, xs, rfl, hp3.nx, hn, hp3.ns, hp.l6, fun H4 s34 => ⟨true, rfl, iteF ?_⟩⟩
      have s4 := s3.trans s34
      have hn4 := s34 _ _ hn
      have hg4 := s4 _ _ hg
      have ngt : tn ≠ g := ne_of hn4 hg4 (by intro z; cases z)
      clear hp3 hn s34 s3 H1 H2 H3
      have none_x : ∀ {H5 : Hp} {D : Addr}, SameX g H H5 → D ≠ g → H5 D = none → H D = none := fun {H5 D} x n e => by
        cases q : H D with
        | none => rfl
        | some o =>
          have := x D o n q
          rw [e] at this
          cases this
      have fin : ∀ H5 : Hp, SameX g H H5 → H5 tn = some (.tup ((zsOf xs).map V.str)) → ∀ dP : Addr, H5 dP = some (.dK (kvP xs)) → ∀ dN : Addr, H5 dN = some (.dK (kvN xs)) → H5 g = some (.ins (CG K) dx (pgf tn z dP dN)) → H dP = none → H dN = none → Q .non H5 := fun H5 x5 h1 dP h2 dN h3 h4 h5 h6 => by
        have hq := hp.extX hg x5
        exact k H5 dx tn dP dN x5 ⟨h4, h1, h2, h3, hq.pl, hq.ns, hq.nd, hq.l1, hq.l6, hq.nm⟩ h5 h6
      rcases hst with rfl | ⟨rfl, h0⟩
      · refine ⟨_, rfl, rfl, true, rfl, iteT ⟨_, rfl, _, rfl, .str z, tn, zsOf xs, rfl, SqT.of hn4, .inl ⟨z, rfl, true, by rw [decide_eq_true hz], iteF ?_⟩⟩⟩
        refine ⟨_, rfl, _, rfl, g, _, dx, [], rfl, hg4, T.c_Program, T.nA, (by show 0 < 1000; decide), ?_⟩
        refine ⟨_, rfl, rfl, false, rfl, iteF ⟨_, rfl, _, rfl, g, _, dx, _, rfl, upd_same, T.c_Program, T.nB, (by show 1 < 1000; decide), ?_⟩⟩
        have x5 : SameX g H (upd (upd H4 g (.ins (CG K) dx (putF "names" (.ref tn) []))) g (.ins (CG K) dx (putF "start" (.str z) (putF "names" (.ref tn) [])))) := (same_x s4).trans (SameX.upd.trans SameX.upd)
        have hg5 : (upd (upd H4 g (.ins (CG K) dx (putF "names" (.ref tn) []))) g (.ins (CG K) dx (putF "start" (.str z) (putF "names" (.ref tn) [])))) g = some (.ins (CG K) dx (putF "start" (.str z) (putF "names" (.ref tn) []))) := upd_same
        have hn5 : (upd (upd H4 g (.ins (CG K) dx (putF "names" (.ref tn) []))) g (.ins (CG K) dx (putF "start" (.str z) (putF "names" (.ref tn) [])))) tn = some (.tup ((zsOf xs).map V.str)) := by rw [upd_ne ngt, upd_ne ngt]; exact hn4
        generalize upd (upd H4 g (.ins (CG K) dx (putF "names" (.ref tn) []))) g (.ins (CG K) dx (putF "start" (.str z) (putF "names" (.ref tn) []))) = H5 at x5 hg5 hn5 ⊢
        clear hn4 hg4 s4 H4
        have hp5 := hp.extX hg x5
        refine ⟨_, rfl, L, rfl, ⟨_, SqT.of hp5.hL⟩, fun D nD => dc_it walk_tup (fun i H' => Same H5 H' ∧ H' D = some (.dK ((xs.take i).map fun y => ((Sum.inr y.2.2.z : Key), V.ref y.1)))) ⟨same_new nD, by rw [upd_same]; rfl⟩ (fun i H' _ h => SqT.ext (SqT.of hp5.hL) h.1) ?_ ?_⟩
        · rintro i x H6 H' hi ⟨sg, hD⟩ ⟨rfl, hx⟩
          obtain ⟨y, hy, rfl⟩ := getE hx
          obtain ⟨dy, ey⟩ := (hp5.pl y (List.mem_of_getElem? hy)).ext sg
          refine ⟨rfl, _, rfl, y.1, _, dy, _, _, rfl, ey, T.c_Place, T.nN, plf_name .., _, rfl, _, Sum.inr y.2.2.z, rfl, hD, ?_, same_app sg (Same.refl _) nD, ?_⟩
          · rw [List.length_map, List.length_take]
            rw [List.length_map] at hi
            exact Nat.lt_of_le_of_lt (Nat.min_le_left _ _) (Nat.lt_of_lt_of_le hi (Nat.le_trans hp.l6 (by decide)))
          · rw [upd_same, put_row (f := fun y => V.ref y.1) hp.nd hy]
        rintro H6 ⟨s56, hD⟩
        rw [List.length_map, List.take_length] at hD
        have hg6 := s56 _ _ hg5
        have nDg : D ≠ g := ne_of hD hg6 (by intro z; cases z)
        refine ⟨_, rfl, g, _, dx, _, rfl, hg6, T.c_Program, T.nC, (by show 2 < 1000; decide), ?_⟩
        have x7 : SameX g H (upd H6 g (.ins (CG K) dx (putF "_places" (.ref D) (putF "start" (.str z) (putF "names" (.ref tn) []))))) := (x5.trans (same_x s56)).trans SameX.upd
        have hg7 : (upd H6 g (.ins (CG K) dx (putF "_places" (.ref D) (putF "start" (.str z) (putF "names" (.ref tn) []))))) g = some (.ins (CG K) dx (putF "_places" (.ref D) (putF "start" (.str z) (putF "names" (.ref tn) [])))) := upd_same
        have hn7 : (upd H6 g (.ins (CG K) dx (putF "_places" (.ref D) (putF "start" (.str z) (putF "names" (.ref tn) []))))) tn = some (.tup ((zsOf xs).map V.str)) := by rw [upd_ne ngt]; exact s56 _ _ hn5
        have hD7 : (upd H6 g (.ins (CG K) dx (putF "_places" (.ref D) (putF "start" (.str z) (putF "names" (.ref tn) []))))) D = some (.dK (kvP xs)) := by rw [upd_ne nDg]; exact hD
        generalize upd H6 g (.ins (CG K) dx (putF "_places" (.ref D) (putF "start" (.str z) (putF "names" (.ref tn) [])))) = H7 at x7 hg7 hn7 hD7 ⊢
        have nD0 := none_x x5 nDg nD
        clear hg6 hD s56 nD hp5 hn5 hg5 x5 H6 H5
        have hp7 := hp.extX hg x7
        obtain ⟨kvs, hN, hl, hv⟩ := hp7.nx
        refine ⟨_, rfl, tn, rfl, ⟨_, SqT.of hn7⟩, fun D2 nD2 => dc_it walk_tup (fun i H' => Same H7 H' ∧ H' D2 = some (.dK ((xs.take i).map fun y => ((Sum.inr y.2.2.z : Key), V.ref y.2.1)))) ⟨same_new nD2, by rw [upd_same]; rfl⟩ (fun i H' _ h => SqT.ext (SqT.of hn7) h.1) ?_ ?_⟩
        · rintro i x H8 H' hi ⟨sg, hD2⟩ ⟨rfl, hx⟩
          obtain ⟨y, hy, rfl⟩ := zsAt hx
          refine ⟨rfl, _, rfl, _, rfl, _, rfl, N, _, rfl, dget_of (sg _ _ hN) (hv y (List.mem_of_getElem? hy)), _, Sum.inr y.2.2.z, rfl, hD2, ?_, same_app sg (Same.refl _) nD2, ?_⟩
          · rw [List.length_map, List.length_take]
            rw [List.length_map, hlz] at hi
            exact Nat.lt_of_le_of_lt (Nat.min_le_left _ _) (Nat.lt_of_lt_of_le hi (Nat.le_trans hp.l6 (by decide)))
          · rw [upd_same, put_row (f := fun y => V.ref y.2.1) hp.nd hy]
        rintro H8 ⟨s78, hD2⟩
        rw [List.length_map, hlz, List.take_length] at hD2
        have hg8 := s78 _ _ hg7
        have nDg2 : D2 ≠ g := ne_of hD2 hg8 (by intro z; cases z)
        refine ⟨_, rfl, g, _, dx, _, rfl, hg8, T.c_Program, T.nD, (by show 3 < 1000; decide), ?_⟩
        exact fin _ ((x7.trans (same_x s78)).trans SameX.upd) (by rw [upd_ne ngt]; exact s78 _ _ hn7) D (by rw [upd_ne nDg]; exact s78 _ _ hD7) D2 (by rw [upd_ne nDg2]; exact hD2) upd_same nD0 (none_x x7 nDg2 nD2)
      · refine ⟨_, rfl, rfl, false, rfl, iteF ?_⟩
        refine ⟨_, rfl, _, rfl, g, _, dx, [], rfl, hg4, T.c_Program, T.nA, (by show 0 < 1000; decide), ?_⟩
        have a0 : atI ((zsOf xs).map V.str) 0 = some (.str z) := atI_nat (j := 0) (by rw [List.getElem?_map, h0]; rfl)
        have hn4' : (upd H4 g (.ins (CG K) dx (putF "names" (.ref tn) []))) tn = some (.tup ((zsOf xs).map V.str)) := by rw [upd_ne ngt]; exact hn4
        refine ⟨_, rfl, rfl, true, rfl, iteT ⟨_, rfl, tn, _, 0, .str z, rfl, rfl, SqT.of hn4', a0, _, rfl, g, _, dx, _, rfl, upd_same, T.c_Program, T.nB, (by show 1 < 1000; decide), ?_⟩⟩
        clear hn4' a0
        have x5 : SameX g H (upd (upd H4 g (.ins (CG K) dx (putF "names" (.ref tn) []))) g (.ins (CG K) dx (putF "start" (.str z) (putF "names" (.ref tn) [])))) := (same_x s4).trans (SameX.upd.trans SameX.upd)
        have hg5 : (upd (upd H4 g (.ins (CG K) dx (putF "names" (.ref tn) []))) g (.ins (CG K) dx (putF "start" (.str z) (putF "names" (.ref tn) [])))) g = some (.ins (CG K) dx (putF "start" (.str z) (putF "names" (.ref tn) []))) := upd_same
        have hn5 : (upd (upd H4 g (.ins (CG K) dx (putF "names" (.ref tn) []))) g (.ins (CG K) dx (putF "start" (.str z) (putF "names" (.ref tn) [])))) tn = some (.tup ((zsOf xs).map V.str)) := by rw [upd_ne ngt, upd_ne ngt]; exact hn4
        generalize upd (upd H4 g (.ins (CG K) dx (putF "names" (.ref tn) []))) g (.ins (CG K) dx (putF "start" (.str z) (putF "names" (.ref tn) []))) = H5 at x5 hg5 hn5 ⊢
        clear hn4 hg4 s4 H4
        have hp5 := hp.extX hg x5
        refine ⟨_, rfl, L, rfl, ⟨_, SqT.of hp5.hL⟩, fun D nD => dc_it walk_tup (fun i H' => Same H5 H' ∧ H' D = some (.dK ((xs.take i).map fun y => ((Sum.inr y.2.2.z : Key), V.ref y.1)))) ⟨same_new nD, by rw [upd_same]; rfl⟩ (fun i H' _ h => SqT.ext (SqT.of hp5.hL) h.1) ?_ ?_⟩
        · rintro i x H6 H' hi ⟨sg, hD⟩ ⟨rfl, hx⟩
          obtain ⟨y, hy, rfl⟩ := getE hx
          obtain ⟨dy, ey⟩ := (hp5.pl y (List.mem_of_getElem? hy)).ext sg
          refine ⟨rfl, _, rfl, y.1, _, dy, _, _, rfl, ey, T.c_Place, T.nN, plf_name .., _, rfl, _, Sum.inr y.2.2.z, rfl, hD, ?_, same_app sg (Same.refl _) nD, ?_⟩
          · rw [List.length_map, List.length_take]
            rw [List.length_map] at hi
            exact Nat.lt_of_le_of_lt (Nat.min_le_left _ _) (Nat.lt_of_lt_of_le hi (Nat.le_trans hp.l6 (by decide)))
          · rw [upd_same, put_row (f := fun y => V.ref y.1) hp.nd hy]
        rintro H6 ⟨s56, hD⟩
        rw [List.length_map, List.take_length] at hD
        have hg6 := s56 _ _ hg5
        have nDg : D ≠ g := ne_of hD hg6 (by intro z; cases z)
        refine ⟨_, rfl, g, _, dx, _, rfl, hg6, T.c_Program, T.nC, (by show 2 < 1000; decide), ?_⟩
        have x7 : SameX g H (upd H6 g (.ins (CG K) dx (putF "_places" (.ref D) (putF "start" (.str z) (putF "names" (.ref tn) []))))) := (x5.trans (same_x s56)).trans SameX.upd
        have hg7 : (upd H6 g (.ins (CG K) dx (putF "_places" (.ref D) (putF "start" (.str z) (putF "names" (.ref tn) []))))) g = some (.ins (CG K) dx (putF "_places" (.ref D) (putF "start" (.str z) (putF "names" (.ref tn) [])))) := upd_same
        have hn7 : (upd H6 g (.ins (CG K) dx (putF "_places" (.ref D) (putF "start" (.str z) (putF "names" (.ref tn) []))))) tn = some (.tup ((zsOf xs).map V.str)) := by rw [upd_ne ngt]; exact s56 _ _ hn5
        have hD7 : (upd H6 g (.ins (CG K) dx (putF "_places" (.ref D) (putF "start" (.str z) (putF "names" (.ref tn) []))))) D = some (.dK (kvP xs)) := by rw [upd_ne nDg]; exact hD
        generalize upd H6 g (.ins (CG K) dx (putF "_places" (.ref D) (putF "start" (.str z) (putF "names" (.ref tn) [])))) = H7 at x7 hg7 hn7 hD7 ⊢
        have nD0 := none_x x5 nDg nD
        clear hg6 hD s56 nD hp5 hn5 hg5 x5 H6 H5
        have hp7 := hp.extX hg x7
        obtain ⟨kvs, hN, hl, hv⟩ := hp7.nx
        refine ⟨_, rfl, tn, rfl, ⟨_, SqT.of hn7⟩, fun D2 nD2 => dc_it walk_tup (fun i H' => Same H7 H' ∧ H' D2 = some (.dK ((xs.take i).map fun y => ((Sum.inr y.2.2.z : Key), V.ref y.2.1)))) ⟨same_new nD2, by rw [upd_same]; rfl⟩ (fun i H' _ h => SqT.ext (SqT.of hn7) h.1) ?_ ?_⟩
        · rintro i x H8 H' hi ⟨sg, hD2⟩ ⟨rfl, hx⟩
          obtain ⟨y, hy, rfl⟩ := zsAt hx
          refine ⟨rfl, _, rfl, _, rfl, _, rfl, N, _, rfl, dget_of (sg _ _ hN) (hv y (List.mem_of_getElem? hy)), _, Sum.inr y.2.2.z, rfl, hD2, ?_, same_app sg (Same.refl _) nD2, ?_⟩
          · rw [List.length_map, List.length_take]
            rw [List.length_map, hlz] at hi
            exact Nat.lt_of_le_of_lt (Nat.min_le_left _ _) (Nat.lt_of_lt_of_le hi (Nat.le_trans hp.l6 (by decide)))
          · rw [upd_same, put_row (f := fun y => V.ref y.2.1) hp.nd hy]
        rintro H8 ⟨s78, hD2⟩
        rw [List.length_map, hlz, List.take_length] at hD2
        have hg8 := s78 _ _ hg7
        have nDg2 : D2 ≠ g := ne_of hD2 hg8 (by intro z; cases z)
        refine ⟨_, rfl, g, _, dx, _, rfl, hg8, T.c_Program, T.nD, (by show 3 < 1000; decide), ?_⟩
        exact fin _ ((x7.trans (same_x s78)).trans SameX.upd) (by rw [upd_ne ngt]; exact s78 _ _ hn7) D (by rw [upd_ne nDg]; exact s78 _ _ hD7) D2 (by rw [upd_ne nDg2]; exact hD2) upd_same nD0 (none_x x7 nDg2 nD2)
theorem O_Program2k {fd : FuncData} (F : FunD K "__init__" "Program.__init__" (defArgs s_Program_init) (defBody s_Program_init) (defScope s_Program_init) [] [("start", .non)] (He.fAd K ("Program", some "__init__")) fd) (G : FnOk P w K mg base (L2.CX P w) 5 (He.fAd K ("Program", some "__init__")) fd ["self", "places", "nexts", "start"] (spPgI K)) :
    OkK P w K mg base (L2.CX P w) 5 ("Program", some "__init__") ["self", "places", "nexts", "start"] 3 ["start"] (fun vs zs => vs ++ zs) (spPgI K) := by
  obtain ⟨mv, b⟩ := F.kbinds0 (ps := ["self", "places", "nexts", "start"]) 3 ["start"] [] (fun us _ ws => us ++ ws) (by decide) (fun _ h => nomatch h) (fun r1 _ r4 => r1.append r4)
    fun D doc pm an cdv ct us mv ws h1 h3 h4 => match us, mv, ws, h1, h3, h4 with | [_, _, _], [], [_], _, _, _ => rfl
  exact ⟨fd, _, G, b⟩
theorem O_Program2 {fd : FuncData} (F : FunD K "__init__" "Program.__init__" (defArgs s_Program_init) (defBody s_Program_init) (defScope s_Program_init) [] [("start", .non)] (He.fAd K ("Program", some "__init__")) fd) (G : FnOk P w K mg base (L2.CX P w) 5 (He.fAd K ("Program", some "__init__")) fd ["self", "places", "nexts", "start"] (spPgI K)) :
    OkK P w K mg base (L2.CX P w) 5 ("Program", some "__init__") ["self", "places", "nexts", "start"] 3 [] (fun vs _ => vs ++ [.non]) (spPgI K) := by
  obtain ⟨mv, b⟩ := F.kbinds0 (ps := ["self", "places", "nexts", "start"]) 3 [] [("start", .non)] (fun us mv _ => us ++ mv) (by decide) (fun _ h => h) (fun r1 r2 _ => r1.append r2)
    fun D doc pm an cdv ct us mv ws h1 h3 h4 => match us, mv, ws, h1, h3, h4 with | [_, _, _], [_], [], _, _, _ => ⟨_, _, _, _, _, _, rfl, rfl, rfl⟩
  exact ⟨fd, _, G, b⟩
end
end K7

set_option Elab.async false
set_option linter.all false
set_option pp.deepTerms.threshold 14
set_option pp.maxSteps 2500
set_option maxRecDepth 100000
set_option maxHeartbeats 2000000
namespace K7
open PySem PySem.Spec PyProof.Rows L2 Vf
section
variable {P : Program} {w : World} {K : PySem.W.Frag} {mg : Str → Option Value} {base : Heap}
structure Txt (K : PySem.W.Frag) (mg : Str → Option Value) : Prop extends GTxt K mg where
  z_range : mg "range" = none
  g_law_cell : mg "_law_cell" = some (.ref (He.ga K "_law_cell"))
  g_law_take : mg "_law_take" = some (.ref (He.ga K "_law_take"))
  g_law_name : mg "_law_name" = some (.ref (He.ga K "_law_name"))
  g_law_rows : mg "_law_rows" = some (.ref (He.ga K "_law_rows"))
  g_law_nexts : mg "_law_nexts" = some (.ref (He.ga K "_law_nexts"))
  g_law_program : mg "_law_program" = some (.ref (He.ga K "_law_program"))
  g_law_row : mg "_law_row" = some (.ref (He.ga K "_law_row"))
  g_law_bad_places : mg "_law_bad_places" = some (.ref (He.ga K "_law_bad_places"))
  g_law_bad_nexts : mg "_law_bad_nexts" = some (.ref (He.ga K "_law_bad_nexts"))
  g_law_made : mg "_law_made" = some (.ref (He.ga K "_law_made"))
  g_law_copies : mg "_law_copies" = some (.ref (He.ga K "_law_copies"))
abbrev s_law_take : Stmt := top 26
theorem sc_law_take : FnScope ["_law_draw", "_law_size", "_law_taken"] ["_law_draw", "_law_size"] (defScope s_law_take) := ⟨rfl, rfl, rfl, by decide +kernel, rfl, by decide +kernel, by decide +kernel⟩
-- slots: 0 _law_draw, 1 _law_size, 2 _law_taken
theorem ok_law_take {fd : FuncData} (F : FnD K ("_law_take", none) "_law_take" "_law_take" s_law_take fd) (T : Txt K mg) : OkF P w K mg base CX0 1 "_law_take" ["_law_draw", "_law_size"] spTake := by
  refine okd F (F.ok sc_law_take (fun vs H Q E h => ?_) fun cdv A outer s H vs Q E hr h => ?_) fun _ _ _ _ _ _ us hl => match us, hl with | [_, _], _ => rfl
  · obtain ⟨d, n, s, rfl, _⟩ := h
    rfl
  · obtain ⟨d, n, s, rfl, hd, s0, s1, q⟩ := h
    refine ⟨_, PSs.nox (pss_cons (ps_set (i := 2) sc_law_take.nd rfl (Or.inl rfl) (pe_op op_mod (pe_callTy call_int1 (by rfl) T.z_int (by decide +kernel) (pa_cons (pe_ix ix_list (pv 0) pe_int (fun _ _ => rfl)) pa_nil)) (pv 1)))
  (pss_cons (ps_asg (pe_op op_fdiv (pe_ix ix_list (pv 0) pe_int (fun _ _ => rfl)) (pv 1)) (pg_sub (pv 0) pe_int set_list))
  (pss_one (ps_ret (pv 2))))), ?_⟩
    refine ⟨_, rfl, d, [.int n], 0, .int n, rfl, rfl, SqL.of hd, atI0, .inl ⟨n, rfl, _, rfl, n, s, rfl, rfl, s0, ?_⟩⟩
    refine ⟨_, rfl, d, [.int n], 0, .int n, rfl, rfl, SqL.of hd, atI0, _, rfl, n, s, rfl, rfl, ⟨s0, s1⟩, ?_⟩
    refine ⟨_, rfl, d, [.int n], 0, 0, rfl, rfl, hd, ixN0, _, rfl, ?_⟩
    exact q (n % s) (n / s) (Int.emod_nonneg n (by omega)) (Int.emod_lt_of_pos n s0)
abbrev s_law_cell : Stmt := top 25
theorem sc_law_cell : FnScope ["_law_script", "_law_k", "_law_cell_here", "_law_number", "_law_total", "_law_step"] ["_law_script", "_law_k"] (defScope s_law_cell) := ⟨rfl, rfl, rfl, by decide +kernel, rfl, by decide +kernel, by decide +kernel⟩
-- slots: 0 _law_script, 1 _law_k, 2 _law_cell_here, 3 _law_number, 4 _law_total, 5 _law_step
theorem ok_law_cell {fd : FuncData} (F : FnD K ("_law_cell", none) "_law_cell" "_law_cell" s_law_cell fd) (T : Txt K mg) : OkF P w K mg base CX0 1 "_law_cell" ["_law_script", "_law_k"] (Vf.spCell K) := by
  refine okd F (F.ok sc_law_cell (fun vs H Q E h => ?_) fun cdv A outer s H vs Q E hr h => ?_) fun _ _ _ _ _ _ us hl => match us, hl with | [_, _], _ => rfl
  · obtain ⟨l, ns, j, rfl, _⟩ := h
    rfl
  · obtain ⟨l, ns, j, rfl, hS, hj, q⟩ := h
    refine ⟨_, PSs.nox (pss_cons (ps_set (i := 2) sc_law_cell.nd rfl (Or.inl rfl) pe_int)
  (C8.pss_cut (ps_if (pt_cmpR op_lt (pv 1) (pe_callB (id := "len") call_len_seq (by rfl) T.z_len (by decide +kernel) (pa_cons (pv 0) pa_nil)) (nomark _)) (pss_one (ps_set (i := 2) sc_law_cell.nd rfl (Or.inl rfl) (pe_ix ix_list (pv 0) (pv 1) (fun _ _ => rfl))))
  pss_nil)
  (pss_cons (ps_if (pt_cmpR op_ge (pv 2) (pe_op op_pow pe_int pe_int) (nomark _)) (pss_one (ps_ret (pv 2)))
  pss_nil)
  (pss_cons (ps_set (i := 3) sc_law_cell.nd rfl (Or.inl rfl) (pe_op op_mod (pe_callTy call_int1 (by rfl) T.z_int (by decide +kernel) (pa_cons (pe_op op_add (pe_op op_add (pe_op op_mul (pv 2) pe_int) (pe_op op_mul (pv 1) pe_int)) pe_int) pa_nil)) pe_int))
  (pss_cons (ps_set (i := 4) sc_law_cell.nd rfl (Or.inl rfl) pe_int)
  (pss_cons (ps_for PassesOwn.never rfl (pi_range1 rfl T.z_range (pa_cons pe_int pa_nil)) (pg_name (i := 5) sc_law_cell.nd rfl (Or.inl rfl))
  (pss_cons (ps_set (i := 3) sc_law_cell.nd rfl (Or.inl rfl) (pe_op op_mod (pe_callTy call_int1 (by rfl) T.z_int (by decide +kernel) (pa_cons (pe_op op_add (pe_op op_add (pe_op op_mul (pv 3) pe_int) (pe_op op_mul (pv 5) pe_int)) pe_int) pa_nil)) pe_int))
  (pss_cons (ps_set (i := 3) sc_law_cell.nd rfl (Or.inl rfl) (pe_op op_mod (pe_callTy call_int1 (by rfl) T.z_int (by decide +kernel) (pa_cons (pe_op op_mul (pv 3) (pe_op op_add (pe_op op_fdiv (pv 3) pe_int) pe_int)) pa_nil)) pe_int))
  (pss_one (ps_set (i := 4) sc_law_cell.nd rfl (Or.inl rfl) (pe_op op_add (pe_op op_mul (pv 4) pe_int) (pv 3)))))))
  (pss_one (ps_ret (pv 4))))))))), ?_⟩
    refine ⟨fun σ' H' => H' = H ∧ ∃ c : Int, σ' = [some (.ref l), some (.int (j : Int)), some (.int c), none, none, none], ?_, ?_⟩
    · refine ⟨_, rfl, _, rfl, l, _, rfl, .inl hS, _, _, rfl, rfl, _, rfl, ite2 (fun hlt => ?_) fun _ => ⟨rfl, 0, rfl⟩⟩
      have hj2 : j < ns.length := by
        have := of_decide_eq_true hlt
        rw [List.length_map] at this
        omega
      refine ⟨_, rfl, _, rfl, l, _, (j : Int), .int ns[j], rfl, rfl, hS, atI_nat ?_, rfl, _, rfl⟩
      rw [List.getElem?_map, List.getElem?_eq_getElem hj2]
      rfl
    rintro σ' H' ⟨rfl, c, rfl⟩
    refine ⟨_, rfl, 10, 18, rfl, rfl, ⟨by decide, by decide, by decide⟩, _, _, rfl, rfl, _, rfl, ite2 (fun _ => ⟨_, rfl, q c⟩) fun _ => ?_⟩
    refine ⟨_, rfl, c, 7, rfl, rfl, .inr ⟨by decide, by decide⟩, _, rfl, (j : Int), 7919, rfl, rfl, .inr ⟨by decide, by decide⟩, _, _, rfl, rfl, _, _, rfl, rfl, .inl ⟨_, rfl, _, 2147483647, rfl, rfl, (by show (0 : Int) < 2147483647; decide), ?_⟩⟩
    refine ⟨8, rfl, by decide, by decide, for_range (lo := 0) (n := 8) (fun i σ H1 => H1 = H' ∧ ∃ (num tot : Int) (v : Option V), 0 ≤ num ∧ num < 2147483647 ∧ σ = [some (.ref l), some (.int (j : Int)), some (.int c), some (.int num), some (.int tot), v]) ?_ ?_ ?_⟩
    · exact ⟨rfl, _, 0, none, Int.emod_nonneg _ (by decide), Int.emod_lt_of_pos _ (by decide), rfl⟩
    · rintro i σ H1 hi ⟨rfl, num, tot, v, h0, h1, rfl⟩
      refine ⟨_, rfl, num, 48271, rfl, rfl, .inr ⟨by decide, by decide⟩, _, rfl, _, 30103, rfl, rfl, .inr ⟨by decide, by decide⟩, _, _, rfl, rfl, _, 11, rfl, rfl, .inl ⟨_, rfl, _, 2147483647, rfl, rfl, (by show (0 : Int) < 2147483647; decide), ?_⟩⟩
      have b0 := Int.emod_nonneg (num * 48271 + (0 + (i : Int)) * 30103 + 11) (b := 2147483647) (by decide)
      have b1 := Int.emod_lt_of_pos (num * 48271 + (0 + (i : Int)) * 30103 + 11) (b := 2147483647) (by decide)
      refine ⟨_, rfl, _, rfl, _, 1009, rfl, rfl, ⟨by decide, by decide⟩, _, 69621, rfl, rfl, _, _, rfl, rfl, .inl ⟨by omega, by omega⟩, .inl ⟨_, rfl, _, 2147483629, rfl, rfl, (by show (0 : Int) < 2147483629; decide), ?_⟩⟩
      refine ⟨_, rfl, tot, 2147483629, rfl, rfl, .inr ⟨by decide, by decide⟩, _, rfl, _, _, rfl, rfl, ?_⟩
      exact ⟨rfl, _, _, _, Int.emod_nonneg _ (by decide), Int.lt_trans (Int.emod_lt_of_pos _ (by decide)) (by decide), rfl⟩
    · rintro σ H1 ⟨rfl, num, tot, v, h0, h1, rfl⟩
      exact ⟨_, rfl, q tot⟩
abbrev s_law_name : Stmt := top 27
theorem sc_law_name : FnScope ["_law_draw", "_law_used", "_law_letters", "_law_word", "_law_k", "_law_letter"] ["_law_draw", "_law_used"] (defScope s_law_name) := ⟨rfl, rfl, rfl, by decide +kernel, rfl, by decide +kernel, by decide +kernel⟩
-- slots: 0 _law_draw, 1 _law_used, 2 _law_letters, 3 _law_word, 4 _law_k, 5 _law_letter
/-- a name apart from the used ones -/
def spNam : Sp := fun vs H Q _ => ∃ (d u : Addr) (n : Int) (us : List Str), vs = [.ref d, .ref u] ∧ H d = some (.lst [.int n]) ∧ H u = some (.lst (us.map V.str)) ∧ u ≠ d ∧ us.length ≤ 6 ∧ ∀ H' (m : Int) z, SameX d H H' → H' d = some (.lst [.int m]) → nmB z = true → z.length ≤ 8 → z ∉ us → Q (.str z) H'
def okW (z : Str) (i : Nat) : Prop := z.length = i ∧ ∀ c ∈ z.cps.toList, c ∈ LET.cps.toList
theorem okW_nm {z : Str} {i : Nat} (h : okW z i) (h1 : 1 ≤ i) (h2 : i ≤ 8) (hk : inV (.str z) (KEPT.map V.str) = false) : nmB z = true := by
  unfold nmB
  rw [hk, h.1, decide_eq_true h1, decide_eq_true h2]
  simp only [Bool.true_and, Bool.not_false]
  rw [List.all_eq_true]
  exact fun c hc => decide_eq_true (h.2 c hc)
theorem okW_add {z : Str} {i c : Nat} (h : okW z i) (hc : c ∈ LET.cps.toList) : okW (z ++ ⟨#[c]⟩) (i + 1) := by
  have e : (z ++ (⟨#[c]⟩ : Str)).cps.toList = z.cps.toList ++ [c] := by
    show (z.cps ++ #[c]).toList = _
    simp
  refine ⟨?_, fun y hy => ?_⟩
  · show (z.cps ++ #[c]).size = i + 1
    rw [Array.size_append]
    have := h.1
    simp only [Str.length] at this
    simp [this]
  · rw [e] at hy
    rcases List.mem_append.mp hy with hy | hy
    · exact h.2 y hy
    · rw [List.mem_singleton] at hy
      rw [hy]
      exact hc
theorem let_nm {c : Nat} (h : c ∈ LET.cps.toList) : nmB ⟨#[c]⟩ = true := by
  have a : (LET.cps.toList.all fun c => nmB ⟨#[c]⟩) = true := by decide +kernel
  exact List.all_eq_true.mp a c h
theorem nodup_le {α : Type} [DecidableEq α] : ∀ {l u : List α}, l.Nodup → (∀ x ∈ l, x ∈ u) → l.length ≤ u.length
  | [], _, _, _ => Nat.zero_le _
  | a :: l, u, nd, h => by
    rw [List.nodup_cons] at nd
    have ha := h a (List.mem_cons_self ..)
    have h2 : ∀ x ∈ l, x ∈ u.erase a := fun x hx => by
      have hne : x ≠ a := fun e => nd.1 (e ▸ hx)
      exact (List.mem_erase_of_ne hne).mpr (h x (List.mem_cons_of_mem _ hx))
    have := nodup_le nd.2 h2
    rw [List.length_erase_of_mem ha] at this
    have hp : 0 < u.length := List.length_pos_of_mem ha
    rw [List.length_cons]
    omega
theorem some_letter {us : List Str} (h : us.length ≤ 6) : ¬ ∀ c ∈ LET.cps.toList, (⟨#[c]⟩ : Str) ∈ us := fun hall => by
  have nd : (LET.cps.toList.map fun c => (⟨#[c]⟩ : Str)).Nodup := by decide +kernel
  have := nodup_le nd (u := us) fun x hx => by
    obtain ⟨c, hc, rfl⟩ := List.mem_map.mp hx
    exact hall c hc
  rw [List.length_map] at this
  have e : LET.cps.toList.length = 26 := by decide +kernel
  omega
theorem ok_law_name {fd : FuncData} (F : FnD K ("_law_name", none) "_law_name" "_law_name" s_law_name fd) (T : Txt K mg) (O_law_take : OkF P w K mg base CX0 1 "_law_take" ["_law_draw", "_law_size"] spTake) : OkF P w K mg base CX0 2 "_law_name" ["_law_draw", "_law_used"] spNam := by
  refine okd F (F.ok sc_law_name (fun vs H Q E h => ?_) fun cdv A outer s H vs Q E hr h => ?_) fun _ _ _ _ _ _ us hl => match us, hl with | [_, _], _ => rfl
  · obtain ⟨d, u, n, us, rfl, _⟩ := h
    rfl
  · obtain ⟨d, u, n, us, rfl, hd, hu, nud, hus, k⟩ := h
    refine ⟨_, PSs.nox (pss_cons (ps_set (i := 2) sc_law_name.nd rfl (Or.inl rfl) pe_str)
  (pss_cons (ps_set (i := 3) sc_law_name.nd rfl (Or.inl rfl) pe_str)
  (pss_cons (ps_for PassesOwn.never rfl (pi_range1 rfl T.z_range (pa_cons (pe_op op_add pe_int (c_fn O_law_take hr (by decide) T.g_law_take pass0 (pa_cons (pv 0) (pa_cons pe_int pa_nil)))) pa_nil)) (pg_name (i := 4) sc_law_name.nd rfl (Or.inl rfl))
  (pss_one (ps_set (i := 3) sc_law_name.nd rfl (Or.inl rfl) (pe_op op_add_str (pv 3) (pe_ix ix_str (pv 2) (c_fn O_law_take hr (by decide) T.g_law_take pass0 (pa_cons (pv 0) (pa_cons pe_int pa_nil))) (fun _ _ => rfl))))))
  (pss_cons (ps_if (PW.pt (pw_and (pt_cmpR op_notIn_seq (pv 3) (pv 1) rfl) (pw_and1 (pt_cmpR op_notIn_seq (pv 3) (pe_lst (pa_cons pe_str (pa_cons pe_str (pa_cons pe_str (pa_cons pe_str (pa_cons pe_str pa_nil)))))) rfl)))) (pss_one (ps_ret (pv 3)))
  pss_nil)
  (pss_cons (ps_for PassesOwn.never rfl (pi_str (pv 2)) (pg_name (i := 5) sc_law_name.nd rfl (Or.inl rfl))
  (pss_one (ps_if (pt_cmpR op_notIn_seq (pv 5) (pv 1) rfl) (pss_one (ps_ret (pv 5)))
  pss_nil)))
  (pss_one (ps_ret (pv 3)))))))), ?_⟩
    refine ⟨_, rfl, d, n, 8, rfl, hd, by decide, by decide, fun r m r0 r1 => ⟨1, r, rfl, rfl, 1 + r, rfl, by omega, by omega, ?_⟩⟩
    refine for_range (lo := 0) (n := (1 + r).toNat) (fun i σ H' => SameX d H H' ∧ ∃ (m : Int) (z : Str) (v : Option V), H' d = some (.lst [.int m]) ∧ okW z i ∧ σ = [some (.ref d), some (.ref u), some (.str LET), some (.str z), v, none]) ⟨SameX.upd, m, "", none, upd_same, ⟨rfl, fun _ h => nomatch h⟩, rfl⟩ ?_ ?_
    · rintro i σ H' hi ⟨sg, m, z, v, hd', hw, rfl⟩
      refine ⟨_, rfl, _, rfl, _, rfl, d, m, 26, rfl, hd', by decide, by decide, fun q m2 q0 q1 => ?_⟩
      have hl26 : LET.cps.toList.length = 26 := by decide +kernel
      have hq : q.toNat < LET.cps.toList.length := by omega
      refine ⟨LET, q, LET.cps.toList[q.toNat], rfl, rfl, by decide +kernel, ?_, z, ⟨#[LET.cps.toList[q.toNat]]⟩, rfl, rfl, ?_, ?_⟩
      · have h := atI_nat (List.getElem?_eq_getElem hq)
        rw [Int.toNat_of_nonneg q0] at h
        exact h
      · have := hw.1
        have h1 : (⟨#[LET.cps.toList[q.toNat]]⟩ : Str).length = 1 := rfl
        rw [h1, this]
        exact Nat.le_trans (show i + 1 ≤ 9 by omega) (by decide)
      · exact ⟨sg.trans SameX.upd, m2, _, _, upd_same, okW_add hw (List.getElem_mem hq), rfl⟩
    · rintro σ H' ⟨sg, m, z, v, hd', hw, rfl⟩
      have hu' := sg _ _ nud hu
      have fin := fun H2 z' (s2 : Same H' H2) => k H2 m z' (sg.trans (same_x s2)) (s2 _ _ hd')
      -- the letters
      have letters : ∀ H2 : Hp, Same H' H2 → ∀ v : Option V, ∃ W : Nat → Nat → L2.St → Hp → Prop, True := fun _ _ _ => ⟨fun _ _ _ _ => True, trivial⟩
      clear letters
      refine ⟨_, rfl, _, rfl, u, _, rfl, .inl (SqL.of hu'), rfl, flat_str us, _, rfl, ?_⟩
      rw [inV_str]
      by_cases hz : z ∈ us
      · rw [decide_eq_true hz]
        refine iteF ⟨_, rfl, LET, rfl, for_it walk_str (fun i σ' H2 => H2 = H' ∧ (∀ j c, j < i → LET.cps[j]? = some c → (⟨#[c]⟩ : Str) ∈ us) ∧ ∃ v2, σ' = [some (.ref d), some (.ref u), some (.str LET), some (.str z), v, v2]) ⟨rfl, (fun j c h => absurd h (Nat.not_lt_zero _)), _, rfl⟩ (fun _ _ _ _ _ => trivial) ?_ ?_⟩
        · rintro i x σ' H2 H3 hi ⟨rfl, hin, v2, rfl⟩ ⟨rfl, c, hc, rfl⟩
          have hcm : c ∈ LET.cps.toList := by
            have : LET.cps.toList[i]? = some c := by simpa using hc
            exact List.mem_of_getElem? this
          refine ⟨_, rfl, _, rfl, u, _, rfl, .inl (SqL.of hu'), rfl, flat_str us, _, rfl, ?_⟩
          rw [inV_str]
          by_cases hcu : (⟨#[c]⟩ : Str) ∈ us
          · rw [decide_eq_true hcu]
            refine iteF ⟨rfl, fun j c' hj hc' => ?_, _, rfl⟩
            by_cases hji : j = i
            · subst hji
              rw [hc] at hc'
              cases hc'
              exact hcu
            · exact hin j c' (by omega) hc'
          · rw [decide_eq_false hcu]
            exact iteT ⟨_, rfl, fin _ _ (Same.refl _) (let_nm hcm) (show 1 ≤ 8 by decide) hcu⟩
        · rintro σ' H2 ⟨rfl, hin, v2, rfl⟩
          refine absurd (fun c hc => ?_) (some_letter hus)
          obtain ⟨j, hj⟩ := List.mem_iff_getElem?.mp hc
          have hj2 : LET.cps[j]? = some c := by simpa using hj
          exact hin j c (Array.getElem?_eq_some_iff.mp hj2).1 hj2
      · rw [decide_eq_false hz]
        refine iteT ⟨_, rfl, (by show 5 ≤ sizeLine; decide), fun L nL => ⟨L, KEPT.map V.str, rfl, .inl (SqL.of upd_same), rfl, by decide +kernel, _, rfl, ?_⟩⟩
        have sL := same_new (o := .lst (KEPT.map V.str)) nL
        cases hv : inV (.str z) (KEPT.map V.str) with
        | false => exact iteT ⟨_, rfl, fin _ _ sL (okW_nm hw (by omega) (by omega) hv) (by rw [hw.1]; omega) hz⟩
        | true =>
          have hu2 := sL _ _ hu'
          refine iteF ⟨_, rfl, LET, rfl, for_it walk_str (fun i σ' H2 => H2 = upd H' L (.lst (KEPT.map V.str)) ∧ (∀ j c, j < i → LET.cps[j]? = some c → (⟨#[c]⟩ : Str) ∈ us) ∧ ∃ v2, σ' = [some (.ref d), some (.ref u), some (.str LET), some (.str z), v, v2]) ⟨rfl, (fun j c h => absurd h (Nat.not_lt_zero _)), _, rfl⟩ (fun _ _ _ _ _ => trivial) ?_ ?_⟩
          · rintro i x σ' H2 H3 hi ⟨rfl, hin, v2, rfl⟩ ⟨rfl, c, hc, rfl⟩
            have hcm : c ∈ LET.cps.toList := by
              have : LET.cps.toList[i]? = some c := by simpa using hc
              exact List.mem_of_getElem? this
            refine ⟨_, rfl, _, rfl, u, _, rfl, .inl (SqL.of hu2), rfl, flat_str us, _, rfl, ?_⟩
            rw [inV_str]
            by_cases hcu : (⟨#[c]⟩ : Str) ∈ us
            · rw [decide_eq_true hcu]
              refine iteF ⟨rfl, fun j c' hj hc' => ?_, _, rfl⟩
              by_cases hji : j = i
              · subst hji
                rw [hc] at hc'
                cases hc'
                exact hcu
              · exact hin j c' (by omega) hc'
            · rw [decide_eq_false hcu]
              exact iteT ⟨_, rfl, fin _ _ sL (let_nm hcm) (show 1 ≤ 8 by decide) hcu⟩
          · rintro σ' H2 ⟨rfl, hin, v2, rfl⟩
            refine absurd (fun c hc => ?_) (some_letter hus)
            obtain ⟨j, hj⟩ := List.mem_iff_getElem?.mp hc
            have hj2 : LET.cps[j]? = some c := by simpa using hj
            exact hin j c (Array.getElem?_eq_some_iff.mp hj2).1 hj2
end
end K7

set_option Elab.async false
set_option linter.all false
set_option pp.deepTerms.threshold 14
set_option pp.maxSteps 2500
set_option maxRecDepth 100000
set_option maxHeartbeats 2000000
namespace K7
open PySem PySem.Spec PyProof.Rows L2 Vf
section
variable {P : Program} {w : World} {K : PySem.W.Frag} {mg : Str → Option Value} {base : Heap}
/-- all but what stands at d and at e is as it was -/
def Same2 (d e : Addr) (H H' : Hp) : Prop := ∀ b o, b ≠ d → b ≠ e → H b = some o → H' b = some o
theorem Same2.x {d e : Addr} {H H1 H2 : Hp} (a : Same2 d e H H1) (b : SameX d H1 H2) : Same2 d e H H2 := fun c o n m h => b c o n (a c o n m h)
theorem Same2.y {d e : Addr} {H H1 H2 : Hp} (a : Same2 d e H H1) (b : SameX e H1 H2) : Same2 d e H H2 := fun c o n m h => b c o m (a c o n m h)
theorem Same2.s {d e : Addr} {H H1 H2 : Hp} (a : Same2 d e H H1) (b : Same H1 H2) : Same2 d e H H2 := fun c o n m h => b c o (a c o n m h)
/-- a row's list and the tuple of its nexts -/
def RowA (H : Hp) (y : PgE) : Prop := H y.1 = some (.lst [.str y.2.2.z, .int y.2.2.l, .int y.2.2.m, .bl y.2.2.b, .ref y.2.1]) ∧ H y.2.1 = some (.tup (y.2.2.ns.map V.str))
/-- the list at R: rows -/
structure RowsA (H : Hp) (R : Addr) (ys : List PgE) : Prop where
  hR : H R = some (.lst (ys.map fun y => V.ref y.1))
  row : ∀ y ∈ ys, RowA H y
theorem ref_int {ys : List PgE} {n : Int} : HO.lst (ys.map fun y => V.ref y.1) ≠ HO.lst [.int n] := fun z => by
  injection z with z
  cases ys with
  | nil => cases z
  | cons y ys => cases z
theorem RowA.ne_int {H : Hp} {y : PgE} {d : Addr} {n : Int} (h : RowA H y) (hd : H d = some (.lst [.int n])) : y.1 ≠ d ∧ y.2.1 ≠ d := ⟨ne_of h.1 hd (by intro z; cases z), ne_of h.2 hd (by intro z; cases z)⟩
theorem RowA.ne_R {H : Hp} {y : PgE} {R : Addr} {ys : List PgE} (h : RowA H y) (hR : H R = some (.lst (ys.map fun y => V.ref y.1))) : y.1 ≠ R ∧ y.2.1 ≠ R := by
  refine ⟨ne_of h.1 hR fun z => ?_, ne_of h.2 hR (by intro z; cases z)⟩
  injection z with z
  cases ys with
  | nil => cases z
  | cons y ys => cases z
theorem RowA.ext {H H' : Hp} {y : PgE} (h : RowA H y) (s : Same H H') : RowA H' y := ⟨s _ _ h.1, s _ _ h.2⟩
theorem RowsA.ext {H H' : Hp} {R : Addr} {ys : List PgE} (h : RowsA H R ys) (s : Same H H') : RowsA H' R ys := ⟨s _ _ h.hR, fun y hy => (h.row y hy).ext s⟩
theorem RowsA.extX {H H' : Hp} {R d : Addr} {n : Int} {ys : List PgE} (h : RowsA H R ys) (hd : H d = some (.lst [.int n])) (s : SameX d H H') : RowsA H' R ys := by
  refine ⟨s _ _ (ne_of h.hR hd ref_int) h.hR, fun y hy => ?_⟩
  have r := h.row y hy
  exact ⟨s _ _ (r.ne_int hd).1 r.1, s _ _ (r.ne_int hd).2 r.2⟩
theorem RowsA.add {H : Hp} {R a t : Addr} {r : Rw} {ys : List PgE} (h : RowsA H R ys) (hr : RowA H (a, t, r)) : RowsA (upd H R (.lst ((ys.map fun y => V.ref y.1) ++ [.ref a]))) R (ys ++ [(a, t, r)]) := by
  refine ⟨by rw [upd_same, List.map_append]; rfl, fun y hy => ?_⟩
  have hy' : RowA H y := by
    rcases List.mem_append.mp hy with hy | hy
    · exact h.row y hy
    · rw [List.mem_singleton] at hy
      rw [hy]
      exact hr
  exact ⟨by rw [upd_ne (hy'.ne_R h.hR).1]; exact hy'.1, by rw [upd_ne (hy'.ne_R h.hR).2]; exact hy'.2⟩
/-- a row whose list is made anew in place -/
theorem RowsA.put {H : Hp} {R : Addr} {k : Nat} {t : Addr} {y : PgE} {r : Rw} {ys : List PgE} (h : RowsA H R ys) (nd : (ys.map (·.1)).Nodup) (hk : ys[k]? = some y) (ht : H t = some (.tup (r.ns.map V.str))) (hz : t ≠ y.1) :
    RowsA (upd H y.1 (.lst [.str r.z, .int r.l, .int r.m, .bl r.b, .ref t])) R (ys.set k (y.1, t, r)) := by
  have hy := h.row y (List.mem_of_getElem? hk)
  have hlt : k < ys.length := (List.getElem?_eq_some_iff.mp hk).1
  refine ⟨?_, fun v hv => ?_⟩
  · rw [upd_ne (hy.ne_R h.hR).1.symm, h.hR]
    congr 2
    refine List.ext_getElem? fun i => ?_
    rw [List.getElem?_map, List.getElem?_map, List.getElem?_set]
    by_cases e : k = i
    · subst e
      rw [if_pos rfl, if_pos hlt, hk]
      rfl
    · rw [if_neg e]
  · obtain ⟨i, hi⟩ := List.mem_iff_getElem?.mp hv
    rw [List.getElem?_set] at hi
    by_cases e : k = i
    · subst e
      rw [if_pos rfl, if_pos hlt] at hi
      cases hi
      exact ⟨upd_same, by rw [upd_ne hz]; exact ht⟩
    · rw [if_neg e] at hi
      have hv' := h.row v (List.mem_of_getElem? hi)
      have hne : v.1 ≠ y.1 := fun q => by
        have h1 : (ys.map (·.1))[i]? = some v.1 := by rw [List.getElem?_map, hi]; rfl
        have h2 : (ys.map (·.1))[k]? = some v.1 := by rw [List.getElem?_map, hk, q]; rfl
        have hlt2 : k < (ys.map (·.1)).length := by rw [List.length_map]; exact hlt
        exact e ((List.getElem?_inj hlt2 nd).mp (h2.trans h1.symm))
      exact ⟨by rw [upd_ne hne]; exact hv'.1, by rw [upd_ne (ne_of hv'.2 hy.1 (by intro z; cases z))]; exact hv'.2⟩
theorem set_zs {ys : List PgE} {k : Nat} {y : PgE} {t : Addr} {r : Rw} (hk : ys[k]? = some y) (hz : r.z = y.2.2.z) : zsOf (ys.set k (y.1, t, r)) = zsOf ys := by
  unfold zsOf
  refine List.ext_getElem? fun i => ?_
  have hlt : k < ys.length := (List.getElem?_eq_some_iff.mp hk).1
  rw [List.getElem?_map, List.getElem?_map, List.getElem?_set]
  by_cases e : k = i
  · subst e
    rw [if_pos rfl, if_pos hlt, hk]
    show some r.z = some y.2.2.z
    rw [hz]
  · rw [if_neg e]
theorem set_ad {ys : List PgE} {k : Nat} {y : PgE} {t : Addr} {r : Rw} (hk : ys[k]? = some y) : (ys.set k (y.1, t, r)).map (·.1) = ys.map (·.1) := by
  refine List.ext_getElem? fun i => ?_
  have hlt : k < ys.length := (List.getElem?_eq_some_iff.mp hk).1
  rw [List.getElem?_map, List.getElem?_map, List.getElem?_set]
  by_cases e : k = i
  · subst e
    rw [if_pos rfl, if_pos hlt, hk]
    rfl
  · rw [if_neg e]
/-- what a row keeps: its name, its stay -/
def RowK (r : Rw) : Prop := nmB r.z = true ∧ r.z.length ≤ 8 ∧ 1 ≤ r.l ∧ r.l ≤ r.m ∧ r.m ≤ 6
structure RowsOk (ys : List PgE) : Prop where
  nd : (zsOf ys).Nodup
  l1 : 1 ≤ ys.length
  l6 : ys.length ≤ 6
  kp : ∀ y ∈ ys, RowK y.2.2
  ns : ∀ y ∈ ys, (∀ v ∈ y.2.2.ns, v ∈ zsOf ys) ∧ y.2.2.ns.Nodup
theorem mod_inj {n s w a b : Int} (hn : 1 ≤ n) (hn6 : n ≤ 6) (hw : w = 1 ∨ w = -1) (a0 : 0 ≤ a) (a1 : a < n) (b0 : 0 ≤ b) (b1 : b < n) (h : (s + w * a) % n = (s + w * b) % n) : a = b := by
  have h6 : n = 1 ∨ n = 2 ∨ n = 3 ∨ n = 4 ∨ n = 5 ∨ n = 6 := by omega
  rcases hw with rfl | rfl <;> rcases h6 with rfl | rfl | rfl | rfl | rfl | rfl <;> omega
theorem RowsA.extF {H H' : Hp} {R F : Addr} {ys : List PgE} {fs : List Str} (h : RowsA H R ys) (hn : ys ≠ []) (hF : H F = some (.lst (fs.map V.str))) (s : SameX F H H') : RowsA H' R ys := by
  refine ⟨s _ _ (ne_of h.hR hF fun z => ?_) h.hR, fun y hy => ?_⟩
  · injection z with z
    cases ys with
    | nil => exact hn rfl
    | cons y ys =>
      cases fs with
      | nil => cases z
      | cons f fs => cases z
  · have r := h.row y hy
    refine ⟨s _ _ (ne_of r.1 hF fun z => ?_) r.1, s _ _ (ne_of r.2 hF (by intro z; cases z)) r.2⟩
    injection z with z
    cases fs with
    | nil => cases z
    | cons f fs =>
      cases fs with
      | nil => cases z
      | cons g gs => cases z
theorem int_str {n : Int} {fs : List Str} : HO.lst [.int n] ≠ HO.lst (fs.map V.str) := fun z => by
  injection z with z
  cases fs with
  | nil => cases z
  | cons f fs => cases z
theorem ixN4 {n : Nat} : ixN (n + 5) 4 = some 4 := by
  unfold ixN
  rw [if_pos (by omega), if_pos (by omega)]
  all_goals rfl
abbrev s_law_rows : Stmt := top 28
theorem sc_law_rows : FnScope ["_law_draw", "_law_words", "_law_many", "_law_longest", "_law_rows_here", "_law_k", "_law_word", "_law_row_here", "_law_low", "_law_shift", "_law_way", "_law_found", "_law_j"] ["_law_draw", "_law_words", "_law_many", "_law_longest"] (defScope s_law_rows) := ⟨rfl, rfl, rfl, by decide +kernel, rfl, by decide +kernel, by decide +kernel⟩
-- slots: 0 _law_draw, 1 _law_words, 2 _law_many, 3 _law_longest, 4 _law_rows_here, 5 _law_k, 6 _law_word, 7 _law_row_here, 8 _law_low, 9 _law_shift, 10 _law_way, 11 _law_found, 12 _law_j
def spRows : Sp := fun vs H Q _ => ∃ (d e : Addr) (n n' mn lg : Int), vs = [.ref d, .ref e, .int mn, .int lg] ∧ H d = some (.lst [.int n]) ∧ H e = some (.lst [.int n']) ∧ d ≠ e ∧ 1 ≤ mn ∧ mn ≤ 6 ∧ 1 ≤ lg ∧ lg ≤ 6 ∧
  ∀ H' R ys, Same2 d e H H' → (∃ m : Int, H' d = some (.lst [.int m])) → RowsA H' R ys → RowsOk ys → (ys.map (·.1)).Nodup → H R = none → Q (.ref R) H'
theorem zs_add {ys : List PgE} {y : PgE} : zsOf (ys ++ [y]) = zsOf ys ++ [y.2.2.z] := List.map_append ..
theorem nodup_add {α : Type} {l : List α} {a : α} (h : l.Nodup) (n : a ∉ l) : (l ++ [a]).Nodup := List.nodup_append.mpr ⟨h, by simp, fun x hx y hy => by
  rw [List.mem_singleton] at hy
  rw [hy]
  exact fun e => n (e ▸ hx)⟩
theorem ok_law_rows {fd : FuncData} (F : FnD K ("_law_rows", none) "_law_rows" "_law_rows" s_law_rows fd) (T : Txt K mg) (O_law_take : OkF P w K mg base CX0 1 "_law_take" ["_law_draw", "_law_size"] spTake) (O_law_name : OkF P w K mg base CX0 2 "_law_name" ["_law_draw", "_law_used"] spNam) : OkF P w K mg base CX0 3 "_law_rows" ["_law_draw", "_law_words", "_law_many", "_law_longest"] spRows := by
  refine okd F (F.ok sc_law_rows (fun vs H Q E h => ?_) fun cdv A outer s H vs Q E hr h => ?_) fun _ _ _ _ _ _ us hl => match us, hl with | [_, _, _, _], _ => rfl
  · obtain ⟨d, e, n, n', mn, lg, rfl, _⟩ := h
    rfl
  · obtain ⟨d, e, n, n', mn, lg, rfl, hd, he, nde, m1, m6, g1, g6, k⟩ := h
    refine ⟨_, PSs.nox (pss_cons (ps_set (i := 4) sc_law_rows.nd rfl (Or.inl rfl) (pe_lst pa_nil))
  (pss_cons (ps_for PassesOwn.never rfl (pi_range1 rfl T.z_range (pa_cons (pe_op op_add pe_int (c_fn O_law_take hr (by decide) T.g_law_take pass0 (pa_cons (pv 0) (pa_cons (pv 2) pa_nil)))) pa_nil)) (pg_name (i := 5) sc_law_rows.nd rfl (Or.inl rfl))
  (pss_cons (ps_set (i := 6) sc_law_rows.nd rfl (Or.inl rfl) (c_fn O_law_name hr (by decide) T.g_law_name pass0 (pa_cons (pv 1) (pa_cons (pe_lc (own := [("_law_row_here", 7)]) (g := gName 7) (tt := tYes) (by rfl) sc_law_rows.nd (pi_list (pv 4)) (blkOk_by (N := ["_law_draw", "_law_words", "_law_many", "_law_longest", "_law_rows_here", "_law_k", "_law_word", "_law_row_here", "_law_low", "_law_shift", "_law_way", "_law_found", "_law_j"]) (sc := defScope s_law_rows) (by decide +kernel)) (fun _ _ _ _ _ => (pg_name (i := 7) sc_law_rows.nd rfl (Or.inl rfl))) (fun _ _ _ _ _ => pts_nil) (fun _ _ _ _ _ => (pe_ix (ix_listK (K := K) rfl) (pv 7) pe_int (fun _ _ => rfl)))) pa_nil))))
  (pss_cons (ps_set (i := 8) sc_law_rows.nd rfl (Or.inl rfl) (pe_op op_add pe_int (c_fn O_law_take hr (by decide) T.g_law_take pass0 (pa_cons (pv 0) (pa_cons (pv 3) pa_nil)))))
  (pss_one (ps_expr (pe_bm PySem.F.plainAttrs_list PySem.F.slot_list_append PySem.F.type_list_append mt_append (pv 4) (pa_cons (pe_lst (pa_cons (pv 6) (pa_cons (pv 8) (pa_cons (pe_op op_add (pv 8) (c_fn O_law_take hr (by decide) T.g_law_take pass0 (pa_cons (pv 0) (pa_cons (pe_op op_sub (pe_op op_add (pv 3) pe_int) (pv 8)) pa_nil)))) (pa_cons (pe_cmpR op_gt (c_fn O_law_take hr (by decide) T.g_law_take pass0 (pa_cons (pv 0) (pa_cons pe_int pa_nil))) pe_int (nomark _)) (pa_cons (pe_tup pa_nil) pa_nil)))))) pa_nil)))))))
  (pss_cons (ps_for PassesOwn.never rfl (pi_range1 rfl T.z_range (pa_cons (pe_callB (id := "len") call_len_seq (by rfl) T.z_len (by decide +kernel) (pa_cons (pv 4) pa_nil)) pa_nil)) (pg_name (i := 5) sc_law_rows.nd rfl (Or.inl rfl))
  (pss_cons (ps_set (i := 9) sc_law_rows.nd rfl (Or.inl rfl) (c_fn O_law_take hr (by decide) T.g_law_take pass0 (pa_cons (pv 0) (pa_cons (pe_callB (id := "len") call_len_seq (by rfl) T.z_len (by decide +kernel) (pa_cons (pv 4) pa_nil)) pa_nil))))
  (pss_cons (ps_set (i := 10) sc_law_rows.nd rfl (Or.inl rfl) (pe_op op_sub pe_int (pe_op op_mul pe_int (c_fn O_law_take hr (by decide) T.g_law_take pass0 (pa_cons (pv 0) (pa_cons pe_int pa_nil))))))
  (pss_cons (ps_set (i := 11) sc_law_rows.nd rfl (Or.inl rfl) (pe_lst pa_nil))
  (pss_cons (ps_for PassesOwn.never rfl (pi_range1 rfl T.z_range (pa_cons (pe_callB (id := "len") call_len_seq (by rfl) T.z_len (by decide +kernel) (pa_cons (pv 4) pa_nil)) pa_nil)) (pg_name (i := 12) sc_law_rows.nd rfl (Or.inl rfl))
  (pss_one (ps_if (pt_cmpR op_gt (c_fn O_law_take hr (by decide) T.g_law_take pass0 (pa_cons (pv 0) (pa_cons pe_int pa_nil))) pe_int (nomark _)) (pss_one (ps_expr (pe_bm PySem.F.plainAttrs_list PySem.F.slot_list_append PySem.F.type_list_append mt_append (pv 11) (pa_cons (pe_ix ix_list (pe_ix ix_list (pv 4) (pe_op op_mod (pe_op op_add (pv 9) (pe_op op_mul (pv 10) (pv 12))) (pe_callB (id := "len") call_len_seq (by rfl) T.z_len (by decide +kernel) (pa_cons (pv 4) pa_nil))) (fun _ _ => rfl)) pe_int (fun _ _ => rfl)) pa_nil))))
  pss_nil)))
  (pss_cons (ps_set (i := 7) sc_law_rows.nd rfl (Or.inl rfl) (pe_ix ix_list (pv 4) (pv 5) (fun _ _ => rfl)))
  (pss_one (ps_asg (pe_callTy call_tuple_of (by rfl) T.z_tuple (by decide +kernel) (pa_cons (pv 11) pa_nil)) (pg_sub (pv 7) pe_int set_list)))))))))
  (pss_one (ps_ret (pv 4)))))), ?_⟩
    refine ⟨(by show 0 ≤ sizeLine; decide), fun R nR => ?_⟩
    have nRd : R ≠ d := (ne_of_none hd nR).symm
    have nRe : R ≠ e := (ne_of_none he nR).symm
    have hd0 := same_new (o := .lst []) nR _ _ hd
    have he0 := same_new (o := .lst []) nR _ _ he
    have s0 : Same2 d e H (upd H R (.lst [])) := fun b o _ _ h => same_new nR _ _ h
    have hR0 : (upd H R (.lst [])) R = some (.lst []) := upd_same
    generalize upd H R (.lst []) = H0 at hd0 he0 s0 hR0 ⊢
    refine ⟨_, rfl, _, rfl, d, n, mn, rfl, hd0, by omega, by omega, fun r m r0 r1 => ⟨1, r, rfl, rfl, 1 + r, rfl, by omega, by omega, ?_⟩⟩
    have hRm : (upd H0 d (.lst [.int m])) R = some (.lst []) := by rw [upd_ne nRd]; exact hR0
    have hem : (upd H0 d (.lst [.int m])) e = some (.lst [.int n']) := by rw [upd_ne nde.symm]; exact he0
    refine for_range (lo := 0) (n := (1 + r).toNat) (fun i σ H' => Same2 d e H H' ∧ (∃ m : Int, H' d = some (.lst [.int m])) ∧ (∃ m : Int, H' e = some (.lst [.int m])) ∧ ∃ (ys : List PgE) (v5 v6 v8 : Option V), RowsA H' R ys ∧ ys.length = i ∧ (zsOf ys).Nodup ∧ (ys.map (·.1)).Nodup ∧ (∀ y ∈ ys, RowK y.2.2 ∧ y.2.2.ns = []) ∧ (∀ a ∈ ys.map (·.1), H a = none) ∧
      σ = [some (.ref d), some (.ref e), some (.int mn), some (.int lg), some (.ref R), v5, v6, none, v8, none, none, none, none]) ⟨s0.x SameX.upd, ⟨m, upd_same⟩, ⟨n', hem⟩, [], none, none, none, ⟨hRm, fun _ h => nomatch h⟩, rfl, List.nodup_nil, List.nodup_nil, (fun _ h => nomatch h), (fun _ h => nomatch h), rfl⟩ ?_ ?_
    · clear hRm hem hR0 s0 he0 hd0 hd he H0 n n' m
      rintro i σ H1 hi ⟨sg, ⟨m, hd⟩, ⟨m', he⟩, ys, v5, v6, v8, hR, hl, hz, ha, hk, hfr, rfl⟩
      have hi6 : ys.length ≤ 5 := by omega
      have hlz : (zsOf ys).length = ys.length := List.length_map ..
      -- the used names
      refine ⟨_, rfl, _, rfl, R, rfl, ⟨_, SqL.of hR.hR⟩, fun D nD => lc_it walk_list (fun i H' => Same H1 H' ∧ H' D = some (.lst (((zsOf ys).take i).map V.str))) ⟨same_new nD, upd_same⟩ (fun i H' _ h => h.1.seq (SqL.of hR.hR)) ?_ ?_⟩
      · rintro j x H3 H' hj ⟨sg3, hD3⟩ ⟨rfl, hx⟩
        obtain ⟨y, hy, rfl⟩ := getE hx
        have hyr := ((hR.ext sg3).row y (List.mem_of_getElem? hy)).1
        refine ⟨rfl, _, rfl, y.1, _, 0, .str y.2.2.z, rfl, rfl, SqL.of hyr, atI0, ?_⟩
        refine ⟨_, hD3, ?_, same_app sg3 (Same.refl _) nD, ?_⟩
        · rw [List.length_map, List.length_take]
          rw [List.length_map] at hj
          exact Nat.lt_of_le_of_lt (Nat.min_le_left _ _) (Nat.lt_of_lt_of_le hj (Nat.le_trans hi6 (by decide)))
        · rw [upd_same, List.take_add_one, List.map_append]
          have : (zsOf ys)[j]? = some y.2.2.z := by
            unfold zsOf
            rw [List.getElem?_map, hy]
            rfl
          rw [this]
          rfl
      rintro H2 ⟨s12, hD⟩
      rw [List.length_map, ← hlz, List.take_length] at hD
      have hd2 := s12 _ _ hd
      have he2 := s12 _ _ he
      have hR2 := hR.ext s12
      have nDe : D ≠ e := (ne_of_none he nD).symm
      refine ⟨e, D, m', zsOf ys, rfl, he2, hD, nDe, by omega, fun H3 m3 z x3 he3 hz1 hz8 hzn => ?_⟩
      have hd3 := x3 _ _ nde hd2
      have hR3 := hR2.extX he2 x3
      have sg3 := (sg.s s12).y x3
      clear hR2 he2 hd2 x3 nDe hD s12 nD hR he hd sg H1 H2
      -- the stay
      refine ⟨_, rfl, _, rfl, d, m, lg, rfl, hd3, by omega, by omega, fun lo m4 lo0 lo1 => ⟨1, lo, rfl, rfl, ?_⟩⟩
      have hd4 : (upd H3 d (.lst [.int m4])) d = some (.lst [.int m4]) := upd_same
      have he4 : (upd H3 d (.lst [.int m4])) e = some (.lst [.int m3]) := by rw [upd_ne nde.symm]; exact he3
      have hR4 := hR3.extX hd3 (SameX.upd (o := .lst [.int m4]))
      have sg4 := sg3.x (SameX.upd (d := d) (H := H3) (o := .lst [.int m4]))
      generalize upd H3 d (.lst [.int m4]) = H4 at hd4 he4 hR4 sg4 ⊢
      clear hR3 he3 hd3 sg3 H3
      refine ⟨_, rfl, .inl ⟨rfl, _, SqL.of hR4.hR⟩, _, rfl, _, rfl, _, rfl, _, rfl, _, rfl, lg, 1, rfl, rfl, _, rfl, lg + 1, 1 + lo, rfl, rfl, d, m4, lg + 1 - (1 + lo), rfl, hd4, by omega, by omega, fun q m5 q0 q1 => ⟨1 + lo, q, rfl, rfl, _, rfl, d, m5, 3, rfl, upd_same, by decide, by decide, fun q' m6 q0' q1' => ⟨q', 0, rfl, rfl, (by show 0 ≤ sizeLine; decide), fun t nt => ⟨(by show 5 ≤ sizeLine; decide), fun a na => ?_⟩⟩⟩⟩
      have x5 : SameX d H4 (upd (upd H4 d (.lst [.int m5])) d (.lst [.int m6])) := SameX.upd.trans SameX.upd
      have hd5 : (upd (upd H4 d (.lst [.int m5])) d (.lst [.int m6])) d = some (.lst [.int m6]) := upd_same
      have he5 := x5 _ _ nde.symm he4
      have hR5 := hR4.extX hd4 x5
      have sg5 := sg4.x x5
      generalize upd (upd H4 d (.lst [.int m5])) d (.lst [.int m6]) = H5 at hd5 he5 hR5 sg5 nt na ⊢
      clear x5 hR4 he4 hd4 sg4 H4
      have st := same_new (o := .tup []) nt
      have sa := same_new (o := .lst [.str z, .int (1 + lo), .int (1 + lo + q), .bl (decide (q' > 0)), .ref t]) na
      have hrow : RowA (upd (upd H5 t (.tup [])) a (.lst [.str z, .int (1 + lo), .int (1 + lo + q), .bl (decide (q' > 0)), .ref t])) (a, t, ⟨z, 1 + lo, 1 + lo + q, decide (q' > 0), []⟩) := ⟨upd_same, sa _ _ upd_same⟩
      have hd6 := sa _ _ (st _ _ hd5)
      have he6 := sa _ _ (st _ _ he5)
      have hR6 := hR5.ext (st.trans sa)
      have sg6 := sg5.s (st.trans sa)
      have nad : a ≠ d := (ne_of_none (st _ _ hd5) na).symm
      have nae : a ≠ e := (ne_of_none (st _ _ he5) na).symm
      have na0 : H a = none := by
        cases q : H a with
        | none => rfl
        | some o =>
          have := st _ _ (sg5 a o nad nae q)
          rw [na] at this
          cases this
      have nas : a ∉ ys.map (·.1) := fun hm => by
        obtain ⟨y, hy, e⟩ := List.mem_map.mp hm
        have := st _ _ (hR5.row y hy).1
        rw [e, na] at this
        cases this
      generalize hG : upd (upd H5 t (.tup [])) a (.lst [.str z, .int (1 + lo), .int (1 + lo + q), .bl (decide (q' > 0)), .ref t]) = H6 at hrow hd6 he6 hR6 sg6 ⊢
      clear hG sa st na nt hR5 he5 hd5 sg5 H5
      refine ⟨R, _, .ref a, rfl, rfl, hR6.hR, ?_, ?_⟩
      · rw [List.length_map]
        exact Nat.lt_of_le_of_lt hi6 (by decide)
      have hR7 := hR6.add hrow
      have nRd' : d ≠ R := nRd.symm
      refine ⟨fun b o h1 h2 h3 => ?_, ⟨m6, by rw [upd_ne nRd']; exact hd6⟩, ⟨m3, by rw [upd_ne nRe.symm]; exact he6⟩, ys ++ [(a, t, ⟨z, 1 + lo, 1 + lo + q, decide (q' > 0), []⟩)], _, _, _, hR7, by rw [List.length_append, hl]; rfl, ?_, ?_, ?_, ?_, rfl⟩
      · rw [upd_ne (ne_of_none h3 nR)]
        exact sg6 b o h1 h2 h3
      · rw [zs_add]
        exact nodup_add hz hzn
      · rw [List.map_append]
        exact nodup_add ha nas
      · intro y hy
        rcases List.mem_append.mp hy with hy | hy
        · exact hk y hy
        · rw [List.mem_singleton] at hy
          rw [hy]
          exact ⟨⟨hz1, hz8, by show 1 ≤ 1 + lo; omega, by show 1 + lo ≤ 1 + lo + q; omega, by show 1 + lo + q ≤ 6; omega⟩, rfl⟩
      · intro b hb
        rw [List.map_append] at hb
        rcases List.mem_append.mp hb with hb | hb
        · exact hfr b hb
        · have : b = a := by simpa using hb
          rw [this]
          exact na0
    · clear hRm hem hR0 s0 he0 hd0 H0 m
      rintro σ H1 ⟨sg, ⟨m, hd1⟩, ⟨me, he1⟩, ys, v5, v6, v8, hR, hl, hz, ha, hk, hfr, rfl⟩
      have hn1 : 1 ≤ ys.length := by omega
      have hn6 : ys.length ≤ 6 := by omega
      have hlz : (zsOf ys).length = ys.length := List.length_map ..
      refine ⟨_, rfl, R, _, rfl, .inl (SqL.of hR.hR), _, rfl, by rw [List.length_map]; omega, by rw [List.length_map]; omega, ?_⟩
      rw [List.length_map]
      refine for_range (lo := 0) (n := (ys.length : Int).toNat) (fun i σ H' => Same2 d e H H' ∧ (∃ m : Int, H' d = some (.lst [.int m])) ∧ (∃ m : Int, H' e = some (.lst [.int m])) ∧ ∃ (ys' : List PgE) (v5 v7 v9 v10 v11 v12 : Option V), RowsA H' R ys' ∧ ys'.length = ys.length ∧ zsOf ys' = zsOf ys ∧ ys'.map (·.1) = ys.map (·.1) ∧ (∀ y ∈ ys', RowK y.2.2) ∧ (∀ y ∈ ys', (∀ v ∈ y.2.2.ns, v ∈ zsOf ys) ∧ y.2.2.ns.Nodup) ∧
        σ = [some (.ref d), some (.ref e), some (.int mn), some (.int lg), some (.ref R), v5, v6, v7, v8, v9, v10, v11, v12]) ⟨sg, ⟨m, hd1⟩, ⟨me, he1⟩, ys, _, none, none, none, none, none, hR, rfl, rfl, rfl, (fun y hy => (hk y hy).1), (fun y hy => by rw [(hk y hy).2]; exact ⟨(fun _ h => nomatch h), List.nodup_nil⟩), rfl⟩ ?_ ?_
      · clear hR hd1 he1 sg m me hk H1
        rintro i σ H1 hi ⟨sg, ⟨m, hd1⟩, ⟨me, he1⟩, ys', v5, v7, v9, v10, v11, v12, hR, hl', hz', ha', hk, hns, rfl⟩
        have hne : ys' ≠ [] := fun z => by rw [z] at hl'; simp at hl'; omega
        refine ⟨_, rfl, _, rfl, R, _, rfl, .inl (SqL.of hR.hR), d, m, _, rfl, hd1, by rw [List.length_map, hl']; omega, by rw [List.length_map, hl']; omega, fun sh m2 sh0 sh1 => ?_⟩
        rw [List.length_map, hl'] at sh1
        refine ⟨_, rfl, d, m2, 2, rfl, upd_same, by decide, by decide, fun q m3 q0 q1 => ⟨2, q, rfl, rfl, .inl ⟨by decide, by decide⟩, 1, 2 * q, rfl, rfl, (by show 0 ≤ sizeLine; decide), fun F nF => ?_⟩⟩
        have hw : 1 - 2 * q = 1 ∨ 1 - 2 * q = -1 := by omega
        have x2 : SameX d H1 (upd (upd H1 d (.lst [.int m2])) d (.lst [.int m3])) := SameX.upd.trans SameX.upd
        have hd2 : (upd (upd H1 d (.lst [.int m2])) d (.lst [.int m3])) d = some (.lst [.int m3]) := upd_same
        have hR2 := hR.extX hd1 x2
        have sg2 := sg.x x2
        generalize upd (upd H1 d (.lst [.int m2])) d (.lst [.int m3]) = H2 at nF x2 hd2 hR2 sg2 ⊢
        have he2 := x2 _ _ nde.symm he1
        have nFd : F ≠ d := (ne_of_none hd2 nF).symm
        have nFe : F ≠ e := (ne_of_none he2 nF).symm
        have nF0 : H F = none := by
          cases hF : H F with
          | none => rfl
          | some o =>
            have := sg2 F o nFd nFe hF
            rw [nF] at this
            cases this
        have sF := same_new (o := .lst []) nF
        have hF3 : (upd H2 F (.lst [])) F = some (.lst ([] : List V)) := upd_same
        have hd3 := sF _ _ hd2
        have he3 := sF _ _ he2
        have hR3 := hR2.ext sF
        have sg3 := sg2.s sF
        generalize upd H2 F (.lst []) = H3 at hF3 hd3 he3 hR3 sg3 ⊢
        clear sF sg2 hR2 hd2 he2 x2 nF hR hd1 he1 sg H2
        refine ⟨_, rfl, R, _, rfl, .inl (SqL.of hR3.hR), _, rfl, by rw [List.length_map]; omega, by rw [List.length_map]; omega, ?_⟩
        rw [List.length_map, hl']
        refine for_range (lo := 0) (n := (ys.length : Int).toNat) (fun j σ H' => Same2 d e H H' ∧ (∃ m : Int, H' d = some (.lst [.int m])) ∧ (∃ m : Int, H' e = some (.lst [.int m])) ∧ RowsA H' R ys' ∧ ∃ (fs : List Str) (v12 : Option V), H' F = some (.lst (fs.map V.str)) ∧ fs.Nodup ∧ fs.length ≤ j ∧ (∀ y ∈ fs, ∃ j' i : Nat, j' < j ∧ (i : Int) = (sh + (1 - 2 * q) * (j' : Int)) % (ys.length : Int) ∧ (zsOf ys)[i]? = some y) ∧
          σ = [some (.ref d), some (.ref e), some (.int mn), some (.int lg), some (.ref R), some (.int (0 + (i : Int))), v6, v7, v8, some (.int sh), some (.int (1 - 2 * q)), some (.ref F), v12]) ⟨sg3, ⟨m3, hd3⟩, ⟨me, he3⟩, hR3, [], v12, hF3, List.nodup_nil, Nat.zero_le _, (fun _ h => nomatch h), rfl⟩ ?_ ?_
        · clear hF3 hd3 he3 hR3 sg3 H3
          rintro j σ H3 hj ⟨sg, ⟨m, hd⟩, ⟨me, he⟩, hR, fs, v12, hF, hfn, hfl, hfs, rfl⟩
          refine ⟨_, rfl, d, m, 3, rfl, hd, by decide, by decide, fun q3 m' q30 q31 => ⟨q3, 0, rfl, rfl, _, rfl, ?_⟩⟩
          have x4 := SameX.upd (d := d) (H := H3) (o := .lst [.int m'])
          have hR4 := hR.extX hd x4
          have hF4 := x4 _ _ nFd hF
          have he4 := x4 _ _ nde.symm he
          have hd4 : (upd H3 d (.lst [.int m'])) d = some (.lst [.int m']) := upd_same
          have sg4 := sg.x x4
          generalize upd H3 d (.lst [.int m']) = H4 at hR4 hF4 he4 hd4 sg4 ⊢
          refine ite2 (fun _ => ?_) fun _ => ?_
          · have hz0 : (0 : Int) < ys.length := by omega
            have b0 := Int.emod_nonneg (sh + (1 - 2 * q) * (0 + (j : Int))) (b := (ys.length : Int)) (by omega)
            have b1 := Int.emod_lt_of_pos (sh + (1 - 2 * q) * (0 + (j : Int))) hz0
            obtain ⟨x, hx⟩ : ∃ x : Nat, (x : Int) = (sh + (1 - 2 * q) * (0 + (j : Int))) % (ys.length : Int) := ⟨((sh + (1 - 2 * q) * (0 + (j : Int))) % (ys.length : Int)).toNat, by omega⟩
            have hxl : x < ys'.length := by omega
            have hyx : ys'[x]? = some ys'[x] := List.getElem?_eq_getElem hxl
            generalize ys'[x] = y at hyx
            have hya := (hR4.row y (List.mem_of_getElem? hyx)).1
            have a1 : atI (ys'.map fun y => V.ref y.1) ((sh + (1 - 2 * q) * (0 + (j : Int))) % (((ys'.map fun y => V.ref y.1).length : Nat) : Int)) = some (.ref y.1) := by
              rw [List.length_map, hl', ← hx]
              exact atI_nat (by rw [List.getElem?_map, hyx]; rfl)
            have hzx : (zsOf ys)[x]? = some y.2.2.z := by
              rw [← hz', zsOf, List.getElem?_map, hyx]
              rfl
            refine ⟨_, rfl, .inl ⟨rfl, _, SqL.of hF4⟩, _, rfl, _, rfl, _, rfl, _, rfl, 1 - 2 * q, _, rfl, rfl, .inl ⟨by rcases hw with h | h <;> rw [h] <;> decide, by rcases hw with h | h <;> rw [h] <;> decide⟩, sh, _, rfl, rfl, _, rfl, R, _, rfl, .inl (SqL.of hR4.hR), _, _, rfl, rfl, (by show (0 : Int) < ((ys'.map fun y => V.ref y.1).length : Nat); rw [List.length_map, hl']; exact hz0), R, _, _, .ref y.1, rfl, rfl, SqL.of hR4.hR, a1, y.1, _, 0, .str y.2.2.z, rfl, rfl, SqL.of hya, atI0, F, _, .str y.2.2.z, rfl, rfl, hF4, ?_, ?_⟩
            · rw [List.length_map]
              exact Nat.lt_of_le_of_lt (show fs.length ≤ 6 by omega) (by decide)
            have hnot : y.2.2.z ∉ fs := fun hm => by
              obtain ⟨j', i', h1, h2, h3⟩ := hfs _ hm
              have hlt2 : x < (zsOf ys).length := by omega
              have e1 : x = i' := (List.getElem?_inj hlt2 hz).mp (hzx.trans h3.symm)
              have e2 : (sh + (1 - 2 * q) * (j' : Int)) % (ys.length : Int) = (sh + (1 - 2 * q) * (j : Int)) % (ys.length : Int) := by
                rw [← h2, ← e1, hx, Int.zero_add]
              have e3 := mod_inj (by omega) (by omega) hw (by omega) (by omega) (by omega) (by omega) e2
              omega
            refine ⟨fun b o h1 h2 h3 => ?_, ⟨m', by rw [upd_ne nFd.symm]; exact hd4⟩, ⟨me, by rw [upd_ne nFe.symm]; exact he4⟩, hR4.extF hne hF4 SameX.upd, fs ++ [y.2.2.z], _, by rw [upd_same, List.map_append]; rfl, nodup_add hfn hnot, by rw [List.length_append]; exact Nat.succ_le_succ hfl, fun v hv => ?_, rfl⟩
            · rw [upd_ne (ne_of_none h3 nF0)]
              exact sg4 b o h1 h2 h3
            · rcases List.mem_append.mp hv with hv | hv
              · obtain ⟨j', i', h1, h2, h3⟩ := hfs v hv
                exact ⟨j', i', by omega, h2, h3⟩
              · rw [List.mem_singleton] at hv
                rw [hv]
                refine ⟨j, x, by omega, ?_, hzx⟩
                rw [hx, Int.zero_add]
          · exact ⟨sg4, ⟨m', hd4⟩, ⟨me, he4⟩, hR4, fs, _, hF4, hfn, by omega, fun y hy => by
              obtain ⟨j', i', h1, h2, h3⟩ := hfs y hy
              exact ⟨j', i', by omega, h2, h3⟩, rfl⟩
        · clear hF3 hd3 he3 hR3 sg3 H3
          rintro σ H3 ⟨sg, ⟨m, hd⟩, ⟨me, he⟩, hR, fs, v12, hF, hfn, hfl, hfs, rfl⟩
          have hil : i < ys'.length := by omega
          have hyi : ys'[i]? = some ys'[i] := List.getElem?_eq_getElem hil
          generalize ys'[i] = y at hyi
          have a1 : atI (ys'.map fun y => V.ref y.1) (0 + (i : Int)) = some (.ref y.1) := by
            rw [Int.zero_add]
            exact atI_nat (by rw [List.getElem?_map, hyi]; rfl)
          refine ⟨_, rfl, _, rfl, R, _, _, .ref y.1, rfl, rfl, SqL.of hR.hR, a1, ?_⟩
          refine ⟨_, rfl, F, _, rfl, .inl ⟨SqL.of hF, fun t nt => ?_⟩⟩
          have st := same_new (o := .tup (fs.map V.str)) nt
          have ht : (upd H3 t (.tup (fs.map V.str))) t = some (.tup (fs.map V.str)) := upd_same
          have hR4 := hR.ext st
          have hd4 := st _ _ hd
          have he4 := st _ _ he
          have sg4 := sg.s st
          generalize upd H3 t (.tup (fs.map V.str)) = H4 at ht hR4 hd4 he4 sg4 ⊢
          have hya := (hR4.row y (List.mem_of_getElem? hyi)).1
          have nyd := (RowA.ne_int (hR4.row y (List.mem_of_getElem? hyi)) hd4).1
          have nye := (RowA.ne_int (hR4.row y (List.mem_of_getElem? hyi)) he4).1
          have nty : t ≠ y.1 := ne_of ht hya (by intro z; cases z)
          refine ⟨_, rfl, y.1, _, 4, 4, rfl, rfl, hya, ixN4, ?_⟩
          have hput := hR4.put (r := ⟨y.2.2.z, y.2.2.l, y.2.2.m, y.2.2.b, fs⟩) (by rw [ha']; exact ha) hyi ht nty
          have ny0 : H y.1 = none := hfr _ (ha' ▸ List.mem_map_of_mem (List.mem_of_getElem? hyi))
          refine ⟨fun b o h1 h2 h3 => ?_, ⟨m, by rw [upd_ne nyd.symm]; exact hd4⟩, ⟨me, by rw [upd_ne nye.symm]; exact he4⟩, _, _, _, _, _, _, _, hput, by rw [List.length_set]; exact hl', (set_zs (r := ⟨y.2.2.z, y.2.2.l, y.2.2.m, y.2.2.b, fs⟩) hyi rfl).trans hz', (set_ad hyi).trans ha', fun v hv => ?_, fun v hv => ?_, rfl⟩
          · rw [upd_ne (ne_of_none h3 ny0)]
            exact sg4 b o h1 h2 h3
          · rcases List.mem_or_eq_of_mem_set hv with hv | rfl
            · exact hk v hv
            · exact hk y (List.mem_of_getElem? hyi)
          · rcases List.mem_or_eq_of_mem_set hv with hv | rfl
            · exact hns v hv
            · refine ⟨fun x hx => ?_, hfn⟩
              obtain ⟨_, i', _, _, h3⟩ := hfs x hx
              exact List.mem_of_getElem? h3
      · rintro σ H2 ⟨sg, hd2, _, ys', v5, v7, v9, v10, v11, v12, hR, hl', hz', ha', hk, hns, rfl⟩
        exact ⟨_, rfl, k H2 R ys' sg hd2 hR ⟨by rw [hz']; exact hz, by omega, by omega, hk, fun y hy => by rw [hz']; exact hns y hy⟩ (by rw [ha']; exact ha) nR⟩
end
end K7

set_option Elab.async false
set_option linter.all false
set_option pp.deepTerms.threshold 14
set_option pp.maxSteps 2500
set_option maxRecDepth 100000
set_option maxHeartbeats 2000000
namespace K7
open PySem PySem.Spec PyProof.Rows L2 Vf
section
variable {P : Program} {w : World} {K : PySem.W.Frag} {mg : Str → Option Value} {base : Heap}
abbrev s_law_nexts : Stmt := top 30
theorem sc_law_nexts : FnScope ["_law_rows_here", "_law_table", "_law_row_here"] ["_law_rows_here"] (defScope s_law_nexts) := ⟨rfl, rfl, rfl, by decide +kernel, rfl, by decide +kernel, by decide +kernel⟩
-- slots: 0 _law_rows_here, 1 _law_table, 2 _law_row_here
def spNxL : Sp := fun vs H Q _ => ∃ (R : Addr) (ys : List PgE), vs = [.ref R] ∧ RowsA H R ys ∧ (zsOf ys).Nodup ∧ ys.length ≤ 6 ∧ ∀ H' N, Same H H' → H N = none → H' N = some (.dK (kvN ys)) → Q (.ref N) H'
theorem ok_law_nexts {fd : FuncData} (F : FnD K ("_law_nexts", none) "_law_nexts" "_law_nexts" s_law_nexts fd) (T : Txt K mg) : OkF P w K mg base CX0 1 "_law_nexts" ["_law_rows_here"] spNxL := by
  refine okd F (F.ok sc_law_nexts (fun vs H Q E h => ?_) fun cdv A outer s H vs Q E hr h => ?_) fun _ _ _ _ _ _ us hl => match us, hl with | [_], _ => rfl
  · obtain ⟨R, ys, rfl, _⟩ := h
    rfl
  · obtain ⟨R, ys, rfl, hR, hz, h6, k⟩ := h
    refine ⟨_, PSs.nox (pss_cons (ps_set (i := 1) sc_law_nexts.nd rfl (Or.inl rfl) pe_dnewK)
  (pss_cons (ps_for PassesOwn.never rfl (pi_list (pv 0)) (pg_name (i := 2) sc_law_nexts.nd rfl (Or.inl rfl))
  (pss_one (ps_dput (hu_of hr) (pv 1) (pe_ix ix_list (pv 2) pe_int (fun _ _ => rfl)) (pe_ix ix_list (pv 2) pe_int (fun _ _ => rfl)) rfl)))
  (pss_one (ps_ret (pv 1))))), ?_⟩
    intro N nN
    have s1 := same_new (o := .dK []) nN
    have hN : (upd H N (.dK [])) N = some (.dK []) := upd_same
    have hR1 := hR.ext s1
    have s0 : ∀ {H' : Hp}, SameX N (upd H N (.dK [])) H' → Same H H' := fun x b o h => x b o (ne_of_none h nN) (s1 _ _ h)
    generalize upd H N (.dK []) = H1 at s1 hN hR1 s0 ⊢
    have keep : ∀ {H' : Hp}, SameX N H1 H' → RowsA H' R ys := fun x => ⟨x _ _ (ne_of hR1.hR hN (by intro z; cases z)) hR1.hR, fun y hy => ⟨x _ _ (ne_of (hR1.row y hy).1 hN (by intro z; cases z)) (hR1.row y hy).1, x _ _ (ne_of (hR1.row y hy).2 hN (by intro z; cases z)) (hR1.row y hy).2⟩⟩
    refine ⟨_, rfl, R, rfl, ⟨_, SqL.of hR1.hR⟩, for_it walk_list (fun i σ H' => SameX N H1 H' ∧ H' N = some (.dK ((ys.take i).map fun y => ((Sum.inr y.2.2.z : Key), V.ref y.2.1))) ∧ ∃ v : Option V, σ = [some (.ref R), some (.ref N), v]) ⟨fun _ _ _ h => h, hN, none, rfl⟩ (fun i σ H' _ h => SqL.of (keep h.1).hR) ?_ ?_⟩
    · rintro i x σ H2 H' hi ⟨sx, hN2, v, rfl⟩ ⟨rfl, hx⟩
      obtain ⟨y, hy, rfl⟩ := getE hx
      have hya := ((keep sx).row y (List.mem_of_getElem? hy)).1
      refine ⟨_, rfl, y.1, _, 4, .ref y.2.1, rfl, rfl, SqL.of hya, atI_nat (j := 4) rfl, _, rfl, _, rfl, y.1, _, 0, .str y.2.2.z, rfl, rfl, SqL.of hya, atI0, N, _, rfl, DPut.k (k := Sum.inr y.2.2.z) hN2 ?_, sx.trans SameX.upd, ?_, _, rfl⟩
      · rw [List.length_map, List.length_take]
        rw [List.length_map] at hi
        exact Nat.lt_of_le_of_lt (Nat.min_le_left _ _) (Nat.lt_of_lt_of_le hi (Nat.le_trans h6 (by decide)))
      · rw [upd_same, put_row (f := fun y => V.ref y.2.1) hz hy]
    · rintro σ H2 ⟨sx, hN2, v, rfl⟩
      rw [List.length_map, List.take_length] at hN2
      exact ⟨_, rfl, k H2 N (s0 sx) nN hN2⟩
abbrev s_law_program : Stmt := top 31
theorem sc_law_program : FnScope ["_law_rows_here", "_law_begin", "_law_places", "_law_row_here"] ["_law_rows_here", "_law_begin"] (defScope s_law_program) := ⟨rfl, rfl, rfl, by decide +kernel, rfl, by decide +kernel, by decide +kernel⟩
-- slots: 0 _law_rows_here, 1 _law_begin, 2 _law_places, 3 _law_row_here
/-- the row beside the place that is made of it -/
def Beside (xs ys : List PgE) : Prop := xs.map (·.2) = ys.map (·.2)
theorem Beside.zs {xs ys : List PgE} (h : Beside xs ys) : zsOf xs = zsOf ys := by
  have := congrArg (List.map fun x : Addr × Rw => x.2.z) h
  rw [List.map_map, List.map_map] at this
  exact this
theorem Beside.len {xs ys : List PgE} (h : Beside xs ys) : xs.length = ys.length := by
  have := congrArg List.length h
  simpa using this
theorem Beside.get {xs ys : List PgE} (h : Beside xs ys) {i : Nat} {x : PgE} (hx : xs[i]? = some x) : ∃ y, ys[i]? = some y ∧ y.2 = x.2 := by
  have h1 : (xs.map (·.2))[i]? = some x.2 := by rw [List.getElem?_map, hx]; rfl
  rw [h, List.getElem?_map] at h1
  cases hq : ys[i]? with
  | none => rw [hq] at h1; cases h1
  | some y =>
    rw [hq] at h1
    exact ⟨y, rfl, Option.some.inj h1⟩
theorem Beside.mem {xs ys : List PgE} (h : Beside xs ys) {x : PgE} (hx : x ∈ xs) : ∃ y ∈ ys, y.2 = x.2 := by
  obtain ⟨i, hi⟩ := List.mem_iff_getElem?.mp hx
  obtain ⟨y, hy, e⟩ := h.get hi
  exact ⟨y, List.mem_of_getElem? hy, e⟩
theorem Beside.kvN {xs ys : List PgE} (h : Beside xs ys) : kvN xs = kvN ys := by
  have := congrArg (List.map fun x : Addr × Rw => ((Sum.inr x.2.z : Key), V.ref x.1)) h
  rw [List.map_map, List.map_map] at this
  exact this
def spPrL (K : PySem.W.Frag) : Sp := fun vs H Q _ => ∃ (R : Addr) (ys : List PgE) (s : Str), vs = [.ref R, .str s] ∧ RowsA H R ys ∧ RowsOk ys ∧ s ∈ zsOf ys ∧ ∀ H' g xs dx tn dP dN, Same H H' → PgA K H' g xs s dx tn dP dN → Beside xs ys → H dP = none → H dN = none → Q (.ref g) H'
theorem ok_law_program {fd : FuncData} (F : FnD K ("_law_program", none) "_law_program" "_law_program" s_law_program fd) (T : Txt K mg) (O_law_nexts : OkF P w K mg base CX0 1 "_law_nexts" ["_law_rows_here"] spNxL)
    (O_Place_init3k : OkK P w K mg base (L2.CX P w) 4 ("Place", some "__init__") ["self", "name", "least", "most", "let"] 4 ["let"] (fun vs zs => vs ++ zs) (spPlI K)) (O_Program_init2k : OkK P w K mg base (L2.CX P w) 5 ("Program", some "__init__") ["self", "places", "nexts", "start"] 3 ["start"] (fun vs zs => vs ++ zs) (spPgI K)) : OkF P w K mg base CX0 7 "_law_program" ["_law_rows_here", "_law_begin"] (spPrL K) := by
  refine okd F (F.ok sc_law_program (fun vs H Q E h => ?_) fun cdv A outer s H vs Q E hr h => ?_) fun _ _ _ _ _ _ us hl => match us, hl with | [_, _], _ => rfl
  · obtain ⟨R, ys, z, rfl, _⟩ := h
    rfl
  · obtain ⟨R, ys, z, rfl, hR, hok, hz, k⟩ := h
    refine ⟨_, PSs.nox (pss_cons (ps_setLc (i := 2) (own := [("_law_row_here", 3)]) (g := gName 3) (tt := tYes) (by rfl) sc_law_program.nd rfl rfl (sw_true rfl rfl rfl (by decide +kernel)) (pi_list (pv 0)) (blkOk_by (N := ["_law_rows_here", "_law_begin", "_law_places", "_law_row_here"]) (sc := defScope s_law_program) (by decide +kernel)) (fun _ _ _ _ _ => (pg_name (i := 3) sc_law_program.nd rfl (Or.inl rfl))) (fun _ _ _ _ _ => pts_nil) (fun _ _ _ _ _ => (c_mkK T.m_Place O_Place_init3k hr (by decide) T.g_Place passL (pa_cons (pe_ix (ix_listK (K := K) rfl) (pv 3) pe_int (fun _ _ => rfl)) (pa_cons (pe_ix (ix_listK (K := K) rfl) (pv 3) pe_int (fun _ _ => rfl)) (pa_cons (pe_ix (ix_listK (K := K) rfl) (pv 3) pe_int (fun _ _ => rfl)) pa_nil))) (pk_cons (pe_ix (ix_listK (K := K) rfl) (pv 3) pe_int (fun _ _ => rfl)) pk_nil))))
  (pss_one (ps_ret (c_mkK T.m_Program O_Program_init2k hr (by decide) T.g_Program passL (pa_cons (pv 2) (pa_cons (c_fn O_law_nexts hr (by decide) T.g_law_nexts pass0 (pa_cons (pv 0) pa_nil)) pa_nil)) (pk_cons (pv 1) pk_nil))))), ?_⟩
    refine ⟨_, rfl, R, rfl, ⟨_, SqL.of hR.hR⟩, fun D nD => lc_it walk_list (fun i H' => Same H H' ∧ ∃ xs : List PgE, H' D = some (.lst (xs.map fun x => V.ref x.1)) ∧ xs.map (·.2) = (ys.take i).map (·.2) ∧ ∀ x ∈ xs, PlE K H' x) ⟨same_new nD, [], upd_same, rfl, (fun _ h => nomatch h)⟩ (fun i H' _ h => h.1.seq (SqL.of hR.hR)) ?_ ?_⟩
    · rintro i x H1 H' hi ⟨sg, xs, hD, hb, hp⟩ ⟨rfl, hx⟩
      obtain ⟨y, hy, rfl⟩ := getE hx
      have hm := List.mem_of_getElem? hy
      have hya := SqL.of (K := K) ((hR.ext sg).row y hm).1
      obtain ⟨k1, k2, k3, k4, k5⟩ := hok.kp y hm
      have hxl : xs.length ≤ 6 := by
        have := congrArg List.length hb
        simp only [List.length_map, List.length_take] at this
        have := hok.l6
        omega
      refine ⟨rfl, _, rfl, y.1, _, 0, .str y.2.2.z, rfl, rfl, hya, atI0, _, rfl, y.1, _, 1, .int y.2.2.l, rfl, rfl, hya, atI_nat (j := 1) rfl, _, rfl, y.1, _, 2, .int y.2.2.m, rfl, rfl, hya, atI_nat (j := 2) rfl, _, rfl, y.1, _, 3, .bl y.2.2.b, rfl, rfl, hya, atI_nat (j := 3) rfl, rfl, rfl, fun p dx np ndx ne => ⟨p, dx, _, _, _, _, rfl, upd_same, .inr ⟨y.2.2.z, y.2.2.l, y.2.2.m, y.2.2.b, ⟨rfl, Nat.le_trans k2 (by decide), k1, rfl, k3, k4, k5, .inl rfl, rfl⟩, fun H2 s2 => ⟨rfl, ?_⟩⟩⟩⟩
      have sm : Same H' (upd H2 p (.ins (CP K) dx (plf y.2.2.z y.2.2.l y.2.2.m y.2.2.b))) := fun b' u e => by
        rw [upd_ne (ne_of_none e np)]
        exact s2 _ _ (same_make np ndx _ _ e)
      have hpl : PlE K (upd H2 p (.ins (CP K) dx (plf y.2.2.z y.2.2.l y.2.2.m y.2.2.b))) (p, y.2) := ⟨dx, upd_same⟩
      generalize upd H2 p (.ins (CP K) dx (plf y.2.2.z y.2.2.l y.2.2.m y.2.2.b)) = H3 at sm hpl ⊢
      have hD3 := sm _ _ hD
      have old : ∀ x ∈ xs ++ [(p, y.2)], PlE K H3 x := fun x hx => by
        rcases List.mem_append.mp hx with hx | hx
        · exact (hp x hx).ext sm
        · rw [List.mem_singleton] at hx
          rw [hx]
          exact hpl
      refine ⟨_, hD3, ?_, same_app sg sm nD, xs ++ [(p, y.2)], by rw [upd_same, List.map_append]; rfl, ?_, fun x hx => ?_⟩
      · rw [List.length_map]
        exact Nat.lt_of_le_of_lt hxl (by decide)
      · rw [List.map_append, hb, List.take_add_one, List.map_append, hy]
        rfl
      · obtain ⟨d1, e1⟩ := old x hx
        exact ⟨d1, by rw [upd_ne (ne_of e1 hD3 (by intro z; cases z))]; exact e1⟩
    rintro H1 ⟨s1, xs, hD, hb, hp⟩
    rw [List.length_map, List.take_length] at hb
    have hB : Beside xs ys := hb
    have hR1 := hR.ext s1
    refine ⟨_, rfl, _, rfl, R, ys, rfl, hR1, hok.nd, hok.l6, fun H2 N s2 nN hN => ⟨_, rfl, rfl, rfl, fun g dx ng ndx ne => ?_⟩⟩
    have sm := same_make (o1 := .own g) (o2 := .ins (CG K) dx []) ng ndx
    have hparts : PartsOk K H2 HO.lst D N xs := by
      refine ⟨s2 _ _ hD, fun x hx => (hp x hx).ext s2, ⟨kvN ys, hN, ?_, fun x hx => ?_⟩, fun x hx => ?_, by rw [hB.zs]; exact hok.nd, by rw [hB.len]; exact hok.l1, by rw [hB.len]; exact hok.l6, fun v hv => ?_, .inl rfl⟩
      · rw [← hB.kvN]
        exact List.length_map ..
      · obtain ⟨i, hi⟩ := List.mem_iff_getElem?.mp hx
        have hzx : (zsOf xs).Nodup := by rw [hB.zs]; exact hok.nd
        rw [← hB.kvN]
        exact val_row (f := fun y => V.ref y.2.1) hzx hi
      · obtain ⟨y, hy, e⟩ := hB.mem hx
        have h1 := ((hR1.ext s2).row y hy).2
        have h2 := hok.ns y hy
        unfold NsE
        rw [← e]
        refine ⟨h1, fun v hv => by rw [hB.zs]; exact h2.1 v hv, h2.2, ?_⟩
        have := nodup_le h2.2 h2.1
        have h3 : (zsOf ys).length = ys.length := List.length_map ..
        have := hok.l6
        omega
      · rw [hB.zs] at hv
        obtain ⟨y, hy, rfl⟩ := List.mem_map.mp hv
        exact (hok.kp y hy).1
    refine ⟨g, dx, D, N, _, xs, _, z, rfl, upd_same, hparts.ext sm, by rw [hB.zs]; exact hz, .inl rfl, fun H3 dx3 tn dP dN x3 hpg nP nN2 => ⟨rfl, ?_⟩⟩
    have s3 : Same H2 H3 := fun b o e => x3 b o (ne_of_none e ng) (sm _ _ e)
    have back : ∀ {b : Addr}, (upd (upd H2 dx (.own g)) g (.ins (CG K) dx [])) b = none → H b = none := fun {b} e => by
      cases q : H b with
      | none => rfl
      | some o =>
        have := sm _ _ (s2 _ _ (s1 _ _ q))
        rw [e] at this
        cases this
    exact k H3 g xs dx3 tn dP dN (s1.trans (s2.trans s3)) hpg hB (back nP) (back nN2)
end
end K7

set_option Elab.async false
set_option linter.all false
set_option pp.deepTerms.threshold 14
set_option pp.maxSteps 2500
set_option maxRecDepth 100000
set_option maxHeartbeats 2000000
namespace K7
open PySem PySem.Spec PyProof.Rows L2 Vf
section
variable {P : Program} {w : World} {K : PySem.W.Frag} {mg : Str → Option Value} {base : Heap}
/-- a text, or a value that is none -/
def Nine (H : Hp) (x : V) : Prop := (∃ z, x = .str z) ∨ OddS H x
theorem oddS_ext {H H' : Hp} {x : V} (o : OddS H x) (s : Same H H') : OddS H' x := by
  cases o with
  | bl b => exact .bl b
  | non => exact .non
  | int i => exact .int i
  | tup h => exact .tup (s _ _ h)
  | lst h => exact .lst (s _ _ h)
  | dic h => exact .dic (s _ _ h)
theorem Nine.ext {H H' : Hp} {x : V} (o : Nine H x) (s : Same H H') : Nine H' x := o.elim .inl fun h => .inr (oddS_ext h s)
/-- a value whose kind is none of these -/
def NoKind (K : PySem.W.Frag) (H : Hp) (x : V) (n : String) : Prop := ∃ t, TyX K H x t ∧ PySem.W.kitOne K t (.type n) = some false
/-- what is no tuple of different names -/
inductive ChBad (H : Hp) (zs : List Str) : V → Prop where
  | str (z : Str) : ChBad H zs (.str z)
  | non : ChBad H zs .non
  | int (i : Int) : ChBad H zs (.int i)
  | lst {a : Addr} {xs : List V} (h : H a = some (.lst xs)) : ChBad H zs (.ref a)
  | dic {a : Addr} {kvs : List (Key × V)} (h : H a = some (.dK kvs)) : ChBad H zs (.ref a)
  | item {a : Addr} {us : List V} (h : H a = some (.tup us)) (n : ∀ u ∈ us, Nine H u) (l : us.length ≤ 100) (b : ∃ u ∈ us, (∃ z, u = .str z ∧ z ∉ zs) ∨ OddS H u) : ChBad H zs (.ref a)
  | twin {a : Addr} {ws : List Str} (h : H a = some (.tup (ws.map V.str))) (s : ∀ z ∈ ws, z ∈ zs) (l : ws.length ≤ 100) (b : ¬ ws.Nodup) : ChBad H zs (.ref a)
theorem ChBad.ext {H H' : Hp} {zs : List Str} {x : V} (o : ChBad H zs x) (s : Same H H') : ChBad H' zs x := by
  cases o with
  | str z => exact .str z
  | non => exact .non
  | int i => exact .int i
  | lst h => exact .lst (s _ _ h)
  | dic h => exact .dic (s _ _ h)
  | item h n l b =>
    refine .item (s _ _ h) (fun u hu => (n u hu).ext s) l ?_
    obtain ⟨u, hu, h⟩ := b
    exact ⟨u, hu, h.imp id fun o => oddS_ext o s⟩
  | twin h i l b => exact .twin (s _ _ h) i l b
/-- the bools of a list: is one false -/
theorem all_no {bs : List Bool} (h : false ∈ bs) : bs.all id = false := List.all_eq_false.mpr ⟨false, h, by decide⟩
def ChOk (H : Hp) (zs : List Str) (x : V) : Prop := ∃ (t : Addr) (ws : List Str), x = .ref t ∧ H t = some (.tup (ws.map V.str)) ∧ (∀ y ∈ ws, y ∈ zs) ∧ ws.Nodup ∧ ws.length ≤ 1000
theorem ChOk.ext {H H' : Hp} {zs : List Str} {x : V} (o : ChOk H zs x) (s : Same H H') : ChOk H' zs x := by
  obtain ⟨t, ws, h1, h2, h3⟩ := o
  exact ⟨t, ws, h1, s _ _ h2, h3⟩
def spChoC : Sp := fun vs H Q _ => ∃ (x : V) (n : Addr) (zs : List Str), vs = [x, .ref n] ∧ H n = some (.tup (zs.map V.str)) ∧ ((ChOk H zs x ∧ ∀ H', Same H H' → Q (.bl true) H') ∨ (ChBad H zs x ∧ ∀ H', Same H H' → Q (.bl false) H'))
theorem ok_is_choiceC {fd : FuncData} (F : FnD K ("is_choice", none) "is_choice" "is_choice" s_is_choice fd) (T : GTxt K mg) (O_is_one_of : OkF P w K mg base CX0 1 "is_one_of" ["x", "names"] (spOne K)) (O_has_twins : OkF P w K mg base CX0 1 "has_twins" ["items"] (spTw K)) :
    OkF P w K mg base CX0 2 "is_choice" ["ways", "names"] spChoC := by
  refine okd F (F.ok sc_is_choice (fun vs H Q E h => ?_) fun cdv A outer s H vs Q E hr h => ?_) fun _ _ _ _ _ _ us hl => match us, hl with | [_, _], _ => rfl
  · obtain ⟨x, n, zs, rfl, _⟩ := h
    rfl
  · obtain ⟨x, n, zs, rfl, hn, hb⟩ := h
    refine ⟨_, PSs.nox (pss_cons (ps_if (PW.pt (pw_or (pt_not (pt_val (pe_callB (id := "isinstance") call_isi (by rfl) T.z_isinstance (by decide +kernel) (pa_cons (pv 0) (pa_cons (pe_ty (n := "tuple") T.z_tuple (by decide +kernel)) pa_nil))))) (pw_or1 (pt_not (pt_val (pe_callB (id := "all") (cr_all rfl) (by rfl) T.z_all (by decide +kernel) (pa_cons (pe_lc (own := [("way", 2)]) (g := gName 2) (tt := tYes) (by rfl) sc_is_choice.nd (pi_tup (pv 0)) (blkOk_by (N := ["ways", "names", "way"]) (sc := defScope s_is_choice) (by decide +kernel)) (fun _ _ _ _ _ => (pg_name (i := 2) sc_is_choice.nd rfl (Or.inl rfl))) (fun _ _ _ _ _ => pts_nil) (fun _ _ _ _ _ => (c_fn O_is_one_of hr (by decide) T.g_is_one_of pass0 (pa_cons (pv 2) (pa_cons (pv 1) pa_nil))))) pa_nil))))))) (pss_one (ps_ret pe_bl))
  pss_nil)
  (pss_one (ps_ret (pe_not (c_fn O_has_twins hr (by decide) T.g_has_twins pass0 (pa_cons (pv 0) pa_nil)))))), ?_⟩
    rcases hb with ⟨⟨t, ws, rfl, ht, hsub, hnd, hlen⟩, k⟩ | ⟨hb, k⟩
    · refine ⟨_, rfl, .ref t, .ty "tuple", .type "tuple", .type "tuple", true, rfl, .ty _, .base (.tup ht), kit_ty (by decide +kernel), true, rfl, iteF ?_⟩
      refine ⟨_, rfl, t, rfl, ⟨_, SqT.of ht⟩, fun D nD => lc_it walk_tup (fun i H' => Same H H' ∧ H' D = some (.lst ((List.replicate i true).map V.bl))) ⟨same_new nD, upd_same⟩ (fun i H' _ h => SqT.ext (SqT.of ht) h.1) ?_ ?_⟩
      · rintro i x H1 H' hi ⟨sg, hD⟩ ⟨rfl, hx⟩
        rw [List.getElem?_map] at hx
        obtain ⟨y, hy, rfl⟩ : ∃ y, ws[i]? = some y ∧ x = .str y := by
          cases hq : ws[i]? with
          | none => rw [hq] at hx; cases hx
          | some y =>
            rw [hq] at hx
            exact ⟨y, rfl, (Option.some.inj hx).symm⟩
        have hin := hsub y (List.mem_of_getElem? hy)
        refine ⟨rfl, _, rfl, _, rfl, .str y, n, zs, rfl, SqT.ext (SqT.of hn) sg, .inl ⟨y, rfl, ?_⟩⟩
        rw [decide_eq_true hin]
        refine ⟨_, hD, ?_, same_app sg (Same.refl _) nD, by rw [upd_same, take_rep]⟩
        rw [List.length_map, List.length_replicate]
        rw [List.length_map] at hi
        exact Nat.lt_of_lt_of_le hi (Nat.le_trans hlen (by decide))
      · rintro H' ⟨sg, hD⟩
        refine ⟨D, _, rfl, SqL.of hD, ?_⟩
        rw [all_rep]
        refine ⟨true, rfl, iteF ⟨_, rfl, t, ws, rfl, hlen, .inr (SqT.ext (SqT.of ht) sg), fun H2 s2 => ?_⟩⟩
        rw [decide_eq_true hnd]
        exact ⟨_, rfl, k H2 (sg.trans s2)⟩
    cases hb with
    | str z => exact ⟨_, rfl, _, .ty "tuple", _, .type "tuple", false, rfl, .ty _, .base (.str z), kit_ty (by decide +kernel), false, rfl, iteT (k H (Same.refl _))⟩
    | non => exact ⟨_, rfl, _, .ty "tuple", _, .type "tuple", false, rfl, .ty _, .base .non, kit_ty (by decide +kernel), false, rfl, iteT (k H (Same.refl _))⟩
    | int i => exact ⟨_, rfl, _, .ty "tuple", _, .type "tuple", false, rfl, .ty _, .base (.int i), kit_ty (by decide +kernel), false, rfl, iteT (k H (Same.refl _))⟩
    | lst h => exact ⟨_, rfl, _, .ty "tuple", _, .type "tuple", false, rfl, .ty _, .base (.lst h), kit_ty (by decide +kernel), false, rfl, iteT (k H (Same.refl _))⟩
    | dic h => exact ⟨_, rfl, _, .ty "tuple", _, .type "tuple", false, rfl, .ty _, .base (.dK h), kit_ty (by decide +kernel), false, rfl, iteT (k H (Same.refl _))⟩
    | item h nn hl hbad =>
      rename_i a us
      refine ⟨_, rfl, .ref a, .ty "tuple", .type "tuple", .type "tuple", true, rfl, .ty _, .base (.tup h), kit_ty (by decide +kernel), true, rfl, iteF ?_⟩
      refine ⟨_, rfl, a, rfl, ⟨_, SqT.of h⟩, fun D nD => lc_it walk_tup (fun i H' => Same H H' ∧ ∃ bs : List Bool, H' D = some (.lst (bs.map V.bl)) ∧ bs.length = i ∧ ((∃ (j : Nat) (u : V), j < i ∧ us[j]? = some u ∧ ((∃ z, u = .str z ∧ z ∉ zs) ∨ OddS H u)) → false ∈ bs)) ⟨same_new nD, [], upd_same, rfl, fun ⟨j, _, hj, _⟩ => absurd hj (Nat.not_lt_zero j)⟩ (fun i H' _ h' => SqT.ext (SqT.of h) h'.1) ?_ ?_⟩
      · rintro i x H1 H' hi ⟨sg, bs, hD, hbl, hbf⟩ ⟨rfl, hx⟩
        have step : ∀ b : Bool, (b = true → ¬ ((∃ z, x = .str z ∧ z ∉ zs) ∨ OddS H x)) → Same H (upd H' D (.lst (bs.map V.bl ++ [V.bl b]))) ∧ ∃ bs' : List Bool, (upd H' D (.lst (bs.map V.bl ++ [V.bl b]))) D = some (.lst (bs'.map V.bl)) ∧ bs'.length = i + 1 ∧ ((∃ (j : Nat) (u : V), j < i + 1 ∧ us[j]? = some u ∧ ((∃ z, u = .str z ∧ z ∉ zs) ∨ OddS H u)) → false ∈ bs') := fun b hb => by
          refine ⟨same_app sg (Same.refl _) nD, bs ++ [b], by rw [upd_same, List.map_append]; rfl, by rw [List.length_append, hbl]; rfl, fun ⟨j, u, hj, hu, q⟩ => ?_⟩
          by_cases e : j = i
          · subst e
            rw [hx] at hu
            cases hu
            refine List.mem_append_right _ ?_
            cases b with
            | true => exact absurd q (hb rfl)
            | false => exact List.mem_cons_self
          · exact List.mem_append_left _ (hbf ⟨j, u, by omega, hu, q⟩)
        have hlt : (bs.map V.bl).length < sizeLine := by
          rw [List.length_map, hbl]
          exact Nat.lt_of_lt_of_le hi (Nat.le_trans hl (by decide))
        rcases nn x (List.mem_of_getElem? hx) with ⟨z, rfl⟩ | o
        · refine ⟨rfl, _, rfl, _, rfl, .str z, n, zs, rfl, SqT.ext (SqT.of hn) sg, .inl ⟨z, rfl, _, hD, hlt, ?_⟩⟩
          refine step (decide (z ∈ zs)) fun hz q => ?_
          rcases q with ⟨y, e, hy⟩ | o
          · cases e
            exact hy (of_decide_eq_true hz)
          · cases o
        · exact ⟨rfl, _, rfl, _, rfl, x, n, zs, rfl, SqT.ext (SqT.of hn) sg, .inr ⟨oddS_ext o sg, _, hD, hlt, step false (fun z => nomatch z)⟩⟩
      · rintro H' ⟨sg, bs, hD, hbl, hbf⟩
        refine ⟨D, _, rfl, SqL.of hD, ?_⟩
        obtain ⟨u, hu, q⟩ := hbad
        obtain ⟨j, hj⟩ := List.mem_iff_getElem?.mp hu
        rw [all_no (hbf ⟨j, u, (List.getElem?_eq_some_iff.mp hj).1, hj, q⟩)]
        exact ⟨false, rfl, iteT (k H' sg)⟩
    | twin ht hsub hlen hnd =>
      rename_i t ws
      refine ⟨_, rfl, .ref t, .ty "tuple", .type "tuple", .type "tuple", true, rfl, .ty _, .base (.tup ht), kit_ty (by decide +kernel), true, rfl, iteF ?_⟩
      refine ⟨_, rfl, t, rfl, ⟨_, SqT.of ht⟩, fun D nD => lc_it walk_tup (fun i H' => Same H H' ∧ H' D = some (.lst ((List.replicate i true).map V.bl))) ⟨same_new nD, upd_same⟩ (fun i H' _ h => SqT.ext (SqT.of ht) h.1) ?_ ?_⟩
      · rintro i x H1 H' hi ⟨sg, hD⟩ ⟨rfl, hx⟩
        rw [List.getElem?_map] at hx
        obtain ⟨y, hy, rfl⟩ : ∃ y, ws[i]? = some y ∧ x = .str y := by
          cases hq : ws[i]? with
          | none => rw [hq] at hx; cases hx
          | some y =>
            rw [hq] at hx
            exact ⟨y, rfl, (Option.some.inj hx).symm⟩
        have hin := hsub y (List.mem_of_getElem? hy)
        refine ⟨rfl, _, rfl, _, rfl, .str y, n, zs, rfl, SqT.ext (SqT.of hn) sg, .inl ⟨y, rfl, ?_⟩⟩
        rw [decide_eq_true hin]
        refine ⟨_, hD, ?_, same_app sg (Same.refl _) nD, by rw [upd_same, take_rep]⟩
        rw [List.length_map, List.length_replicate]
        rw [List.length_map] at hi
        exact Nat.lt_of_lt_of_le hi (Nat.le_trans hlen (by decide))
      · rintro H' ⟨sg, hD⟩
        refine ⟨D, _, rfl, SqL.of hD, ?_⟩
        rw [all_rep]
        refine ⟨true, rfl, iteF ⟨_, rfl, t, ws, rfl, Nat.le_trans hlen (by decide), .inr (SqT.ext (SqT.of ht) sg), fun H2 s2 => ?_⟩⟩
        rw [decide_eq_false hnd]
        exact ⟨_, rfl, k H2 (sg.trans s2)⟩
theorem ChBad.not {H : Hp} {zs : List Str} {x : V} (b : ChBad H zs x) : ¬ ChOk H zs x := by
  rintro ⟨t, ws, e, ht, hs, hn, _⟩
  cases b with
  | str z => cases e
  | non => cases e
  | int i => cases e
  | lst h =>
    cases e
    rw [h] at ht
    cases ht
  | dic h =>
    cases e
    rw [h] at ht
    cases ht
  | item h _ _ b =>
    cases e
    rw [h] at ht
    obtain ⟨u, hu, q⟩ := b
    have ht := HO.tup.inj (Option.some.inj ht)
    rw [ht] at hu
    obtain ⟨z, hz, rfl⟩ := List.mem_map.mp hu
    rcases q with ⟨y, e, hy⟩ | o
    · cases e
      exact hy (hs z hz)
    · cases o
  | twin h _ _ b =>
    cases e
    rw [h] at ht
    have ht := HO.tup.inj (Option.some.inj ht)
    have : ∀ {a b : List Str}, a.map V.str = b.map V.str → a = b := fun {a b} h => by
      have := congrArg (List.map fun v : V => match v with | .str z => z | _ => "") h
      rwa [List.map_map, List.map_map, show ((fun v : V => match v with | .str z => z | _ => "") ∘ V.str) = (id : Str → Str) from rfl, List.map_id, List.map_id] at this
    rw [this ht] at b
    exact b hn
theorem FnOk.or {P : Program} {w : World} {K : PySem.W.Frag} {mg : Str → Option Value} {base : Heap} {CX : CXT} {k : Nat} {f : Addr} {fd : FuncData} {ps : List Str} {sp sp' : Sp} (F : FnOk P w K mg base CX k f fd ps sp) (G : FnOk P w K mg base CX k f fd ps sp') :
    FnOk P w K mg base CX k f fd ps (fun vs H Q E => sp vs H Q E ∨ sp' vs H Q E) :=
  ⟨fun vs H Q E q => q.elim (F.len vs H Q E) (G.len vs H Q E), fun A outer s H args us vs Q E hr he hb hv hs => hs.elim (F.run A outer s H args us vs Q E hr he hb hv) (G.run A outer s H args us vs Q E hr he hb hv)⟩
/-- what is no dict of choices for these names -/
inductive NxBad (H : Hp) (zs : List Str) : V → Prop where
  | str (z : Str) : NxBad H zs (.str z)
  | non : NxBad H zs .non
  | int (i : Int) : NxBad H zs (.int i)
  | lst {a : Addr} {xs : List V} (h : H a = some (.lst xs)) : NxBad H zs (.ref a)
  | tup {a : Addr} {xs : List V} (h : H a = some (.tup xs)) : NxBad H zs (.ref a)
  | len {a : Addr} {kvs : List (Key × V)} (h : H a = some (.dK kvs)) (n : kvs.length ≠ zs.length) : NxBad H zs (.ref a)
  | val {a : Addr} {kvs : List (Key × V)} (h : H a = some (.dK kvs)) (n : kvs.length = zs.length) (c : ∀ z ∈ zs, ∃ u, valV kvs (Sum.inr z) = some u ∧ (ChOk H zs u ∨ ChBad H zs u)) (b : ∃ z ∈ zs, ∃ u, valV kvs (Sum.inr z) = some u ∧ ChBad H zs u) : NxBad H zs (.ref a)
theorem NxBad.ext {H H' : Hp} {zs : List Str} {x : V} (o : NxBad H zs x) (s : Same H H') : NxBad H' zs x := by
  cases o with
  | str z => exact .str z
  | non => exact .non
  | int i => exact .int i
  | lst h => exact .lst (s _ _ h)
  | tup h => exact .tup (s _ _ h)
  | len h n => exact .len (s _ _ h) n
  | val h n c b =>
    refine .val (s _ _ h) n (fun z hz => ?_) ?_
    · obtain ⟨u, h1, h2⟩ := c z hz
      exact ⟨u, h1, h2.imp (fun o => o.ext s) fun o => o.ext s⟩
    · obtain ⟨z, hz, u, h1, h2⟩ := b
      exact ⟨z, hz, u, h1, h2.ext s⟩
theorem ok_are_nextsB {fd : FuncData} (F : FnD K ("are_nexts", none) "are_nexts" "are_nexts" s_are_nexts fd) (T : GTxt K mg) (O_is_choice : OkF P w K mg base CX0 2 "is_choice" ["ways", "names"] spChoC) :
    OkF P w K mg base CX0 3 "are_nexts" ["nexts", "names"] (fun vs H Q _ => ∃ (x : V) (n : Addr) (zs : List Str), vs = [x, .ref n] ∧ H n = some (.tup (zs.map V.str)) ∧ zs.length ≤ 6 ∧ NxBad H zs x ∧ ∀ H', Same H H' → Q (.bl false) H') := by
  refine okd F (F.ok sc_are_nexts (fun vs H Q E h => ?_) fun cdv A outer s H vs Q E hr h => ?_) fun _ _ _ _ _ _ us hl => match us, hl with | [_, _], _ => rfl
  · obtain ⟨x, n, zs, rfl, _⟩ := h
    rfl
  · obtain ⟨x, n, zs, rfl, hn, l6, hb, k⟩ := h
    refine ⟨_, PSs.nox (pss_cons (ps_if (PW.pt (pw_or (pt_not (pt_val (pe_callB (id := "isinstance") call_isi (by rfl) T.z_isinstance (by decide +kernel) (pa_cons (pv 0) (pa_cons (pe_ty (n := "dict") T.z_dict (by decide +kernel)) pa_nil))))) (pw_or1 (pt_cmpR op_ne (pe_callB call_lenD (by rfl) T.z_len (by decide +kernel) (pa_cons (pv 0) pa_nil)) (pe_callB (id := "len") call_len_seq (by rfl) T.z_len (by decide +kernel) (pa_cons (pv 1) pa_nil)) (nomark _))))) (pss_one (ps_ret pe_bl))
  pss_nil)
  (pss_one (ps_ret (pe_callB (id := "all") (cr_all rfl) (by rfl) T.z_all (by decide +kernel) (pa_cons (pe_lc (own := [("name", 2)]) (g := gName 2) (tt := tYes) (by rfl) sc_are_nexts.nd (pi_tup (pv 1)) (blkOk_by (N := ["nexts", "names", "name"]) (sc := defScope s_are_nexts) (by decide +kernel)) (fun _ _ _ _ _ => (pg_name (i := 2) sc_are_nexts.nd rfl (Or.inl rfl))) (fun _ _ _ _ _ => pts_nil) (fun _ _ _ _ _ => (pe_and (pe_cmp (pc_din (hu_of hr) (pv 2) (pv 0)) rfl) (pe_one (c_fn O_is_choice hr (by decide) T.g_is_choice pass0 (pa_cons (pe_dget (hu_of hr) (pv 0) (pv 2) (fun _ _ => rfl)) (pa_cons (pv 1) pa_nil))))))) pa_nil))))), ?_⟩
    cases hb with
    | str z => exact ⟨_, rfl, _, .ty "dict", _, .type "dict", false, rfl, .ty _, .base (.str z), kit_ty (by decide +kernel), false, rfl, iteT (k H (Same.refl _))⟩
    | non => exact ⟨_, rfl, _, .ty "dict", _, .type "dict", false, rfl, .ty _, .base .non, kit_ty (by decide +kernel), false, rfl, iteT (k H (Same.refl _))⟩
    | int i => exact ⟨_, rfl, _, .ty "dict", _, .type "dict", false, rfl, .ty _, .base (.int i), kit_ty (by decide +kernel), false, rfl, iteT (k H (Same.refl _))⟩
    | lst h => exact ⟨_, rfl, _, .ty "dict", _, .type "dict", false, rfl, .ty _, .base (.lst h), kit_ty (by decide +kernel), false, rfl, iteT (k H (Same.refl _))⟩
    | tup h => exact ⟨_, rfl, _, .ty "dict", _, .type "dict", false, rfl, .ty _, .base (.tup h), kit_ty (by decide +kernel), false, rfl, iteT (k H (Same.refl _))⟩
    | len hN hne =>
      rename_i N kvs
      refine ⟨_, rfl, .ref N, .ty "dict", .type "dict", .type "dict", true, rfl, .ty _, .base (.dK hN), kit_ty (by decide +kernel), true, rfl, iteF ?_⟩
      refine ⟨_, rfl, N, kvs, rfl, hN, _, rfl, n, _, rfl, .inr (SqT.of hn), rfl, true, ?_, iteT (k H (Same.refl _))⟩
      rw [List.length_map, decide_eq_false (fun e => hne (by have := V.int.inj e; omega))]
      rfl
    | val hN hlen hc hbad =>
      rename_i N kvs
      refine ⟨_, rfl, .ref N, .ty "dict", .type "dict", .type "dict", true, rfl, .ty _, .base (.dK hN), kit_ty (by decide +kernel), true, rfl, iteF ?_⟩
      refine ⟨_, rfl, N, kvs, rfl, hN, _, rfl, n, _, rfl, .inr (SqT.of hn), rfl, false, ?_, iteF ?_⟩
      · rw [List.length_map, hlen, decide_eq_true rfl]
        rfl
      refine ⟨_, rfl, n, rfl, ⟨_, SqT.of hn⟩, fun D nD => lc_it walk_tup (fun i H' => Same H H' ∧ ∃ bs : List Bool, H' D = some (.lst (bs.map V.bl)) ∧ bs.length = i ∧ ((∃ (j : Nat) (z : Str), j < i ∧ zs[j]? = some z ∧ ∃ u, valV kvs (Sum.inr z) = some u ∧ ChBad H zs u ∧ ¬ ChOk H zs u) → false ∈ bs)) ⟨same_new nD, [], upd_same, rfl, fun ⟨j, _, hj, _⟩ => absurd hj (Nat.not_lt_zero j)⟩ (fun i H' _ h => SqT.ext (SqT.of hn) h.1) ?_ ?_⟩
      · rintro i x H1 H' hi ⟨sg, bs, hD, hbl, hbf⟩ ⟨rfl, hx⟩
        rw [List.getElem?_map] at hx
        obtain ⟨z, hz, rfl⟩ : ∃ z, zs[i]? = some z ∧ x = .str z := by
          cases hq : zs[i]? with
          | none => rw [hq] at hx; cases hx
          | some y =>
            rw [hq] at hx
            exact ⟨y, rfl, (Option.some.inj hx).symm⟩
        obtain ⟨u, hu, huc⟩ := hc z (List.mem_of_getElem? hz)
        have hlt : (bs.map V.bl).length < sizeLine := by
          rw [List.length_map, hbl]
          rw [List.length_map] at hi
          exact Nat.lt_of_lt_of_le hi (Nat.le_trans l6 (by decide))
        have step : ∀ (b : Bool) (H2 : Hp), Same H' H2 → (b = true → ChOk H zs u) → Same H (upd H2 D (.lst (bs.map V.bl ++ [V.bl b]))) ∧ ∃ bs' : List Bool, (upd H2 D (.lst (bs.map V.bl ++ [V.bl b]))) D = some (.lst (bs'.map V.bl)) ∧ bs'.length = i + 1 ∧ ((∃ (j : Nat) (z : Str), j < i + 1 ∧ zs[j]? = some z ∧ ∃ u, valV kvs (Sum.inr z) = some u ∧ ChBad H zs u ∧ ¬ ChOk H zs u) → false ∈ bs') := fun b H2 s2 hb => by
          refine ⟨same_app sg s2 nD, bs ++ [b], by rw [upd_same, List.map_append]; rfl, by rw [List.length_append, hbl]; rfl, fun ⟨j, z', hj, hz', u', hu', _, q⟩ => ?_⟩
          by_cases e : j = i
          · subst e
            rw [hz] at hz'
            cases hz'
            rw [hu] at hu'
            cases hu'
            refine List.mem_append_right _ ?_
            cases b with
            | true => exact absurd (hb rfl) q
            | false => exact List.mem_cons_self
          · exact List.mem_append_left _ (hbf ⟨j, z', by omega, hz', u', hu', ‹_›, q⟩)
        refine ⟨rfl, _, rfl, _, rfl, N, _, rfl, dget_of (sg _ _ hN) hu, true, rfl, iteT ?_⟩
        refine ⟨_, rfl, _, rfl, N, _, rfl, dget_of (sg _ _ hN) hu, _, rfl, u, n, zs, rfl, sg _ _ hn, ?_⟩
        rcases huc with ho | hb
        · exact .inl ⟨ho.ext sg, fun H2 s2 => ⟨_, s2 _ _ hD, hlt, step true H2 s2 fun _ => ho⟩⟩
        · exact .inr ⟨hb.ext sg, fun H2 s2 => ⟨_, s2 _ _ hD, hlt, step false H2 s2 (fun z => nomatch z)⟩⟩
      · rintro H2 ⟨sg, bs, hD, hbl, hbf⟩
        refine ⟨D, _, rfl, SqL.of hD, ?_⟩
        obtain ⟨z, hz, u, hu, q⟩ := hbad
        obtain ⟨j, hj⟩ := List.mem_iff_getElem?.mp hz
        rw [all_no (hbf ⟨j, z, by have := (List.getElem?_eq_some_iff.mp hj).1; rw [List.length_map]; exact this, hj, u, hu, q, q.not⟩)]
        exact k H2 sg
end
end K7

set_option Elab.async false
set_option linter.all false
set_option pp.deepTerms.threshold 14
set_option pp.maxSteps 2500
set_option maxRecDepth 100000
set_option maxHeartbeats 2000000
namespace K7
open PySem PySem.Spec PyProof.Rows L2 Vf
section
variable {P : Program} {w : World} {K : PySem.W.Frag} {mg : Str → Option Value} {base : Heap}
structure ETxt (K : PySem.W.Frag) (mg : Str → Option Value) : Prop extends Txt K mg where
  g_SeenError : mg "SeenError" = some (.ref (He.ga K "SeenError"))
  q1 : PySem.W.kitOne K (.type "str") (.ref (He.ga K "Place")) = some false
  q2 : PySem.W.kitOne K (.type "NoneType") (.ref (He.ga K "Place")) = some false
  q3 : PySem.W.kitOne K (.type "int") (.ref (He.ga K "Place")) = some false
  q4 : PySem.W.kitOne K (.type "tuple") (.ref (He.ga K "Place")) = some false
  q5 : PySem.W.kitOne K (.type "list") (.ref (He.ga K "Place")) = some false
  x1 : PySem.W.exmOne K (.ref (He.ga K "BadProgram")) (.ref (He.ga K "BadProgram")) = some true
  p1 : PySem.W.kitOne K (.ref (He.ga K "BadProgram")) (.ref (He.ga K "SeenError")) = some true
  p2 : PySem.W.kitOne K (.ref (He.ga K "BadProgram")) (.ref (He.ga K "BadPlace")) = some false
theorem ETxt.xf {K : PySem.W.Frag} {mg : Str → Option Value} (T : ETxt K mg) : XfC K (He.ga K "BadProgram") := ⟨T.x_BadProgram.d.ga, T.x_BadProgram.d.gg, T.x_BadProgram.d.o.exC, T.x_BadProgram.d.hd⟩
/-- what may stand among places and is none -/
inductive NoPl (H : Hp) : V → Prop where
  | str (z : Str) : NoPl H (.str z)
  | non : NoPl H .non
  | int (i : Int) : NoPl H (.int i)
  | lst {a : Addr} {xs : List V} (h : H a = some (.lst xs)) : NoPl H (.ref a)
  | tup {a : Addr} {xs : List V} (h : H a = some (.tup xs)) : NoPl H (.ref a)
theorem NoPl.ext {H H' : Hp} {x : V} (o : NoPl H x) (s : Same H H') : NoPl H' x := by
  cases o with
  | str z => exact .str z
  | non => exact .non
  | int i => exact .int i
  | lst h => exact .lst (s _ _ h)
  | tup h => exact .tup (s _ _ h)
theorem noPl_ty {K : PySem.W.Frag} {mg : Str → Option Value} (T : ETxt K mg) {H : Hp} {x : V} (o : NoPl H x) : ∃ t, TyX K H x t ∧ PySem.W.kitOne K t (.ref (He.ga K "Place")) = some false := by
  cases o with
  | str z => exact ⟨_, .base (.str z), T.q1⟩
  | non => exact ⟨_, .base .non, T.q2⟩
  | int i => exact ⟨_, .base (.int i), T.q3⟩
  | lst h => exact ⟨_, .base (.lst h), T.q5⟩
  | tup h => exact ⟨_, .base (.tup h), T.q4⟩
def IsPl (K : PySem.W.Frag) (H : Hp) (u : V) : Prop := ∃ (p : Addr) (z : Str) (l m : Int) (b : Bool), u = .ref p ∧ PlA (CP K) H p z l m b
theorem IsPl.ext {K : PySem.W.Frag} {H H' : Hp} {u : V} (o : IsPl K H u) (s : Same H H') : IsPl K H' u := by
  obtain ⟨p, z, l, m, b, e, h⟩ := o
  exact ⟨p, z, l, m, b, e, h.ext s⟩
/-- what is no list of one to six places of different names -/
inductive PlBad (K : PySem.W.Frag) (H : Hp) : V → Prop where
  | str (z : Str) : PlBad K H (.str z)
  | non : PlBad K H .non
  | int (i : Int) : PlBad K H (.int i)
  | bl (b : Bool) : PlBad K H (.bl b)
  | dic {a : Addr} {kvs : List (Key × V)} (h : H a = some (.dK kvs)) : PlBad K H (.ref a)
  | tup0 {a : Addr} (h : H a = some (.tup [])) : PlBad K H (.ref a)
  | len {a : Addr} {us : List V} (h : H a = some (.lst us)) (n : us.length = 0 ∨ 7 ≤ us.length) : PlBad K H (.ref a)
  | elem {a : Addr} {us : List V} (h : H a = some (.lst us)) (l1 : 1 ≤ us.length) (l6 : us.length ≤ 6) (c : ∀ u ∈ us, IsPl K H u ∨ NoPl H u) (b : ∃ u ∈ us, NoPl H u) : PlBad K H (.ref a)
  | twin {a : Addr} {xs : List PgE} (h : H a = some (.lst (xs.map fun x => V.ref x.1))) (c : ∀ x ∈ xs, PlE K H x) (l1 : 1 ≤ xs.length) (l6 : xs.length ≤ 6) (b : ¬ (zsOf xs).Nodup) : PlBad K H (.ref a)
theorem PlBad.ext {K : PySem.W.Frag} {H H' : Hp} {x : V} (o : PlBad K H x) (s : Same H H') : PlBad K H' x := by
  cases o with
  | str z => exact .str z
  | non => exact .non
  | int i => exact .int i
  | bl b => exact .bl b
  | dic h => exact .dic (s _ _ h)
  | tup0 h => exact .tup0 (s _ _ h)
  | len h n => exact .len (s _ _ h) n
  | elem h l1 l6 c b =>
    refine .elem (s _ _ h) l1 l6 (fun u hu => (c u hu).imp (fun o => o.ext s) fun o => o.ext s) ?_
    obtain ⟨u, hu, o⟩ := b
    exact ⟨u, hu, o.ext s⟩
  | twin h c l1 l6 b => exact .twin (s _ _ h) (fun x hx => (c x hx).ext s) l1 l6 b
theorem isPl_not {K : PySem.W.Frag} {H : Hp} {u : V} (a : IsPl K H u) (b : NoPl H u) : False := by
  obtain ⟨p, z, l, m, b', e, d, h⟩ := a
  cases b with
  | str z => cases e
  | non => cases e
  | int i => cases e
  | lst h' =>
    cases e
    rw [h] at h'
    cases h'
  | tup h' =>
    cases e
    rw [h] at h'
    cases h'
theorem ok_are_placesB {fd : FuncData} (F : FnD K ("are_places", none) "are_places" "are_places" s_are_places fd) (T : ETxt K mg) (O_has_twins : OkF P w K mg base CX0 1 "has_twins" ["items"] (spTw K)) :
    OkF P w K mg base CX0 2 "are_places" ["places"] (fun vs H Q _ => ∃ (x : V), vs = [x] ∧ PlBad K H x ∧ ∀ H', Same H H' → Q (.bl false) H') := by
  refine okd F (F.ok sc_are_places (fun vs H Q E h => ?_) fun cdv A outer s H vs Q E hr h => ?_) fun _ _ _ _ _ _ us hl => match us, hl with | [_], _ => rfl
  · obtain ⟨x, rfl, _⟩ := h
    rfl
  · obtain ⟨x, rfl, hb, k⟩ := h
    refine ⟨_, PSs.nox (pss_cons (ps_if (PW.pt (pw_or (pt_not (pt_val (pe_callB (id := "isinstance") call_isiT (by rfl) T.z_isinstance (by decide +kernel) (pa_cons (pv 0) (pa_cons (pe_tup (pa_cons (pe_ty (n := "list") T.z_list (by decide +kernel)) (pa_cons (pe_ty (n := "tuple") T.z_tuple (by decide +kernel)) pa_nil))) pa_nil))))) (pw_or1 (pt_not (pt_chain op_le op_le pe_int (pe_callB (id := "len") call_len_seq (by rfl) T.z_len (by decide +kernel) (pa_cons (pv 0) pa_nil)) (c_gint T.i_MOST_PLACES)))))) (pss_one (ps_ret pe_bl))
  pss_nil)
  (pss_cons (ps_if (pt_not (pt_val (pe_callB (id := "all") (cr_all rfl) (by rfl) T.z_all (by decide +kernel) (pa_cons (pe_lc (own := [("place", 1)]) (g := gName 1) (tt := tYes) (by rfl) sc_are_places.nd (pi_list (pv 0)) (blkOk_by (N := ["places", "place"]) (sc := defScope s_are_places) (by decide +kernel)) (fun _ _ _ _ _ => (pg_name (i := 1) sc_are_places.nd rfl (Or.inl rfl))) (fun _ _ _ _ _ => pts_nil) (fun _ _ _ _ _ => (pe_callB (id := "isinstance") (call_isiB (K := K) rfl) (by rfl) T.z_isinstance (by decide +kernel) (pa_cons (pv 1) (pa_cons (pe_cl T.g_Place) pa_nil))))) pa_nil)))) (pss_one (ps_ret pe_bl))
  pss_nil)
  (pss_one (ps_ret (pe_not (c_fn O_has_twins hr (by decide) T.g_has_twins pass0 (pa_cons (pe_lc (own := [("place", 1)]) (g := gName 1) (tt := tYes) (by rfl) sc_are_places.nd (pi_list (pv 0)) (blkOk_by (N := ["places", "place"]) (sc := defScope s_are_places) (by decide +kernel)) (fun _ _ _ _ _ => (pg_name (i := 1) sc_are_places.nd rfl (Or.inl rfl))) (fun _ _ _ _ _ => pts_nil) (fun _ _ _ _ _ => (pe_fldK (K := K) rfl (pv 1) rfl))) pa_nil))))))), ?_⟩
    refine ⟨_, rfl, (by show 2 ≤ sizeLine; decide), fun tp ntp => ?_⟩
    have s1 := same_new (o := .tup [.ty "list", .ty "tuple"]) ntp
    have ht : (upd H tp (.tup [.ty "list", .ty "tuple"])) tp = some (.tup [.ty "list", .ty "tuple"]) := upd_same
    replace hb := hb.ext s1
    generalize upd H tp (.tup [.ty "list", .ty "tuple"]) = H1 at s1 ht hb ⊢
    cases hb with
    | str z => exact ⟨_, tp, [.ty "list", .ty "tuple"], _, [.type "list", .type "tuple"], false, rfl, ht, .cons (.ty _) (.cons (.ty _) .nil), .base (.str z), kitAny_cons (b := false) (kit_ty (by decide +kernel)) (fun _ => kitAny_cons (b := false) (kit_ty (by decide +kernel)) (fun _ => kitAny_nil) (fun z => nomatch z)) (fun z => nomatch z), false, rfl, iteT (k H1 s1)⟩
    | non => exact ⟨_, tp, [.ty "list", .ty "tuple"], _, [.type "list", .type "tuple"], false, rfl, ht, .cons (.ty _) (.cons (.ty _) .nil), .base .non, kitAny_cons (b := false) (kit_ty (by decide +kernel)) (fun _ => kitAny_cons (b := false) (kit_ty (by decide +kernel)) (fun _ => kitAny_nil) (fun z => nomatch z)) (fun z => nomatch z), false, rfl, iteT (k H1 s1)⟩
    | int i => exact ⟨_, tp, [.ty "list", .ty "tuple"], _, [.type "list", .type "tuple"], false, rfl, ht, .cons (.ty _) (.cons (.ty _) .nil), .base (.int i), kitAny_cons (b := false) (kit_ty (by decide +kernel)) (fun _ => kitAny_cons (b := false) (kit_ty (by decide +kernel)) (fun _ => kitAny_nil) (fun z => nomatch z)) (fun z => nomatch z), false, rfl, iteT (k H1 s1)⟩
    | bl b => exact ⟨_, tp, [.ty "list", .ty "tuple"], _, [.type "list", .type "tuple"], false, rfl, ht, .cons (.ty _) (.cons (.ty _) .nil), .base (.bl b), kitAny_cons (b := false) (kit_ty (by decide +kernel)) (fun _ => kitAny_cons (b := false) (kit_ty (by decide +kernel)) (fun _ => kitAny_nil) (fun z => nomatch z)) (fun z => nomatch z), false, rfl, iteT (k H1 s1)⟩
    | dic h => exact ⟨_, tp, [.ty "list", .ty "tuple"], _, [.type "list", .type "tuple"], false, rfl, ht, .cons (.ty _) (.cons (.ty _) .nil), .base (.dK h), kitAny_cons (b := false) (kit_ty (by decide +kernel)) (fun _ => kitAny_cons (b := false) (kit_ty (by decide +kernel)) (fun _ => kitAny_nil) (fun z => nomatch z)) (fun z => nomatch z), false, rfl, iteT (k H1 s1)⟩
    | tup0 h =>
      rename_i L
      refine ⟨.ref L, tp, [.ty "list", .ty "tuple"], .type "tuple", [.type "list", .type "tuple"], true, rfl, ht, .cons (.ty _) (.cons (.ty _) .nil), .base (.tup h), kitAny_cons (b := false) (kit_ty (by decide +kernel)) (fun _ => kitAny_cons (b := true) (kit_ty (by decide +kernel)) (fun z => nomatch z) (fun _ => rfl)) (fun z => nomatch z), true, rfl, iteF ?_⟩
      exact ⟨_, rfl, L, _, rfl, .inr (SqT.of h), 1, _, rfl, rfl, false, rfl, iteF ⟨false, rfl, iteT (k H1 s1)⟩⟩
    | len hL hn =>
      rename_i L us
      refine ⟨.ref L, tp, [.ty "list", .ty "tuple"], .type "list", [.type "list", .type "tuple"], true, rfl, ht, .cons (.ty _) (.cons (.ty _) .nil), .base (.lst hL), kitAny_cons (b := true) (kit_ty (by decide +kernel)) (fun z => nomatch z) (fun _ => rfl), true, rfl, iteF ?_⟩
      rcases hn with hn | hn
      · exact ⟨_, rfl, L, _, rfl, .inl (SqL.of hL), 1, _, rfl, rfl, false, congrArg V.bl (decide_eq_false (by omega)), iteF ⟨false, rfl, iteT (k H1 s1)⟩⟩
      · exact ⟨_, rfl, L, _, rfl, .inl (SqL.of hL), 1, _, rfl, rfl, true, congrArg V.bl (decide_eq_true (by omega)), iteT ⟨_, 6, rfl, rfl, false, congrArg V.bl (decide_eq_false (by omega)), iteT (k H1 s1)⟩⟩
    | elem hL l1 l6 hc hbad =>
      rename_i L us
      refine ⟨.ref L, tp, [.ty "list", .ty "tuple"], .type "list", [.type "list", .type "tuple"], true, rfl, ht, .cons (.ty _) (.cons (.ty _) .nil), .base (.lst hL), kitAny_cons (b := true) (kit_ty (by decide +kernel)) (fun z => nomatch z) (fun _ => rfl), true, rfl, iteF ?_⟩
      refine ⟨_, rfl, L, _, rfl, .inl (SqL.of hL), 1, _, rfl, rfl, true, congrArg V.bl (decide_eq_true (by omega)), iteT ⟨_, 6, rfl, rfl, true, congrArg V.bl (decide_eq_true (by omega)), iteF ?_⟩⟩
      refine ⟨_, rfl, L, rfl, ⟨_, SqL.of hL⟩, fun D nD => lc_it walk_list (fun i H' => Same H1 H' ∧ ∃ bs : List Bool, H' D = some (.lst (bs.map V.bl)) ∧ bs.length = i ∧ ((∃ (j : Nat) (u : V), j < i ∧ us[j]? = some u ∧ NoPl H1 u) → false ∈ bs)) ⟨same_new nD, [], upd_same, rfl, fun ⟨j, _, hj, _⟩ => absurd hj (Nat.not_lt_zero j)⟩ (fun i H' _ h => h.1.seq (SqL.of hL)) ?_ ?_⟩
      · rintro i x H2 H' hi ⟨sg, bs, hD, hbl, hbf⟩ ⟨rfl, hx⟩
        have hlt : (bs.map V.bl).length < sizeLine := by
          rw [List.length_map, hbl]
          exact Nat.lt_of_lt_of_le hi (Nat.le_trans l6 (by decide))
        have step : ∀ b : Bool, (b = true → ¬ NoPl H1 x) → Same H1 (upd H' D (.lst (bs.map V.bl ++ [V.bl b]))) ∧ ∃ bs' : List Bool, (upd H' D (.lst (bs.map V.bl ++ [V.bl b]))) D = some (.lst (bs'.map V.bl)) ∧ bs'.length = i + 1 ∧ ((∃ (j : Nat) (u : V), j < i + 1 ∧ us[j]? = some u ∧ NoPl H1 u) → false ∈ bs') := fun b hb => by
          refine ⟨same_app sg (Same.refl _) nD, bs ++ [b], by rw [upd_same, List.map_append]; rfl, by rw [List.length_append, hbl]; rfl, fun ⟨j, u, hj, hu, q⟩ => ?_⟩
          by_cases e : j = i
          · subst e
            rw [hx] at hu
            cases hu
            refine List.mem_append_right _ ?_
            cases b with
            | true => exact absurd q (hb rfl)
            | false => exact List.mem_cons_self
          · exact List.mem_append_left _ (hbf ⟨j, u, by omega, hu, q⟩)
        rcases hc x (List.mem_of_getElem? hx) with ho | hn
        · obtain ⟨p, z, l, m, b, rfl, dy, ey⟩ := id ho
          exact ⟨rfl, _, rfl, .ref p, .ref (CP K), .ref (CP K), .ref (CP K), true, rfl, .own _, .base (.ins (sg _ _ ey) T.c_Place T.ha T.hn T.ht T.hm), T.k1, _, hD, hlt, step true fun _ q => isPl_not ho q⟩
        · obtain ⟨t, h1, h2⟩ := noPl_ty T (hn.ext sg)
          exact ⟨rfl, _, rfl, x, .ref (CP K), t, .ref (CP K), false, rfl, .own _, h1, h2, _, hD, hlt, step false (fun z => nomatch z)⟩
      · rintro H2 ⟨sg, bs, hD, hbl, hbf⟩
        refine ⟨D, _, rfl, SqL.of hD, ?_⟩
        obtain ⟨u, hu, q⟩ := hbad
        obtain ⟨j, hj⟩ := List.mem_iff_getElem?.mp hu
        rw [all_no (hbf ⟨j, u, (List.getElem?_eq_some_iff.mp hj).1, hj, q⟩)]
        exact ⟨false, rfl, iteT (k H2 (s1.trans sg))⟩
    | twin hL hp l1 l6 hnd =>
      rename_i L xs
      refine ⟨.ref L, tp, [.ty "list", .ty "tuple"], .type "list", [.type "list", .type "tuple"], true, rfl, ht, .cons (.ty _) (.cons (.ty _) .nil), .base (.lst hL), kitAny_cons (b := true) (kit_ty (by decide +kernel)) (fun z => nomatch z) (fun _ => rfl), true, rfl, iteF ?_⟩
      refine ⟨_, rfl, L, _, rfl, .inl (SqL.of hL), 1, _, rfl, rfl, true, congrArg V.bl (decide_eq_true (by rw [List.length_map]; omega)), iteT ⟨_, 6, rfl, rfl, true, congrArg V.bl (decide_eq_true (by rw [List.length_map]; omega)), iteF ?_⟩⟩
      refine ⟨_, rfl, L, rfl, ⟨_, SqL.of hL⟩, fun D nD => lc_it walk_list (fun i H' => Same H1 H' ∧ H' D = some (.lst ((List.replicate i true).map V.bl))) ⟨same_new nD, upd_same⟩ (fun i H' _ h => h.1.seq (SqL.of hL)) ?_ ?_⟩
      · rintro i x H2 H' hi ⟨sg, hD⟩ ⟨rfl, hx⟩
        obtain ⟨y, hy, rfl⟩ := getE hx
        obtain ⟨dy, ey⟩ := (hp y (List.mem_of_getElem? hy)).ext sg
        refine ⟨rfl, _, rfl, .ref y.1, .ref (CP K), .ref (CP K), .ref (CP K), true, rfl, .own _, .base (.ins ey T.c_Place T.ha T.hn T.ht T.hm), T.k1, ?_⟩
        refine ⟨_, hD, ?_, same_app sg (Same.refl _) nD, by rw [upd_same, take_rep]⟩
        rw [List.length_map, List.length_replicate]
        rw [List.length_map] at hi
        exact Nat.lt_of_lt_of_le hi (Nat.le_trans l6 (by decide))
      · rintro H2 ⟨sg, hD⟩
        refine ⟨D, _, rfl, SqL.of hD, ?_⟩
        rw [all_rep]
        refine ⟨true, rfl, iteF ?_⟩
        have hL2 := sg _ _ hL
        refine ⟨_, rfl, L, rfl, ⟨_, SqL.of hL2⟩, fun D2 nD2 => lc_it walk_list (fun i H' => Same H2 H' ∧ H' D2 = some (.lst (((zsOf xs).take i).map V.str))) ⟨same_new nD2, upd_same⟩ (fun i H' _ h => h.1.seq (SqL.of hL2)) ?_ ?_⟩
        · rintro i x H3 H' hi ⟨sg3, hD3⟩ ⟨rfl, hx⟩
          obtain ⟨y, hy, rfl⟩ := getE hx
          obtain ⟨dy, ey⟩ := (hp y (List.mem_of_getElem? hy)).ext (sg.trans sg3)
          refine ⟨rfl, _, rfl, y.1, _, dy, _, _, rfl, ey, T.c_Place, T.nN, plf_name .., ?_⟩
          refine ⟨_, hD3, ?_, same_app sg3 (Same.refl _) nD2, ?_⟩
          · rw [List.length_map, List.length_take]
            rw [List.length_map] at hi
            exact Nat.lt_of_le_of_lt (Nat.min_le_left _ _) (Nat.lt_of_lt_of_le hi (Nat.le_trans l6 (by decide)))
          · rw [upd_same, List.take_add_one, List.map_append]
            have : (zsOf xs)[i]? = some y.2.2.z := by
              unfold zsOf
              rw [List.getElem?_map, hy]
              rfl
            rw [this]
            rfl
        · rintro H3 ⟨sg3, hD3⟩
          have hlz : (zsOf xs).length = xs.length := List.length_map ..
          rw [List.length_map, ← hlz, List.take_length] at hD3
          refine ⟨D2, zsOf xs, rfl, by omega, .inl (SqL.of hD3), fun H4 s4 => ?_⟩
          rw [decide_eq_false hnd]
          exact ⟨_, rfl, k H4 (s1.trans (sg.trans (sg3.trans s4)))⟩
end
end K7

set_option Elab.async false
set_option linter.all false
set_option pp.deepTerms.threshold 14
set_option pp.maxSteps 2500
set_option maxRecDepth 100000
set_option maxHeartbeats 2000000
namespace K7
open PySem PySem.Spec PyProof.Rows L2 Vf
section
variable {P : Program} {w : World} {K : PySem.W.Frag} {mg : Str → Option Value} {base : Heap}
/-- a program's parts, of which one is wrong -/
inductive PgBad (K : PySem.W.Frag) (H : Hp) (x y st : V) : Str → Prop where
  | places (h : PlBad K H x) : PgBad K H x y st "places"
  | nexts {L : Addr} {xs : List PgE} (e : x = .ref L) (hL : H L = some (.lst (xs.map fun x => V.ref x.1))) (hp : ∀ x ∈ xs, PlE K H x) (l1 : 1 ≤ xs.length) (l6 : xs.length ≤ 6) (nd : (zsOf xs).Nodup) (h : NxBad H (zsOf xs) y) : PgBad K H x y st "nexts"
  | start {L N : Addr} {xs : List PgE} (e : x = .ref L) (e2 : y = .ref N) (hp : PartsOk K H HO.lst L N xs) (h : (∃ z, st = .str z ∧ z ∉ zsOf xs) ∨ (OddS H st ∧ st ≠ .non)) : PgBad K H x y st "start"
def spPgB (K : PySem.W.Frag) : Sp := fun vs H _ E => ∃ (g : Addr) (x y st : V) (w : Str), vs = [.ref g, x, y, st] ∧ PgBad K H x y st w ∧ ∀ H' d, Same H H' → H' d = none → E (.ref (CBG K)) (some d) (upd H' d (.xd [("why", .str w)]))
theorem ok_Program_initB1 {fd : FuncData} (F : FunD K "__init__" "Program.__init__" (defArgs s_Program_init) (defBody s_Program_init) (defScope s_Program_init) [] [("start", .non)] (He.fAd K ("Program", some "__init__")) fd) (T : GTxt K mg)
    (O_are_places : OkF P w K mg base CX0 2 "are_places" ["places"] (fun vs H Q _ => ∃ (x : V), vs = [x] ∧ PlBad K H x ∧ ∀ H', Same H H' → Q (.bl false) H')) (O_are_nexts : OkF P w K mg base CX0 3 "are_nexts" ["nexts", "names"] (spAreNx K)) (O_is_one_of : OkF P w K mg base CX0 1 "is_one_of" ["x", "names"] (spOne K))
    (O_BadProgram_init : OkD P w K mg base CX0 1 ("BadProgram", some "__init__") ["self", "why"] [] (spExI K (CBG K) "why")) :
    FnOk P w K mg base (L2.CX P w) 5 (He.fAd K ("Program", some "__init__")) fd ["self", "places", "nexts", "start"] (fun vs H _ E => ∃ (g : Addr) (x y st : V), vs = [.ref g, x, y, st] ∧ PlBad K H x ∧ ∀ H' d, Same H H' → H' d = none → E (.ref (CBG K)) (some d) (upd H' d (.xd [("why", .str "places")]))) := by
  refine F.ok sc_Program_init (fun vs H Q E h => ?_) fun cdv A outer s H vs Q E hr h => ?_
  · obtain ⟨g, x, y, st, rfl, _⟩ := h
    rfl
  · obtain ⟨g, x, y, st, rfl, hb, k⟩ := h
    refine ⟨_, (pss_cons (ps_if (pt_not (pt_val (c_fn O_are_places hr (by decide) T.g_are_places pass0 (pa_cons (pv 1) pa_nil)))) (pss_one (c_raise T.x_BadProgram O_BadProgram_init hr (by decide) T.g_BadProgram (takes_of rfl rfl rfl rfl) (pa_cons pe_str pa_nil)))
  pss_nil)
  (pss_cons (ps_set (i := 4) sc_Program_init.nd rfl (Or.inl rfl) (pe_callTy call_tuple_of (by rfl) T.z_tuple (by decide +kernel) (pa_cons (pe_lc (own := [("place", 5)]) (g := gName 5) (tt := tYes) (by rfl) sc_Program_init.nd (pi_list (pv 1)) (blkOk_by (N := ["self", "places", "nexts", "start", "names", "place", "name"]) (sc := defScope s_Program_init) (by decide +kernel)) (fun _ _ _ _ _ => (pg_name (i := 5) sc_Program_init.nd rfl (Or.inl rfl))) (fun _ _ _ _ _ => pts_nil) (fun _ _ _ _ _ => (pe_fldK (K := K) rfl (pv 5) rfl))) pa_nil)))
  (pss_cons (ps_if (pt_not (pt_val (c_fn O_are_nexts hr (by decide) T.g_are_nexts pass0 (pa_cons (pv 2) (pa_cons (pv 4) pa_nil))))) (pss_one (c_raise T.x_BadProgram O_BadProgram_init hr (by decide) T.g_BadProgram (takes_of rfl rfl rfl rfl) (pa_cons pe_str pa_nil)))
  pss_nil)
  (pss_cons (ps_if (PW.pt (pw_and (pt_cmpR op_notN (pv 3) pe_non (nomark _)) (pw_and1 (pt_not (pt_val (c_fn O_is_one_of hr (by decide) T.g_is_one_of pass0 (pa_cons (pv 3) (pa_cons (pv 4) pa_nil)))))))) (pss_one (c_raise T.x_BadProgram O_BadProgram_init hr (by decide) T.g_BadProgram (takes_of rfl rfl rfl rfl) (pa_cons pe_str pa_nil)))
  pss_nil)
  (pss_cons (ps_fld (pv 0) (pv 4) rfl)
  (pss_cons (ps_fld (pv 0) (pe_ifExp (pt_cmpR op_isN (pv 3) pe_non (nomark _)) (pe_ix ix_tup (pv 4) pe_int (fun _ _ => rfl)) (pv 3)) rfl)
  (pss_cons (ps_fld (pv 0) (pe_dc (own := [("place", 5)]) (g := gName 5) (tt := tYes) (by rfl) sc_Program_init.nd (pi_list (pv 1)) (blkOk_by (N := ["self", "places", "nexts", "start", "names", "place", "name"]) (sc := defScope s_Program_init) (by decide +kernel)) (fun _ _ _ _ _ => (pg_name (i := 5) sc_Program_init.nd rfl (Or.inl rfl))) (fun _ _ _ _ _ => pts_nil) (fun _ _ _ _ _ => (pe_fldK (K := K) rfl (pv 5) rfl)) (fun _ _ _ _ _ => (pv 5))) rfl)
  (pss_one (ps_fld (pv 0) (pe_dc (own := [("name", 6)]) (g := gName 6) (tt := tYes) (by rfl) sc_Program_init.nd (pi_tup (pv 4)) (blkOk_by (N := ["self", "places", "nexts", "start", "names", "place", "name"]) (sc := defScope s_Program_init) (by decide +kernel)) (fun _ _ _ _ _ => (pg_name (i := 6) sc_Program_init.nd rfl (Or.inl rfl))) (fun _ _ _ _ _ => pts_nil) (fun _ _ _ _ _ => (pv 6)) (fun _ _ _ _ _ => (pe_dget (hu_of hr) (pv 2) (pv 6) (fun _ _ => rfl)))) rfl))))))))), ?_⟩
    exact ⟨_, rfl, x, rfl, hb, fun H1 s1 => ⟨false, rfl, iteT ⟨_, rfl, fun d hd => k H1 d s1 hd⟩⟩⟩
theorem ok_Program_initB2 {fd : FuncData} (F : FunD K "__init__" "Program.__init__" (defArgs s_Program_init) (defBody s_Program_init) (defScope s_Program_init) [] [("start", .non)] (He.fAd K ("Program", some "__init__")) fd) (T : GTxt K mg)
    (O_are_places : OkF P w K mg base CX0 2 "are_places" ["places"] (spArePl K)) (O_are_nexts : OkF P w K mg base CX0 3 "are_nexts" ["nexts", "names"] (fun vs H Q _ => ∃ (x : V) (n : Addr) (zs : List Str), vs = [x, .ref n] ∧ H n = some (.tup (zs.map V.str)) ∧ zs.length ≤ 6 ∧ NxBad H zs x ∧ ∀ H', Same H H' → Q (.bl false) H')) (O_is_one_of : OkF P w K mg base CX0 1 "is_one_of" ["x", "names"] (spOne K))
    (O_BadProgram_init : OkD P w K mg base CX0 1 ("BadProgram", some "__init__") ["self", "why"] [] (spExI K (CBG K) "why")) :
    FnOk P w K mg base (L2.CX P w) 5 (He.fAd K ("Program", some "__init__")) fd ["self", "places", "nexts", "start"] (fun vs H _ E => ∃ (g L : Addr) (y st : V) (xs : List PgE), vs = [.ref g, .ref L, y, st] ∧ H L = some (.lst (xs.map fun x => V.ref x.1)) ∧ (∀ x ∈ xs, PlE K H x) ∧ 1 ≤ xs.length ∧ xs.length ≤ 6 ∧ (zsOf xs).Nodup ∧ NxBad H (zsOf xs) y ∧ ∀ H' d, Same H H' → H' d = none → E (.ref (CBG K)) (some d) (upd H' d (.xd [("why", .str "nexts")]))) := by
  refine F.ok sc_Program_init (fun vs H Q E h => ?_) fun cdv A outer s H vs Q E hr h => ?_
  · obtain ⟨g, L, y, st, xs, rfl, _⟩ := h
    rfl
  · obtain ⟨g, L, y, st, xs, rfl, hL, hpl, l1, l6, hnd, hb, k⟩ := h
    refine ⟨_, (pss_cons (ps_if (pt_not (pt_val (c_fn O_are_places hr (by decide) T.g_are_places pass0 (pa_cons (pv 1) pa_nil)))) (pss_one (c_raise T.x_BadProgram O_BadProgram_init hr (by decide) T.g_BadProgram (takes_of rfl rfl rfl rfl) (pa_cons pe_str pa_nil)))
  pss_nil)
  (pss_cons (ps_set (i := 4) sc_Program_init.nd rfl (Or.inl rfl) (pe_callTy call_tuple_of (by rfl) T.z_tuple (by decide +kernel) (pa_cons (pe_lc (own := [("place", 5)]) (g := gName 5) (tt := tYes) (by rfl) sc_Program_init.nd (pi_list (pv 1)) (blkOk_by (N := ["self", "places", "nexts", "start", "names", "place", "name"]) (sc := defScope s_Program_init) (by decide +kernel)) (fun _ _ _ _ _ => (pg_name (i := 5) sc_Program_init.nd rfl (Or.inl rfl))) (fun _ _ _ _ _ => pts_nil) (fun _ _ _ _ _ => (pe_fldK (K := K) rfl (pv 5) rfl))) pa_nil)))
  (pss_cons (ps_if (pt_not (pt_val (c_fn O_are_nexts hr (by decide) T.g_are_nexts pass0 (pa_cons (pv 2) (pa_cons (pv 4) pa_nil))))) (pss_one (c_raise T.x_BadProgram O_BadProgram_init hr (by decide) T.g_BadProgram (takes_of rfl rfl rfl rfl) (pa_cons pe_str pa_nil)))
  pss_nil)
  (pss_cons (ps_if (PW.pt (pw_and (pt_cmpR op_notN (pv 3) pe_non (nomark _)) (pw_and1 (pt_not (pt_val (c_fn O_is_one_of hr (by decide) T.g_is_one_of pass0 (pa_cons (pv 3) (pa_cons (pv 4) pa_nil)))))))) (pss_one (c_raise T.x_BadProgram O_BadProgram_init hr (by decide) T.g_BadProgram (takes_of rfl rfl rfl rfl) (pa_cons pe_str pa_nil)))
  pss_nil)
  (pss_cons (ps_fld (pv 0) (pv 4) rfl)
  (pss_cons (ps_fld (pv 0) (pe_ifExp (pt_cmpR op_isN (pv 3) pe_non (nomark _)) (pe_ix ix_tup (pv 4) pe_int (fun _ _ => rfl)) (pv 3)) rfl)
  (pss_cons (ps_fld (pv 0) (pe_dc (own := [("place", 5)]) (g := gName 5) (tt := tYes) (by rfl) sc_Program_init.nd (pi_list (pv 1)) (blkOk_by (N := ["self", "places", "nexts", "start", "names", "place", "name"]) (sc := defScope s_Program_init) (by decide +kernel)) (fun _ _ _ _ _ => (pg_name (i := 5) sc_Program_init.nd rfl (Or.inl rfl))) (fun _ _ _ _ _ => pts_nil) (fun _ _ _ _ _ => (pe_fldK (K := K) rfl (pv 5) rfl)) (fun _ _ _ _ _ => (pv 5))) rfl)
  (pss_one (ps_fld (pv 0) (pe_dc (own := [("name", 6)]) (g := gName 6) (tt := tYes) (by rfl) sc_Program_init.nd (pi_tup (pv 4)) (blkOk_by (N := ["self", "places", "nexts", "start", "names", "place", "name"]) (sc := defScope s_Program_init) (by decide +kernel)) (fun _ _ _ _ _ => (pg_name (i := 6) sc_Program_init.nd rfl (Or.inl rfl))) (fun _ _ _ _ _ => pts_nil) (fun _ _ _ _ _ => (pv 6)) (fun _ _ _ _ _ => (pe_dget (hu_of hr) (pv 2) (pv 6) (fun _ _ => rfl)))) rfl))))))))), ?_⟩
    have hlz : (zsOf xs).length = xs.length := List.length_map ..
    refine ⟨_, rfl, L, xs, rfl, .inl hL, hpl, l1, l6, hnd, fun H1 s1 => ⟨true, rfl, iteF ?_⟩⟩
    have hL1 := s1 _ _ hL
    refine ⟨_, rfl, L, rfl, ⟨_, SqL.of hL1⟩, fun D nD => lc_it walk_list (fun i H' => Same H1 H' ∧ H' D = some (.lst (((zsOf xs).take i).map V.str))) ⟨same_new nD, upd_same⟩ (fun i H' _ h => h.1.seq (SqL.of hL1)) ?_ ?_⟩
    · rintro i x H3 H' hi ⟨sg3, hD3⟩ ⟨rfl, hx⟩
      obtain ⟨y, hy, rfl⟩ := getE hx
      obtain ⟨dy, ey⟩ := ((hpl y (List.mem_of_getElem? hy)).ext s1).ext sg3
      refine ⟨rfl, _, rfl, y.1, _, dy, _, _, rfl, ey, T.c_Place, T.nN, plf_name .., ?_⟩
      refine ⟨_, hD3, ?_, same_app sg3 (Same.refl _) nD, ?_⟩
      · rw [List.length_map, List.length_take]
        rw [List.length_map] at hi
        exact Nat.lt_of_le_of_lt (Nat.min_le_left _ _) (Nat.lt_of_lt_of_le hi (Nat.le_trans l6 (by decide)))
      · rw [upd_same, List.take_add_one, List.map_append]
        have : (zsOf xs)[i]? = some y.2.2.z := by
          unfold zsOf
          rw [List.getElem?_map, hy]
          rfl
        rw [this]
        rfl
    rintro H2 ⟨s12, hD⟩
    rw [List.length_map, ← hlz, List.take_length] at hD
    refine ⟨D, _, rfl, .inl ⟨SqL.of hD, fun tn ntn => ?_⟩⟩
    have s2t := same_new (o := .tup ((zsOf xs).map V.str)) ntn
    have hn : (upd H2 tn (.tup ((zsOf xs).map V.str))) tn = some (.tup ((zsOf xs).map V.str)) := upd_same
    have s3 := s1.trans (s12.trans s2t)
    generalize upd H2 tn (.tup ((zsOf xs).map V.str)) = H3 at hn s3 ⊢
    exact ⟨_, rfl, _, rfl, y, tn, zsOf xs, rfl, hn, by omega, hb.ext s3, fun H4 s34 => ⟨false, rfl, iteT ⟨_, rfl, fun d hd => k H4 d (s3.trans s34) hd⟩⟩⟩
theorem ok_Program_initB3 {fd : FuncData} (F : FunD K "__init__" "Program.__init__" (defArgs s_Program_init) (defBody s_Program_init) (defScope s_Program_init) [] [("start", .non)] (He.fAd K ("Program", some "__init__")) fd) (T : GTxt K mg)
    (O_are_places : OkF P w K mg base CX0 2 "are_places" ["places"] (spArePl K)) (O_are_nexts : OkF P w K mg base CX0 3 "are_nexts" ["nexts", "names"] (spAreNx K)) (O_is_one_of : OkF P w K mg base CX0 1 "is_one_of" ["x", "names"] (spOne K))
    (O_BadProgram_init : OkD P w K mg base CX0 1 ("BadProgram", some "__init__") ["self", "why"] [] (spExI K (CBG K) "why")) :
    FnOk P w K mg base (L2.CX P w) 5 (He.fAd K ("Program", some "__init__")) fd ["self", "places", "nexts", "start"] (fun vs H _ E => ∃ (g L N : Addr) (st : V) (xs : List PgE), vs = [.ref g, .ref L, .ref N, st] ∧ PartsOk K H HO.lst L N xs ∧ ((∃ z, st = .str z ∧ z ∉ zsOf xs) ∨ (OddS H st ∧ st ≠ .non)) ∧ ∀ H' d, Same H H' → H' d = none → E (.ref (CBG K)) (some d) (upd H' d (.xd [("why", .str "start")]))) := by
  refine F.ok sc_Program_init (fun vs H Q E h => ?_) fun cdv A outer s H vs Q E hr h => ?_
  · obtain ⟨g, L, N, st, xs, rfl, _⟩ := h
    rfl
  · obtain ⟨g, L, N, st, xs, rfl, hp, hst, k⟩ := h
    refine ⟨_, (pss_cons (ps_if (pt_not (pt_val (c_fn O_are_places hr (by decide) T.g_are_places pass0 (pa_cons (pv 1) pa_nil)))) (pss_one (c_raise T.x_BadProgram O_BadProgram_init hr (by decide) T.g_BadProgram (takes_of rfl rfl rfl rfl) (pa_cons pe_str pa_nil)))
  pss_nil)
  (pss_cons (ps_set (i := 4) sc_Program_init.nd rfl (Or.inl rfl) (pe_callTy call_tuple_of (by rfl) T.z_tuple (by decide +kernel) (pa_cons (pe_lc (own := [("place", 5)]) (g := gName 5) (tt := tYes) (by rfl) sc_Program_init.nd (pi_list (pv 1)) (blkOk_by (N := ["self", "places", "nexts", "start", "names", "place", "name"]) (sc := defScope s_Program_init) (by decide +kernel)) (fun _ _ _ _ _ => (pg_name (i := 5) sc_Program_init.nd rfl (Or.inl rfl))) (fun _ _ _ _ _ => pts_nil) (fun _ _ _ _ _ => (pe_fldK (K := K) rfl (pv 5) rfl))) pa_nil)))
  (pss_cons (ps_if (pt_not (pt_val (c_fn O_are_nexts hr (by decide) T.g_are_nexts pass0 (pa_cons (pv 2) (pa_cons (pv 4) pa_nil))))) (pss_one (c_raise T.x_BadProgram O_BadProgram_init hr (by decide) T.g_BadProgram (takes_of rfl rfl rfl rfl) (pa_cons pe_str pa_nil)))
  pss_nil)
  (pss_cons (ps_if (PW.pt (pw_and (pt_cmpR op_notN (pv 3) pe_non (nomark _)) (pw_and1 (pt_not (pt_val (c_fn O_is_one_of hr (by decide) T.g_is_one_of pass0 (pa_cons (pv 3) (pa_cons (pv 4) pa_nil)))))))) (pss_one (c_raise T.x_BadProgram O_BadProgram_init hr (by decide) T.g_BadProgram (takes_of rfl rfl rfl rfl) (pa_cons pe_str pa_nil)))
  pss_nil)
  (pss_cons (ps_fld (pv 0) (pv 4) rfl)
  (pss_cons (ps_fld (pv 0) (pe_ifExp (pt_cmpR op_isN (pv 3) pe_non (nomark _)) (pe_ix ix_tup (pv 4) pe_int (fun _ _ => rfl)) (pv 3)) rfl)
  (pss_cons (ps_fld (pv 0) (pe_dc (own := [("place", 5)]) (g := gName 5) (tt := tYes) (by rfl) sc_Program_init.nd (pi_list (pv 1)) (blkOk_by (N := ["self", "places", "nexts", "start", "names", "place", "name"]) (sc := defScope s_Program_init) (by decide +kernel)) (fun _ _ _ _ _ => (pg_name (i := 5) sc_Program_init.nd rfl (Or.inl rfl))) (fun _ _ _ _ _ => pts_nil) (fun _ _ _ _ _ => (pe_fldK (K := K) rfl (pv 5) rfl)) (fun _ _ _ _ _ => (pv 5))) rfl)
  (pss_one (ps_fld (pv 0) (pe_dc (own := [("name", 6)]) (g := gName 6) (tt := tYes) (by rfl) sc_Program_init.nd (pi_tup (pv 4)) (blkOk_by (N := ["self", "places", "nexts", "start", "names", "place", "name"]) (sc := defScope s_Program_init) (by decide +kernel)) (fun _ _ _ _ _ => (pg_name (i := 6) sc_Program_init.nd rfl (Or.inl rfl))) (fun _ _ _ _ _ => pts_nil) (fun _ _ _ _ _ => (pv 6)) (fun _ _ _ _ _ => (pe_dget (hu_of hr) (pv 2) (pv 6) (fun _ _ => rfl)))) rfl))))))))), ?_⟩
    have hlz : (zsOf xs).length = xs.length := List.length_map ..
    refine ⟨_, rfl, L, xs, rfl, .inl hp.hL, hp.pl, hp.l1, hp.l6, hp.nd, fun H1 s1 => ⟨true, rfl, iteF ?_⟩⟩
    have hp1 := hp.ext s1
    refine ⟨_, rfl, L, rfl, ⟨_, SqL.of hp1.hL⟩, fun D nD => lc_it walk_list (fun i H' => Same H1 H' ∧ H' D = some (.lst (((zsOf xs).take i).map V.str))) ⟨same_new nD, upd_same⟩ (fun i H' _ h => h.1.seq (SqL.of hp1.hL)) ?_ ?_⟩
    · rintro i x H3 H' hi ⟨sg3, hD3⟩ ⟨rfl, hx⟩
      obtain ⟨y, hy, rfl⟩ := getE hx
      obtain ⟨dy, ey⟩ := (hp1.pl y (List.mem_of_getElem? hy)).ext sg3
      refine ⟨rfl, _, rfl, y.1, _, dy, _, _, rfl, ey, T.c_Place, T.nN, plf_name .., ?_⟩
      refine ⟨_, hD3, ?_, same_app sg3 (Same.refl _) nD, ?_⟩
      · rw [List.length_map, List.length_take]
        rw [List.length_map] at hi
        exact Nat.lt_of_le_of_lt (Nat.min_le_left _ _) (Nat.lt_of_lt_of_le hi (Nat.le_trans hp.l6 (by decide)))
      · rw [upd_same, List.take_add_one, List.map_append]
        have : (zsOf xs)[i]? = some y.2.2.z := by
          unfold zsOf
          rw [List.getElem?_map, hy]
          rfl
        rw [this]
        rfl
    rintro H2 ⟨s12, hD⟩
    rw [List.length_map, ← hlz, List.take_length] at hD
    refine ⟨D, _, rfl, .inl ⟨SqL.of hD, fun tn ntn => ?_⟩⟩
    have s2t := same_new (o := .tup ((zsOf xs).map V.str)) ntn
    have hn : (upd H2 tn (.tup ((zsOf xs).map V.str))) tn = some (.tup ((zsOf xs).map V.str)) := upd_same
    have s3 := s1.trans (s12.trans s2t)
    generalize upd H2 tn (.tup ((zsOf xs).map V.str)) = H3 at hn s3 ⊢
    have hp3 := hp.ext s3
    refine ⟨_, rfl, _, rfl, N, tn, xs, rfl, hp3.nx, hn, hp3.ns, hp.l6, fun H4 s34 => ⟨true, rfl, iteF ?_⟩⟩
    have s4 := s3.trans s34
    have hn4 := s34 _ _ hn
    have nst : st ≠ .non := by
      rcases hst with ⟨z, rfl, _⟩ | ⟨_, h⟩
      · exact fun z => nomatch z
      · exact h
    refine ⟨_, rfl, rfl, true, by rw [decide_eq_false nst]; rfl, iteT ⟨_, rfl, _, rfl, st, tn, zsOf xs, rfl, SqT.of hn4, ?_⟩⟩
    rcases hst with ⟨z, rfl, hz⟩ | ⟨o, _⟩
    · exact .inl ⟨z, rfl, false, by rw [decide_eq_false hz], iteT ⟨_, rfl, fun d hd => k H4 d s4 hd⟩⟩
    · exact .inr ⟨oddS_ext o s4, false, rfl, iteT ⟨_, rfl, fun d hd => k H4 d s4 hd⟩⟩
theorem ok_Program_initC {fd : FuncData} (G0 : FnOk P w K mg base (L2.CX P w) 5 (He.fAd K ("Program", some "__init__")) fd ["self", "places", "nexts", "start"] (spPgI K))
    (G1 : FnOk P w K mg base (L2.CX P w) 5 (He.fAd K ("Program", some "__init__")) fd ["self", "places", "nexts", "start"] (fun vs H _ E => ∃ (g : Addr) (x y st : V), vs = [.ref g, x, y, st] ∧ PlBad K H x ∧ ∀ H' d, Same H H' → H' d = none → E (.ref (CBG K)) (some d) (upd H' d (.xd [("why", .str "places")]))))
    (G2 : FnOk P w K mg base (L2.CX P w) 5 (He.fAd K ("Program", some "__init__")) fd ["self", "places", "nexts", "start"] (fun vs H _ E => ∃ (g L : Addr) (y st : V) (xs : List PgE), vs = [.ref g, .ref L, y, st] ∧ H L = some (.lst (xs.map fun x => V.ref x.1)) ∧ (∀ x ∈ xs, PlE K H x) ∧ 1 ≤ xs.length ∧ xs.length ≤ 6 ∧ (zsOf xs).Nodup ∧ NxBad H (zsOf xs) y ∧ ∀ H' d, Same H H' → H' d = none → E (.ref (CBG K)) (some d) (upd H' d (.xd [("why", .str "nexts")]))))
    (G3 : FnOk P w K mg base (L2.CX P w) 5 (He.fAd K ("Program", some "__init__")) fd ["self", "places", "nexts", "start"] (fun vs H _ E => ∃ (g L N : Addr) (st : V) (xs : List PgE), vs = [.ref g, .ref L, .ref N, st] ∧ PartsOk K H HO.lst L N xs ∧ ((∃ z, st = .str z ∧ z ∉ zsOf xs) ∨ (OddS H st ∧ st ≠ .non)) ∧ ∀ H' d, Same H H' → H' d = none → E (.ref (CBG K)) (some d) (upd H' d (.xd [("why", .str "start")])))) :
    FnOk P w K mg base (L2.CX P w) 5 (He.fAd K ("Program", some "__init__")) fd ["self", "places", "nexts", "start"] (fun vs H Q E => spPgI K vs H Q E ∨ spPgB K vs H Q E) := by
  refine (FnOk.or G0 (FnOk.or G1 (FnOk.or G2 G3))).imp fun vs H Q E h => ?_
  rcases h with h | ⟨g, x, y, st, w, rfl, hb, k⟩
  · exact .inl h
  refine .inr ?_
  cases hb with
  | places h => exact .inl ⟨g, x, y, st, rfl, h, k⟩
  | nexts e hL hp l1 l6 nd h =>
    subst e
    exact .inr (.inl ⟨g, _, y, st, _, rfl, hL, hp, l1, l6, nd, h, k⟩)
  | start e e2 hp h =>
    subst e
    subst e2
    exact .inr (.inr ⟨g, _, _, st, _, rfl, hp, h, k⟩)
end
end K7

set_option Elab.async false
set_option linter.all false
set_option pp.deepTerms.threshold 14
set_option pp.maxSteps 2500
set_option maxRecDepth 100000
set_option maxHeartbeats 2000000
namespace K7
open PySem PySem.Spec PyProof.Rows L2 Vf
section
variable {P : Program} {w : World} {K : PySem.W.Frag} {mg : Str → Option Value} {base : Heap}
theorem call_listB {X : Cx} {K : PySem.W.Frag} (hK : X.K = K) : CallR X (.type "list") (fun xs H Q => ∃ p ys, xs = [.ref p] ∧ (SqL K H p ys ∨ SqT K H p ys) ∧ ∀ l, H l = none → Q (.ref l) (upd H l (.lst ys))) := hK ▸ call_list_of
theorem same_x2 {H H1 H2 : Hp} {d : Addr} (s : Same H H1) (x : SameX d H1 H2) (n : H d = none) : Same H H2 := fun b o e => x b o (ne_of_none e n) (s b o e)
theorem sameX_of {d : Addr} {H H' : Hp} (s : Same H H') : SameX d H H' := fun b o _ h => s b o h
theorem refs_ne {α : Type} {xs : List α} {f : α → Addr} {m : Int} : HO.lst (xs.map fun x => V.ref (f x)) ≠ HO.lst [.int m] := fun z => by
  cases xs with
  | nil => cases z
  | cons a l => cases z
theorem cutV_mem {xs : List V} {lo hi : Option Int} {v : V} (h : v ∈ cutV xs lo hi) : v ∈ xs := by
  unfold cutV at h
  exact List.mem_of_mem_drop (List.mem_of_mem_take h)
theorem cutV_from {xs : List V} {i : Nat} (h : i ≤ xs.length) : cutV xs (some (i : Int)) none = xs.drop i := by
  unfold cutV
  have e1 : HT.sIx xs.length 0 (some (i : Int)) = i := by
    rw [HT.sIx_nat]
    omega
  have e2 : HT.sIx xs.length xs.length none = xs.length := rfl
  rw [e1, e2]
  exact List.take_of_length_le (by rw [List.length_drop]; exact Nat.le_refl _)
abbrev s_law_copies : Stmt := top 35
theorem sc_law_copies : FnScope ["_law_value"] ["_law_value"] (defScope s_law_copies) := ⟨rfl, rfl, rfl, by decide +kernel, rfl, by decide +kernel, by decide +kernel⟩
-- slots: 0 _law_value
/-- what a copy is -/
def Cpy (H : Hp) (x y : V) : Prop := (∃ (a b : Addr) (xs : List V), x = .ref a ∧ y = .ref b ∧ H a = some (.lst xs) ∧ H b = some (.lst xs)) ∨ (∃ (a b : Addr) (kvs : List (Key × V)), x = .ref a ∧ y = .ref b ∧ H a = some (.dK kvs) ∧ H b = some (.dK kvs)) ∨ (x = y ∧ (flatV x = true ∨ ∃ (a : Addr) (xs : List V), x = .ref a ∧ H a = some (.tup xs)))
theorem Cpy.ext {H H' : Hp} {x y : V} (o : Cpy H x y) (s : Same H H') : Cpy H' x y := by
  rcases o with ⟨a, b, xs, h1, h2, h3, h4⟩ | ⟨a, b, xs, h1, h2, h3, h4⟩ | ⟨h1, h2 | ⟨a, xs, h3, h4⟩⟩
  · exact .inl ⟨a, b, xs, h1, h2, s _ _ h3, s _ _ h4⟩
  · exact .inr (.inl ⟨a, b, xs, h1, h2, s _ _ h3, s _ _ h4⟩)
  · exact .inr (.inr ⟨h1, .inl h2⟩)
  · exact .inr (.inr ⟨h1, .inr ⟨a, xs, h3, s _ _ h4⟩⟩)
/-- a value that equals itself -/
def Slf : V → Prop
  | .ref _ => True
  | .str _ => True
  | .int _ => True
  | .bl _ => True
  | .non => True
  | _ => False
theorem Slf.eq {K : PySem.W.Frag} {H : Hp} {u : V} (h : Slf u) : EqI K H u u true := by
  have f : ∀ {x : V}, flatV x = true → eqV x x = true → EqI K H x x true := fun a b => b ▸ .flat a a
  cases u <;> first | exact .same _ | exact f rfl (by simp [eqV]) | exact absurd h id
theorem slf_all {K : PySem.W.Frag} {H : Hp} : ∀ {xs : List V}, (∀ u ∈ xs, Slf u) → Paired (fun z z' => EqI K H z z' true) xs xs
  | [], _ => .nil
  | x :: xs, h => .cons (h x List.mem_cons_self).eq (slf_all fun u hu => h u (List.mem_cons_of_mem _ hu))
/-- a value of one of the kinds that are copied, or not -/
inductive Kd (H : Hp) : V → Prop where
  | str (z : Str) : Kd H (.str z)
  | non : Kd H .non
  | int (i : Int) : Kd H (.int i)
  | bl (b : Bool) : Kd H (.bl b)
  | lst {a : Addr} {xs : List V} (h : H a = some (.lst xs)) (c : ∀ u ∈ xs, Slf u) : Kd H (.ref a)
  | tup {a : Addr} {xs : List V} (h : H a = some (.tup xs)) (c : ∀ u ∈ xs, Slf u) : Kd H (.ref a)
  | dic {a : Addr} {kvs : List (Key × V)} (h : H a = some (.dK kvs)) (c : ∀ p ∈ kvs, Slf p.2) (n : (kvs.map (·.1)).Nodup) : Kd H (.ref a)
theorem valV_self {κ : Type} [DecidableEq κ] : ∀ {kvs : List (κ × V)} {p : κ × V}, (kvs.map (·.1)).Nodup → p ∈ kvs → valV kvs p.1 = some p.2
  | [], _, _, h => nomatch h
  | q :: kvs, p, n, h => by
    obtain ⟨n1, n2⟩ := List.nodup_cons.mp n
    rcases List.mem_cons.mp h with rfl | h
    · exact valV_pos rfl
    · rw [valV_neg fun e => n1 (List.mem_map.mpr ⟨p, h, e.symm⟩)]
      exact valV_self n2 h
theorem putK_slf {kvs : List (Key × V)} {k : Key} {v : V} (h : ∀ p ∈ kvs, Slf p.2) (hv : Slf v) : ∀ p ∈ putK kvs k v, Slf p.2 := fun p hp => by
  unfold putK at hp
  split at hp
  · obtain ⟨q, hq, e⟩ := List.mem_map.mp hp
    split at e
    · rw [← e]
      exact hv
    · rw [← e]
      exact h q hq
  · rcases List.mem_append.mp hp with hp | hp
    · exact h p hp
    · rw [List.mem_singleton] at hp
      rw [hp]
      exact hv
theorem putK_nd {kvs : List (Key × V)} {k : Key} {v : V} (h : (kvs.map (·.1)).Nodup) : ((putK kvs k v).map (·.1)).Nodup := by
  by_cases hk : valV kvs k = none
  · rw [putK_new v hk, List.map_append]
    refine List.nodup_append.mpr ⟨h, by simp, fun a ha b hb => ?_⟩
    rw [List.map_singleton, List.mem_singleton] at hb
    rw [hb]
    exact fun e => valV_not hk (by rw [show a = k from e] at ha; exact ha)
  · unfold putK
    rw [if_pos (by rw [valV_any]; cases hq : valV kvs k with | none => exact absurd hq hk | some u => rfl), List.map_map]
    have e : ((fun p : Key × V => p.1) ∘ fun kv => if kv.1 = k then (kv.1, v) else kv) = fun p : Key × V => p.1 := by
      funext p
      show (if p.1 = k then (p.1, v) else p).1 = p.1
      split <;> rfl
    rw [e]
    exact h
theorem Cpy.ne {K : PySem.W.Frag} {H : Hp} {x y : V} {Q : VK} (hk : Kd H x) (h : Cpy H x y) (q : Q (.bl false) H) : rNeK K x y H Q := by
  rcases h with ⟨a, b, xs, rfl, rfl, h1, h2⟩ | ⟨a, b, kvs, rfl, rfl, h1, h2⟩ | ⟨rfl, h | ⟨a, xs, rfl, h1⟩⟩
  · have c : ∀ u ∈ xs, Slf u := by
      cases hk with
      | lst h c =>
        rw [h1] at h
        cases h
        exact c
      | tup h c =>
        rw [h1] at h
        cases h
      | dic h c n =>
        rw [h1] at h
        cases h
    exact .inr (.inl ⟨a, b, xs, xs, rfl, rfl, .inr ⟨SqL.of h1, SqL.of h2⟩, slf_all c, q⟩)
  · have c : (∀ p ∈ kvs, Slf p.2) ∧ (kvs.map (·.1)).Nodup := by
      cases hk with
      | lst h c =>
        rw [h1] at h
        cases h
      | tup h c =>
        rw [h1] at h
        cases h
      | dic h c n =>
        rw [h1] at h
        cases h
        exact ⟨c, n⟩
    exact .inr (.inr ⟨a, b, kvs, kvs, rfl, rfl, h1, h2, rfl, fun p hp => ⟨p.2, valV_self c.2 hp, (c.1 p hp).eq⟩, q⟩)
  · exact .inl ⟨h, rfl, q⟩
  · have c : ∀ u ∈ xs, Slf u := by
      cases hk with
      | lst h c =>
        rw [h1] at h
        cases h
      | tup h c =>
        rw [h1] at h
        cases h
        exact c
      | dic h c n =>
        rw [h1] at h
        cases h
    exact .inr (.inl ⟨a, a, xs, xs, rfl, rfl, .inl ⟨SqT.of h1, SqT.of h1⟩, slf_all c, q⟩)
def spCpy : Sp := fun vs H Q _ => ∃ x : V, vs = [x] ∧ Kd H x ∧ ∀ H' y, Same H H' → Cpy H' x y → Q y H'
theorem ok_law_copies {fd : FuncData} (F : FnD K ("_law_copies", none) "_law_copies" "_law_copies" s_law_copies fd) (T : Txt K mg) : OkF P w K mg base CX0 1 "_law_copies" ["_law_value"] spCpy := by
  refine okd F (F.ok sc_law_copies (fun vs H Q E h => ?_) fun cdv A outer s H vs Q E hr h => ?_) fun _ _ _ _ _ _ us hl => match us, hl with | [_], _ => rfl
  · obtain ⟨x, rfl, _⟩ := h
    rfl
  · obtain ⟨x, rfl, hk, k⟩ := h
    refine ⟨_, PSs.nox (pss_cons (ps_if (pt_val (pe_callB (id := "isinstance") call_isi (by rfl) T.z_isinstance (by decide +kernel) (pa_cons (pv 0) (pa_cons (pe_ty (n := "list") T.z_list (by decide +kernel)) pa_nil)))) (pss_one (ps_ret (pe_callTy call_list_of (by rfl) T.z_list (by decide +kernel) (pa_cons (pv 0) pa_nil))))
  pss_nil)
  (pss_cons (ps_if (pt_val (pe_callB (id := "isinstance") call_isi (by rfl) T.z_isinstance (by decide +kernel) (pa_cons (pv 0) (pa_cons (pe_ty (n := "dict") T.z_dict (by decide +kernel)) pa_nil)))) (pss_one (ps_ret (pe_bm0 PySem.F.plainAttrs_dict PySem.F.slot_dict_copy PySem.F.type_dict_copy mt_dcopy (pv 0))))
  pss_nil)
  (pss_one (ps_ret (pv 0))))), ?_⟩
    cases hk with
    | str z => exact ⟨_, rfl, _, .ty "list", _, .type "list", false, rfl, .ty _, .base (.str z), kit_ty (by decide +kernel), false, rfl, iteF ⟨_, rfl, _, .ty "dict", _, .type "dict", false, rfl, .ty _, .base (.str z), kit_ty (by decide +kernel), false, rfl, iteF ⟨_, rfl, k H _ (Same.refl _) (.inr (.inr ⟨rfl, .inl rfl⟩))⟩⟩⟩
    | non => exact ⟨_, rfl, _, .ty "list", _, .type "list", false, rfl, .ty _, .base .non, kit_ty (by decide +kernel), false, rfl, iteF ⟨_, rfl, _, .ty "dict", _, .type "dict", false, rfl, .ty _, .base .non, kit_ty (by decide +kernel), false, rfl, iteF ⟨_, rfl, k H _ (Same.refl _) (.inr (.inr ⟨rfl, .inl rfl⟩))⟩⟩⟩
    | int i => exact ⟨_, rfl, _, .ty "list", _, .type "list", false, rfl, .ty _, .base (.int i), kit_ty (by decide +kernel), false, rfl, iteF ⟨_, rfl, _, .ty "dict", _, .type "dict", false, rfl, .ty _, .base (.int i), kit_ty (by decide +kernel), false, rfl, iteF ⟨_, rfl, k H _ (Same.refl _) (.inr (.inr ⟨rfl, .inl rfl⟩))⟩⟩⟩
    | bl b => exact ⟨_, rfl, _, .ty "list", _, .type "list", false, rfl, .ty _, .base (.bl b), kit_ty (by decide +kernel), false, rfl, iteF ⟨_, rfl, _, .ty "dict", _, .type "dict", false, rfl, .ty _, .base (.bl b), kit_ty (by decide +kernel), false, rfl, iteF ⟨_, rfl, k H _ (Same.refl _) (.inr (.inr ⟨rfl, .inl rfl⟩))⟩⟩⟩
    | tup h _ => exact ⟨_, rfl, _, .ty "list", _, .type "list", false, rfl, .ty _, .base (.tup h), kit_ty (by decide +kernel), false, rfl, iteF ⟨_, rfl, _, .ty "dict", _, .type "dict", false, rfl, .ty _, .base (.tup h), kit_ty (by decide +kernel), false, rfl, iteF ⟨_, rfl, k H _ (Same.refl _) (.inr (.inr ⟨rfl, .inr ⟨_, _, rfl, h⟩⟩))⟩⟩⟩
    | lst h _ => exact ⟨_, rfl, _, .ty "list", _, .type "list", true, rfl, .ty _, .base (.lst h), kit_ty (by decide +kernel), true, rfl, iteT ⟨_, rfl, _, _, rfl, .inl (SqL.of h), fun l nl => k _ _ (same_new nl) (.inl ⟨_, l, _, rfl, rfl, same_new nl _ _ h, upd_same⟩)⟩⟩
    | dic h _ _ =>
      refine ⟨_, rfl, _, .ty "list", _, .type "list", false, rfl, .ty _, .base (.dK h), kit_ty (by decide +kernel), false, rfl, iteF ⟨_, rfl, _, .ty "dict", _, .type "dict", true, rfl, .ty _, .base (.dK h), kit_ty (by decide +kernel), true, rfl, iteT ⟨_, rfl, .inr (.inr (.inl ⟨rfl, .inl ⟨_, h⟩⟩)), _, _, rfl, rfl, h, fun p np => k _ _ (same_new np) (.inr (.inl ⟨_, p, _, rfl, rfl, same_new np _ _ h, upd_same⟩))⟩⟩⟩
theorem PgBad.ext {K : PySem.W.Frag} {H H' : Hp} {x y st : V} {w : Str} (o : PgBad K H x y st w) (s : Same H H') : PgBad K H' x y st w := by
  cases o with
  | places h => exact .places (h.ext s)
  | nexts e hL hp l1 l6 nd h => exact .nexts e (s _ _ hL) (fun x hx => (hp x hx).ext s) l1 l6 nd (h.ext s)
  | start e e2 hp h => exact .start e e2 (hp.ext s) (h.imp id fun h => ⟨oddS_ext h.1 s, h.2⟩)
abbrev s_law_made : Stmt := top 34
theorem sc_law_made : FnScope ["_law_places", "_law_table", "_law_begin", "_law_program_here", "_law_outcome", "e"] ["_law_places", "_law_table", "_law_begin"] (defScope s_law_made) := ⟨rfl, rfl, rfl, by decide +kernel, rfl, by decide +kernel, by decide +kernel⟩
-- slots: 0 _law_places, 1 _law_table, 2 _law_begin, 3 _law_program_here, 4 _law_outcome, 5 e
def spMade (K : PySem.W.Frag) : Sp := fun vs H Q _ => ∃ (x y st : V), vs = [x, y, st] ∧
  ((∃ (L N : Addr) (o : List V → HO) (xs : List PgE) (s : Str), x = .ref L ∧ y = .ref N ∧ PartsOk K H o L N xs ∧ s ∈ zsOf xs ∧ (st = .str s ∨ (st = .non ∧ (zsOf xs)[0]? = some s)) ∧ ∀ H' q l, Same H H' → H' q = some (.tup [.str "made", .ref l]) → H' l = some (.lst ((zsOf xs).map V.str)) → Q (.ref q) H') ∨
   (∃ w : Str, PgBad K H x y st w ∧ ∀ H' q, Same H H' → H' q = some (.tup [.str "refused", .str w, .bl true, .bl false]) → Q (.ref q) H'))
theorem ok_law_made {fd : FuncData} (F : FnD K ("_law_made", none) "_law_made" "_law_made" s_law_made fd) (T : ETxt K mg) (O_Program_init2k : OkK P w K mg base (L2.CX P w) 5 ("Program", some "__init__") ["self", "places", "nexts", "start"] 3 ["start"] (fun vs zs => vs ++ zs) (fun vs H Q E => spPgI K vs H Q E ∨ spPgB K vs H Q E)) : OkF P w K mg base CX0 7 "_law_made" ["_law_places", "_law_table", "_law_begin"] (spMade K) := by
  refine okd F (F.ok sc_law_made (fun vs H Q E h => ?_) fun cdv A outer s H vs Q E hr h => ?_) fun _ _ _ _ _ _ us hl => match us, hl with | [_, _, _], _ => rfl
  · obtain ⟨x, y, st, rfl, _⟩ := h
    rfl
  · obtain ⟨x, y, st, rfl, h⟩ := h
    refine ⟨_, PSs.nox (pss_cons (ps_try_as (i := 5) (Wout := fun _ _ _ _ => False) rfl rfl sc_law_made.nd rfl rfl ⟨rfl, by decide, Or.inl T.g_BadProgram⟩ takes0 (fun W pn xe tk _ => (pss_cons (ps_set (i := 3) sc_law_made.nd rfl (Or.inl rfl) (c_mkK T.m_Program O_Program_init2k hr (by decide) T.g_Program (passAny 6 tk) (pa_cons (pv 0) (pa_cons (pv 1) pa_nil)) (pk_cons (pv 2) pk_nil)))
  (pss_one (ps_set (i := 4) sc_law_made.nd rfl (Or.inl rfl) (pe_tup (pa_cons pe_str (pa_cons (pe_callTy (call_listB (K := K) rfl) (by rfl) T.z_list (by decide +kernel) (pa_cons (pe_fldK (K := K) rfl (pv 3) rfl) pa_nil)) pa_nil))))))) (fun a oe cls d pn hz hf => (pss_one (ps_set (i := 4) sc_law_made.nd rfl (Or.inl rfl) (pe_tup (pa_cons pe_str (pa_cons (pe_xf T.xf T.x_BadProgram.n hz hf (pv 5)) (pa_cons (pe_callB (call_isiE rfl T.x_BadProgram.d T.hn T.ht hz hf) (by rfl) T.z_isinstance (by decide +kernel) (pa_cons (pv 5) (pa_cons (pe_cl T.g_SeenError) pa_nil))) (pa_cons (pe_callB (call_isiE rfl T.x_BadProgram.d T.hn T.ht hz hf) (by rfl) T.z_isinstance (by decide +kernel) (pa_cons (pv 5) (pa_cons (pe_cl T.g_BadPlace) pa_nil))) pa_nil)))))))))
  (pss_one (ps_ret (pv 4)))), ?_⟩
    have li : ∀ v : V, List.lookup ("why" : Str) [(("why" : Str), v)] = some v := fun v => by simp [List.lookup]
    refine ⟨_, rfl, _, rfl, _, rfl, rfl, rfl, fun g dx ng ndx ne => ?_⟩
    have sm := same_make (o1 := .own g) (o2 := .ins (CG K) dx []) ng ndx
    rcases h with ⟨L, N, o, xs, z, rfl, rfl, hp, hz, hst, k⟩ | ⟨wy, hb, k⟩
    · refine .inl ⟨g, dx, L, N, o, xs, st, z, rfl, upd_same, hp.ext sm, hz, hst, fun H3 dx3 tn dP dN x3 hpg nP nN2 => ⟨rfl, ?_⟩⟩
      have s3 : Same H H3 := fun b o e => x3 b o (ne_of_none e ng) (sm _ _ e)
      exact ⟨_, rfl, g, _, dx3, _, _, rfl, hpg.hg, T.c_Program, T.nA, pgf_names .., tn, _, rfl, .inr (SqT.of hpg.hn), fun l nl => ⟨(by show 2 ≤ sizeLine; decide), fun q nq => ⟨_, rfl, k _ q l (s3.trans ((same_new nl).trans (same_new nq))) upd_same (same_new nq _ _ upd_same)⟩⟩⟩
    · refine .inr ⟨g, x, y, st, wy, rfl, hb.ext sm, fun H1 d s1 nd => ?_⟩
      intro σ hσ
      have s8 : ∀ a : Addr, (σ.set 5 (some (V.ref a)))[5]? = some (some (V.ref a)) := fun a => List.getElem?_set_self (by omega)
      have sm2 := (sm.trans s1).trans (same_new (o := .xd [("why", .str wy)]) nd)
      refine ⟨true, T.x1, fun _ a na => ?_, fun z => Bool.noConfusion z⟩
      refine ⟨_, s8 a, rfl, rfl, d, _, _, rfl, upd_same, li _, _, s8 a, _, _, true, rfl, rfl, .own _, T.p1, ⟨d, _, rfl, upd_same⟩, _, s8 a, _, _, false, rfl, rfl, .own _, T.p2, ⟨d, _, rfl, upd_same⟩, (by show 4 ≤ sizeLine; decide), fun q nq => ⟨_, ?_, k _ q (sm2.trans (same_new nq)) upd_same⟩⟩
      rw [List.getElem?_set_ne (by decide), List.getElem?_set_self (by rw [List.length_set]; omega)]
end
end K7

set_option Elab.async false
set_option linter.all false
set_option pp.deepTerms.threshold 14
set_option pp.maxSteps 2500
set_option maxRecDepth 100000
set_option maxHeartbeats 2000000
namespace K7
open PySem PySem.Spec PyProof.Rows L2 Vf
section
variable {P : Program} {w : World} {K : PySem.W.Frag} {mg : Str → Option Value} {base : Heap}
theorem ref_ne1 {xs : List PgE} {m : Int} : HO.lst (xs.map fun x => V.ref x.1) ≠ HO.lst [.int m] := fun z => by
  cases xs with
  | nil => cases z
  | cons a l => cases z
theorem IsPl.of {K : PySem.W.Frag} {H : Hp} {x : PgE} (h : PlE K H x) : IsPl K H (.ref x.1) := ⟨x.1, _, _, _, _, rfl, h⟩
theorem PlE.x {K : PySem.W.Frag} {H H' : Hp} {x : PgE} {d : Addr} {m : Int} (h : PlE K H x) (hd : H d = some (.lst [.int m])) (s : SameX d H H') : PlE K H' x := by
  obtain ⟨dy, e⟩ := h
  exact ⟨dy, s _ _ (ne_of e hd (by intro z; cases z)) e⟩
theorem slf_app {us : List V} {p : Addr} (h : ∀ u ∈ us, Slf u) : ∀ u ∈ us ++ [V.ref p], Slf u := fun u hu => by
  rcases List.mem_append.mp hu with hu | hu
  · exact h u hu
  · rw [List.mem_singleton] at hu
    rw [hu]
    exact True.intro
theorem slf_refs {xs : List PgE} : ∀ u ∈ xs.map (fun x => V.ref x.1), Slf u := fun u hu => by
  obtain ⟨x, _, rfl⟩ := List.mem_map.mp hu
  exact True.intro
theorem slf_cut (xs : List PgE) (lo hi : Option Int) : ∀ u ∈ cutV (xs.map fun x => V.ref x.1) lo hi, Slf u := fun u hu => slf_refs u (cutV_mem hu)
theorem slf_mid {as bs : List V} {v : V} (h1 : ∀ u ∈ as, Slf u) (h2 : Slf v) (h3 : ∀ u ∈ bs, Slf u) : ∀ u ∈ as ++ [v] ++ bs, Slf u := fun u hu => by
  rcases List.mem_append.mp hu with hu | hu
  · rcases List.mem_append.mp hu with hu | hu
    · exact h1 u hu
    · rw [List.mem_singleton] at hu
      rw [hu]
      exact h2
  · exact h3 u hu
theorem NoPl.slf {H : Hp} {u : V} (h : NoPl H u) : Slf u := by cases h <;> exact True.intro
abbrev s_law_bad_places : Stmt := top 32
theorem sc_law_bad_places : FnScope ["_law_draw", "_law_places", "_law_kind", "_law_at", "_law_more", "_law_word", "_law_bad"] ["_law_draw", "_law_places"] (defScope s_law_bad_places) := ⟨rfl, rfl, rfl, by decide +kernel, rfl, by decide +kernel, by decide +kernel⟩
-- slots: 0 _law_draw, 1 _law_places, 2 _law_kind, 3 _law_at, 4 _law_more, 5 _law_word, 6 _law_bad
def spBP (K : PySem.W.Frag) : Sp := fun vs H Q _ => ∃ (d L : Addr) (m : Int) (xs : List PgE), vs = [.ref d, .ref L] ∧ H d = some (.lst [.int m]) ∧ H L = some (.lst (xs.map fun x => V.ref x.1)) ∧ (∀ x ∈ xs, PlE K H x) ∧ 1 ≤ xs.length ∧ xs.length ≤ 6 ∧ (∀ z ∈ zsOf xs, nmB z = true ∧ z.length ≤ 8) ∧
  ∀ (H' : Hp) (x : V) (m' : Int), SameX d H H' → H' d = some (.lst [.int m']) → PlBad K H' x → Kd H' x → Q x H'
theorem ok_law_bad_places {fd : FuncData} (F : FnD K ("_law_bad_places", none) "_law_bad_places" "_law_bad_places" s_law_bad_places fd) (T : ETxt K mg) (O_law_take : OkF P w K mg base CX0 1 "_law_take" ["_law_draw", "_law_size"] spTake)
    (O_Place_init1 : OkK P w K mg base (L2.CX P w) 4 ("Place", some "__init__") ["self", "name", "least", "most", "let"] 2 [] (fun vs _ => vs ++ [.int 1, .non, .bl true]) (spPlI K)) (O_Place_init3 : OkK P w K mg base (L2.CX P w) 4 ("Place", some "__init__") ["self", "name", "least", "most", "let"] 4 [] (fun vs _ => vs ++ [.bl true]) (spPlI K)) :
    OkF P w K mg base CX0 6 "_law_bad_places" ["_law_draw", "_law_places"] (spBP K) := by
  refine okd F (F.ok sc_law_bad_places (fun vs H Q E h => ?_) fun cdv A outer s H vs Q E hr h => ?_) fun _ _ _ _ _ _ us hl => match us, hl with | [_, _], _ => rfl
  · obtain ⟨d, L, m, xs, rfl, _⟩ := h
    rfl
  · obtain ⟨d, L, m, xs, rfl, hd, hL, hp, x1, x5, hnm, k⟩ := h
    refine ⟨_, PSs.nox (pss_cons (ps_set (i := 2) sc_law_bad_places.nd rfl (Or.inl rfl) (c_fn O_law_take hr (by decide) T.g_law_take pass0 (pa_cons (pv 0) (pa_cons pe_int pa_nil))))
  (pss_cons (ps_set (i := 3) sc_law_bad_places.nd rfl (Or.inl rfl) (c_fn O_law_take hr (by decide) T.g_law_take pass0 (pa_cons (pv 0) (pa_cons (pe_callB (id := "len") call_len_seq (by rfl) T.z_len (by decide +kernel) (pa_cons (pv 1) pa_nil)) pa_nil))))
  (pss_cons (ps_if (pt_cmpR op_eq (pv 2) pe_int (nomark _)) (pss_one (ps_ret (pe_ix ix_list (pe_lst (pa_cons pe_non (pa_cons pe_dnewK (pa_cons pe_str (pa_cons pe_int (pa_cons pe_bl (pa_cons (pe_lst pa_nil) (pa_cons (pe_tup pa_nil) pa_nil)))))))) (c_fn O_law_take hr (by decide) T.g_law_take pass0 (pa_cons (pv 0) (pa_cons pe_int pa_nil))) (fun _ _ => rfl))))
  pss_nil)
  (pss_cons (ps_if (pt_cmpR op_eq (pv 2) pe_int (nomark _)) (pss_cons (ps_set (i := 4) sc_law_bad_places.nd rfl (Or.inl rfl) (pe_lst (pa_cons pe_str (pa_cons pe_str (pa_cons pe_str (pa_cons pe_str (pa_cons pe_str (pa_cons pe_str (pa_cons pe_str pa_nil)))))))))
  (pss_one (ps_ret (pe_lc (own := [("_law_word", 5)]) (g := gName 5) (tt := tYes) (by rfl) sc_law_bad_places.nd (pi_list (pv 4)) (blkOk_by (N := ["_law_draw", "_law_places", "_law_kind", "_law_at", "_law_more", "_law_word", "_law_bad"]) (sc := defScope s_law_bad_places) (by decide +kernel)) (fun _ _ _ _ _ => (pg_name (i := 5) sc_law_bad_places.nd rfl (Or.inl rfl))) (fun _ _ _ _ _ => pts_nil) (fun _ _ _ _ _ => (c_mkK T.m_Place O_Place_init1 hr (by decide) T.g_Place passL (pa_cons (pe_op op_mulS (pv 5) pe_int) pa_nil) pk_nil))))))
  pss_nil)
  (pss_cons (ps_if (pt_cmpR op_lt (pv 2) pe_int (nomark _)) (pss_cons (ps_set (i := 6) sc_law_bad_places.nd rfl (Or.inl rfl) (pe_ix ix_list (pe_lst (pa_cons pe_non (pa_cons (pe_fld (pe_ix ix_list (pv 1) (pv 3) (fun _ _ => rfl)) rfl) (pa_cons pe_int (pa_cons (pe_tup pa_nil) (pa_cons (pv 1) pa_nil)))))) (c_fn O_law_take hr (by decide) T.g_law_take pass0 (pa_cons (pv 0) (pa_cons pe_int pa_nil))) (fun _ _ => rfl)))
  (pss_one (ps_ret (pe_op op_cat (pe_op op_cat (pe_slice sl_list (pv 1) po_none (po_some (pv 3))) (pe_lst (pa_cons (pv 6) pa_nil))) (pe_slice sl_list (pv 1) (po_some (pe_op op_add (pv 3) pe_int)) po_none)))))
  pss_nil)
  (pss_one (ps_ret (pe_op op_cat (pe_op op_cat (pe_slice sl_list (pv 1) po_none (po_some (pv 3))) (pe_lst (pa_cons (c_mkK T.m_Place O_Place_init3 hr (by decide) T.g_Place passL (pa_cons (pe_fld (pe_ix ix_list (pv 1) (c_fn O_law_take hr (by decide) T.g_law_take pass0 (pa_cons (pv 0) (pa_cons (pe_callB (id := "len") call_len_seq (by rfl) T.z_len (by decide +kernel) (pa_cons (pv 1) pa_nil)) pa_nil))) (fun _ _ => rfl)) rfl) (pa_cons pe_int (pa_cons pe_int pa_nil))) pk_nil) pa_nil))) (pe_slice sl_list (pv 1) (po_some (pv 3)) po_none))))))))), ?_⟩
    have nLd : L ≠ d := ne_of hL hd ref_ne1
    refine ⟨_, rfl, d, m, 7, rfl, hd, by decide, by decide, fun kd m1 kd0 kd1 => ?_⟩
    have hd1 : (upd H d (.lst [.int m1])) d = some (.lst [.int m1]) := upd_same
    have sx1 : SameX d H (upd H d (.lst [.int m1])) := SameX.upd
    generalize upd H d (.lst [.int m1]) = H1 at hd1 sx1 ⊢
    refine ⟨_, rfl, _, rfl, L, _, rfl, .inl (SqL.of (sx1 _ _ nLd hL)), d, m1, _, rfl, hd1, by rw [List.length_map]; omega, by rw [List.length_map]; omega, fun at' m2 at0 at1 => ?_⟩
    rw [List.length_map] at at1
    obtain ⟨q, rfl⟩ : ∃ q : Nat, at' = (q : Int) := ⟨at'.toNat, by omega⟩
    have hdd : (upd H1 d (.lst [.int m2])) d = some (.lst [.int m2]) := upd_same
    have sx : SameX d H (upd H1 d (.lst [.int m2])) := sx1.trans SameX.upd
    generalize upd H1 d (.lst [.int m2]) = H2 at hdd sx ⊢
    clear sx1 hd1 H1
    have hLL := sx _ _ nLd hL
    have hpx : ∀ {H' : Hp}, SameX d H H' → ∀ x ∈ xs, PlE K H' x := fun s x hx => (hp x hx).x hd s
    obtain ⟨yq, hyq⟩ : ∃ y, xs[q]? = some y := ⟨_, List.getElem?_eq_getElem (by omega)⟩
    have hatq : atI (xs.map fun x => V.ref x.1) (q : Int) = some (.ref yq.1) := atI_nat (by rw [List.getElem?_map, hyq]; rfl)
    refine ⟨_, rfl, rfl, _, rfl, ite2 (fun _ => ?_) fun _ => ?_⟩
    · skip
      refine fun e_d n_e_d => ?_
      have nd_e_d : e_d ≠ d := (ne_of_none hdd n_e_d).symm
      have h_e_d : (upd H2 e_d (.dK [])) e_d = some (.dK []) := upd_same
      replace hdd := same_new (o := .dK []) n_e_d _ _ hdd
      replace hLL := same_new (o := .dK []) n_e_d _ _ hLL
      replace sx := sx.trans (sameX_of (same_new (o := .dK []) n_e_d))
      generalize upd H2 e_d (.dK []) = A1_d at hdd hLL h_e_d sx ⊢
      refine ⟨(by show 0 ≤ sizeLine; decide), fun e_l n_e_l => ?_⟩
      have nd_e_l : e_l ≠ d := (ne_of_none hdd n_e_l).symm
      have h_e_l : (upd A1_d e_l (.lst [])) e_l = some (.lst []) := upd_same
      replace hdd := same_new (o := .lst []) n_e_l _ _ hdd
      replace hLL := same_new (o := .lst []) n_e_l _ _ hLL
      replace h_e_d := same_new (o := .lst []) n_e_l _ _ h_e_d
      replace sx := sx.trans (sameX_of (same_new (o := .lst []) n_e_l))
      generalize upd A1_d e_l (.lst []) = A2_l at hdd hLL h_e_d h_e_l sx ⊢
      refine ⟨(by show 0 ≤ sizeLine; decide), fun e_t n_e_t => ?_⟩
      have nd_e_t : e_t ≠ d := (ne_of_none hdd n_e_t).symm
      have h_e_t : (upd A2_l e_t (.tup [])) e_t = some (.tup []) := upd_same
      replace hdd := same_new (o := .tup []) n_e_t _ _ hdd
      replace hLL := same_new (o := .tup []) n_e_t _ _ hLL
      replace h_e_d := same_new (o := .tup []) n_e_t _ _ h_e_d
      replace h_e_l := same_new (o := .tup []) n_e_t _ _ h_e_l
      replace sx := sx.trans (sameX_of (same_new (o := .tup []) n_e_t))
      generalize upd A2_l e_t (.tup []) = A3_t at hdd hLL h_e_d h_e_l h_e_t sx ⊢
      refine ⟨(by show 7 ≤ sizeLine; decide), fun e_o n_e_o => ?_⟩
      have nd_e_o : e_o ≠ d := (ne_of_none hdd n_e_o).symm
      have h_e_o : (upd A3_t e_o (.lst [.non, .ref e_d, .str "a", .int 3, .bl true, .ref e_l, .ref e_t])) e_o = some (.lst [.non, .ref e_d, .str "a", .int 3, .bl true, .ref e_l, .ref e_t]) := upd_same
      replace hdd := same_new (o := .lst [.non, .ref e_d, .str "a", .int 3, .bl true, .ref e_l, .ref e_t]) n_e_o _ _ hdd
      replace hLL := same_new (o := .lst [.non, .ref e_d, .str "a", .int 3, .bl true, .ref e_l, .ref e_t]) n_e_o _ _ hLL
      replace h_e_d := same_new (o := .lst [.non, .ref e_d, .str "a", .int 3, .bl true, .ref e_l, .ref e_t]) n_e_o _ _ h_e_d
      replace h_e_l := same_new (o := .lst [.non, .ref e_d, .str "a", .int 3, .bl true, .ref e_l, .ref e_t]) n_e_o _ _ h_e_l
      replace h_e_t := same_new (o := .lst [.non, .ref e_d, .str "a", .int 3, .bl true, .ref e_l, .ref e_t]) n_e_o _ _ h_e_t
      replace sx := sx.trans (sameX_of (same_new (o := .lst [.non, .ref e_d, .str "a", .int 3, .bl true, .ref e_l, .ref e_t]) n_e_o))
      generalize upd A3_t e_o (.lst [.non, .ref e_d, .str "a", .int 3, .bl true, .ref e_l, .ref e_t]) = A4_o at hdd hLL h_e_d h_e_l h_e_t h_e_o sx ⊢
      refine ⟨_, rfl, d, m2, 7, rfl, hdd, by decide, by decide, fun tk m3 tk0 tk1 => ?_⟩
      replace hLL : (upd A4_o d (.lst [.int m3])) L = _ := (upd_ne nLd).trans hLL
      replace h_e_d : (upd A4_o d (.lst [.int m3])) e_d = _ := (upd_ne nd_e_d).trans h_e_d
      replace h_e_l : (upd A4_o d (.lst [.int m3])) e_l = _ := (upd_ne nd_e_l).trans h_e_l
      replace h_e_t : (upd A4_o d (.lst [.int m3])) e_t = _ := (upd_ne nd_e_t).trans h_e_t
      replace h_e_o : (upd A4_o d (.lst [.int m3])) e_o = _ := (upd_ne nd_e_o).trans h_e_o
      replace hdd : (upd A4_o d (.lst [.int m3])) d = some (.lst [.int m3]) := upd_same
      replace sx : SameX d H (upd A4_o d (.lst [.int m3])) := sx.trans SameX.upd
      generalize upd A4_o d (.lst [.int m3]) = T5 at hdd hLL h_e_d h_e_l h_e_t h_e_o sx ⊢
      have kk : ∀ x, PlBad K T5 x → Kd T5 x → Q x T5 := fun x hx h2 => k _ x m3 sx hdd hx h2
      have h6 : tk = 0 ∨ tk = 1 ∨ tk = 2 ∨ tk = 3 ∨ tk = 4 ∨ tk = 5 ∨ tk = 6 := by omega
      rcases h6 with rfl | rfl | rfl | rfl | rfl | rfl | rfl
      · exact ⟨e_o, _, _, _, rfl, rfl, SqL.of h_e_o, atI_nat (j := 0) rfl, kk _ (.non) (.non)⟩
      · exact ⟨e_o, _, _, _, rfl, rfl, SqL.of h_e_o, atI_nat (j := 1) rfl, kk _ (.dic h_e_d) (.dic h_e_d (fun _ h => nomatch h) List.nodup_nil)⟩
      · exact ⟨e_o, _, _, _, rfl, rfl, SqL.of h_e_o, atI_nat (j := 2) rfl, kk _ (.str _) (.str _)⟩
      · exact ⟨e_o, _, _, _, rfl, rfl, SqL.of h_e_o, atI_nat (j := 3) rfl, kk _ (.int _) (.int _)⟩
      · exact ⟨e_o, _, _, _, rfl, rfl, SqL.of h_e_o, atI_nat (j := 4) rfl, kk _ (.bl _) (.bl _)⟩
      · exact ⟨e_o, _, _, _, rfl, rfl, SqL.of h_e_o, atI_nat (j := 5) rfl, kk _ (.len h_e_l (.inl rfl)) (.lst h_e_l (fun _ h => nomatch h))⟩
      · exact ⟨e_o, _, _, _, rfl, rfl, SqL.of h_e_o, atI_nat (j := 6) rfl, kk _ (.tup0 h_e_t) (.tup h_e_t (fun _ h => nomatch h))⟩
    refine ⟨_, rfl, rfl, _, rfl, ite2 (fun _ => ?_) fun _ => ?_⟩
    · skip
      refine ⟨(by show 7 ≤ sizeLine; decide), fun e_m n_e_m => ?_⟩
      have nd_e_m : e_m ≠ d := (ne_of_none hdd n_e_m).symm
      have h_e_m : (upd H2 e_m (.lst [.str "q", .str "r", .str "s", .str "t", .str "u", .str "v", .str "w"])) e_m = some (.lst [.str "q", .str "r", .str "s", .str "t", .str "u", .str "v", .str "w"]) := upd_same
      replace hdd := same_new (o := .lst [.str "q", .str "r", .str "s", .str "t", .str "u", .str "v", .str "w"]) n_e_m _ _ hdd
      replace hLL := same_new (o := .lst [.str "q", .str "r", .str "s", .str "t", .str "u", .str "v", .str "w"]) n_e_m _ _ hLL
      replace sx := sx.trans (sameX_of (same_new (o := .lst [.str "q", .str "r", .str "s", .str "t", .str "u", .str "v", .str "w"]) n_e_m))
      generalize upd H2 e_m (.lst [.str "q", .str "r", .str "s", .str "t", .str "u", .str "v", .str "w"]) = A1_m at hdd hLL h_e_m sx ⊢
      replace h_e_m : A1_m e_m = some (.lst ((["q", "r", "s", "t", "u", "v", "w"] : List Str).map V.str)) := h_e_m
      have hw : ∀ z ∈ (["q", "r", "s", "t", "u", "v", "w"] : List Str), z.length = 1 ∧ (strN z 8).length = 8 ∧ nmB (strN z 8) = true := by decide +kernel
      have ml : (["q", "r", "s", "t", "u", "v", "w"] : List Str).length = 7 := rfl
      generalize (["q", "r", "s", "t", "u", "v", "w"] : List Str) = mo at hw ml h_e_m
      refine ⟨_, rfl, e_m, rfl, ⟨_, SqL.of h_e_m⟩, fun D nD => lc_it walk_list (fun j H' => Same A1_m H' ∧ ∃ us : List V, H' D = some (.lst us) ∧ us.length = j ∧ ∀ u ∈ us, Slf u) ⟨same_new nD, [], upd_same, rfl, (fun _ h => nomatch h)⟩ (fun j H' _ h => SqL.of (h.1 _ _ h_e_m)) ?_ ?_⟩
      · rintro j x H3 H' hj ⟨sg, us, hD, hul, hus⟩ ⟨rfl, hx⟩
        rw [List.length_map] at hj
        have hmj : mo[j]? = some mo[j] := List.getElem?_eq_getElem hj
        generalize mo[j] = z at hmj
        obtain rfl : x = .str z := by
          rw [List.getElem?_map, hmj] at hx
          exact (Option.some.inj hx).symm
        obtain ⟨w1, w2, w3⟩ := hw z (List.mem_of_getElem? hmj)
        refine ⟨rfl, _, rfl, z, 8, rfl, rfl, by decide, by decide, by omega, by omega, Nat.le_trans (Nat.le_of_eq w2) (by decide), rfl, rfl, fun p dx np ndx ne => ⟨p, dx, _, _, _, _, rfl, upd_same, .inr ⟨strN z 8, 1, 1, true, ⟨rfl, Nat.le_trans (Nat.le_of_eq w2) (by decide), w3, rfl, by decide, by decide, by decide, .inr ⟨rfl, rfl⟩, rfl⟩, fun H4 s4 => ⟨rfl, ?_⟩⟩⟩⟩
        have sm : Same H' (upd H4 p (.ins (CP K) dx (plf (strN z 8) 1 1 true))) := fun b' u e => by
          rw [upd_ne (ne_of_none e np)]
          exact s4 _ _ (same_make np ndx _ _ e)
        generalize upd H4 p (.ins (CP K) dx (plf (strN z 8) 1 1 true)) = H5 at sm ⊢
        refine ⟨_, sm _ _ hD, ?_, same_app sg sm nD, us ++ [.ref p], upd_same, by rw [List.length_append, hul]; rfl, slf_app hus⟩
        rw [hul]
        exact Nat.lt_of_lt_of_le hj (Nat.le_trans (Nat.le_of_eq ml) (by decide))
      · rintro H3 ⟨sg, us, hD, hul, hus⟩
        rw [List.length_map, ml] at hul
        exact k H3 _ m2 (sx.trans (sameX_of sg)) (sg _ _ hdd) (.len hD (.inr (by omega))) (.lst hD hus)
    refine ⟨_, rfl, _, _, rfl, rfl, _, rfl, ite2 (fun _ => ?_) fun _ => ?_⟩
    · skip
      obtain ⟨dq, eq⟩ := hpx sx yq (List.mem_of_getElem? hyq)
      refine ⟨_, rfl, _, rfl, L, _, (q : Int), .ref yq.1, rfl, rfl, SqL.of hLL, hatq, yq.1, _, dq, _, _, rfl, eq, T.c_Place, T.nN, plf_name .., ?_⟩
      refine ⟨(by show 0 ≤ sizeLine; decide), fun e_t n_e_t => ?_⟩
      have nd_e_t : e_t ≠ d := (ne_of_none hdd n_e_t).symm
      have h_e_t : (upd H2 e_t (.tup [])) e_t = some (.tup []) := upd_same
      replace hdd := same_new (o := .tup []) n_e_t _ _ hdd
      replace hLL := same_new (o := .tup []) n_e_t _ _ hLL
      replace sx := sx.trans (sameX_of (same_new (o := .tup []) n_e_t))
      generalize upd H2 e_t (.tup []) = A1_t at hdd hLL h_e_t sx ⊢
      refine ⟨_, rfl, (by show 5 ≤ sizeLine; decide), fun e_o n_e_o => ?_⟩
      have nd_e_o : e_o ≠ d := (ne_of_none hdd n_e_o).symm
      have h_e_o : (upd A1_t e_o (.lst [.non, .str yq.2.2.z, .int 1, .ref e_t, .ref L])) e_o = some (.lst [.non, .str yq.2.2.z, .int 1, .ref e_t, .ref L]) := upd_same
      replace hdd := same_new (o := .lst [.non, .str yq.2.2.z, .int 1, .ref e_t, .ref L]) n_e_o _ _ hdd
      replace hLL := same_new (o := .lst [.non, .str yq.2.2.z, .int 1, .ref e_t, .ref L]) n_e_o _ _ hLL
      replace h_e_t := same_new (o := .lst [.non, .str yq.2.2.z, .int 1, .ref e_t, .ref L]) n_e_o _ _ h_e_t
      replace sx := sx.trans (sameX_of (same_new (o := .lst [.non, .str yq.2.2.z, .int 1, .ref e_t, .ref L]) n_e_o))
      generalize upd A1_t e_o (.lst [.non, .str yq.2.2.z, .int 1, .ref e_t, .ref L]) = A2_o at hdd hLL h_e_t h_e_o sx ⊢
      refine ⟨_, rfl, d, m2, 5, rfl, hdd, by decide, by decide, fun tk m3 tk0 tk1 => ?_⟩
      replace hLL : (upd A2_o d (.lst [.int m3])) L = _ := (upd_ne nLd).trans hLL
      replace h_e_t : (upd A2_o d (.lst [.int m3])) e_t = _ := (upd_ne nd_e_t).trans h_e_t
      replace h_e_o : (upd A2_o d (.lst [.int m3])) e_o = _ := (upd_ne nd_e_o).trans h_e_o
      replace hdd : (upd A2_o d (.lst [.int m3])) d = some (.lst [.int m3]) := upd_same
      replace sx : SameX d H (upd A2_o d (.lst [.int m3])) := sx.trans SameX.upd
      generalize upd A2_o d (.lst [.int m3]) = T3 at hdd hLL h_e_t h_e_o sx ⊢
      obtain ⟨v, hv, vb⟩ : ∃ v : V, atI ([V.non, .str yq.2.2.z, .int 1, .ref e_t, .ref L] : List V) tk = some v ∧ NoPl T3 v := by
        have h6 : tk = 0 ∨ tk = 1 ∨ tk = 2 ∨ tk = 3 ∨ tk = 4 := by omega
        rcases h6 with rfl | rfl | rfl | rfl | rfl
        · exact ⟨_, atI_nat (j := 0) rfl, .non⟩
        · exact ⟨_, atI_nat (j := 1) rfl, .str _⟩
        · exact ⟨_, atI_nat (j := 2) rfl, .int _⟩
        · exact ⟨_, atI_nat (j := 3) rfl, .tup h_e_t⟩
        · exact ⟨_, atI_nat (j := 4) rfl, .lst hLL⟩
      refine ⟨e_o, _, tk, v, rfl, rfl, SqL.of h_e_o, hv, ?_⟩
      clear hv eq
      obtain ⟨HB, hHB⟩ : ∃ HB, HB = T3 := ⟨_, rfl⟩
      have vb' : ∀ H', Same HB H' → NoPl H' v := fun H' s => by rw [hHB] at s; exact vb.ext s
      rw [← hHB] at hdd hLL h_e_o h_e_t sx ⊢
      have sm : Same HB HB := Same.refl _
      clear hHB vb
      refine ⟨_, rfl, _, rfl, _, rfl, L, _, rfl, SqL.of hLL, fun e_p n_e_p => ?_⟩
      have nd_e_p : e_p ≠ d := (ne_of_none hdd n_e_p).symm
      have h_e_p : (upd HB e_p (.lst (cutV (xs.map fun x => V.ref x.1) none (some (q : Int))))) e_p = some (.lst (cutV (xs.map fun x => V.ref x.1) none (some (q : Int)))) := upd_same
      replace hdd := same_new (o := .lst (cutV (xs.map fun x => V.ref x.1) none (some (q : Int)))) n_e_p _ _ hdd
      replace hLL := same_new (o := .lst (cutV (xs.map fun x => V.ref x.1) none (some (q : Int)))) n_e_p _ _ hLL
      replace h_e_t := same_new (o := .lst (cutV (xs.map fun x => V.ref x.1) none (some (q : Int)))) n_e_p _ _ h_e_t
      replace h_e_o := same_new (o := .lst (cutV (xs.map fun x => V.ref x.1) none (some (q : Int)))) n_e_p _ _ h_e_o
      replace sx := sx.trans (sameX_of (same_new (o := .lst (cutV (xs.map fun x => V.ref x.1) none (some (q : Int)))) n_e_p))
      replace sm := sm.trans (same_new (o := .lst (cutV (xs.map fun x => V.ref x.1) none (some (q : Int)))) n_e_p)
      generalize upd HB e_p (.lst (cutV (xs.map fun x => V.ref x.1) none (some (q : Int)))) = A4_p at hdd hLL h_e_t h_e_o h_e_p sx sm ⊢
      refine ⟨_, rfl, (by show 1 ≤ sizeLine; decide), fun e_v n_e_v => ?_⟩
      have nd_e_v : e_v ≠ d := (ne_of_none hdd n_e_v).symm
      have h_e_v : (upd A4_p e_v (.lst [v])) e_v = some (.lst [v]) := upd_same
      replace hdd := same_new (o := .lst [v]) n_e_v _ _ hdd
      replace hLL := same_new (o := .lst [v]) n_e_v _ _ hLL
      replace h_e_t := same_new (o := .lst [v]) n_e_v _ _ h_e_t
      replace h_e_o := same_new (o := .lst [v]) n_e_v _ _ h_e_o
      replace h_e_p := same_new (o := .lst [v]) n_e_v _ _ h_e_p
      replace sx := sx.trans (sameX_of (same_new (o := .lst [v]) n_e_v))
      replace sm := sm.trans (same_new (o := .lst [v]) n_e_v)
      generalize upd A4_p e_v (.lst [v]) = A5_v at hdd hLL h_e_t h_e_o h_e_p h_e_v sx sm ⊢
      have l1 : (cutV (xs.map fun x => V.ref x.1) none (some (q : Int))).length ≤ 6 := Nat.le_trans (cutV_length ..) (by rw [List.length_map]; omega)
      refine ⟨e_p, e_v, _, _, rfl, rfl, h_e_p, h_e_v, Nat.le_trans (show (cutV (xs.map fun x => V.ref x.1) none (some (q : Int))).length + ([v] : List V).length ≤ 100 by simp only [List.length_append, List.length_singleton]; omega) (by decide), ?_⟩
      intro e_a n_e_a
      have nd_e_a : e_a ≠ d := (ne_of_none hdd n_e_a).symm
      have h_e_a : (upd A5_v e_a (.lst ((cutV (xs.map fun x => V.ref x.1) none (some (q : Int))) ++ ([v])))) e_a = some (.lst ((cutV (xs.map fun x => V.ref x.1) none (some (q : Int))) ++ ([v]))) := upd_same
      replace hdd := same_new (o := .lst ((cutV (xs.map fun x => V.ref x.1) none (some (q : Int))) ++ ([v]))) n_e_a _ _ hdd
      replace hLL := same_new (o := .lst ((cutV (xs.map fun x => V.ref x.1) none (some (q : Int))) ++ ([v]))) n_e_a _ _ hLL
      replace h_e_t := same_new (o := .lst ((cutV (xs.map fun x => V.ref x.1) none (some (q : Int))) ++ ([v]))) n_e_a _ _ h_e_t
      replace h_e_o := same_new (o := .lst ((cutV (xs.map fun x => V.ref x.1) none (some (q : Int))) ++ ([v]))) n_e_a _ _ h_e_o
      replace h_e_p := same_new (o := .lst ((cutV (xs.map fun x => V.ref x.1) none (some (q : Int))) ++ ([v]))) n_e_a _ _ h_e_p
      replace h_e_v := same_new (o := .lst ((cutV (xs.map fun x => V.ref x.1) none (some (q : Int))) ++ ([v]))) n_e_a _ _ h_e_v
      replace sx := sx.trans (sameX_of (same_new (o := .lst ((cutV (xs.map fun x => V.ref x.1) none (some (q : Int))) ++ ([v]))) n_e_a))
      replace sm := sm.trans (same_new (o := .lst ((cutV (xs.map fun x => V.ref x.1) none (some (q : Int))) ++ ([v]))) n_e_a)
      generalize upd A5_v e_a (.lst ((cutV (xs.map fun x => V.ref x.1) none (some (q : Int))) ++ ([v]))) = C6 at hdd hLL h_e_t h_e_o h_e_p h_e_v h_e_a sx sm ⊢
      refine ⟨_, rfl, _, rfl, _, _, rfl, rfl, _, rfl, L, _, rfl, SqL.of hLL, fun e_b n_e_b => ?_⟩
      have nd_e_b : e_b ≠ d := (ne_of_none hdd n_e_b).symm
      have h_e_b : (upd C6 e_b (.lst (cutV (xs.map fun x => V.ref x.1) (some ((q : Int) + 1)) none))) e_b = some (.lst (cutV (xs.map fun x => V.ref x.1) (some ((q : Int) + 1)) none)) := upd_same
      replace hdd := same_new (o := .lst (cutV (xs.map fun x => V.ref x.1) (some ((q : Int) + 1)) none)) n_e_b _ _ hdd
      replace hLL := same_new (o := .lst (cutV (xs.map fun x => V.ref x.1) (some ((q : Int) + 1)) none)) n_e_b _ _ hLL
      replace h_e_t := same_new (o := .lst (cutV (xs.map fun x => V.ref x.1) (some ((q : Int) + 1)) none)) n_e_b _ _ h_e_t
      replace h_e_o := same_new (o := .lst (cutV (xs.map fun x => V.ref x.1) (some ((q : Int) + 1)) none)) n_e_b _ _ h_e_o
      replace h_e_p := same_new (o := .lst (cutV (xs.map fun x => V.ref x.1) (some ((q : Int) + 1)) none)) n_e_b _ _ h_e_p
      replace h_e_v := same_new (o := .lst (cutV (xs.map fun x => V.ref x.1) (some ((q : Int) + 1)) none)) n_e_b _ _ h_e_v
      replace h_e_a := same_new (o := .lst (cutV (xs.map fun x => V.ref x.1) (some ((q : Int) + 1)) none)) n_e_b _ _ h_e_a
      replace sx := sx.trans (sameX_of (same_new (o := .lst (cutV (xs.map fun x => V.ref x.1) (some ((q : Int) + 1)) none)) n_e_b))
      replace sm := sm.trans (same_new (o := .lst (cutV (xs.map fun x => V.ref x.1) (some ((q : Int) + 1)) none)) n_e_b)
      generalize upd C6 e_b (.lst (cutV (xs.map fun x => V.ref x.1) (some ((q : Int) + 1)) none)) = A7_b at hdd hLL h_e_t h_e_o h_e_p h_e_v h_e_a h_e_b sx sm ⊢
      have l2 : (cutV (xs.map fun x => V.ref x.1) (some ((q : Int) + 1)) none).length ≤ 6 := Nat.le_trans (cutV_length ..) (by rw [List.length_map]; omega)
      refine ⟨e_a, e_b, _, _, rfl, rfl, h_e_a, h_e_b, Nat.le_trans (show ((cutV (xs.map fun x => V.ref x.1) none (some (q : Int))) ++ ([v])).length + (cutV (xs.map fun x => V.ref x.1) (some ((q : Int) + 1)) none).length ≤ 100 by simp only [List.length_append, List.length_singleton]; omega) (by decide), ?_⟩
      intro e_z n_e_z
      have nd_e_z : e_z ≠ d := (ne_of_none hdd n_e_z).symm
      have h_e_z : (upd A7_b e_z (.lst (((cutV (xs.map fun x => V.ref x.1) none (some (q : Int))) ++ ([v])) ++ (cutV (xs.map fun x => V.ref x.1) (some ((q : Int) + 1)) none)))) e_z = some (.lst (((cutV (xs.map fun x => V.ref x.1) none (some (q : Int))) ++ ([v])) ++ (cutV (xs.map fun x => V.ref x.1) (some ((q : Int) + 1)) none))) := upd_same
      replace hdd := same_new (o := .lst (((cutV (xs.map fun x => V.ref x.1) none (some (q : Int))) ++ ([v])) ++ (cutV (xs.map fun x => V.ref x.1) (some ((q : Int) + 1)) none))) n_e_z _ _ hdd
      replace hLL := same_new (o := .lst (((cutV (xs.map fun x => V.ref x.1) none (some (q : Int))) ++ ([v])) ++ (cutV (xs.map fun x => V.ref x.1) (some ((q : Int) + 1)) none))) n_e_z _ _ hLL
      replace h_e_t := same_new (o := .lst (((cutV (xs.map fun x => V.ref x.1) none (some (q : Int))) ++ ([v])) ++ (cutV (xs.map fun x => V.ref x.1) (some ((q : Int) + 1)) none))) n_e_z _ _ h_e_t
      replace h_e_o := same_new (o := .lst (((cutV (xs.map fun x => V.ref x.1) none (some (q : Int))) ++ ([v])) ++ (cutV (xs.map fun x => V.ref x.1) (some ((q : Int) + 1)) none))) n_e_z _ _ h_e_o
      replace h_e_p := same_new (o := .lst (((cutV (xs.map fun x => V.ref x.1) none (some (q : Int))) ++ ([v])) ++ (cutV (xs.map fun x => V.ref x.1) (some ((q : Int) + 1)) none))) n_e_z _ _ h_e_p
      replace h_e_v := same_new (o := .lst (((cutV (xs.map fun x => V.ref x.1) none (some (q : Int))) ++ ([v])) ++ (cutV (xs.map fun x => V.ref x.1) (some ((q : Int) + 1)) none))) n_e_z _ _ h_e_v
      replace h_e_a := same_new (o := .lst (((cutV (xs.map fun x => V.ref x.1) none (some (q : Int))) ++ ([v])) ++ (cutV (xs.map fun x => V.ref x.1) (some ((q : Int) + 1)) none))) n_e_z _ _ h_e_a
      replace h_e_b := same_new (o := .lst (((cutV (xs.map fun x => V.ref x.1) none (some (q : Int))) ++ ([v])) ++ (cutV (xs.map fun x => V.ref x.1) (some ((q : Int) + 1)) none))) n_e_z _ _ h_e_b
      replace sx := sx.trans (sameX_of (same_new (o := .lst (((cutV (xs.map fun x => V.ref x.1) none (some (q : Int))) ++ ([v])) ++ (cutV (xs.map fun x => V.ref x.1) (some ((q : Int) + 1)) none))) n_e_z))
      replace sm := sm.trans (same_new (o := .lst (((cutV (xs.map fun x => V.ref x.1) none (some (q : Int))) ++ ([v])) ++ (cutV (xs.map fun x => V.ref x.1) (some ((q : Int) + 1)) none))) n_e_z)
      generalize upd A7_b e_z (.lst (((cutV (xs.map fun x => V.ref x.1) none (some (q : Int))) ++ ([v])) ++ (cutV (xs.map fun x => V.ref x.1) (some ((q : Int) + 1)) none))) = C8 at hdd hLL h_e_t h_e_o h_e_p h_e_v h_e_a h_e_b h_e_z sx sm ⊢
      have hlen : ((((cutV (xs.map fun x => V.ref x.1) none (some (q : Int))) ++ ([v])) ++ (cutV (xs.map fun x => V.ref x.1) (some ((q : Int) + 1)) none)) : List V).length = xs.length := by
        rw [show ((q : Int) + 1) = ((q + 1 : Nat) : Int) from rfl, cutV_upto (by rw [List.length_map]; omega), cutV_from (by rw [List.length_map]; omega)]
        simp only [List.length_append, List.length_take, List.length_drop, List.length_map, List.length_singleton]
        omega
      refine k _ _ m3 sx hdd (.elem h_e_z (by rw [hlen]; exact x1) (by rw [hlen]; omega) (fun u hu => ?_) ⟨v, List.mem_append_left _ (List.mem_append_right _ List.mem_cons_self), vb' _ sm⟩) (.lst h_e_z (slf_mid (slf_cut xs _ _) (vb' _ sm).slf (slf_cut xs _ _)))
      have old : ∀ u ∈ (xs.map fun x => V.ref x.1), IsPl K C8 u := fun u hu => by
        obtain ⟨x, hx, rfl⟩ := List.mem_map.mp hu
        exact .of (hpx sx x hx)
      rcases List.mem_append.mp hu with hu | hu
      · rcases List.mem_append.mp hu with hu | hu
        · exact .inl (old u (cutV_mem hu))
        · rw [List.mem_singleton] at hu
          rw [hu]
          exact .inr (vb' _ sm)
      · exact .inl (old u (cutV_mem hu))
    refine ⟨_, rfl, _, rfl, _, rfl, L, _, rfl, SqL.of hLL, fun e_p n_e_p => ?_⟩
    have nd_e_p : e_p ≠ d := (ne_of_none hdd n_e_p).symm
    have h_e_p : (upd H2 e_p (.lst (cutV (xs.map fun x => V.ref x.1) none (some (q : Int))))) e_p = some (.lst (cutV (xs.map fun x => V.ref x.1) none (some (q : Int)))) := upd_same
    replace hdd := same_new (o := .lst (cutV (xs.map fun x => V.ref x.1) none (some (q : Int)))) n_e_p _ _ hdd
    replace hLL := same_new (o := .lst (cutV (xs.map fun x => V.ref x.1) none (some (q : Int)))) n_e_p _ _ hLL
    replace sx := sx.trans (sameX_of (same_new (o := .lst (cutV (xs.map fun x => V.ref x.1) none (some (q : Int)))) n_e_p))
    generalize upd H2 e_p (.lst (cutV (xs.map fun x => V.ref x.1) none (some (q : Int)))) = A1_p at hdd hLL h_e_p sx ⊢
    refine ⟨_, rfl, _, rfl, _, rfl, L, _, rfl, .inl (SqL.of hLL), d, m2, _, rfl, hdd, by rw [List.length_map]; omega, by rw [List.length_map]; omega, fun tk m3 tk0 tk1 => ?_⟩
    replace hLL : (upd A1_p d (.lst [.int m3])) L = _ := (upd_ne nLd).trans hLL
    replace h_e_p : (upd A1_p d (.lst [.int m3])) e_p = _ := (upd_ne nd_e_p).trans h_e_p
    replace hdd : (upd A1_p d (.lst [.int m3])) d = some (.lst [.int m3]) := upd_same
    replace sx : SameX d H (upd A1_p d (.lst [.int m3])) := sx.trans SameX.upd
    generalize upd A1_p d (.lst [.int m3]) = T2 at hdd hLL h_e_p sx ⊢
    rw [List.length_map] at tk1
    obtain ⟨j, rfl⟩ : ∃ j : Nat, tk = (j : Int) := ⟨tk.toNat, by omega⟩
    obtain ⟨yj, hyj⟩ : ∃ y, xs[j]? = some y := ⟨_, List.getElem?_eq_getElem (by omega)⟩
    have hatj : atI (xs.map fun x => V.ref x.1) (j : Int) = some (.ref yj.1) := atI_nat (by rw [List.getElem?_map, hyj]; rfl)
    obtain ⟨dj, ej⟩ := hpx sx yj (List.mem_of_getElem? hyj)
    have hzj : yj.2.2.z ∈ zsOf xs := List.mem_map_of_mem (List.mem_of_getElem? hyj)
    obtain ⟨nm1, nm2⟩ := hnm _ hzj
    refine ⟨L, _, (j : Int), .ref yj.1, rfl, rfl, SqL.of hLL, hatj, yj.1, _, dj, _, _, rfl, ej, T.c_Place, T.nN, plf_name .., rfl, rfl, fun pn dx np ndx ne => ⟨pn, dx, _, _, _, _, rfl, upd_same, .inr ⟨yj.2.2.z, 1, 6, true, ⟨rfl, Nat.le_trans nm2 (by decide), nm1, rfl, by decide, by decide, by decide, .inl rfl, rfl⟩, fun H4 s4 => ⟨rfl, ?_⟩⟩⟩⟩
    have sm : Same T2 (upd H4 pn (.ins (CP K) dx (plf yj.2.2.z 1 6 true))) := fun b' u e => by
      rw [upd_ne (ne_of_none e np)]
      exact s4 _ _ (same_make np ndx _ _ e)
    have hpn : PlE K (upd H4 pn (.ins (CP K) dx (plf yj.2.2.z 1 6 true))) (pn, pn, ⟨yj.2.2.z, 1, 6, true, []⟩) := ⟨dx, upd_same⟩
    generalize upd H4 pn (.ins (CP K) dx (plf yj.2.2.z 1 6 true)) = HB0 at sm hpn ⊢
    replace hdd := sm _ _ hdd
    replace hLL := sm _ _ hLL
    replace h_e_p := sm _ _ h_e_p
    replace sx := sx.trans (sameX_of sm)
    clear ej sm
    obtain ⟨HB, hHB⟩ : ∃ HB, HB = HB0 := ⟨_, rfl⟩
    have vb' : ∀ H', Same HB H' → PlE K H' (pn, pn, ⟨yj.2.2.z, 1, 6, true, []⟩) := fun H' s => by rw [hHB] at s; exact hpn.ext s
    rw [← hHB] at hdd hLL h_e_p sx ⊢
    have sm : Same HB HB := Same.refl _
    clear hHB hpn
    refine ⟨(by show 1 ≤ sizeLine; decide), fun e_v n_e_v => ?_⟩
    have nd_e_v : e_v ≠ d := (ne_of_none hdd n_e_v).symm
    have h_e_v : (upd HB e_v (.lst [.ref pn])) e_v = some (.lst [.ref pn]) := upd_same
    replace hdd := same_new (o := .lst [.ref pn]) n_e_v _ _ hdd
    replace hLL := same_new (o := .lst [.ref pn]) n_e_v _ _ hLL
    replace h_e_p := same_new (o := .lst [.ref pn]) n_e_v _ _ h_e_p
    replace sx := sx.trans (sameX_of (same_new (o := .lst [.ref pn]) n_e_v))
    replace sm := sm.trans (same_new (o := .lst [.ref pn]) n_e_v)
    generalize upd HB e_v (.lst [.ref pn]) = A3_v at hdd hLL h_e_p h_e_v sx sm ⊢
    have l1 : (cutV (xs.map fun x => V.ref x.1) none (some (q : Int))).length ≤ 6 := Nat.le_trans (cutV_length ..) (by rw [List.length_map]; omega)
    refine ⟨e_p, e_v, _, _, rfl, rfl, h_e_p, h_e_v, Nat.le_trans (show (cutV (xs.map fun x => V.ref x.1) none (some (q : Int))).length + ([V.ref pn] : List V).length ≤ 100 by simp only [List.length_append, List.length_singleton]; omega) (by decide), ?_⟩
    intro e_a n_e_a
    have nd_e_a : e_a ≠ d := (ne_of_none hdd n_e_a).symm
    have h_e_a : (upd A3_v e_a (.lst ((cutV (xs.map fun x => V.ref x.1) none (some (q : Int))) ++ ([V.ref pn])))) e_a = some (.lst ((cutV (xs.map fun x => V.ref x.1) none (some (q : Int))) ++ ([V.ref pn]))) := upd_same
    replace hdd := same_new (o := .lst ((cutV (xs.map fun x => V.ref x.1) none (some (q : Int))) ++ ([V.ref pn]))) n_e_a _ _ hdd
    replace hLL := same_new (o := .lst ((cutV (xs.map fun x => V.ref x.1) none (some (q : Int))) ++ ([V.ref pn]))) n_e_a _ _ hLL
    replace h_e_p := same_new (o := .lst ((cutV (xs.map fun x => V.ref x.1) none (some (q : Int))) ++ ([V.ref pn]))) n_e_a _ _ h_e_p
    replace h_e_v := same_new (o := .lst ((cutV (xs.map fun x => V.ref x.1) none (some (q : Int))) ++ ([V.ref pn]))) n_e_a _ _ h_e_v
    replace sx := sx.trans (sameX_of (same_new (o := .lst ((cutV (xs.map fun x => V.ref x.1) none (some (q : Int))) ++ ([V.ref pn]))) n_e_a))
    replace sm := sm.trans (same_new (o := .lst ((cutV (xs.map fun x => V.ref x.1) none (some (q : Int))) ++ ([V.ref pn]))) n_e_a)
    generalize upd A3_v e_a (.lst ((cutV (xs.map fun x => V.ref x.1) none (some (q : Int))) ++ ([V.ref pn]))) = C4 at hdd hLL h_e_p h_e_v h_e_a sx sm ⊢
    refine ⟨_, rfl, _, rfl, _, rfl, L, _, rfl, SqL.of hLL, fun e_b n_e_b => ?_⟩
    have nd_e_b : e_b ≠ d := (ne_of_none hdd n_e_b).symm
    have h_e_b : (upd C4 e_b (.lst (cutV (xs.map fun x => V.ref x.1) (some (q : Int)) none))) e_b = some (.lst (cutV (xs.map fun x => V.ref x.1) (some (q : Int)) none)) := upd_same
    replace hdd := same_new (o := .lst (cutV (xs.map fun x => V.ref x.1) (some (q : Int)) none)) n_e_b _ _ hdd
    replace hLL := same_new (o := .lst (cutV (xs.map fun x => V.ref x.1) (some (q : Int)) none)) n_e_b _ _ hLL
    replace h_e_p := same_new (o := .lst (cutV (xs.map fun x => V.ref x.1) (some (q : Int)) none)) n_e_b _ _ h_e_p
    replace h_e_v := same_new (o := .lst (cutV (xs.map fun x => V.ref x.1) (some (q : Int)) none)) n_e_b _ _ h_e_v
    replace h_e_a := same_new (o := .lst (cutV (xs.map fun x => V.ref x.1) (some (q : Int)) none)) n_e_b _ _ h_e_a
    replace sx := sx.trans (sameX_of (same_new (o := .lst (cutV (xs.map fun x => V.ref x.1) (some (q : Int)) none)) n_e_b))
    replace sm := sm.trans (same_new (o := .lst (cutV (xs.map fun x => V.ref x.1) (some (q : Int)) none)) n_e_b)
    generalize upd C4 e_b (.lst (cutV (xs.map fun x => V.ref x.1) (some (q : Int)) none)) = A5_b at hdd hLL h_e_p h_e_v h_e_a h_e_b sx sm ⊢
    have l2 : (cutV (xs.map fun x => V.ref x.1) (some (q : Int)) none).length ≤ 6 := Nat.le_trans (cutV_length ..) (by rw [List.length_map]; omega)
    refine ⟨e_a, e_b, _, _, rfl, rfl, h_e_a, h_e_b, Nat.le_trans (show ((cutV (xs.map fun x => V.ref x.1) none (some (q : Int))) ++ ([V.ref pn])).length + (cutV (xs.map fun x => V.ref x.1) (some (q : Int)) none).length ≤ 100 by simp only [List.length_append, List.length_singleton]; omega) (by decide), ?_⟩
    intro e_z n_e_z
    have nd_e_z : e_z ≠ d := (ne_of_none hdd n_e_z).symm
    have h_e_z : (upd A5_b e_z (.lst (((cutV (xs.map fun x => V.ref x.1) none (some (q : Int))) ++ ([V.ref pn])) ++ (cutV (xs.map fun x => V.ref x.1) (some (q : Int)) none)))) e_z = some (.lst (((cutV (xs.map fun x => V.ref x.1) none (some (q : Int))) ++ ([V.ref pn])) ++ (cutV (xs.map fun x => V.ref x.1) (some (q : Int)) none))) := upd_same
    replace hdd := same_new (o := .lst (((cutV (xs.map fun x => V.ref x.1) none (some (q : Int))) ++ ([V.ref pn])) ++ (cutV (xs.map fun x => V.ref x.1) (some (q : Int)) none))) n_e_z _ _ hdd
    replace hLL := same_new (o := .lst (((cutV (xs.map fun x => V.ref x.1) none (some (q : Int))) ++ ([V.ref pn])) ++ (cutV (xs.map fun x => V.ref x.1) (some (q : Int)) none))) n_e_z _ _ hLL
    replace h_e_p := same_new (o := .lst (((cutV (xs.map fun x => V.ref x.1) none (some (q : Int))) ++ ([V.ref pn])) ++ (cutV (xs.map fun x => V.ref x.1) (some (q : Int)) none))) n_e_z _ _ h_e_p
    replace h_e_v := same_new (o := .lst (((cutV (xs.map fun x => V.ref x.1) none (some (q : Int))) ++ ([V.ref pn])) ++ (cutV (xs.map fun x => V.ref x.1) (some (q : Int)) none))) n_e_z _ _ h_e_v
    replace h_e_a := same_new (o := .lst (((cutV (xs.map fun x => V.ref x.1) none (some (q : Int))) ++ ([V.ref pn])) ++ (cutV (xs.map fun x => V.ref x.1) (some (q : Int)) none))) n_e_z _ _ h_e_a
    replace h_e_b := same_new (o := .lst (((cutV (xs.map fun x => V.ref x.1) none (some (q : Int))) ++ ([V.ref pn])) ++ (cutV (xs.map fun x => V.ref x.1) (some (q : Int)) none))) n_e_z _ _ h_e_b
    replace sx := sx.trans (sameX_of (same_new (o := .lst (((cutV (xs.map fun x => V.ref x.1) none (some (q : Int))) ++ ([V.ref pn])) ++ (cutV (xs.map fun x => V.ref x.1) (some (q : Int)) none))) n_e_z))
    replace sm := sm.trans (same_new (o := .lst (((cutV (xs.map fun x => V.ref x.1) none (some (q : Int))) ++ ([V.ref pn])) ++ (cutV (xs.map fun x => V.ref x.1) (some (q : Int)) none))) n_e_z)
    generalize upd A5_b e_z (.lst (((cutV (xs.map fun x => V.ref x.1) none (some (q : Int))) ++ ([V.ref pn])) ++ (cutV (xs.map fun x => V.ref x.1) (some (q : Int)) none))) = C6 at hdd hLL h_e_p h_e_v h_e_a h_e_b h_e_z sx sm ⊢
    have hz : (((cutV (xs.map fun x => V.ref x.1) none (some (q : Int))) ++ ([V.ref pn])) ++ (cutV (xs.map fun x => V.ref x.1) (some (q : Int)) none) : List V) = ((xs.take q ++ [(pn, pn, ⟨yj.2.2.z, 1, 6, true, []⟩)] ++ xs.drop q : List PgE).map fun x => V.ref x.1) := by
      rw [cutV_upto (by rw [List.length_map]; omega), cutV_from (by rw [List.length_map]; omega), List.map_append, List.map_append, List.map_take, List.map_drop]
      rfl
    rw [hz] at h_e_z
    have hl : (xs.take q ++ [((pn, pn, ⟨yj.2.2.z, 1, 6, true, []⟩) : PgE)] ++ xs.drop q).length = xs.length + 1 := by
      simp only [List.length_append, List.length_take, List.length_drop, List.length_singleton]
      omega
    by_cases h6 : xs.length = 6
    · exact k _ _ m3 sx hdd (.len h_e_z (.inr (by rw [List.length_map, hl]; omega))) (.lst h_e_z slf_refs)
    refine k _ _ m3 sx hdd (.twin h_e_z (fun x hx => ?_) (by rw [hl]; omega) (by rw [hl]; omega) fun hn => ?_) (.lst h_e_z slf_refs)
    · rcases List.mem_append.mp hx with hx | hx
      · rcases List.mem_append.mp hx with hx | hx
        · exact hpx sx x (List.mem_of_mem_take hx)
        · rw [List.mem_singleton] at hx
          rw [hx]
          exact vb' _ sm
      · exact hpx sx x (List.mem_of_mem_drop hx)
    · have e : zsOf (xs.take q ++ [((pn, pn, ⟨yj.2.2.z, 1, 6, true, []⟩) : PgE)] ++ xs.drop q) = (zsOf xs).take q ++ [yj.2.2.z] ++ (zsOf xs).drop q := by
        unfold zsOf
        rw [List.map_append, List.map_append, List.map_take, List.map_drop]
        rfl
      rw [e, List.append_assoc] at hn
      have hp2 := List.perm_middle (a := yj.2.2.z) (l₁ := (zsOf xs).take q) (l₂ := (zsOf xs).drop q)
      rw [List.take_append_drop] at hp2
      exact (List.nodup_cons.mp (hp2.nodup_iff.mp hn)).1 hzj
end
end K7

set_option Elab.async false
set_option linter.all false
set_option pp.deepTerms.threshold 14
set_option pp.maxSteps 2500
set_option maxRecDepth 100000
set_option maxHeartbeats 2000000
namespace K7
open PySem PySem.Spec PyProof.Rows L2 Vf
section
variable {P : Program} {w : World} {K : PySem.W.Frag} {mg : Str → Option Value} {base : Heap}
/-- all but these two are as they were; nothing that stands at them is a tuple -/
def Sm2 (d e : Addr) (H H' : Hp) : Prop := ∀ b o, b ≠ d → b ≠ e → H b = some o → H' b = some o
theorem Sm2.trans {d e : Addr} {H H1 H2 : Hp} (a : Sm2 d e H H1) (b : Sm2 d e H1 H2) : Sm2 d e H H2 := fun c o n m h => b c o n m (a c o n m h)
theorem sm2_of {d e : Addr} {H H' : Hp} (s : Same H H') : Sm2 d e H H' := fun b o _ _ h => s b o h
theorem sm2_d {d e : Addr} {H : Hp} {o : HO} : Sm2 d e H (upd H d o) := fun b u n _ h => by rw [upd_ne n]; exact h
theorem sm2_e {d e : Addr} {H : Hp} {o : HO} : Sm2 d e H (upd H e o) := fun b u _ n h => by rw [upd_ne n]; exact h
theorem kvN_len (ys : List PgE) : (kvN ys).length = (zsOf ys).length := by
  unfold kvN zsOf
  rw [List.length_map, List.length_map]
theorem kvN_val {ys : List PgE} (nd : (zsOf ys).Nodup) {z : Str} (hz : z ∈ zsOf ys) : ∃ y ∈ ys, y.2.2.z = z ∧ valV (kvN ys) (Sum.inr z) = some (.ref y.2.1) := by
  obtain ⟨y, hy, e⟩ := List.mem_map.mp hz
  obtain ⟨i, hi⟩ := List.mem_iff_getElem?.mp hy
  subst e
  exact ⟨y, hy, rfl, val_row (f := fun y => V.ref y.2.1) nd hi⟩
theorem putK_same {kvs : List (Key × V)} {k : Key} {v : V} (h : (valV kvs k).isSome = true) : (putK kvs k v).length = kvs.length := by
  unfold putK
  rw [← valV_any] at h
  rw [if_pos h, List.length_map]
theorem dropK_lt {kvs : List (Key × V)} {k : Key} (h : (valV kvs k).isSome = true) : (dropK kvs k).length < kvs.length := by
  rw [← valV_any] at h
  obtain ⟨p, hp, e⟩ := List.any_eq_true.mp h
  unfold dropK
  refine List.length_filter_lt_length_iff_exists.mpr ⟨p, hp, ?_⟩
  simpa using of_decide_eq_true e
/-- one value of the dict is bad, the rest are right -/
theorem nx_put {H : Hp} {N : Addr} {ys : List PgE} {w : Str} {u : V} (nd : (zsOf ys).Nodup) (hw : w ∈ zsOf ys) (ho : ∀ y ∈ ys, ChOk H (zsOf ys) (.ref y.2.1)) (hN : H N = some (.dK (putK (kvN ys) (Sum.inr w) u))) (hu : ChBad H (zsOf ys) u) : NxBad H (zsOf ys) (.ref N) := by
  have hk : (valV (kvN ys) (Sum.inr w)).isSome = true := by
    obtain ⟨y, _, _, e⟩ := kvN_val nd hw
    rw [e]
    rfl
  refine .val hN (by rw [putK_same hk, kvN_len]) (fun z hz => ?_) ⟨w, hw, u, by rw [valV_put, if_pos rfl], hu⟩
  rw [valV_put]
  by_cases e : (Sum.inr z : Key) = Sum.inr w
  · rw [if_pos e]
    exact ⟨u, rfl, .inr hu⟩
  · rw [if_neg e]
    obtain ⟨y, hy, _, e2⟩ := kvN_val nd hz
    exact ⟨_, e2, .inl (ho y hy)⟩
theorem slf_strs {zs : List Str} : ∀ u ∈ zs.map V.str, Slf u := fun u hu => by
  obtain ⟨x, _, rfl⟩ := List.mem_map.mp hu
  exact True.intro
theorem kvN_slf {ys : List PgE} : ∀ p ∈ kvN ys, Slf p.2 := fun p hp => by
  obtain ⟨y, _, rfl⟩ := List.mem_map.mp hp
  exact True.intro
theorem kvN_nd {ys : List PgE} (h : (zsOf ys).Nodup) : ((kvN ys).map (·.1)).Nodup := by
  have e : (kvN ys).map (·.1) = (zsOf ys).map Sum.inr := by
    unfold kvN zsOf
    rw [List.map_map, List.map_map]
    rfl
  rw [e]
  exact List.pairwise_map.mpr (List.Pairwise.imp (fun ne e => ne (Sum.inr.inj e)) h)
theorem ChBad.slf {H : Hp} {zs : List Str} {u : V} (h : ChBad H zs u) : Slf u := by cases h <;> exact True.intro
theorem rSlA_take {K : PySem.W.Frag} {H : Hp} {a : Addr} {xs : List V} {q : Nat} {Q : VK} (h : H a = some (.tup xs)) (hq : q ≤ xs.length) (k : ∀ p H', Same H H' → H' p = some (.tup (xs.take q)) → Q (.ref p) H') : rSlA K (.ref a) none (some (q : Int)) H Q := by
  refine ⟨a, xs, rfl, SqT.of h, fun hw => k a H (Same.refl _) ?_, fun _ p np => k p _ (same_new np) (by rw [upd_same, cutV_upto hq])⟩
  have := hw.2
  rw [HT.sIx_nat] at this
  rw [List.take_of_length_le (by omega)]
  exact h
theorem rSlA_drop {K : PySem.W.Frag} {H : Hp} {a : Addr} {xs : List V} {q : Nat} {Q : VK} (h : H a = some (.tup xs)) (hq : q ≤ xs.length) (k : ∀ p H', Same H H' → H' p = some (.tup (xs.drop q)) → Q (.ref p) H') : rSlA K (.ref a) (some (q : Int)) none H Q := by
  refine ⟨a, xs, rfl, SqT.of h, fun hw => k a H (Same.refl _) ?_, fun _ p np => k p _ (same_new np) (by rw [upd_same, cutV_from hq])⟩
  have := hw.1
  rw [HT.sIx_nat] at this
  rw [show q = 0 by omega]
  exact h
theorem rCatA_any {K : PySem.W.Frag} {H : Hp} {a b : Addr} {xs ys : List V} {Q : VK} (ha : H a = some (.tup xs)) (hb : H b = some (.tup ys)) (hl : xs.length + ys.length ≤ sizeLine) (k : ∀ p H', Same H H' → H' p = some (.tup (xs ++ ys)) → Q (.ref p) H') : rCatA K (.ref a) (.ref b) H Q :=
  ⟨a, b, xs, ys, rfl, rfl, SqT.of ha, SqT.of hb, hl, fun e => k b H (Same.refl _) (by rw [e]; exact hb), fun _ e => k a H (Same.refl _) (by rw [e, List.append_nil]; exact ha), fun _ _ p np => k p _ (same_new np) upd_same⟩
theorem oddS_upd {H : Hp} {x : V} {N : Addr} {kvs kvs' : List (Key × V)} (o : OddS H x) (hN : H N = some (.dK kvs)) : OddS (upd H N (.dK kvs')) x := by
  have k : ∀ {a : Addr} {o : HO}, H a = some o → o ≠ .dK kvs → (upd H N (.dK kvs')) a = some o := fun ha n => by
    rw [upd_ne (ne_of ha hN n)]
    exact ha
  cases o with
  | bl b => exact .bl b
  | non => exact .non
  | int i => exact .int i
  | tup h => exact .tup (k h (by intro z; cases z))
  | lst h => exact .lst (k h (by intro z; cases z))
  | dic h =>
    rename_i a kvs2
    by_cases e : a = N
    · subst e
      exact .dic upd_same
    · exact .dic ((upd_ne e).trans h)
theorem chBad_upd {H : Hp} {zs : List Str} {v : V} {N : Addr} {kvs kvs' : List (Key × V)} (h : ChBad H zs v) (hN : H N = some (.dK kvs)) : ChBad (upd H N (.dK kvs')) zs v := by
  have k : ∀ {a : Addr} {o : HO}, H a = some o → o ≠ .dK kvs → (upd H N (.dK kvs')) a = some o := fun ha n => by
    rw [upd_ne (ne_of ha hN n)]
    exact ha
  cases h with
  | str z => exact .str z
  | non => exact .non
  | int i => exact .int i
  | lst h => exact .lst (k h (by intro z; cases z))
  | dic h =>
    rename_i a kvs2
    by_cases e : a = N
    · subst e
      exact .dic upd_same
    · exact .dic ((upd_ne e).trans h)
  | item h n l b =>
    refine .item (k h (by intro z; cases z)) (fun u hu => ?_) l ?_
    · rcases n u hu with z | o
      · exact .inl z
      · exact .inr (oddS_upd o hN)
    · obtain ⟨u, hu, q⟩ := b
      exact ⟨u, hu, q.imp id fun o => oddS_upd o hN⟩
  | twin h i l b => exact .twin (k h (by intro z; cases z)) i l b
abbrev s_law_bad_nexts : Stmt := top 33
theorem sc_law_bad_nexts : FnScope ["_law_draw", "_law_table", "_law_words", "_law_kind", "_law_word", "_law_row_here", "_law_at", "_law_bad"] ["_law_draw", "_law_table", "_law_words"] (defScope s_law_bad_nexts) := ⟨rfl, rfl, rfl, by decide +kernel, rfl, by decide +kernel, by decide +kernel⟩
-- slots: 0 _law_draw, 1 _law_table, 2 _law_words, 3 _law_kind, 4 _law_word, 5 _law_row_here, 6 _law_at, 7 _law_bad
def spBN (K : PySem.W.Frag) : Sp := fun vs H Q _ => ∃ (d N W : Addr) (m : Int) (ys : List PgE), vs = [.ref d, .ref N, .ref W] ∧ H d = some (.lst [.int m]) ∧ H N = some (.dK (kvN ys)) ∧ H W = some (.lst ((zsOf ys).map V.str)) ∧ (∀ y ∈ ys, H y.2.1 = some (.tup (y.2.2.ns.map V.str))) ∧ RowsOk ys ∧
  ∀ (H' : Hp) (y : V) (m' : Int), Sm2 d N H H' → H' d = some (.lst [.int m']) → NxBad H' (zsOf ys) y → Kd H' y → Q y H'
theorem ok_law_bad_nexts {fd : FuncData} (F : FnD K ("_law_bad_nexts", none) "_law_bad_nexts" "_law_bad_nexts" s_law_bad_nexts fd) (T : ETxt K mg) (O_law_take : OkF P w K mg base CX0 1 "_law_take" ["_law_draw", "_law_size"] spTake) : OkF P w K mg base CX0 6 "_law_bad_nexts" ["_law_draw", "_law_table", "_law_words"] (spBN K) := by
  refine okd F (F.ok sc_law_bad_nexts (fun vs H Q E h => ?_) fun cdv A outer s H vs Q E hr h => ?_) fun _ _ _ _ _ _ us hl => match us, hl with | [_, _, _], _ => rfl
  · obtain ⟨d, N, W, m, ys, rfl, _⟩ := h
    rfl
  · obtain ⟨d, N, W, m, ys, rfl, hd, hN, hW, hy, hok, k⟩ := h
    refine ⟨_, PSs.nox (pss_cons (ps_set (i := 3) sc_law_bad_nexts.nd rfl (Or.inl rfl) (c_fn O_law_take hr (by decide) T.g_law_take pass0 (pa_cons (pv 0) (pa_cons pe_int pa_nil))))
  (pss_cons (ps_set (i := 4) sc_law_bad_nexts.nd rfl (Or.inl rfl) (pe_ix ix_list (pv 2) (c_fn O_law_take hr (by decide) T.g_law_take pass0 (pa_cons (pv 0) (pa_cons (pe_callB (id := "len") call_len_seq (by rfl) T.z_len (by decide +kernel) (pa_cons (pv 2) pa_nil)) pa_nil))) (fun _ _ => rfl)))
  (pss_cons (ps_set (i := 5) sc_law_bad_nexts.nd rfl (Or.inl rfl) (pe_dget (hu_of hr) (pv 1) (pv 4) (fun _ _ => rfl)))
  (pss_cons (ps_set (i := 6) sc_law_bad_nexts.nd rfl (Or.inl rfl) (c_fn O_law_take hr (by decide) T.g_law_take pass0 (pa_cons (pv 0) (pa_cons (pe_op op_add (pe_callB (id := "len") call_len_seq (by rfl) T.z_len (by decide +kernel) (pa_cons (pv 5) pa_nil)) pe_int) pa_nil))))
  (pss_cons (ps_if (pt_cmpR op_eq (pv 3) pe_int (nomark _)) (pss_one (ps_ret (pe_ix ix_list (pe_lst (pa_cons pe_non (pa_cons (pe_lst pa_nil) (pa_cons pe_str (pa_cons (pe_callTy call_list_of (by rfl) T.z_list (by decide +kernel) (pa_cons (pv 2) pa_nil)) (pa_cons pe_int (pa_cons (pe_tup pa_nil) pa_nil))))))) (c_fn O_law_take hr (by decide) T.g_law_take pass0 (pa_cons (pv 0) (pa_cons pe_int pa_nil))) (fun _ _ => rfl))))
  pss_nil)
  (C8.pss_cut (ps_if (pt_cmpR op_eq (pv 3) pe_int (nomark _)) (pss_one (ps_expr (pe_dpop1 (pv 1) (pv 4) ⟨rfl, rfl, rfl, rfl⟩)))
  pss_nil)
  (C8.pss_cut (ps_if (pt_cmpR op_eq (pv 3) pe_int (nomark _)) (pss_one (ps_dput (hu_of hr) (pv 1) pe_str (pe_tup pa_nil) rfl))
  pss_nil)
  (C8.pss_cut (ps_if (pt_cmpR op_eq (pv 3) pe_int (nomark _)) (pss_one (ps_dput (hu_of hr) (pv 1) (pv 4) (pe_ix ix_list (pe_lst (pa_cons (pe_callTy call_list_of (by rfl) T.z_list (by decide +kernel) (pa_cons (pv 5) pa_nil)) (pa_cons pe_non (pa_cons (pv 4) (pa_cons pe_dnewK (pa_cons pe_int pa_nil)))))) (c_fn O_law_take hr (by decide) T.g_law_take pass0 (pa_cons (pv 0) (pa_cons pe_int pa_nil))) (fun _ _ => rfl)) rfl))
  pss_nil)
  (C8.pss_cut (ps_if (pt_cmpR op_eq (pv 3) pe_int (nomark _)) (pss_cons (ps_set (i := 7) sc_law_bad_nexts.nd rfl (Or.inl rfl) (pe_ix ix_list (pe_lst (pa_cons pe_str (pa_cons pe_non (pa_cons pe_int (pa_cons (pe_tup (pa_cons (pv 4) pa_nil)) (pa_cons (pe_lst (pa_cons (pv 4) pa_nil)) pa_nil)))))) (c_fn O_law_take hr (by decide) T.g_law_take pass0 (pa_cons (pv 0) (pa_cons pe_int pa_nil))) (fun _ _ => rfl)))
  (pss_one (ps_dput (hu_of hr) (pv 1) (pv 4) (pe_op op_catA (pe_op op_catA (pe_slice sl_tupA (pv 5) po_none (po_some (pv 6))) (pe_tup (pa_cons (pv 7) pa_nil))) (pe_slice sl_tupA (pv 5) (po_some (pv 6)) po_none)) rfl)))
  pss_nil)
  (C8.pss_cut (ps_if (pt_cmpR op_eq (pv 3) pe_int (nomark _)) (pss_one (ps_dput (hu_of hr) (pv 1) (pv 4) (pe_op op_catA (pe_op op_catA (pe_op op_catA (pe_slice sl_tupA (pv 5) po_none (po_some (pv 6))) (pe_tup (pa_cons (pv 4) pa_nil))) (pe_slice sl_tupA (pv 5) (po_some (pv 6)) po_none)) (pe_tup (pa_cons (pv 4) pa_nil))) rfl))
  pss_nil)
  (pss_one (ps_ret (pv 1))))))))))))), ?_⟩
    have l1 := hok.l1
    have l6 := hok.l6
    have hlz : (zsOf ys).length = ys.length := List.length_map ..
    have nNd : N ≠ d := ne_of hN hd (by intro z; cases z)
    have nWd : W ≠ d := fun e => by
      rw [e, hd] at hW
      cases hz : zsOf ys with
      | nil => rw [hz] at hW; cases hW
      | cons a l => rw [hz] at hW; cases hW
    have nWN : W ≠ N := ne_of hW hN (by intro z; cases z)
    have pers : ∀ {H' : Hp}, Sm2 d N H H' → ∀ y ∈ ys, H' y.2.1 = some (.tup (y.2.2.ns.map V.str)) := fun s y hm => s _ _ (ne_of (hy y hm) hd (by intro z; cases z)) (ne_of (hy y hm) hN (by intro z; cases z)) (hy y hm)
    have oks : ∀ {H' : Hp}, Sm2 d N H H' → ∀ y ∈ ys, ChOk H' (zsOf ys) (.ref y.2.1) := fun s y hm => by
      obtain ⟨h1, h2⟩ := hok.ns y hm
      refine ⟨y.2.1, y.2.2.ns, rfl, pers s y hm, h1, h2, ?_⟩
      have := nodup_le h2 h1
      omega
    refine ⟨_, rfl, d, m, 6, rfl, hd, by decide, by decide, fun kd m1 kd0 kd1 => ?_⟩
    have hd1 : (upd H d (.lst [.int m1])) d = some (.lst [.int m1]) := upd_same
    have sx1 : Sm2 d N H (upd H d (.lst [.int m1])) := sm2_d
    have hN1 : (upd H d (.lst [.int m1])) N = some (.dK (kvN ys)) := (upd_ne nNd).trans hN
    generalize upd H d (.lst [.int m1]) = H1 at hd1 sx1 hN1 ⊢
    refine ⟨_, rfl, _, rfl, _, rfl, W, _, rfl, .inl (SqL.of (sx1 _ _ nWd nWN hW)), d, m1, _, rfl, hd1, by rw [List.length_map]; omega, by rw [List.length_map]; omega, fun wi m2 w0 w1 => ?_⟩
    rw [List.length_map] at w1
    obtain ⟨wj, rfl⟩ : ∃ j : Nat, wi = (j : Int) := ⟨wi.toNat, by omega⟩
    have hd2 : (upd H1 d (.lst [.int m2])) d = some (.lst [.int m2]) := upd_same
    have sx2 : Sm2 d N H (upd H1 d (.lst [.int m2])) := sx1.trans sm2_d
    have hN2 : (upd H1 d (.lst [.int m2])) N = some (.dK (kvN ys)) := (upd_ne nNd).trans hN1
    generalize upd H1 d (.lst [.int m2]) = H2 at hd2 sx2 hN2 ⊢
    clear hd1 sx1 hN1 H1
    have hzw : (zsOf ys)[wj]? = some ((zsOf ys)[wj]'(by omega)) := List.getElem?_eq_getElem _
    generalize (zsOf ys)[wj]'(by omega) = w at hzw
    have hwm : w ∈ zsOf ys := List.mem_of_getElem? hzw
    obtain ⟨yr, hyr, hyz, hval⟩ := kvN_val hok.nd hwm
    refine ⟨W, _, (wj : Int), .str w, rfl, rfl, SqL.of (sx2 _ _ nWd nWN hW), atI_nat (by rw [List.getElem?_map, hzw]; rfl), ?_⟩
    refine ⟨_, rfl, _, rfl, N, _, rfl, dget_of hN2 hval, ?_⟩
    refine ⟨_, rfl, _, rfl, yr.2.1, _, rfl, .inr (SqT.of (pers sx2 yr hyr)), _, _, rfl, rfl, d, m2, _, rfl, hd2, by omega, by rw [List.length_map]; have := nodup_le (hok.ns yr hyr).2 (hok.ns yr hyr).1; omega, fun qi m3 q0 q1 => ?_⟩
    rw [List.length_map] at q1
    obtain ⟨q, rfl⟩ : ∃ q : Nat, qi = (q : Int) := ⟨qi.toNat, by omega⟩
    have hq : q ≤ yr.2.2.ns.length := by omega
    have hd3 : (upd H2 d (.lst [.int m3])) d = some (.lst [.int m3]) := upd_same
    have sx3 : Sm2 d N H (upd H2 d (.lst [.int m3])) := sx2.trans sm2_d
    have hN3 : (upd H2 d (.lst [.int m3])) N = some (.dK (kvN ys)) := (upd_ne nNd).trans hN2
    generalize upd H2 d (.lst [.int m3]) = H3 at hd3 sx3 hN3 ⊢
    clear hd2 sx2 hN2 H2 hzw w0 w1 q0 q1
    show gName 6 (.int (q : Int)) [some (.ref d), some (.ref N), some (.ref W), some (.int kd), some (.str w), some (.ref yr.2.1), none, none] H3 _
    refine ⟨_, rfl, rfl, _, rfl, ite2 (fun _ => ?_) fun hk0 => ?_⟩
    · skip
      have hdd := hd3
      have sx := sx3
      have hNN := hN3
      have hWW := sx3 _ _ nWd nWN hW
      refine ⟨(by show 0 ≤ sizeLine; decide), fun e_l n_e_l => ?_⟩
      have nd_e_l : e_l ≠ d := (ne_of_none hdd n_e_l).symm
      have h_e_l : (upd H3 e_l (.lst [])) e_l = some (.lst []) := upd_same
      replace hdd := same_new (o := .lst []) n_e_l _ _ hdd
      replace hNN := same_new (o := .lst []) n_e_l _ _ hNN
      replace hWW := same_new (o := .lst []) n_e_l _ _ hWW
      replace sx := sx.trans (sm2_of (same_new (o := .lst []) n_e_l))
      generalize upd H3 e_l (.lst []) = A1_l at hdd hNN hWW h_e_l sx ⊢
      refine ⟨_, rfl, W, _, rfl, .inl (SqL.of hWW), fun e_c n_e_c => ?_⟩
      have nd_e_c : e_c ≠ d := (ne_of_none hdd n_e_c).symm
      have h_e_c : (upd A1_l e_c (.lst ((zsOf ys).map V.str))) e_c = some (.lst ((zsOf ys).map V.str)) := upd_same
      replace hdd := same_new (o := .lst ((zsOf ys).map V.str)) n_e_c _ _ hdd
      replace hNN := same_new (o := .lst ((zsOf ys).map V.str)) n_e_c _ _ hNN
      replace hWW := same_new (o := .lst ((zsOf ys).map V.str)) n_e_c _ _ hWW
      replace h_e_l := same_new (o := .lst ((zsOf ys).map V.str)) n_e_c _ _ h_e_l
      replace sx := sx.trans (sm2_of (same_new (o := .lst ((zsOf ys).map V.str)) n_e_c))
      generalize upd A1_l e_c (.lst ((zsOf ys).map V.str)) = A2_c at hdd hNN hWW h_e_l h_e_c sx ⊢
      refine ⟨(by show 0 ≤ sizeLine; decide), fun e_t n_e_t => ?_⟩
      have nd_e_t : e_t ≠ d := (ne_of_none hdd n_e_t).symm
      have h_e_t : (upd A2_c e_t (.tup [])) e_t = some (.tup []) := upd_same
      replace hdd := same_new (o := .tup []) n_e_t _ _ hdd
      replace hNN := same_new (o := .tup []) n_e_t _ _ hNN
      replace hWW := same_new (o := .tup []) n_e_t _ _ hWW
      replace h_e_l := same_new (o := .tup []) n_e_t _ _ h_e_l
      replace h_e_c := same_new (o := .tup []) n_e_t _ _ h_e_c
      replace sx := sx.trans (sm2_of (same_new (o := .tup []) n_e_t))
      generalize upd A2_c e_t (.tup []) = A3_t at hdd hNN hWW h_e_l h_e_c h_e_t sx ⊢
      refine ⟨(by show 6 ≤ sizeLine; decide), fun e_o n_e_o => ?_⟩
      have nd_e_o : e_o ≠ d := (ne_of_none hdd n_e_o).symm
      have h_e_o : (upd A3_t e_o (.lst [.non, .ref e_l, .str "a", .ref e_c, .int 0, .ref e_t])) e_o = some (.lst [.non, .ref e_l, .str "a", .ref e_c, .int 0, .ref e_t]) := upd_same
      replace hdd := same_new (o := .lst [.non, .ref e_l, .str "a", .ref e_c, .int 0, .ref e_t]) n_e_o _ _ hdd
      replace hNN := same_new (o := .lst [.non, .ref e_l, .str "a", .ref e_c, .int 0, .ref e_t]) n_e_o _ _ hNN
      replace hWW := same_new (o := .lst [.non, .ref e_l, .str "a", .ref e_c, .int 0, .ref e_t]) n_e_o _ _ hWW
      replace h_e_l := same_new (o := .lst [.non, .ref e_l, .str "a", .ref e_c, .int 0, .ref e_t]) n_e_o _ _ h_e_l
      replace h_e_c := same_new (o := .lst [.non, .ref e_l, .str "a", .ref e_c, .int 0, .ref e_t]) n_e_o _ _ h_e_c
      replace h_e_t := same_new (o := .lst [.non, .ref e_l, .str "a", .ref e_c, .int 0, .ref e_t]) n_e_o _ _ h_e_t
      replace sx := sx.trans (sm2_of (same_new (o := .lst [.non, .ref e_l, .str "a", .ref e_c, .int 0, .ref e_t]) n_e_o))
      generalize upd A3_t e_o (.lst [.non, .ref e_l, .str "a", .ref e_c, .int 0, .ref e_t]) = A4_o at hdd hNN hWW h_e_l h_e_c h_e_t h_e_o sx ⊢
      refine ⟨_, rfl, d, m3, 6, rfl, hdd, by decide, by decide, fun tk m4 tk0 tk1 => ?_⟩
      replace hNN : (upd A4_o d (.lst [.int m4])) N = _ := (upd_ne nNd).trans hNN
      replace hWW : (upd A4_o d (.lst [.int m4])) W = _ := (upd_ne nWd).trans hWW
      replace h_e_l : (upd A4_o d (.lst [.int m4])) e_l = _ := (upd_ne nd_e_l).trans h_e_l
      replace h_e_c : (upd A4_o d (.lst [.int m4])) e_c = _ := (upd_ne nd_e_c).trans h_e_c
      replace h_e_t : (upd A4_o d (.lst [.int m4])) e_t = _ := (upd_ne nd_e_t).trans h_e_t
      replace h_e_o : (upd A4_o d (.lst [.int m4])) e_o = _ := (upd_ne nd_e_o).trans h_e_o
      replace hdd : (upd A4_o d (.lst [.int m4])) d = some (.lst [.int m4]) := upd_same
      replace sx : Sm2 d N H (upd A4_o d (.lst [.int m4])) := sx.trans sm2_d
      generalize upd A4_o d (.lst [.int m4]) = T5 at hdd hNN hWW h_e_l h_e_c h_e_t h_e_o sx ⊢
      have kk : ∀ x, NxBad T5 (zsOf ys) x → Kd T5 x → Q x T5 := fun x hx h2 => k _ x m4 sx hdd hx h2
      have h6 : tk = 0 ∨ tk = 1 ∨ tk = 2 ∨ tk = 3 ∨ tk = 4 ∨ tk = 5 := by omega
      rcases h6 with rfl | rfl | rfl | rfl | rfl | rfl
      · exact ⟨e_o, _, _, _, rfl, rfl, SqL.of h_e_o, atI_nat (j := 0) rfl, kk _ (.non) (.non)⟩
      · exact ⟨e_o, _, _, _, rfl, rfl, SqL.of h_e_o, atI_nat (j := 1) rfl, kk _ (.lst h_e_l) (.lst h_e_l (fun _ h => nomatch h))⟩
      · exact ⟨e_o, _, _, _, rfl, rfl, SqL.of h_e_o, atI_nat (j := 2) rfl, kk _ (.str _) (.str _)⟩
      · exact ⟨e_o, _, _, _, rfl, rfl, SqL.of h_e_o, atI_nat (j := 3) rfl, kk _ (.lst h_e_c) (.lst h_e_c slf_strs)⟩
      · exact ⟨e_o, _, _, _, rfl, rfl, SqL.of h_e_o, atI_nat (j := 4) rfl, kk _ (.int _) (.int _)⟩
      · exact ⟨e_o, _, _, _, rfl, rfl, SqL.of h_e_o, atI_nat (j := 5) rfl, kk _ (.tup h_e_t) (.tup h_e_t (fun _ h => nomatch h))⟩
    have kd0' : kd ≠ 0 := fun z => hk0 (decide_eq_true (congrArg V.int z))
    have hkk : (valV (kvN ys) (Sum.inr w)).isSome = true := by
      rw [hval]
      rfl
    have hkl : (kvN ys).length < sizeLine := by
      rw [kvN_len, hlz]
      exact Nat.lt_of_le_of_lt l6 (by decide)
    have hns := hok.ns yr hyr
    have hnl : yr.2.2.ns.length ≤ 6 := by
      have := nodup_le hns.2 hns.1
      omega
    have z9 : ("zzzzzzzzz" : Str) ∉ zsOf ys := fun hm => by
      obtain ⟨y, hy', e⟩ := List.mem_map.mp hm
      have h8 := (hok.kp y hy').2.1
      rw [e] at h8
      exact absurd h8 (by decide +kernel)
    clear hk0
    refine ⟨fun σ' H' => Sm2 d N H H' ∧ (∃ m' : Int, H' d = some (.lst [.int m'])) ∧ (kd ≤ 1 → NxBad H' (zsOf ys) (.ref N) ∧ Kd H' (.ref N)) ∧ (1 < kd → H' N = some (.dK (kvN ys))) ∧ ∃ v7 : Option V, σ' = [some (.ref d), some (.ref N), some (.ref W), some (.int kd), some (.str w), some (.ref yr.2.1), some (.int (q : Int)), v7], ?_, ?_⟩
    · refine ⟨_, rfl, rfl, _, rfl, ite2 (fun hc => ?_) fun hc => ?_⟩
      · have hdd := hd3
        have hNN := hN3
        have sx := sx3
        have e1 : kd = 1 := V.int.inj (of_decide_eq_true hc)
        refine ⟨_, rfl, N, rfl, .inl ⟨_, .inl hNN⟩, _, rfl, _, _, _, hNN, rfl, hval, ?_⟩
        refine ⟨sx.trans sm2_e, ⟨m3, (upd_ne nNd.symm).trans hdd⟩, fun _ => ⟨.len upd_same (fun e => ?_), .dic upd_same (fun p hp => kvN_slf p (List.mem_filter.mp hp).1) (kvN_nd hok.nd |>.sublist (List.Sublist.map _ (List.filter_sublist)))⟩, fun z => absurd z (by omega), none, rfl⟩
        have := dropK_lt hkk
        rw [kvN_len] at this
        omega
      · have ne : kd ≠ 1 := fun z => hc (decide_eq_true (congrArg V.int z))
        exact ⟨sx3, ⟨m3, hd3⟩, fun z => absurd z (by omega), fun _ => hN3, none, rfl⟩
    clear hd3 sx3 hN3 H3
    rintro σ' H3 ⟨sx, ⟨m3, hdd⟩, hbad, hgo, v7, rfl⟩
    refine ⟨fun σ' H' => Sm2 d N H H' ∧ (∃ m' : Int, H' d = some (.lst [.int m'])) ∧ (kd ≤ 2 → NxBad H' (zsOf ys) (.ref N) ∧ Kd H' (.ref N)) ∧ (2 < kd → H' N = some (.dK (kvN ys))) ∧ ∃ v7 : Option V, σ' = [some (.ref d), some (.ref N), some (.ref W), some (.int kd), some (.str w), some (.ref yr.2.1), some (.int (q : Int)), v7], ?_, ?_⟩
    · refine ⟨_, rfl, rfl, _, rfl, ite2 (fun hc => ?_) fun hc => ?_⟩
      · have e1 : kd = 2 := V.int.inj (of_decide_eq_true hc)
        have hNN := hgo (by omega)
        refine ⟨(by show 0 ≤ sizeLine; decide), fun e_t n_e_t => ?_⟩
        have nd_e_t : e_t ≠ d := (ne_of_none hdd n_e_t).symm
        have h_e_t : (upd H3 e_t (.tup [])) e_t = some (.tup []) := upd_same
        replace hdd := same_new (o := .tup []) n_e_t _ _ hdd
        replace hNN := same_new (o := .tup []) n_e_t _ _ hNN
        replace sx := sx.trans (sm2_of (same_new (o := .tup []) n_e_t))
        generalize upd H3 e_t (.tup []) = A1_t at hdd hNN h_e_t sx ⊢
        refine ⟨_, rfl, N, _, rfl, DPut.k (k := Sum.inr "zzzzzzzzz") hNN hkl, ?_⟩
        refine ⟨sx.trans sm2_e, ⟨m3, (upd_ne nNd.symm).trans hdd⟩, fun _ => ⟨.len upd_same ?_, .dic upd_same (putK_slf kvN_slf True.intro) (putK_nd (kvN_nd hok.nd))⟩, fun z => absurd z (by omega), v7, rfl⟩
        rw [putK_new (kvs := kvN ys) _ (val_miss (f := fun y => V.ref y.2.1) z9), List.length_append]
        show (kvN ys).length + 1 ≠ _
        rw [kvN_len]
        omega
      · have ne : kd ≠ 2 := fun z => hc (decide_eq_true (congrArg V.int z))
        exact ⟨sx, ⟨m3, hdd⟩, fun z => hbad (by omega), fun z => hgo (by omega), v7, rfl⟩
    clear sx hdd hbad hgo v7 m3 H3
    rintro σ' H3 ⟨sx, ⟨m3, hdd⟩, hbad, hgo, v7, rfl⟩
    refine ⟨fun σ' H' => Sm2 d N H H' ∧ (∃ m' : Int, H' d = some (.lst [.int m'])) ∧ (kd ≤ 3 → NxBad H' (zsOf ys) (.ref N) ∧ Kd H' (.ref N)) ∧ (3 < kd → H' N = some (.dK (kvN ys))) ∧ ∃ v7 : Option V, σ' = [some (.ref d), some (.ref N), some (.ref W), some (.int kd), some (.str w), some (.ref yr.2.1), some (.int (q : Int)), v7], ?_, ?_⟩
    · refine ⟨_, rfl, rfl, _, rfl, ite2 (fun hc => ?_) fun hc => ?_⟩
      · have e1 : kd = 3 := V.int.inj (of_decide_eq_true hc)
        have hNN := hgo (by omega)
        refine ⟨_, rfl, yr.2.1, _, rfl, .inr (SqT.of (pers sx yr hyr)), fun e_l n_e_l => ?_⟩
        have nd_e_l : e_l ≠ d := (ne_of_none hdd n_e_l).symm
        have h_e_l : (upd H3 e_l (.lst (yr.2.2.ns.map V.str))) e_l = some (.lst (yr.2.2.ns.map V.str)) := upd_same
        replace hdd := same_new (o := .lst (yr.2.2.ns.map V.str)) n_e_l _ _ hdd
        replace hNN := same_new (o := .lst (yr.2.2.ns.map V.str)) n_e_l _ _ hNN
        replace sx := sx.trans (sm2_of (same_new (o := .lst (yr.2.2.ns.map V.str)) n_e_l))
        generalize upd H3 e_l (.lst (yr.2.2.ns.map V.str)) = A1_l at hdd hNN h_e_l sx ⊢
        refine ⟨_, rfl, ?_⟩
        refine fun e_d n_e_d => ?_
        have nd_e_d : e_d ≠ d := (ne_of_none hdd n_e_d).symm
        have h_e_d : (upd A1_l e_d (.dK [])) e_d = some (.dK []) := upd_same
        replace hdd := same_new (o := .dK []) n_e_d _ _ hdd
        replace hNN := same_new (o := .dK []) n_e_d _ _ hNN
        replace h_e_l := same_new (o := .dK []) n_e_d _ _ h_e_l
        replace sx := sx.trans (sm2_of (same_new (o := .dK []) n_e_d))
        generalize upd A1_l e_d (.dK []) = A2_d at hdd hNN h_e_l h_e_d sx ⊢
        refine ⟨(by show 5 ≤ sizeLine; decide), fun e_o n_e_o => ?_⟩
        have nd_e_o : e_o ≠ d := (ne_of_none hdd n_e_o).symm
        have h_e_o : (upd A2_d e_o (.lst [.ref e_l, .non, .str w, .ref e_d, .int 1])) e_o = some (.lst [.ref e_l, .non, .str w, .ref e_d, .int 1]) := upd_same
        replace hdd := same_new (o := .lst [.ref e_l, .non, .str w, .ref e_d, .int 1]) n_e_o _ _ hdd
        replace hNN := same_new (o := .lst [.ref e_l, .non, .str w, .ref e_d, .int 1]) n_e_o _ _ hNN
        replace h_e_l := same_new (o := .lst [.ref e_l, .non, .str w, .ref e_d, .int 1]) n_e_o _ _ h_e_l
        replace h_e_d := same_new (o := .lst [.ref e_l, .non, .str w, .ref e_d, .int 1]) n_e_o _ _ h_e_d
        replace sx := sx.trans (sm2_of (same_new (o := .lst [.ref e_l, .non, .str w, .ref e_d, .int 1]) n_e_o))
        generalize upd A2_d e_o (.lst [.ref e_l, .non, .str w, .ref e_d, .int 1]) = A3_o at hdd hNN h_e_l h_e_d h_e_o sx ⊢
        refine ⟨_, rfl, d, m3, 5, rfl, hdd, by decide, by decide, fun tk m4 tk0 tk1 => ?_⟩
        replace hNN : (upd A3_o d (.lst [.int m4])) N = _ := (upd_ne nNd).trans hNN
        replace h_e_l : (upd A3_o d (.lst [.int m4])) e_l = _ := (upd_ne nd_e_l).trans h_e_l
        replace h_e_d : (upd A3_o d (.lst [.int m4])) e_d = _ := (upd_ne nd_e_d).trans h_e_d
        replace h_e_o : (upd A3_o d (.lst [.int m4])) e_o = _ := (upd_ne nd_e_o).trans h_e_o
        replace hdd : (upd A3_o d (.lst [.int m4])) d = some (.lst [.int m4]) := upd_same
        replace sx : Sm2 d N H (upd A3_o d (.lst [.int m4])) := sx.trans sm2_d
        generalize upd A3_o d (.lst [.int m4]) = T4 at hdd hNN h_e_l h_e_d h_e_o sx ⊢
        obtain ⟨v, hv, vb⟩ : ∃ v : V, atI ([V.ref e_l, .non, .str w, .ref e_d, .int 1] : List V) tk = some v ∧ ChBad T4 (zsOf ys) v := by
          have h6 : tk = 0 ∨ tk = 1 ∨ tk = 2 ∨ tk = 3 ∨ tk = 4 := by omega
          rcases h6 with rfl | rfl | rfl | rfl | rfl
          · exact ⟨_, atI_nat (j := 0) rfl, .lst h_e_l⟩
          · exact ⟨_, atI_nat (j := 1) rfl, .non⟩
          · exact ⟨_, atI_nat (j := 2) rfl, .str _⟩
          · exact ⟨_, atI_nat (j := 3) rfl, .dic h_e_d⟩
          · exact ⟨_, atI_nat (j := 4) rfl, .int _⟩
        refine ⟨e_o, _, tk, v, rfl, rfl, SqL.of h_e_o, hv, ?_⟩
        replace vb := chBad_upd (kvs' := putK (kvN ys) (Sum.inr w) v) vb hNN
        refine ⟨_, rfl, _, rfl, N, _, rfl, DPut.k (k := Sum.inr w) hNN hkl, ?_⟩
        have sf := sx.trans (sm2_e (o := .dK (putK (kvN ys) (Sum.inr w) v)))
        refine ⟨sf, ⟨_, (upd_ne nNd.symm).trans hdd⟩, fun _ => ⟨nx_put hok.nd hwm (oks sf) upd_same (vb), .dic upd_same (putK_slf kvN_slf (vb).slf) (putK_nd (kvN_nd hok.nd))⟩, fun z => absurd z (by omega), v7, rfl⟩
      · have ne : kd ≠ 3 := fun z => hc (decide_eq_true (congrArg V.int z))
        exact ⟨sx, ⟨m3, hdd⟩, fun z => hbad (by omega), fun z => hgo (by omega), v7, rfl⟩
    clear sx hdd hbad hgo v7 m3 H3
    rintro σ' H3 ⟨sx, ⟨m3, hdd⟩, hbad, hgo, v7, rfl⟩
    refine ⟨fun σ' H' => Sm2 d N H H' ∧ (∃ m' : Int, H' d = some (.lst [.int m'])) ∧ (kd ≤ 4 → NxBad H' (zsOf ys) (.ref N) ∧ Kd H' (.ref N)) ∧ (4 < kd → H' N = some (.dK (kvN ys))) ∧ ∃ v7 : Option V, σ' = [some (.ref d), some (.ref N), some (.ref W), some (.int kd), some (.str w), some (.ref yr.2.1), some (.int (q : Int)), v7], ?_, ?_⟩
    · refine ⟨_, rfl, rfl, _, rfl, ite2 (fun hc => ?_) fun hc => ?_⟩
      · have e1 : kd = 4 := V.int.inj (of_decide_eq_true hc)
        have hNN := hgo (by omega)
        refine ⟨_, rfl, (by show 1 ≤ sizeLine; decide), fun e_t n_e_t => ?_⟩
        have nd_e_t : e_t ≠ d := (ne_of_none hdd n_e_t).symm
        have h_e_t : (upd H3 e_t (.tup [.str w])) e_t = some (.tup [.str w]) := upd_same
        replace hdd := same_new (o := .tup [.str w]) n_e_t _ _ hdd
        replace hNN := same_new (o := .tup [.str w]) n_e_t _ _ hNN
        replace sx := sx.trans (sm2_of (same_new (o := .tup [.str w]) n_e_t))
        generalize upd H3 e_t (.tup [.str w]) = A1_t at hdd hNN h_e_t sx ⊢
        refine ⟨_, rfl, (by show 1 ≤ sizeLine; decide), fun e_l n_e_l => ?_⟩
        have nd_e_l : e_l ≠ d := (ne_of_none hdd n_e_l).symm
        have h_e_l : (upd A1_t e_l (.lst [.str w])) e_l = some (.lst [.str w]) := upd_same
        replace hdd := same_new (o := .lst [.str w]) n_e_l _ _ hdd
        replace hNN := same_new (o := .lst [.str w]) n_e_l _ _ hNN
        replace h_e_t := same_new (o := .lst [.str w]) n_e_l _ _ h_e_t
        replace sx := sx.trans (sm2_of (same_new (o := .lst [.str w]) n_e_l))
        generalize upd A1_t e_l (.lst [.str w]) = A2_l at hdd hNN h_e_t h_e_l sx ⊢
        refine ⟨(by show 5 ≤ sizeLine; decide), fun e_o n_e_o => ?_⟩
        have nd_e_o : e_o ≠ d := (ne_of_none hdd n_e_o).symm
        have h_e_o : (upd A2_l e_o (.lst [.str "zzzzzzzzz", .non, .int 0, .ref e_t, .ref e_l])) e_o = some (.lst [.str "zzzzzzzzz", .non, .int 0, .ref e_t, .ref e_l]) := upd_same
        replace hdd := same_new (o := .lst [.str "zzzzzzzzz", .non, .int 0, .ref e_t, .ref e_l]) n_e_o _ _ hdd
        replace hNN := same_new (o := .lst [.str "zzzzzzzzz", .non, .int 0, .ref e_t, .ref e_l]) n_e_o _ _ hNN
        replace h_e_t := same_new (o := .lst [.str "zzzzzzzzz", .non, .int 0, .ref e_t, .ref e_l]) n_e_o _ _ h_e_t
        replace h_e_l := same_new (o := .lst [.str "zzzzzzzzz", .non, .int 0, .ref e_t, .ref e_l]) n_e_o _ _ h_e_l
        replace sx := sx.trans (sm2_of (same_new (o := .lst [.str "zzzzzzzzz", .non, .int 0, .ref e_t, .ref e_l]) n_e_o))
        generalize upd A2_l e_o (.lst [.str "zzzzzzzzz", .non, .int 0, .ref e_t, .ref e_l]) = A3_o at hdd hNN h_e_t h_e_l h_e_o sx ⊢
        refine ⟨_, rfl, d, m3, 5, rfl, hdd, by decide, by decide, fun tk m4 tk0 tk1 => ?_⟩
        replace hNN : (upd A3_o d (.lst [.int m4])) N = _ := (upd_ne nNd).trans hNN
        replace h_e_t : (upd A3_o d (.lst [.int m4])) e_t = _ := (upd_ne nd_e_t).trans h_e_t
        replace h_e_l : (upd A3_o d (.lst [.int m4])) e_l = _ := (upd_ne nd_e_l).trans h_e_l
        replace h_e_o : (upd A3_o d (.lst [.int m4])) e_o = _ := (upd_ne nd_e_o).trans h_e_o
        replace hdd : (upd A3_o d (.lst [.int m4])) d = some (.lst [.int m4]) := upd_same
        replace sx : Sm2 d N H (upd A3_o d (.lst [.int m4])) := sx.trans sm2_d
        generalize upd A3_o d (.lst [.int m4]) = T4 at hdd hNN h_e_t h_e_l h_e_o sx ⊢
        obtain ⟨v, hv, vb⟩ : ∃ v : V, atI ([V.str "zzzzzzzzz", .non, .int 0, .ref e_t, .ref e_l] : List V) tk = some v ∧ ((∃ z, v = .str z ∧ z ∉ zsOf ys) ∨ OddS T4 v) := by
          have h6 : tk = 0 ∨ tk = 1 ∨ tk = 2 ∨ tk = 3 ∨ tk = 4 := by omega
          rcases h6 with rfl | rfl | rfl | rfl | rfl
          · exact ⟨_, atI_nat (j := 0) rfl, .inl ⟨_, rfl, z9⟩⟩
          · exact ⟨_, atI_nat (j := 1) rfl, .inr .non⟩
          · exact ⟨_, atI_nat (j := 2) rfl, .inr (.int _)⟩
          · exact ⟨_, atI_nat (j := 3) rfl, .inr (.tup h_e_t)⟩
          · exact ⟨_, atI_nat (j := 4) rfl, .inr (.lst h_e_l)⟩
        refine ⟨e_o, _, tk, v, rfl, rfl, SqL.of h_e_o, hv, ?_⟩
        clear hv h_e_o h_e_t h_e_l
        obtain ⟨HB, hHB⟩ : ∃ HB, HB = T4 := ⟨_, rfl⟩
        rw [← hHB] at hdd hNN sx vb ⊢
        clear hHB
        have hrow := pers sx yr hyr
        refine ⟨_, rfl, _, rfl, _, rfl, rSlA_take hrow (by rw [List.length_map]; exact hq) fun p1 H5 s5 h5 => ?_⟩
        refine ⟨_, rfl, (by show 1 ≤ sizeLine; decide), fun e1' n1' => rCatA_any (same_new n1' _ _ h5) upd_same (Nat.le_trans (show _ ≤ 100 by simp only [List.length_take, List.length_map, List.length_singleton]; omega) (by decide)) fun p2 H6 s6 h6 => ?_⟩
        have s56 := s5.trans ((same_new (o := .tup [v]) n1').trans s6)
        refine ⟨_, rfl, _, rfl, _, rfl, ?_⟩
        unfold tNoPart
        refine rSlA_drop (s56 _ _ hrow) (by rw [List.length_map]; exact hq) fun p3 H7 s7 h7 => ?_
        refine rCatA_any (s7 _ _ h6) h7 (Nat.le_trans (show _ ≤ 100 by simp only [List.length_append, List.length_take, List.length_drop, List.length_map, List.length_singleton]; omega) (by decide)) fun p4 H8 s8 h8 => ?_
        have sz := s56.trans (s7.trans s8)
        have vb8 : (∃ z, v = .str z ∧ z ∉ zsOf ys) ∨ OddS H8 v := vb.imp id fun o => oddS_ext o sz
        have nine8 : ∀ u ∈ (yr.2.2.ns.map V.str).take q ++ [v] ++ (yr.2.2.ns.map V.str).drop q, Nine H8 u := fun u hu => by
          have st : ∀ u ∈ yr.2.2.ns.map V.str, Nine H8 u := fun u hu => by
            obtain ⟨z, _, rfl⟩ := List.mem_map.mp hu
            exact .inl ⟨z, rfl⟩
          rcases List.mem_append.mp hu with hu | hu
          · rcases List.mem_append.mp hu with hu | hu
            · exact st u (List.mem_of_mem_take hu)
            · rw [List.mem_singleton] at hu
              rw [hu]
              rcases vb8 with ⟨z, e, _⟩ | o
              · exact .inl ⟨z, e⟩
              · exact .inr o
          · exact st u (List.mem_of_mem_drop hu)
        have cb : ChBad H8 (zsOf ys) (.ref p4) := .item h8 nine8 (Nat.le_trans (Nat.le_of_eq (by simp only [List.length_append, List.length_take, List.length_drop, List.length_map, List.length_singleton]; rfl)) (show _ ≤ 100 by omega)) ⟨v, List.mem_append_left _ (List.mem_append_right _ List.mem_cons_self), vb8⟩
        replace sx := sx.trans (sm2_of sz)
        replace hNN := sz _ _ hNN
        replace hdd := sz _ _ hdd
        replace cb := chBad_upd (kvs' := putK (kvN ys) (Sum.inr w) (.ref p4)) cb hNN
        refine ⟨_, rfl, _, rfl, N, _, rfl, DPut.k (k := Sum.inr w) hNN hkl, ?_⟩
        have sf := sx.trans (sm2_e (o := .dK (putK (kvN ys) (Sum.inr w) (.ref p4))))
        refine ⟨sf, ⟨_, (upd_ne nNd.symm).trans hdd⟩, fun _ => ⟨nx_put hok.nd hwm (oks sf) upd_same (cb), .dic upd_same (putK_slf kvN_slf (cb).slf) (putK_nd (kvN_nd hok.nd))⟩, fun z => absurd z (by omega), some v, rfl⟩
      · have ne : kd ≠ 4 := fun z => hc (decide_eq_true (congrArg V.int z))
        exact ⟨sx, ⟨m3, hdd⟩, fun z => hbad (by omega), fun z => hgo (by omega), v7, rfl⟩
    clear sx hdd hbad hgo v7 m3 H3
    rintro σ' H3 ⟨sx, ⟨m3, hdd⟩, hbad, hgo, v7, rfl⟩
    refine ⟨fun σ' H' => Sm2 d N H H' ∧ (∃ m' : Int, H' d = some (.lst [.int m'])) ∧ (kd ≤ 5 → NxBad H' (zsOf ys) (.ref N) ∧ Kd H' (.ref N)) ∧ (5 < kd → H' N = some (.dK (kvN ys))) ∧ ∃ v7 : Option V, σ' = [some (.ref d), some (.ref N), some (.ref W), some (.int kd), some (.str w), some (.ref yr.2.1), some (.int (q : Int)), v7], ?_, ?_⟩
    · refine ⟨_, rfl, rfl, _, rfl, ite2 (fun hc => ?_) fun hc => ?_⟩
      · have e1 : kd = 5 := V.int.inj (of_decide_eq_true hc)
        have hNN := hgo (by omega)
        have hrow := pers sx yr hyr
        refine ⟨_, rfl, _, rfl, _, rfl, rSlA_take hrow (by rw [List.length_map]; exact hq) fun p1 H5 s5 h5 => ?_⟩
        refine ⟨_, rfl, (by show 1 ≤ sizeLine; decide), fun e1' n1' => rCatA_any (same_new n1' _ _ h5) upd_same (Nat.le_trans (show _ ≤ 100 by simp only [List.length_take, List.length_map, List.length_singleton]; omega) (by decide)) fun p2 H6 s6 h6 => ?_⟩
        have s56 := s5.trans ((same_new (o := .tup [.str w]) n1').trans s6)
        refine ⟨_, rfl, _, rfl, _, rfl, ?_⟩
        unfold tNoPart
        refine rSlA_drop (s56 _ _ hrow) (by rw [List.length_map]; exact hq) fun p3 H7 s7 h7 => ?_
        refine rCatA_any (s7 _ _ h6) h7 (Nat.le_trans (show _ ≤ 100 by simp only [List.length_append, List.length_take, List.length_drop, List.length_map, List.length_singleton]; omega) (by decide)) fun p4 H8 s8 h8 => ?_
        refine ⟨_, rfl, (by show 1 ≤ sizeLine; decide), fun e2' n2' => rCatA_any (same_new n2' _ _ h8) upd_same (Nat.le_trans (show _ ≤ 100 by simp only [List.length_append, List.length_take, List.length_drop, List.length_map, List.length_singleton]; omega) (by decide)) fun p5 H9 s9 h9 => ?_⟩
        have sz := s56.trans (s7.trans (s8.trans ((same_new (o := .tup [.str w]) n2').trans s9)))
        have hz : ((yr.2.2.ns.map V.str).take q ++ [V.str w] ++ (yr.2.2.ns.map V.str).drop q ++ [V.str w] : List V) = (yr.2.2.ns.take q ++ [w] ++ yr.2.2.ns.drop q ++ [w]).map V.str := by
          rw [List.map_append, List.map_append, List.map_append, List.map_take, List.map_drop]
          rfl
        rw [hz] at h9
        have sub9 : ∀ z ∈ yr.2.2.ns.take q ++ [w] ++ yr.2.2.ns.drop q ++ [w], z ∈ zsOf ys := fun z hz => by
          rcases List.mem_append.mp hz with hz | hz
          · rcases List.mem_append.mp hz with hz | hz
            · rcases List.mem_append.mp hz with hz | hz
              · exact hns.1 z (List.mem_of_mem_take hz)
              · rw [List.mem_singleton.mp hz]
                exact hwm
            · exact hns.1 z (List.mem_of_mem_drop hz)
          · rw [List.mem_singleton.mp hz]
            exact hwm
        have cb : ChBad H9 (zsOf ys) (.ref p5) := .twin h9 sub9 (Nat.le_trans (Nat.le_of_eq (by simp only [List.length_append, List.length_take, List.length_drop, List.length_singleton]; rfl)) (show _ ≤ 100 by omega)) fun hn => (List.nodup_append.mp hn).2.2 w (List.mem_append_left _ (List.mem_append_right _ List.mem_cons_self)) w List.mem_cons_self rfl
        replace sx := sx.trans (sm2_of sz)
        replace hNN := sz _ _ hNN
        replace hdd := sz _ _ hdd
        replace cb := chBad_upd (kvs' := putK (kvN ys) (Sum.inr w) (.ref p5)) cb hNN
        refine ⟨_, rfl, _, rfl, N, _, rfl, DPut.k (k := Sum.inr w) hNN hkl, ?_⟩
        have sf := sx.trans (sm2_e (o := .dK (putK (kvN ys) (Sum.inr w) (.ref p5))))
        refine ⟨sf, ⟨_, (upd_ne nNd.symm).trans hdd⟩, fun _ => ⟨nx_put hok.nd hwm (oks sf) upd_same (cb), .dic upd_same (putK_slf kvN_slf (cb).slf) (putK_nd (kvN_nd hok.nd))⟩, fun z => absurd z (by omega), v7, rfl⟩
      · have ne : kd ≠ 5 := fun z => hc (decide_eq_true (congrArg V.int z))
        exact ⟨sx, ⟨m3, hdd⟩, fun z => hbad (by omega), fun z => hgo (by omega), v7, rfl⟩
    clear sx hdd hbad hgo v7 m3 H3
    rintro σ' H3 ⟨sx, ⟨m3, hdd⟩, hbad, hgo, v7, rfl⟩
    exact ⟨_, rfl, k H3 (.ref N) m3 sx hdd (hbad (by omega)).1 (hbad (by omega)).2⟩
end
end K7

set_option Elab.async false
set_option linter.all false
set_option pp.deepTerms.threshold 14
set_option pp.maxSteps 2500
set_option maxRecDepth 100000
set_option maxHeartbeats 2000000
namespace K7
open PySem PySem.Spec PyProof.Rows L2 Vf
section
variable {P : Program} {w : World} {K : PySem.W.Frag} {mg : Str → Option Value} {base : Heap}
theorem nm_ok {z : Str} (h : nmB z = true) : PyData.strOk z = true := by
  unfold nmB at h
  simp only [Bool.and_eq_true] at h
  have h4 := h.2.2.2
  have hL : ∀ c ∈ LET.cps.toList, c < 0x110000 := by decide +kernel
  unfold PyData.strOk
  rw [Array.all_eq_true]
  intro i hi
  refine decide_eq_true (hL _ (of_decide_eq_true (List.all_eq_true.mp h4 _ ?_)))
  exact Array.getElem_mem_toList hi
theorem atI_last {xs : List V} {x : V} (h : xs[xs.length - 1]? = some x) : atI xs (-1) = some x := by
  have hl : xs.length - 1 < xs.length := (List.getElem?_eq_some_iff.mp h).1
  have e : ixN xs.length (-1) = some (xs.length - 1) := by
    unfold ixN
    rw [if_neg (by omega), if_pos (by omega)]
    congr 1
    omega
  unfold atI
  rw [e]
  exact h
theorem strs_lay : ∀ {zs : List Str}, (∀ z ∈ zs, PyData.strOk z = true) → PyData.canLayAll0 (zs.map PyData.str) = true ∧ PyData.depthAll (zs.map PyData.str) = 0
  | [], _ => ⟨rfl, rfl⟩
  | z :: zs, h => by
    obtain ⟨h1, h2⟩ := strs_lay (zs := zs) fun y hy => h y (List.mem_cons_of_mem _ hy)
    refine ⟨?_, ?_⟩
    · show PyData.canLayAll0 (.str z :: zs.map PyData.str) = true
      simp [PyData.canLayAll0, PyData.canLay0, h1, h z List.mem_cons_self]
    · show max (PyData.depth (.str z)) (PyData.depthAll (zs.map PyData.str)) = 0
      rw [h2]
      rfl
theorem strs_eqv : ∀ zs : List Str, PyData.eqvAll (zs.map PyData.str) (zs.map PyData.str) = true
  | [] => rfl
  | z :: zs => by
    show (PyData.eqv (.str z) (.str z) && PyData.eqvAll (zs.map PyData.str) (zs.map PyData.str)) = true
    rw [strs_eqv zs]
    simp [PyData.eqv]
theorem strs_dp {K : PySem.W.Frag} {H : Hp} : ∀ {zs : List Str}, DpAll K H (zs.map V.str) (zs.map PyData.str)
  | [] => .nil
  | _ :: _ => .cons (.str _) strs_dp
def madeD (zs : List Str) : PyData := .tuple [.str "made", .list (zs.map PyData.str)]
theorem madeD_sh {zs : List Str} (h : ∀ z ∈ zs, PyData.strOk z = true) : SeqAt.shaped (madeD zs) = true := by
  have k : PyData.strOk "made" = true := by decide +kernel
  obtain ⟨h1, h2⟩ := strs_lay h
  unfold SeqAt.shaped madeD
  simp [PyData.canLay0, PyData.canLayAll0, k, h1, h2, PyData.depth, PyData.depthAll]
theorem madeD_eq (zs : List Str) : PyData.eqv (madeD zs) (madeD zs) = true := by
  unfold madeD
  simp [PyData.eqv, PyData.eqvAll, strs_eqv]
def refD (w : Str) : PyData := .tuple [.str "refused", .str w, .bool true, .bool false]
theorem refD_sh {w : Str} (h : PyData.strOk w = true) : SeqAt.shaped (refD w) = true := by
  have k : PyData.strOk "refused" = true := by decide +kernel
  unfold SeqAt.shaped refD
  simp [PyData.canLay0, PyData.canLayAll0, k, h, PyData.depth, PyData.depthAll]
theorem refD_eq (w : Str) : PyData.eqv (refD w) (refD w) = true := by
  unfold refD
  simp [PyData.eqv, PyData.eqvAll]
/-- what the law has made -/
structure Fz (K : PySem.W.Frag) (H : Hp) (Wd Pl : Addr) (xs ys : List PgE) : Prop where
  hW : H Wd = some (.lst ((zsOf ys).map V.str))
  hP : H Pl = some (.lst (xs.map fun x => V.ref x.1))
  hp : ∀ x ∈ xs, PlE K H x
  hy : ∀ y ∈ ys, H y.2.1 = some (.tup (y.2.2.ns.map V.str))
theorem strs_ne {zs : List Str} {m : Int} : HO.lst (zs.map V.str) ≠ HO.lst [.int m] := fun z => by
  cases zs with
  | nil => cases z
  | cons a l => cases z
theorem Fz.ext {K : PySem.W.Frag} {H H' : Hp} {Wd Pl : Addr} {xs ys : List PgE} (h : Fz K H Wd Pl xs ys) (s : Same H H') : Fz K H' Wd Pl xs ys := ⟨s _ _ h.hW, s _ _ h.hP, fun x hx => (h.hp x hx).ext s, fun y hy => s _ _ (h.hy y hy)⟩
theorem Fz.x {K : PySem.W.Frag} {H H' : Hp} {Wd Pl e N : Addr} {m : Int} {kvs : List (Key × V)} {xs ys : List PgE} (h : Fz K H Wd Pl xs ys) (he : H e = some (.lst [.int m])) (hN : H N = some (.dK kvs)) (s : Sm2 e N H H') : Fz K H' Wd Pl xs ys := by
  refine ⟨s _ _ (ne_of h.hW he strs_ne) (ne_of h.hW hN (by intro z; cases z)) h.hW, s _ _ (ne_of h.hP he ref_ne1) (ne_of h.hP hN (by intro z; cases z)) h.hP, fun x hx => ?_, fun y hy => s _ _ (ne_of (h.hy y hy) he (by intro z; cases z)) (ne_of (h.hy y hy) hN (by intro z; cases z)) (h.hy y hy)⟩
  obtain ⟨dy, ey⟩ := h.hp x hx
  exact ⟨dy, s _ _ (ne_of ey he (by intro z; cases z)) (ne_of ey hN (by intro z; cases z)) ey⟩
theorem Fz.parts {K : PySem.W.Frag} {H : Hp} {Wd Pl N : Addr} {xs ys : List PgE} (h : Fz K H Wd Pl xs ys) (hB : Beside xs ys) (hok : RowsOk ys) (hN : H N = some (.dK (kvN ys))) : PartsOk K H HO.lst Pl N xs := by
  refine ⟨h.hP, h.hp, ⟨kvN ys, hN, ?_, fun x hx => ?_⟩, fun x hx => ?_, by rw [hB.zs]; exact hok.nd, by rw [hB.len]; exact hok.l1, by rw [hB.len]; exact hok.l6, fun v hv => ?_, .inl rfl⟩
  · rw [← hB.kvN]
    exact List.length_map ..
  · obtain ⟨i, hi⟩ := List.mem_iff_getElem?.mp hx
    have hzx : (zsOf xs).Nodup := by rw [hB.zs]; exact hok.nd
    rw [← hB.kvN]
    exact val_row (f := fun y => V.ref y.2.1) hzx hi
  · obtain ⟨y, hy, e⟩ := hB.mem hx
    have h2 := hok.ns y hy
    unfold NsE
    rw [← e]
    refine ⟨h.hy y hy, fun v hv => by rw [hB.zs]; exact h2.1 v hv, h2.2, ?_⟩
    have := nodup_le h2.2 h2.1
    have h3 : (zsOf ys).length = ys.length := List.length_map ..
    have := hok.l6
    omega
  · rw [hB.zs] at hv
    obtain ⟨y, hy, rfl⟩ := List.mem_map.mp hv
    exact (hok.kp y hy).1
/-- a start that is none -/
def StBad (H : Hp) (zs : List Str) (st : V) : Prop := (∃ z, st = .str z ∧ z ∉ zs) ∨ (OddS H st ∧ st ≠ .non)
def StGood (zs : List Str) (st : V) : Prop := (∃ z ∈ zs, st = .str z) ∨ st = .non
theorem oddS_x {H H' : Hp} {x : V} {e N : Addr} (o : OddS H x) (n1 : x ≠ .ref e) (n2 : x ≠ .ref N) (s : Sm2 e N H H') : OddS H' x := by
  cases o with
  | bl b => exact .bl b
  | non => exact .non
  | int i => exact .int i
  | tup h => exact .tup (s _ _ (fun z => n1 (by rw [z])) (fun z => n2 (by rw [z])) h)
  | lst h => exact .lst (s _ _ (fun z => n1 (by rw [z])) (fun z => n2 (by rw [z])) h)
  | dic h => exact .dic (s _ _ (fun z => n1 (by rw [z])) (fun z => n2 (by rw [z])) h)
theorem Kd.x {H H' : Hp} {x : V} {e : Addr} {m m' : Int} (o : Kd H x) (he : H e = some (.lst [.int m])) (he' : H' e = some (.lst [.int m'])) (s : SameX e H H') : Kd H' x := by
  cases o with
  | str z => exact .str z
  | non => exact .non
  | int i => exact .int i
  | bl b => exact .bl b
  | lst h c =>
    rename_i a ws
    by_cases z : a = e
    · subst z
      exact .lst he' fun u hu => by
        rw [List.mem_singleton] at hu
        rw [hu]
        exact True.intro
    · exact .lst (s _ _ z h) c
  | tup h c => exact .tup (s _ _ (ne_of h he (by intro z; cases z)) h) c
  | dic h c n => exact .dic (s _ _ (ne_of h he (by intro z; cases z)) h) c n
theorem Kd.ext {H H' : Hp} {x : V} (o : Kd H x) (s : Same H H') : Kd H' x := by
  cases o with
  | str z => exact .str z
  | non => exact .non
  | int i => exact .int i
  | bl b => exact .bl b
  | lst h c => exact .lst (s _ _ h) c
  | tup h c => exact .tup (s _ _ h) c
  | dic h c n => exact .dic (s _ _ h) c n
abbrev s_law : Stmt := top 36
theorem sc_law : FnScope ["_law_script", "_law_draw", "_law_spoils", "_law_rows_here", "_law_spoil", "_law_words", "_law_row_here", "_law_places", "_law_table", "_law_begin", "_law_due", "_law_kept", "_law_outcome"] ["_law_script"] (defScope s_law) := ⟨rfl, rfl, rfl, by decide +kernel, rfl, by decide +kernel, by decide +kernel⟩
-- slots: 0 _law_script, 1 _law_draw, 2 _law_spoils, 3 _law_rows_here, 4 _law_spoil, 5 _law_words, 6 _law_row_here, 7 _law_places, 8 _law_table, 9 _law_begin, 10 _law_due, 11 _law_kept, 12 _law_outcome
def spLaw (K : PySem.W.Frag) : Sp := fun vs H Q _ => ∃ (a : Addr) (ns : List Int), vs = [.ref a] ∧ SqL K H a (ns.map V.int) ∧ ns.length ≤ 63 ∧ ∀ H', Q (.bl true) H'
set_option maxHeartbeats 8000000 in
theorem ok_law {fd : FuncData} (F : FnD K ("law", none) "law" "law" s_law fd) (T : ETxt K mg) (O_law_cell : OkF P w K mg base CX0 1 "_law_cell" ["_law_script", "_law_k"] (Vf.spCell K)) (O_law_take : OkF P w K mg base CX0 1 "_law_take" ["_law_draw", "_law_size"] spTake)
    (O_law_rows : OkF P w K mg base CX0 3 "_law_rows" ["_law_draw", "_law_words", "_law_many", "_law_longest"] spRows) (O_law_nexts : OkF P w K mg base CX0 1 "_law_nexts" ["_law_rows_here"] spNxL) (O_Place_init3k : OkK P w K mg base (L2.CX P w) 4 ("Place", some "__init__") ["self", "name", "least", "most", "let"] 4 ["let"] (fun vs zs => vs ++ zs) (spPlI K))
    (O_law_bad_nexts : OkF P w K mg base CX0 6 "_law_bad_nexts" ["_law_draw", "_law_table", "_law_words"] (spBN K)) (O_law_bad_places : OkF P w K mg base CX0 6 "_law_bad_places" ["_law_draw", "_law_places"] (spBP K)) (O_law_copies : OkF P w K mg base CX0 1 "_law_copies" ["_law_value"] spCpy) (O_law_made : OkF P w K mg base CX0 7 "_law_made" ["_law_places", "_law_table", "_law_begin"] (spMade K)) :
    FnOk P w K mg base CX0 9 (He.ga K "law") fd ["_law_script"] (spLaw K) := by
  refine F.ok sc_law (fun vs H Q E h => ?_) fun cdv A outer s H vs Q E hr h => ?_
  · obtain ⟨a, ns, rfl, _⟩ := h
    rfl
  · obtain ⟨a0, ns, rfl, hS, hlen, k⟩ := h
    refine ⟨_, PSs.nox (pss_cons (ps_set (i := 1) sc_law.nd rfl (Or.inl rfl) (pe_lst (pa_cons (c_fn O_law_cell hr (by decide) T.g_law_cell pass0 (pa_cons (pv 0) (pa_cons pe_int pa_nil))) pa_nil)))
  (pss_cons (ps_set (i := 2) sc_law.nd rfl (Or.inl rfl) (c_fn O_law_take hr (by decide) T.g_law_take pass0 (pa_cons (pv 1) (pa_cons pe_int pa_nil))))
  (pss_cons (ps_set (i := 3) sc_law.nd rfl (Or.inl rfl) (c_fn O_law_rows hr (by decide) T.g_law_rows pass0 (pa_cons (pv 1) (pa_cons (pe_lst (pa_cons (c_fn O_law_cell hr (by decide) T.g_law_cell pass0 (pa_cons (pv 0) (pa_cons pe_int pa_nil))) pa_nil)) (pa_cons pe_int (pa_cons pe_int pa_nil))))))
  (pss_cons (ps_set (i := 4) sc_law.nd rfl (Or.inl rfl) (pe_lst (pa_cons (c_fn O_law_cell hr (by decide) T.g_law_cell pass0 (pa_cons (pv 0) (pa_cons pe_int pa_nil))) pa_nil)))
  (pss_cons (ps_setLc (i := 5) (own := [("_law_row_here", 6)]) (g := gName 6) (tt := tYes) (by rfl) sc_law.nd rfl rfl (sw_true rfl rfl rfl (by decide +kernel)) (pi_list (pv 3)) (blkOk_by (N := ["_law_script", "_law_draw", "_law_spoils", "_law_rows_here", "_law_spoil", "_law_words", "_law_row_here", "_law_places", "_law_table", "_law_begin", "_law_due", "_law_kept", "_law_outcome"]) (sc := defScope s_law) (by decide +kernel)) (fun _ _ _ _ _ => (pg_name (i := 6) sc_law.nd rfl (Or.inl rfl))) (fun _ _ _ _ _ => pts_nil) (fun _ _ _ _ _ => (pe_ix (ix_listK (K := K) rfl) (pv 6) pe_int (fun _ _ => rfl))))
  (pss_cons (ps_setLc (i := 7) (own := [("_law_row_here", 6)]) (g := gName 6) (tt := tYes) (by rfl) sc_law.nd rfl rfl (sw_true rfl rfl rfl (by decide +kernel)) (pi_list (pv 3)) (blkOk_by (N := ["_law_script", "_law_draw", "_law_spoils", "_law_rows_here", "_law_spoil", "_law_words", "_law_row_here", "_law_places", "_law_table", "_law_begin", "_law_due", "_law_kept", "_law_outcome"]) (sc := defScope s_law) (by decide +kernel)) (fun _ _ _ _ _ => (pg_name (i := 6) sc_law.nd rfl (Or.inl rfl))) (fun _ _ _ _ _ => pts_nil) (fun _ _ _ _ _ => (c_mkK T.m_Place O_Place_init3k hr (by decide) T.g_Place passL (pa_cons (pe_ix (ix_listK (K := K) rfl) (pv 6) pe_int (fun _ _ => rfl)) (pa_cons (pe_ix (ix_listK (K := K) rfl) (pv 6) pe_int (fun _ _ => rfl)) (pa_cons (pe_ix (ix_listK (K := K) rfl) (pv 6) pe_int (fun _ _ => rfl)) pa_nil))) (pk_cons (pe_ix (ix_listK (K := K) rfl) (pv 6) pe_int (fun _ _ => rfl)) pk_nil))))
  (pss_cons (ps_set (i := 8) sc_law.nd rfl (Or.inl rfl) (c_fn O_law_nexts hr (by decide) T.g_law_nexts pass0 (pa_cons (pv 3) pa_nil)))
  (pss_cons (ps_set (i := 9) sc_law.nd rfl (Or.inl rfl) (pe_ix ix_list (pe_lst (pa_cons (pe_ix ix_list (pv 5) pe_int (fun _ _ => rfl)) (pa_cons (pe_ix ix_list (pv 5) (pe_un un_neg pe_int) (fun _ _ => rfl)) (pa_cons pe_non pa_nil)))) (c_fn O_law_take hr (by decide) T.g_law_take pass0 (pa_cons (pv 4) (pa_cons pe_int pa_nil))) (fun _ _ => rfl)))
  (pss_cons (ps_set (i := 10) sc_law.nd rfl (Or.inl rfl) pe_str)
  (C8.pss_cut (ps_if (pt_cmpR op_eq (pe_op op_fdiv (pv 2) pe_int) pe_int (nomark _)) (pss_cons (ps_set (i := 9) sc_law.nd rfl (Or.inl rfl) (pe_ix ix_list (pe_lst (pa_cons pe_str (pa_cons pe_str (pa_cons pe_int (pa_cons pe_bl (pa_cons (pe_tup (pa_cons (pe_ix ix_list (pv 5) pe_int (fun _ _ => rfl)) pa_nil)) (pa_cons (pe_lst (pa_cons (pe_ix ix_list (pv 5) pe_int (fun _ _ => rfl)) pa_nil)) (pa_cons pe_dnewK pa_nil)))))))) (c_fn O_law_take hr (by decide) T.g_law_take pass0 (pa_cons (pv 4) (pa_cons pe_int pa_nil))) (fun _ _ => rfl)))
  (pss_one (ps_set (i := 10) sc_law.nd rfl (Or.inl rfl) pe_str)))
  pss_nil)
  (C8.pss_cut (ps_if (pt_cmpR op_eq (pe_op op_mod (pe_op op_fdiv (pv 2) pe_int) pe_int) pe_int (nomark _)) (pss_cons (ps_set (i := 8) sc_law.nd rfl (Or.inl rfl) (c_fn O_law_bad_nexts hr (by decide) T.g_law_bad_nexts pass0 (pa_cons (pv 4) (pa_cons (pv 8) (pa_cons (pv 5) pa_nil)))))
  (pss_one (ps_set (i := 10) sc_law.nd rfl (Or.inl rfl) pe_str)))
  pss_nil)
  (C8.pss_cut (ps_if (pt_cmpR op_eq (pe_op op_mod (pv 2) pe_int) pe_int (nomark _)) (pss_cons (ps_set (i := 7) sc_law.nd rfl (Or.inl rfl) (c_fn O_law_bad_places hr (by decide) T.g_law_bad_places pass0 (pa_cons (pv 4) (pa_cons (pv 7) pa_nil))))
  (pss_one (ps_set (i := 10) sc_law.nd rfl (Or.inl rfl) pe_str)))
  pss_nil)
  (pss_cons (ps_set (i := 11) sc_law.nd rfl (Or.inl rfl) (pe_lst (pa_cons (c_fn O_law_copies hr (by decide) T.g_law_copies pass0 (pa_cons (pv 7) pa_nil)) (pa_cons (c_fn O_law_copies hr (by decide) T.g_law_copies pass0 (pa_cons (pv 8) pa_nil)) pa_nil))))
  (pss_cons (ps_set (i := 12) sc_law.nd rfl (Or.inl rfl) (c_fn O_law_made hr (by decide) T.g_law_made pass0 (pa_cons (pv 7) (pa_cons (pv 8) (pa_cons (pv 9) pa_nil)))))
  (pss_cons (ps_if (PW.pt (pw_orB (pt_cmpR (op_neK hr.units) (pv 7) (pe_ix ix_list (pv 11) pe_int (fun _ _ => rfl)) (nomark _)) (pw_or1 (pt_cmpR (op_neK hr.units) (pv 8) (pe_ix ix_list (pv 11) pe_int (fun _ _ => rfl)) (nomark _))))) (pss_one (ps_ret pe_bl))
  pss_nil)
  (pss_cons (ps_if (pt_cmpR op_ne (pv 10) pe_str (nomark _)) (pss_one (ps_ret (pe_cmpR (op_eqD hr.units) (pv 12) (pe_tup (pa_cons pe_str (pa_cons (pv 10) (pa_cons pe_bl (pa_cons pe_bl pa_nil))))) (nomark _))))
  pss_nil)
  (pss_cons (ps_if (pt_cmpR (op_neD hr.units) (pv 12) (pe_tup (pa_cons pe_str (pa_cons (pv 5) pa_nil))) (nomark _)) (pss_one (ps_ret pe_bl))
  pss_nil)
  (pss_one (ps_ret (pe_cmpR (op_eqD hr.units) (c_fn O_law_made hr (by decide) T.g_law_made pass0 (pa_cons (pe_callTy call_tuple_of (by rfl) T.z_tuple (by decide +kernel) (pa_cons (pv 7) pa_nil)) (pa_cons (pv 8) (pa_cons (pv 9) pa_nil)))) (pv 12) (nomark _))))))))))))))))))))), ?_⟩
    refine ⟨_, rfl, a0, ns, 0, rfl, hS, by decide, fun n0 => ⟨(by show 1 ≤ sizeLine; decide), fun d nd => ?_⟩⟩
    have s1 := same_new (o := .lst [.int n0]) nd
    have hd1 : (upd H d (.lst [.int n0])) d = some (.lst [.int n0]) := upd_same
    generalize upd H d (.lst [.int n0]) = H1 at s1 hd1 ⊢
    refine ⟨_, rfl, d, n0, 8, rfl, hd1, by decide, by decide, fun sp m3 sp0 sp1 => ?_⟩
    have s4 : Same H (upd H1 d (.lst [.int m3])) := same_x2 s1 SameX.upd nd
    have hd4 : (upd H1 d (.lst [.int m3])) d = some (.lst [.int m3]) := upd_same
    generalize upd H1 d (.lst [.int m3]) = H4 at s4 hd4 ⊢
    clear s1 hd1 H1
    refine ⟨_, rfl, _, rfl, a0, ns, 1, rfl, s4.seq hS, by decide, fun n1 => ⟨(by show 1 ≤ sizeLine; decide), fun e nE => ?_⟩⟩
    have nde : d ≠ e := ne_of_none hd4 nE
    have s45 := same_new (o := .lst [.int n1]) nE
    have he5 : (upd H4 e (.lst [.int n1])) e = some (.lst [.int n1]) := upd_same
    have hd5 := s45 _ _ hd4
    have s5 := s4.trans s45
    have nE0 : H e = none := by
      cases q : H e with
      | none => rfl
      | some o =>
        have := s4 _ _ q
        rw [nE] at this
        cases this
    generalize upd H4 e (.lst [.int n1]) = H5 at s45 he5 hd5 s5 ⊢
    clear s4 hd4 s45 nE H4
    refine ⟨d, e, m3, n1, 5, 3, rfl, hd5, he5, nde, by decide, by decide, by decide, by decide, fun H6 R ys x6 u1 hR hok u2 u3 => ?_⟩
    clear u1 u2 u3
    have s6 : Same H H6 := fun b o h => x6 b o (ne_of_none h nd) (ne_of_none h nE0) (s5 _ _ h)
    clear x6 s5 he5 hd5 nde nE0 nd
    have hl1 := hok.l1
    have hl6 := hok.l6
    have hlz : (zsOf ys).length = ys.length := List.length_map ..
    refine ⟨_, rfl, a0, ns, 2, rfl, s6.seq hS, by decide, fun n2 => ⟨(by show 1 ≤ sizeLine; decide), fun e nE => ?_⟩⟩
    have he : (upd H6 e (.lst [.int n2])) e = some (.lst [.int n2]) := upd_same
    have sB := same_new (o := .lst [.int n2]) nE
    replace hR := hR.ext sB
    generalize upd H6 e (.lst [.int n2]) = A1 at he sB hR ⊢
    clear sB nE s6 H6
    refine ⟨_, rfl, R, rfl, ⟨_, SqL.of hR.hR⟩, fun Wd nWd => lc_it walk_list (fun j H' => Same A1 H' ∧ H' Wd = some (.lst (((zsOf ys).take j).map V.str))) ⟨same_new nWd, upd_same⟩ (fun j H' _ h => SqL.of (h.1 _ _ hR.hR)) ?_ ?_⟩
    · rintro j x' H3 H' hj ⟨sg, hWd⟩ ⟨rfl, hx'⟩
      rw [List.length_map] at hj
      obtain ⟨y, hy, rfl⟩ := getE hx'
      have hrow := ((hR.row y (List.mem_of_getElem? hy)).ext sg).1
      refine ⟨rfl, _, rfl, y.1, _, 0, .str y.2.2.z, rfl, rfl, SqL.of hrow, atI0, _, hWd, ?_, same_app sg (Same.refl _) nWd, ?_⟩
      · rw [List.length_map, List.length_take, hlz]
        exact Nat.lt_of_le_of_lt (Nat.min_le_right _ _) (Nat.lt_of_le_of_lt hl6 (by decide))
      · have hz : (zsOf ys)[j]? = some y.2.2.z := by
          show (ys.map fun x => x.2.2.z)[j]? = _
          rw [List.getElem?_map, hy]
          rfl
        rw [upd_same, List.take_add_one, List.map_append, hz]
        rfl
    rintro A2 ⟨s12, hWd⟩
    rw [List.length_map, ← hlz, List.take_length] at hWd
    replace hR := hR.ext s12
    replace he := s12 _ _ he
    clear s12 nWd A1
    refine ⟨_, rfl, R, rfl, ⟨_, SqL.of hR.hR⟩, fun Pl nPl => lc_it walk_list (fun i H' => Same A2 H' ∧ ∃ xs : List PgE, H' Pl = some (.lst (xs.map fun x => V.ref x.1)) ∧ xs.map (·.2) = (ys.take i).map (·.2) ∧ ∀ x ∈ xs, PlE K H' x) ⟨same_new nPl, [], upd_same, rfl, (fun _ h => nomatch h)⟩ (fun i H' _ h => SqL.of (h.1 _ _ hR.hR)) ?_ ?_⟩
    · rintro i x H1 H' hi ⟨sg, xs, hD, hb, hp⟩ ⟨rfl, hx⟩
      obtain ⟨y, hy, rfl⟩ := getE hx
      have hm := List.mem_of_getElem? hy
      have hya := SqL.of (K := K) ((hR.ext sg).row y hm).1
      obtain ⟨k1, k2, k3, k4, k5⟩ := hok.kp y hm
      have hxl : xs.length ≤ 6 := by
        have := congrArg List.length hb
        simp only [List.length_map, List.length_take] at this
        omega
      refine ⟨rfl, _, rfl, y.1, _, 0, .str y.2.2.z, rfl, rfl, hya, atI0, _, rfl, y.1, _, 1, .int y.2.2.l, rfl, rfl, hya, atI_nat (j := 1) rfl, _, rfl, y.1, _, 2, .int y.2.2.m, rfl, rfl, hya, atI_nat (j := 2) rfl, _, rfl, y.1, _, 3, .bl y.2.2.b, rfl, rfl, hya, atI_nat (j := 3) rfl, rfl, rfl, fun p dx np ndx ne => ⟨p, dx, _, _, _, _, rfl, upd_same, .inr ⟨y.2.2.z, y.2.2.l, y.2.2.m, y.2.2.b, ⟨rfl, Nat.le_trans k2 (by decide), k1, rfl, k3, k4, k5, .inl rfl, rfl⟩, fun H2 s2 => ⟨rfl, ?_⟩⟩⟩⟩
      have sm : Same H' (upd H2 p (.ins (CP K) dx (plf y.2.2.z y.2.2.l y.2.2.m y.2.2.b))) := fun b' u e => by
        rw [upd_ne (ne_of_none e np)]
        exact s2 _ _ (same_make np ndx _ _ e)
      have hpl : PlE K (upd H2 p (.ins (CP K) dx (plf y.2.2.z y.2.2.l y.2.2.m y.2.2.b))) (p, y.2) := ⟨dx, upd_same⟩
      generalize upd H2 p (.ins (CP K) dx (plf y.2.2.z y.2.2.l y.2.2.m y.2.2.b)) = H3 at sm hpl ⊢
      have hD3 := sm _ _ hD
      have old : ∀ x ∈ xs ++ [(p, y.2)], PlE K H3 x := fun x hx => by
        rcases List.mem_append.mp hx with hx | hx
        · exact (hp x hx).ext sm
        · rw [List.mem_singleton] at hx
          rw [hx]
          exact hpl
      refine ⟨_, hD3, ?_, same_app sg sm nPl, xs ++ [(p, y.2)], by rw [upd_same, List.map_append]; rfl, ?_, fun x hx => ?_⟩
      · rw [List.length_map]
        exact Nat.lt_of_le_of_lt hxl (by decide)
      · rw [List.map_append, hb, List.take_add_one, List.map_append, hy]
        rfl
      · obtain ⟨d1, e1⟩ := old x hx
        exact ⟨d1, by rw [upd_ne (ne_of e1 hD3 (by intro z; cases z))]; exact e1⟩
    rintro A3 ⟨s23, xs, hPl, hb, hp⟩
    rw [List.length_map, List.take_length] at hb
    have hB : Beside xs ys := hb
    refine ⟨_, rfl, R, ys, rfl, hR.ext s23, hok.nd, hok.l6, fun A4 N s34 nN hN => ?_⟩
    have s24 := s23.trans s34
    have fz : Fz K A4 Wd Pl xs ys := ⟨s24 _ _ hWd, s34 _ _ hPl, fun x hx => (hp x hx).ext s34, fun y hy => ((hR.ext s24).row y hy).2⟩
    replace he := s24 _ _ he
    have nNe : N ≠ e := ne_of hN he (by intro z; cases z)
    clear hR hp hPl hWd s24 s34 s23 nN nPl hb A2 A3
    have hW := fz.hW
    obtain ⟨w0, hw0⟩ : ∃ w0, (zsOf ys)[0]? = some w0 := ⟨_, List.getElem?_eq_getElem (by omega)⟩
    obtain ⟨wl, hwl⟩ : ∃ wl, (zsOf ys)[(zsOf ys).length - 1]? = some wl := ⟨_, List.getElem?_eq_getElem (by omega)⟩
    have hw0m := List.mem_of_getElem? hw0
    have hwlm := List.mem_of_getElem? hwl
    have hat0 : atI ((zsOf ys).map V.str) 0 = some (.str w0) := atI_nat (j := 0) (by rw [List.getElem?_map, hw0]; rfl)
    have hatl : atI ((zsOf ys).map V.str) (-1) = some (.str wl) := atI_last (by rw [List.length_map, List.getElem?_map, hwl]; rfl)
    refine ⟨_, rfl, Wd, _, 0, .str w0, rfl, rfl, SqL.of hW, hat0, _, rfl, _, rfl, Wd, _, -1, .str wl, rfl, rfl, SqL.of hW, hatl, (by show 3 ≤ sizeLine; decide), fun ol nol => ?_⟩
    have hol : (upd A4 ol (.lst [.str w0, .str wl, .non])) ol = some (.lst [.str w0, .str wl, .non]) := upd_same
    have so := same_new (o := .lst [.str w0, .str wl, .non]) nol
    replace fz := fz.ext so
    replace he := so _ _ he
    replace hN := so _ _ hN
    generalize upd A4 ol (.lst [.str w0, .str wl, .non]) = A5 at hol fz he hN ⊢
    clear so nol hW A4
    refine ⟨_, rfl, e, n2, 3, rfl, he, by decide, by decide, fun tk m1 tk0 tk1 => ?_⟩
    have hol' : (upd A5 e (.lst [.int m1])) ol = _ := (upd_ne (ne_of hol he (by intro z; injection z with z; cases z))).trans hol
    have he' : (upd A5 e (.lst [.int m1])) e = some (.lst [.int m1]) := upd_same
    have hN' : (upd A5 e (.lst [.int m1])) N = _ := (upd_ne nNe).trans hN
    replace fz : Fz K (upd A5 e (.lst [.int m1])) Wd Pl xs ys := fz.x he hN sm2_d
    generalize upd A5 e (.lst [.int m1]) = A6 at hol' he' hN' fz ⊢
    clear hol he hN A5
    obtain ⟨st0, hst0, hg0⟩ : ∃ st0 : V, atI ([.str w0, .str wl, .non] : List V) tk = some st0 ∧ StGood (zsOf ys) st0 := by
      have h6 : tk = 0 ∨ tk = 1 ∨ tk = 2 := by omega
      rcases h6 with rfl | rfl | rfl
      · exact ⟨_, atI_nat (j := 0) rfl, .inl ⟨w0, hw0m, rfl⟩⟩
      · exact ⟨_, atI_nat (j := 1) rfl, .inl ⟨wl, hwlm, rfl⟩⟩
      · exact ⟨_, atI_nat (j := 2) rfl, .inr rfl⟩
    refine ⟨ol, _, tk, st0, rfl, rfl, SqL.of hol', hst0, ?_⟩
    clear hst0 hol' tk0 tk1 tk n2 ol
    show gName 9 st0 [some (.ref a0), some (.ref d), some (.int sp), some (.ref R), some (.ref e), some (.ref Wd), none, some (.ref Pl), some (.ref N), none, none, none, none] A6 _
    refine ⟨fun σ' H' => Fz K H' Wd Pl xs ys ∧ H' N = some (.dK (kvN ys)) ∧ (∃ m : Int, H' e = some (.lst [.int m])) ∧ ∃ (st : V) (due : Str), ((due = "" ∧ StGood (zsOf ys) st) ∨ (due = "start" ∧ StBad H' (zsOf ys) st ∧ st ≠ .ref e ∧ st ≠ .ref N)) ∧ σ' = [some (.ref a0), some (.ref d), some (.int sp), some (.ref R), some (.ref e), some (.ref Wd), none, some (.ref Pl), some (.ref N), some st, some (.str due), none, none], ?_, ?_⟩
    · refine ⟨_, rfl, _, _, rfl, rfl, ?_⟩
      refine ⟨⟨by decide, by decide⟩, rfl, _, rfl, ite2 (fun _ => ?_) fun _ => ?_⟩
      · have hz9 : ("zzzzzzzzz" : Str) ∉ zsOf ys := fun hm => by
          obtain ⟨y, hy', e⟩ := List.mem_map.mp hm
          have h8 := (hok.kp y hy').2.1
          rw [e] at h8
          exact absurd h8 (by decide +kernel)
        have hz0 : ("" : Str) ∉ zsOf ys := fun hm => by
          obtain ⟨y, hy', e⟩ := List.mem_map.mp hm
          have h8 := (hok.kp y hy').1
          rw [e] at h8
          exact absurd h8 (by decide +kernel)
        refine ⟨_, rfl, Wd, _, 0, .str w0, rfl, rfl, SqL.of fz.hW, hat0, ?_⟩
        refine ⟨(by show 1 ≤ sizeLine; decide), fun et n_et => ?_⟩
        have h_et : (upd A6 et (.tup [.str w0])) et = some (.tup [.str w0]) := upd_same
        have x_et : et ≠ e ∧ et ≠ N := ⟨(ne_of_none he' n_et).symm, (ne_of_none hN' n_et).symm⟩
        replace fz := fz.ext (same_new (o := .tup [.str w0]) n_et)
        replace he' := same_new (o := .tup [.str w0]) n_et _ _ he'
        replace hN' := same_new (o := .tup [.str w0]) n_et _ _ hN'
        generalize upd A6 et (.tup [.str w0]) = B_et at fz he' hN' h_et ⊢
        refine ⟨_, rfl, Wd, _, 0, .str w0, rfl, rfl, SqL.of fz.hW, hat0, ?_⟩
        refine ⟨(by show 1 ≤ sizeLine; decide), fun el n_el => ?_⟩
        have h_el : (upd B_et el (.lst [.str w0])) el = some (.lst [.str w0]) := upd_same
        have x_el : el ≠ e ∧ el ≠ N := ⟨(ne_of_none he' n_el).symm, (ne_of_none hN' n_el).symm⟩
        replace fz := fz.ext (same_new (o := .lst [.str w0]) n_el)
        replace he' := same_new (o := .lst [.str w0]) n_el _ _ he'
        replace hN' := same_new (o := .lst [.str w0]) n_el _ _ hN'
        replace h_et := same_new (o := .lst [.str w0]) n_el _ _ h_et
        generalize upd B_et el (.lst [.str w0]) = B_el at fz he' hN' h_et h_el ⊢
        refine fun ed n_ed => ?_
        have h_ed : (upd B_el ed (.dK [])) ed = some (.dK []) := upd_same
        have x_ed : ed ≠ e ∧ ed ≠ N := ⟨(ne_of_none he' n_ed).symm, (ne_of_none hN' n_ed).symm⟩
        replace fz := fz.ext (same_new (o := .dK []) n_ed)
        replace he' := same_new (o := .dK []) n_ed _ _ he'
        replace hN' := same_new (o := .dK []) n_ed _ _ hN'
        replace h_et := same_new (o := .dK []) n_ed _ _ h_et
        replace h_el := same_new (o := .dK []) n_ed _ _ h_el
        generalize upd B_el ed (.dK []) = B_ed at fz he' hN' h_et h_el h_ed ⊢
        refine ⟨(by show 7 ≤ sizeLine; decide), fun eo n_eo => ?_⟩
        have h_eo : (upd B_ed eo (.lst [.str "zzzzzzzzz", .str "", .int 0, .bl true, .ref et, .ref el, .ref ed])) eo = some (.lst [.str "zzzzzzzzz", .str "", .int 0, .bl true, .ref et, .ref el, .ref ed]) := upd_same
        have x_eo : eo ≠ e ∧ eo ≠ N := ⟨(ne_of_none he' n_eo).symm, (ne_of_none hN' n_eo).symm⟩
        replace fz := fz.ext (same_new (o := .lst [.str "zzzzzzzzz", .str "", .int 0, .bl true, .ref et, .ref el, .ref ed]) n_eo)
        replace he' := same_new (o := .lst [.str "zzzzzzzzz", .str "", .int 0, .bl true, .ref et, .ref el, .ref ed]) n_eo _ _ he'
        replace hN' := same_new (o := .lst [.str "zzzzzzzzz", .str "", .int 0, .bl true, .ref et, .ref el, .ref ed]) n_eo _ _ hN'
        replace h_et := same_new (o := .lst [.str "zzzzzzzzz", .str "", .int 0, .bl true, .ref et, .ref el, .ref ed]) n_eo _ _ h_et
        replace h_el := same_new (o := .lst [.str "zzzzzzzzz", .str "", .int 0, .bl true, .ref et, .ref el, .ref ed]) n_eo _ _ h_el
        replace h_ed := same_new (o := .lst [.str "zzzzzzzzz", .str "", .int 0, .bl true, .ref et, .ref el, .ref ed]) n_eo _ _ h_ed
        generalize upd B_ed eo (.lst [.str "zzzzzzzzz", .str "", .int 0, .bl true, .ref et, .ref el, .ref ed]) = B_eo at fz he' hN' h_et h_el h_ed h_eo ⊢
        refine ⟨_, rfl, e, m1, 7, rfl, he', by decide, by decide, fun tk m3 tk0 tk1 => ?_⟩
        replace h_et : (upd B_eo e (.lst [.int m3])) et = _ := (upd_ne x_et.1).trans h_et
        replace h_el : (upd B_eo e (.lst [.int m3])) el = _ := (upd_ne x_el.1).trans h_el
        replace h_ed : (upd B_eo e (.lst [.int m3])) ed = _ := (upd_ne x_ed.1).trans h_ed
        replace h_eo : (upd B_eo e (.lst [.int m3])) eo = _ := (upd_ne x_eo.1).trans h_eo
        replace fz : Fz K (upd B_eo e (.lst [.int m3])) Wd Pl xs ys := fz.x he' hN' sm2_d
        replace hN' : (upd B_eo e (.lst [.int m3])) N = _ := (upd_ne nNe).trans hN'
        replace he' : (upd B_eo e (.lst [.int m3])) e = some (.lst [.int m3]) := upd_same
        generalize upd B_eo e (.lst [.int m3]) = BT at fz he' hN' h_et h_el h_ed h_eo ⊢
        obtain ⟨v, hv, vb⟩ : ∃ v : V, atI ([V.str "zzzzzzzzz", .str "", .int 0, .bl true, .ref et, .ref el, .ref ed] : List V) tk = some v ∧ StBad BT (zsOf ys) v ∧ v ≠ .ref e ∧ v ≠ .ref N := by
          have h6 : tk = 0 ∨ tk = 1 ∨ tk = 2 ∨ tk = 3 ∨ tk = 4 ∨ tk = 5 ∨ tk = 6 := by omega
          rcases h6 with rfl | rfl | rfl | rfl | rfl | rfl | rfl
          · exact ⟨_, atI_nat (j := 0) rfl, .inl ⟨_, rfl, hz9⟩, (fun z => nomatch z), (fun z => nomatch z)⟩
          · exact ⟨_, atI_nat (j := 1) rfl, .inl ⟨_, rfl, hz0⟩, (fun z => nomatch z), (fun z => nomatch z)⟩
          · exact ⟨_, atI_nat (j := 2) rfl, .inr ⟨.int _, (fun z => nomatch z)⟩, (fun z => nomatch z), (fun z => nomatch z)⟩
          · exact ⟨_, atI_nat (j := 3) rfl, .inr ⟨.bl _, (fun z => nomatch z)⟩, (fun z => nomatch z), (fun z => nomatch z)⟩
          · exact ⟨_, atI_nat (j := 4) rfl, .inr ⟨.tup h_et, (fun z => nomatch z)⟩, (fun z => x_et.1 (V.ref.inj z)), (fun z => x_et.2 (V.ref.inj z))⟩
          · exact ⟨_, atI_nat (j := 5) rfl, .inr ⟨.lst h_el, (fun z => nomatch z)⟩, (fun z => x_el.1 (V.ref.inj z)), (fun z => x_el.2 (V.ref.inj z))⟩
          · exact ⟨_, atI_nat (j := 6) rfl, .inr ⟨.dic h_ed, (fun z => nomatch z)⟩, (fun z => x_ed.1 (V.ref.inj z)), (fun z => x_ed.2 (V.ref.inj z))⟩
        exact ⟨eo, _, tk, v, rfl, rfl, SqL.of h_eo, hv, fz, hN', ⟨m3, he'⟩, v, "start", .inr ⟨rfl, vb⟩, rfl⟩
      · exact ⟨fz, hN', ⟨m1, he'⟩, st0, "", .inl ⟨rfl, hg0⟩, rfl⟩
    clear fz he' hN' hg0 st0 m1 A6
    rintro σ' A7 ⟨fz, hN, ⟨m2, he⟩, st, due, hst, rfl⟩
    refine ⟨fun σ' H' => (∃ m : Int, H' e = some (.lst [.int m])) ∧ Fz K H' Wd Pl xs ys ∧ ∃ (st : V) (due : Str) (y : V), Kd H' y ∧ ((due = "nexts" ∧ NxBad H' (zsOf ys) y) ∨ (y = .ref N ∧ H' N = some (.dK (kvN ys)) ∧ ((due = "" ∧ StGood (zsOf ys) st) ∨ (due = "start" ∧ StBad H' (zsOf ys) st)))) ∧ σ' = [some (.ref a0), some (.ref d), some (.int sp), some (.ref R), some (.ref e), some (.ref Wd), none, some (.ref Pl), some y, some st, some (.str due), none, none], ?_, ?_⟩
    · refine ⟨_, rfl, _, _, rfl, rfl, ⟨by decide, by decide⟩, _, _, rfl, rfl, (by show (0 : Int) < 2; decide), rfl, _, rfl, ite2 (fun _ => ?_) fun _ => ?_⟩
      · refine ⟨_, rfl, _, rfl, _, rfl, e, N, Wd, m2, ys, rfl, he, hN, fz.hW, fz.hy, hok, fun H' y m' sx hm hb hk => ?_⟩
        exact ⟨⟨m', hm⟩, fz.x he hN sx, st, "nexts", y, hk, .inl ⟨rfl, hb⟩, rfl⟩
      · exact ⟨⟨m2, he⟩, fz, st, due, .ref N, .dic hN kvN_slf (kvN_nd hok.nd), .inr ⟨rfl, hN, hst.imp id fun h => ⟨h.1, h.2.1⟩⟩, rfl⟩
    clear fz hN he hst st due m2 A7
    rintro σ' A7 ⟨⟨m2, he⟩, fz, st, due, y, hky, hst, rfl⟩
    have hm : ∀ z ∈ zsOf xs, nmB z = true ∧ z.length ≤ 8 := fun z hz => by
      rw [hB.zs] at hz
      obtain ⟨y, hy', rfl⟩ := List.mem_map.mp hz
      exact ⟨(hok.kp y hy').1, (hok.kp y hy').2.1⟩
    refine ⟨fun σ' H' => H' Wd = some (.lst ((zsOf ys).map V.str)) ∧ ∃ (x st : V) (due : Str) (y : V), Kd H' x ∧ Kd H' y ∧ ((due ≠ "" ∧ PyData.strOk due = true ∧ PgBad K H' x y st due) ∨ (due = "" ∧ x = .ref Pl ∧ y = .ref N ∧ PartsOk K H' HO.lst Pl N xs ∧ StGood (zsOf ys) st)) ∧ σ' = [some (.ref a0), some (.ref d), some (.int sp), some (.ref R), some (.ref e), some (.ref Wd), none, some x, some y, some st, some (.str due), none, none], ?_, ?_⟩
    · refine ⟨_, rfl, _, _, rfl, rfl, (by show (0 : Int) < 2; decide), rfl, _, rfl, ite2 (fun _ => ?_) fun _ => ?_⟩
      · refine ⟨_, rfl, _, rfl, e, Pl, m2, xs, rfl, he, fz.hP, fz.hp, by rw [hB.len]; exact hl1, by rw [hB.len]; exact hl6, hm, fun H' x m' sx hm hb hk => ?_⟩
        exact ⟨sx _ _ (ne_of fz.hW he strs_ne) fz.hW, x, st, "places", y, hk, hky.x he hm sx, .inl ⟨by decide, by decide +kernel, .places hb⟩, rfl⟩
      · refine ⟨fz.hW, .ref Pl, st, due, y, .lst fz.hP slf_refs, hky, ?_, rfl⟩
        rcases hst with ⟨rfl, hb⟩ | ⟨rfl, hN, ⟨rfl, hg⟩ | ⟨rfl, hb⟩⟩
        · refine .inl ⟨by decide, by decide +kernel, .nexts rfl fz.hP fz.hp (by rw [hB.len]; exact hl1) (by rw [hB.len]; exact hl6) (by rw [hB.zs]; exact hok.nd) (by rw [hB.zs]; exact hb)⟩
        · exact .inr ⟨rfl, rfl, rfl, fz.parts hB hok hN, hg⟩
        · exact .inl ⟨by decide, by decide +kernel, .start rfl rfl (fz.parts hB hok hN) (by rw [hB.zs]; exact hb)⟩
    clear fz he hst hky st due y m2 A7
    rintro σ' A7 ⟨hW, x, st, due, y, hkx, hky, hst, rfl⟩
    refine ⟨_, rfl, x, rfl, hkx, fun H1 c1 s1 hc1 => ⟨_, rfl, y, rfl, hky.ext s1, fun H2 c2 s2 hc2 => ⟨(by show 2 ≤ sizeLine; decide), fun kp nkp => ?_⟩⟩⟩
    have hkp : (upd H2 kp (.lst [c1, c2])) kp = some (.lst [c1, c2]) := upd_same
    have s3 := same_new (o := .lst [c1, c2]) nkp
    have sA : Same A7 (upd H2 kp (.lst [c1, c2])) := (s1.trans s2).trans s3
    replace hc1 := (hc1.ext s2).ext s3
    replace hc2 := hc2.ext s3
    generalize upd H2 kp (.lst [c1, c2]) = H3 at hkp sA hc1 hc2 ⊢
    clear s3 s2 s1 nkp H1 H2
    have hkx3 := hkx.ext sA
    have hky3 := hky.ext sA
    have hW3 := sA _ _ hW
    have same : ∀ (H' : Hp) (D : PyData) (Q' : VK), Same H3 H' → True := fun _ _ _ _ => trivial
    rcases hst with ⟨hdu, hso, hb⟩ | ⟨rfl, rfl, rfl, hp, hg⟩
    · refine ⟨_, rfl, _, rfl, _, rfl, x, y, st, rfl, .inr ⟨due, hb.ext sA, fun H4 q s4 hq => ?_⟩⟩
      have hkp4 := s4 _ _ hkp
      refine ⟨_, rfl, _, rfl, kp, _, 0, c1, rfl, rfl, SqL.of hkp4, atI0, (hc1.ext s4).ne (hkx3.ext s4) ⟨false, rfl, false, (· = H4), fun _ => ⟨_, rfl, _, rfl, kp, _, 1, c2, rfl, rfl, SqL.of hkp4, atI1, (hc2.ext s4).ne (hky3.ext s4) ⟨false, rfl, rfl, rfl⟩⟩, (fun z => nomatch z), fun H5 e => ?_⟩⟩
      subst e
      refine iteF ?_
      refine ⟨_, rfl, rfl, true, by rw [decide_eq_false (fun z => hdu (V.str.inj z))]; rfl, iteT ⟨_, rfl, _, rfl, (by show 4 ≤ sizeLine; decide), fun u nu => ?_⟩⟩
      have hu : (upd H5 u (.tup [.str "refused", .str due, .bl true, .bl false])) u = some (.tup [.str "refused", .str due, .bl true, .bl false]) := upd_same
      have hq' := same_new (o := .tup [.str "refused", .str due, .bl true, .bl false]) nu _ _ hq
      generalize upd H5 u (.tup [.str "refused", .str due, .bl true, .bl false]) = H6 at hu hq' ⊢
      have dp : ∀ {a : Addr}, H6 a = some (.tup [.str "refused", .str due, .bl true, .bl false]) → Dp K H6 (.ref a) (refD due) := fun h => .tup (SqT.of h) (.cons (.str _) (.cons (.str _) (.cons (.bl _) (.cons (.bl _) .nil))))
      refine ⟨refD due, refD due, dp hq', dp hu, refD_sh hso, refD_sh hso, ?_⟩
      rw [refD_eq]
      exact k _
    · have hok4 : ∀ z ∈ zsOf ys, PyData.strOk z = true := fun z hz => by
        obtain ⟨y, hy', rfl⟩ := List.mem_map.mp hz
        exact nm_ok (hok.kp y hy').1
      obtain ⟨s', hs1, hs2⟩ : ∃ s' ∈ zsOf xs, st = .str s' ∨ (st = .non ∧ (zsOf xs)[0]? = some s') := by
        rw [hB.zs]
        rcases hg with ⟨z, hz, e⟩ | e
        · exact ⟨z, hz, .inl e⟩
        · exact ⟨w0, hw0m, .inr ⟨e, hw0⟩⟩
      refine ⟨_, rfl, _, rfl, _, rfl, .ref Pl, .ref N, st, rfl, .inl ⟨Pl, N, HO.lst, xs, s', rfl, rfl, hp.ext sA, hs1, hs2, fun H4 q l s4 hq hl => ?_⟩⟩
      rw [hB.zs] at hl
      have hkp4 := s4 _ _ hkp
      refine ⟨_, rfl, _, rfl, kp, _, 0, c1, rfl, rfl, SqL.of hkp4, atI0, (hc1.ext s4).ne (hkx3.ext s4) ⟨false, rfl, false, (· = H4), fun _ => ⟨_, rfl, _, rfl, kp, _, 1, c2, rfl, rfl, SqL.of hkp4, atI1, (hc2.ext s4).ne (hky3.ext s4) ⟨false, rfl, rfl, rfl⟩⟩, (fun z => nomatch z), fun H5 e => ?_⟩⟩
      subst e
      refine iteF ?_
      refine ⟨_, rfl, rfl, false, rfl, iteF ?_⟩
      have hp5 := hp.ext (sA.trans s4)
      have hW5 := s4 _ _ hW3
      refine ⟨_, rfl, _, rfl, (by show 2 ≤ sizeLine; decide), fun u nu => ?_⟩
      have hu : (upd H5 u (.tup [.str "made", .ref Wd])) u = some (.tup [.str "made", .ref Wd]) := upd_same
      have su := same_new (o := .tup [.str "made", .ref Wd]) nu
      replace hq := su _ _ hq
      replace hl := su _ _ hl
      replace hW5 := su _ _ hW5
      replace hp5 := hp5.ext su
      generalize upd H5 u (.tup [.str "made", .ref Wd]) = H6 at hu hq hl hW5 hp5 ⊢
      have dp : ∀ {H' : Hp} {a b : Addr}, H' a = some (.tup [.str "made", .ref b]) → H' b = some (.lst ((zsOf ys).map V.str)) → Dp K H' (.ref a) (madeD (zsOf ys)) := fun h g => .tup (SqT.of h) (.cons (.str _) (.cons (.lst (SqL.of g) strs_dp) .nil))
      refine ⟨madeD (zsOf ys), madeD (zsOf ys), dp hq hl, dp hu hW5, madeD_sh hok4, madeD_sh hok4, false, by rw [madeD_eq]; rfl, iteF ?_⟩
      refine ⟨_, rfl, Pl, _, rfl, .inl ⟨SqL.of hp5.hL, fun tp ntp => ?_⟩⟩
      have htp : (upd H6 tp (.tup (xs.map fun x => V.ref x.1))) tp = some (.tup (xs.map fun x => V.ref x.1)) := upd_same
      have st6 := same_new (o := .tup (xs.map fun x => V.ref x.1)) ntp
      replace hq := st6 _ _ hq
      replace hl := st6 _ _ hl
      replace hp5 := hp5.ext st6
      generalize upd H6 tp (.tup (xs.map fun x => V.ref x.1)) = H7 at htp hq hl hp5 ⊢
      refine ⟨_, rfl, _, rfl, .ref tp, .ref N, st, rfl, .inl ⟨tp, N, HO.tup, xs, s', rfl, rfl, ⟨htp, hp5.pl, hp5.nx, hp5.ns, hp5.nd, hp5.l1, hp5.l6, hp5.nm, .inr rfl⟩, hs1, hs2, fun H8 q2 l2 s78 hq2 hl2 => ?_⟩⟩
      rw [hB.zs] at hl2
      refine ⟨_, rfl, madeD (zsOf ys), madeD (zsOf ys), dp hq2 hl2, dp (s78 _ _ hq) (s78 _ _ hl), madeD_sh hok4, madeD_sh hok4, ?_⟩
      rw [madeD_eq]
      exact k _
end
end K7

set_option Elab.async false
set_option linter.all false
set_option pp.deepTerms.threshold 14
set_option pp.maxSteps 2500
set_option maxRecDepth 100000
set_option maxHeartbeats 2000000
namespace K7
open PySem PySem.Spec PyProof.Rows L2 Vf
section
variable {P : Program} {w : World} {K : PySem.W.Frag} {mg : Str → Option Value} {base : Heap}
theorem O_Place3 {fd : FuncData} (F : FunD K "__init__" "Place.__init__" (defArgs s_Place_init) (defBody s_Place_init) (defScope s_Place_init) [.int 1, .non] [("let", .bl true)] (He.fAd K ("Place", some "__init__")) fd) (G : FnOk P w K mg base (L2.CX P w) 4 (He.fAd K ("Place", some "__init__")) fd ["self", "name", "least", "most", "let"] (spPlI K)) :
    OkK P w K mg base (L2.CX P w) 4 ("Place", some "__init__") ["self", "name", "least", "most", "let"] 4 [] (fun vs _ => vs ++ [.bl true]) (spPlI K) := by
  obtain ⟨its, mv, b⟩ := F.kbinds (ps := ["self", "name", "least", "most", "let"]) 4 [] [("let", .bl true)] (fun us _ mv _ => us ++ mv) (by decide) (by decide) (fun _ h => h) (fun r1 _ r3 _ => r1.append r3)
    fun T D doc pm an cdv ct us its mv ws h1 h2 h3 h4 => match us, its, mv, ws, h1, h2, h3, h4 with | [_, _, _, _], [_, _], [_], [], _, _, _, _ => ⟨_, rfl, _, _, _, _, _, _, rfl, rfl, rfl⟩
  exact ⟨fd, _, G, b⟩
theorem O_Program2kC {sp : Sp} {fd : FuncData} (F : FunD K "__init__" "Program.__init__" (defArgs s_Program_init) (defBody s_Program_init) (defScope s_Program_init) [] [("start", .non)] (He.fAd K ("Program", some "__init__")) fd) (G : FnOk P w K mg base (L2.CX P w) 5 (He.fAd K ("Program", some "__init__")) fd ["self", "places", "nexts", "start"] sp) :
    OkK P w K mg base (L2.CX P w) 5 ("Program", some "__init__") ["self", "places", "nexts", "start"] 3 ["start"] (fun vs zs => vs ++ zs) sp := by
  obtain ⟨mv, b⟩ := F.kbinds0 (ps := ["self", "places", "nexts", "start"]) 3 ["start"] [] (fun us _ ws => us ++ ws) (by decide) (fun _ h => nomatch h) (fun r1 _ r4 => r1.append r4)
    fun D doc pm an cdv ct us mv ws h1 h3 h4 => match us, mv, ws, h1, h3, h4 with | [_, _, _], [], [_], _, _, _ => rfl
  exact ⟨fd, _, G, b⟩
end
end K7

set_option Elab.async false
set_option linter.all false
set_option maxRecDepth 100000
set_option maxHeartbeats 0
namespace K7
open PySem PySem.Spec PyProof.Rows L2 Vf
def fn : List He.DefD := [
  ⟨("is_integer", none), "is_integer", "is_integer", defArgs s_is_integer, defBody s_is_integer, defScope s_is_integer, [], []⟩,
  ⟨("is_integer_from", none), "is_integer_from", "is_integer_from", defArgs s_is_integer_from, defBody s_is_integer_from, defScope s_is_integer_from, [], []⟩,
  ⟨("is_flag", none), "is_flag", "is_flag", defArgs s_is_flag, defBody s_is_flag, defScope s_is_flag, [], []⟩,
  ⟨("is_name", none), "is_name", "is_name", defArgs s_is_name, defBody s_is_name, defScope s_is_name, [], []⟩,
  ⟨("has_twins", none), "has_twins", "has_twins", defArgs s_has_twins, defBody s_has_twins, defScope s_has_twins, [], []⟩,
  ⟨("BadPlace", some "__init__"), "__init__", "BadPlace.__init__", defArgs s_BadPlace_init, defBody s_BadPlace_init, defScope s_BadPlace_init, [], []⟩,
  ⟨("Place", some "__init__"), "__init__", "Place.__init__", defArgs s_Place_init, defBody s_Place_init, defScope s_Place_init, [.int 1, .non], [("let", .bl true)]⟩,
  ⟨("BadProgram", some "__init__"), "__init__", "BadProgram.__init__", defArgs s_BadProgram_init, defBody s_BadProgram_init, defScope s_BadProgram_init, [], []⟩,
  ⟨("Program", some "__init__"), "__init__", "Program.__init__", defArgs s_Program_init, defBody s_Program_init, defScope s_Program_init, [], [("start", .non)]⟩,
  ⟨("is_one_of", none), "is_one_of", "is_one_of", defArgs s_is_one_of, defBody s_is_one_of, defScope s_is_one_of, [], []⟩,
  ⟨("are_places", none), "are_places", "are_places", defArgs s_are_places, defBody s_are_places, defScope s_are_places, [], []⟩,
  ⟨("are_nexts", none), "are_nexts", "are_nexts", defArgs s_are_nexts, defBody s_are_nexts, defScope s_are_nexts, [], []⟩,
  ⟨("is_choice", none), "is_choice", "is_choice", defArgs s_is_choice, defBody s_is_choice, defScope s_is_choice, [], []⟩,
  ⟨("_law_take", none), "_law_take", "_law_take", defArgs s_law_take, defBody s_law_take, defScope s_law_take, [], []⟩,
  ⟨("_law_cell", none), "_law_cell", "_law_cell", defArgs s_law_cell, defBody s_law_cell, defScope s_law_cell, [], []⟩,
  ⟨("_law_name", none), "_law_name", "_law_name", defArgs s_law_name, defBody s_law_name, defScope s_law_name, [], []⟩,
  ⟨("_law_rows", none), "_law_rows", "_law_rows", defArgs s_law_rows, defBody s_law_rows, defScope s_law_rows, [], []⟩,
  ⟨("_law_nexts", none), "_law_nexts", "_law_nexts", defArgs s_law_nexts, defBody s_law_nexts, defScope s_law_nexts, [], []⟩,
  ⟨("_law_bad_places", none), "_law_bad_places", "_law_bad_places", defArgs s_law_bad_places, defBody s_law_bad_places, defScope s_law_bad_places, [], []⟩,
  ⟨("_law_bad_nexts", none), "_law_bad_nexts", "_law_bad_nexts", defArgs s_law_bad_nexts, defBody s_law_bad_nexts, defScope s_law_bad_nexts, [], []⟩,
  ⟨("_law_made", none), "_law_made", "_law_made", defArgs s_law_made, defBody s_law_made, defScope s_law_made, [], []⟩,
  ⟨("_law_copies", none), "_law_copies", "_law_copies", defArgs s_law_copies, defBody s_law_copies, defScope s_law_copies, [], []⟩,
  ⟨("law", none), "law", "law", defArgs s_law, defBody s_law, defScope s_law, [], []⟩]
def fa : List He.Fa := [.free "int", .free "bool", .free "str", .free "len", .free "all", .free "isinstance", .int "LONGEST_NAME" 8, .int "MOST_TICKS" 6, .str "LETTERS" "abcdefghijklmnopqrstuvwxyz", .glo "KEPT_WORDS", .glo "is_integer", .glo "is_integer_from", .glo "is_flag", .glo "is_name", .glo "Place", .glo "BadPlace", .cls "Place", .mkr "Place", .noat "Place" "name", .noat "Place" "least", .noat "Place" "most", .noat "Place" "let", .free "enumerate", .free "list", .free "tuple", .free "dict", .int "MOST_PLACES" 6, .glo "has_twins", .glo "is_one_of", .glo "are_places", .glo "are_nexts", .glo "is_choice", .glo "Program", .glo "BadProgram", .glo "NoPlace", .cls "Program", .mkr "Program", .noat "Program" "names", .noat "Program" "start", .noat "Program" "_places", .noat "Program" "_nexts", .free "range", .glo "_law_cell", .glo "_law_take", .glo "_law_name", .glo "_law_rows", .glo "_law_nexts", .glo "_law_program", .glo "_law_row", .glo "_law_bad_places", .glo "_law_bad_nexts", .glo "_law_made", .glo "_law_copies", .glo "SeenError", .glo "law"]
def ex2 (K : PySem.W.Frag) : Bool := ((kTup K (He.ga K "KEPT_WORDS") KEPT) && ((exI K "BadPlace" "why") && ((He.eqO (PySem.W.specialIn K (.builtin "object.__class__") "__get__") (some (some (.builtin "getset_descriptor.__get__")))) && ((decide (PySem.W.takesIn K (.builtin "object.__class__") = some true)) && ((He.eqO (PySem.W.findIn K (.ref (He.ga K "Place")) "__class__") (some (some (.builtin "object.__class__")))) && ((decide (PySem.W.mroIn K (He.ga K "Place") (.type "object") = some true)) && ((decide (PySem.W.kitOne K (.ref (He.ga K "Place")) (.ref (He.ga K "Place")) = some true)) && ((exI K "BadProgram" "why") && ((exI K "NoPlace" "name") && ((He.eqO (PySem.W.findIn K (.ref (He.ga K "Program")) "__class__") (some (some (.builtin "object.__class__")))) && ((decide (PySem.W.mroIn K (He.ga K "Program") (.type "object") = some true)) && ((decide (PySem.W.kitOne K (.ref (He.ga K "Program")) (.ref (He.ga K "Program")) = some true)) && ((decide (PySem.W.kitOne K (.type "str") (.ref (He.ga K "Place")) = some false)) && ((decide (PySem.W.kitOne K (.type "NoneType") (.ref (He.ga K "Place")) = some false)) && ((decide (PySem.W.kitOne K (.type "int") (.ref (He.ga K "Place")) = some false)) && ((decide (PySem.W.kitOne K (.type "tuple") (.ref (He.ga K "Place")) = some false)) && ((decide (PySem.W.kitOne K (.type "list") (.ref (He.ga K "Place")) = some false)) && ((decide (PySem.W.exmOne K (.ref (He.ga K "BadProgram")) (.ref (He.ga K "BadProgram")) = some true)) && ((decide (PySem.W.kitOne K (.ref (He.ga K "BadProgram")) (.ref (He.ga K "SeenError")) = some true)) && ((decide (PySem.W.kitOne K (.ref (He.ga K "BadProgram")) (.ref (He.ga K "BadPlace")) = some false)) && true))))))))))))))))))))
def ex (K : PySem.W.Frag) : Bool := (fa.all fun f => f.ok K) && ex2 K
abbrev R : PySem.W.OpenRow := PySem.W.OpenLaw.row PySem.Challenge.rw_seenshares_k07_program_refusals
abbrev hk : PySem.W.Hook := hookM 5 ex fn
def ob (s : PySem.W.SharedT) : AlM := obsMG 5 ex fn (HandSHeadRun.getT s)
theorem ob_eq (s : PySem.W.SharedT) : ob s = hk.obs s.abs := obsMG_eq (HandSHeadRun.getT_eq s)
def names : List Str := ("_wall" : Str) :: ("SeenError" : Str) :: ("BadPlace" : Str) :: ("BadProgram" : Str) :: ("NoPlace" : Str) :: ("KEPT_WORDS" : Str) :: ("LETTERS" : Str) :: ("LONGEST_NAME" : Str) :: ("is_integer" : Str) :: ("is_integer_from" : Str) :: ("is_flag" : Str) :: ("is_name" : Str) :: ("has_twins" : Str) :: ("MOST_TICKS" : Str) :: ("MOST_PLACES" : Str) :: ("Place" : Str) :: ("Program" : Str) :: ("is_one_of" : Str) :: ("are_places" : Str) :: ("are_nexts" : Str) :: ("is_choice" : Str) :: ("_law_cell" : Str) :: ("_law_take" : Str) :: ("_law_name" : Str) :: ("_law_rows" : Str) :: ("_law_row" : Str) :: ("_law_nexts" : Str) :: ("_law_program" : Str) :: ("_law_bad_places" : Str) :: ("_law_bad_nexts" : Str) :: ("_law_made" : Str) :: ("_law_copies" : Str) :: []
theorem run (w : World) : HandSHeadRun.RunEq R (PySem.W.view R.prog [36]) hk ob 100000 names w := by
  intro os
  kernel_rfl
end K7

set_option Elab.async false
set_option linter.all false
set_option maxRecDepth 100000
set_option maxHeartbeats 4000000
namespace K7
open PySem PySem.Spec PyProof.Rows L2 Vf
section
variable {K : PySem.W.Frag} {h : Heap} {mg : Str → Option Value}
theorem mk_ETxt (X : K.In h) (G : h.Ns mainGlobals mg) (c : ex K = true) : ETxt K mg := by
  obtain ⟨a, c⟩ := He.ba c
  have fact : ∀ (i : Nat) {f : He.Fa}, fa[i]? = some f → f.ok K = true := fun i f e => List.all_eq_true.mp a f (List.mem_of_getElem? e)
  obtain ⟨c0, c⟩ := He.ba c
  obtain ⟨c1, c⟩ := He.ba c
  obtain ⟨c2, c⟩ := He.ba c
  obtain ⟨c3, c⟩ := He.ba c
  obtain ⟨c4, c⟩ := He.ba c
  obtain ⟨c5, c⟩ := He.ba c
  obtain ⟨c6, c⟩ := He.ba c
  obtain ⟨c7, c⟩ := He.ba c
  obtain ⟨c8, c⟩ := He.ba c
  obtain ⟨c9, c⟩ := He.ba c
  obtain ⟨c10, c⟩ := He.ba c
  obtain ⟨c11, c⟩ := He.ba c
  obtain ⟨c12, c⟩ := He.ba c
  obtain ⟨c13, c⟩ := He.ba c
  obtain ⟨c14, c⟩ := He.ba c
  obtain ⟨c15, c⟩ := He.ba c
  obtain ⟨c16, c⟩ := He.ba c
  obtain ⟨c17, c⟩ := He.ba c
  obtain ⟨c18, c⟩ := He.ba c
  obtain ⟨c19, c⟩ := He.ba c
  exact
  { z_int := He.free_ok X G (fact 0 (f := .free "int") rfl)
    z_bool := He.free_ok X G (fact 1 (f := .free "bool") rfl)
    z_str := He.free_ok X G (fact 2 (f := .free "str") rfl)
    z_len := He.free_ok X G (fact 3 (f := .free "len") rfl)
    z_all := He.free_ok X G (fact 4 (f := .free "all") rfl)
    z_isinstance := He.free_ok X G (fact 5 (f := .free "isinstance") rfl)
    i_LONGEST_NAME := He.int_ok X G (fact 6 (f := .int "LONGEST_NAME" 8) rfl)
    i_MOST_TICKS := He.int_ok X G (fact 7 (f := .int "MOST_TICKS" 6) rfl)
    i_LETTERS := He.str_ok X G (fact 8 (f := .str "LETTERS" "abcdefghijklmnopqrstuvwxyz") rfl)
    g_KEPT_WORDS := He.glo_ok X G (fact 9 (f := .glo "KEPT_WORDS") rfl)
    t_KEPT := c0
    g_is_integer := He.glo_ok X G (fact 10 (f := .glo "is_integer") rfl)
    g_is_integer_from := He.glo_ok X G (fact 11 (f := .glo "is_integer_from") rfl)
    g_is_flag := He.glo_ok X G (fact 12 (f := .glo "is_flag") rfl)
    g_is_name := He.glo_ok X G (fact 13 (f := .glo "is_name") rfl)
    g_Place := He.glo_ok X G (fact 14 (f := .glo "Place") rfl)
    g_BadPlace := He.glo_ok X G (fact 15 (f := .glo "BadPlace") rfl)
    c_Place := cls_of (fact 16 (f := .cls "Place") rfl)
    m_Place := mk_of (fact 17 (f := .mkr "Place") rfl)
    nN := noat_of (fact 18 (f := .noat "Place" "name") rfl)
    nL := noat_of (fact 19 (f := .noat "Place" "least") rfl)
    nM := noat_of (fact 20 (f := .noat "Place" "most") rfl)
    nT := noat_of (fact 21 (f := .noat "Place" "let") rfl)
    x_BadPlace := exI_ok c1
    hn := He.eqO_ok c2
    ht := of_decide_eq_true c3
    ha := He.eqO_ok c4
    hm := of_decide_eq_true c5
    k1 := of_decide_eq_true c6
    z_enumerate := He.free_ok X G (fact 22 (f := .free "enumerate") rfl)
    z_list := He.free_ok X G (fact 23 (f := .free "list") rfl)
    z_tuple := He.free_ok X G (fact 24 (f := .free "tuple") rfl)
    z_dict := He.free_ok X G (fact 25 (f := .free "dict") rfl)
    i_MOST_PLACES := He.int_ok X G (fact 26 (f := .int "MOST_PLACES" 6) rfl)
    g_has_twins := He.glo_ok X G (fact 27 (f := .glo "has_twins") rfl)
    g_is_one_of := He.glo_ok X G (fact 28 (f := .glo "is_one_of") rfl)
    g_are_places := He.glo_ok X G (fact 29 (f := .glo "are_places") rfl)
    g_are_nexts := He.glo_ok X G (fact 30 (f := .glo "are_nexts") rfl)
    g_is_choice := He.glo_ok X G (fact 31 (f := .glo "is_choice") rfl)
    g_Program := He.glo_ok X G (fact 32 (f := .glo "Program") rfl)
    g_BadProgram := He.glo_ok X G (fact 33 (f := .glo "BadProgram") rfl)
    g_NoPlace := He.glo_ok X G (fact 34 (f := .glo "NoPlace") rfl)
    c_Program := cls_of (fact 35 (f := .cls "Program") rfl)
    m_Program := mk_of (fact 36 (f := .mkr "Program") rfl)
    nA := noat_of (fact 37 (f := .noat "Program" "names") rfl)
    nB := noat_of (fact 38 (f := .noat "Program" "start") rfl)
    nC := noat_of (fact 39 (f := .noat "Program" "_places") rfl)
    nD := noat_of (fact 40 (f := .noat "Program" "_nexts") rfl)
    x_BadProgram := exI_ok c7
    x_NoPlace := exI_ok c8
    pa := He.eqO_ok c9
    pm := of_decide_eq_true c10
    pk := of_decide_eq_true c11
    z_range := He.free_ok X G (fact 41 (f := .free "range") rfl)
    g_law_cell := He.glo_ok X G (fact 42 (f := .glo "_law_cell") rfl)
    g_law_take := He.glo_ok X G (fact 43 (f := .glo "_law_take") rfl)
    g_law_name := He.glo_ok X G (fact 44 (f := .glo "_law_name") rfl)
    g_law_rows := He.glo_ok X G (fact 45 (f := .glo "_law_rows") rfl)
    g_law_nexts := He.glo_ok X G (fact 46 (f := .glo "_law_nexts") rfl)
    g_law_program := He.glo_ok X G (fact 47 (f := .glo "_law_program") rfl)
    g_law_row := He.glo_ok X G (fact 48 (f := .glo "_law_row") rfl)
    g_law_bad_places := He.glo_ok X G (fact 49 (f := .glo "_law_bad_places") rfl)
    g_law_bad_nexts := He.glo_ok X G (fact 50 (f := .glo "_law_bad_nexts") rfl)
    g_law_made := He.glo_ok X G (fact 51 (f := .glo "_law_made") rfl)
    g_law_copies := He.glo_ok X G (fact 52 (f := .glo "_law_copies") rfl)
    g_SeenError := He.glo_ok X G (fact 53 (f := .glo "SeenError") rfl)
    q1 := of_decide_eq_true c12
    q2 := of_decide_eq_true c13
    q3 := of_decide_eq_true c14
    q4 := of_decide_eq_true c15
    q5 := of_decide_eq_true c16
    x1 := of_decide_eq_true c17
    p1 := of_decide_eq_true c18
    p2 := of_decide_eq_true c19 }
theorem facts {P : Program} {w : World} {f : Addr} (X : K.In h) (G : h.Ns mainGlobals mg) (hfa : mg ("law" : Str) = some (.ref f)) (c : SaysM ex fn K) :
    ∃ fd : FuncData, (∀ (s : Shared) (v : Value), BindsTo s fd ⟨[v], []⟩ [("_law_script", v)]) ∧ ∀ base : Heap, K.In base → base.Ns mainGlobals mg → FnOk P w K mg base CX0 9 f fd ["_law_script"] (spLaw K) := by
  obtain ⟨d0, F0⟩ := c.fn 0
  obtain ⟨d1, F1⟩ := c.fn 1
  obtain ⟨d2, F2⟩ := c.fn 2
  obtain ⟨d3, F3⟩ := c.fn 3
  obtain ⟨d4, F4⟩ := c.fn 4
  obtain ⟨d5, F5⟩ := c.fn 5
  obtain ⟨d6, F6⟩ := c.fn 6
  obtain ⟨d7, F7⟩ := c.fn 7
  obtain ⟨d8, F8⟩ := c.fn 8
  obtain ⟨d9, F9⟩ := c.fn 9
  obtain ⟨d10, F10⟩ := c.fn 10
  obtain ⟨d11, F11⟩ := c.fn 11
  obtain ⟨d12, F12⟩ := c.fn 12
  obtain ⟨d13, F13⟩ := c.fn 13
  obtain ⟨d14, F14⟩ := c.fn 14
  obtain ⟨d15, F15⟩ := c.fn 15
  obtain ⟨d16, F16⟩ := c.fn 16
  obtain ⟨d17, F17⟩ := c.fn 17
  obtain ⟨d18, F18⟩ := c.fn 18
  obtain ⟨d19, F19⟩ := c.fn 19
  obtain ⟨d20, F20⟩ := c.fn 20
  obtain ⟨d21, F21⟩ := c.fn 21
  obtain ⟨d22, F22⟩ := c.fn 22
  have hl : He.ga K "law" = f := by
    have e := He.glo_ok X G (List.all_eq_true.mp (He.ba c.ex).1 (.glo "law") (List.mem_of_getElem? (i := 54) rfl))
    rw [hfa] at e
    cases e
    rfl
  have b := FunD.bindsA (ps := ["_law_script"]) F22 fun _ _ _ _ _ _ us hl => match us, hl with | [_], _ => rfl
  refine ⟨d22, fun s v => b s [v] rfl, fun base _ _ => ?_⟩
  have ET := mk_ETxt X G c.ex
  have T := ET.toTxt
  have S := T.toPTxt
  have GT := T.toGTxt
  have A_is_integer := ok_is_integer (P := P) (w := w) (base := base) F0 S
  have A_is_integer_from := ok_is_integer_from F1 S A_is_integer
  have A_is_flag := ok_is_flag (P := P) (w := w) (base := base) F2 S
  have A_is_name := ok_is_name (P := P) (w := w) (base := base) F3 S
  have A_has_twins := ok_has_twins (P := P) (w := w) (base := base) F4 GT
  have A_BadPlace := ok_BadPlace_init (P := P) (w := w) (mg := mg) (base := base) F5
  have GP := ok_Place_init F6 S A_is_name A_is_integer_from A_is_flag A_BadPlace
  have IP := O_Place3k F6 GP
  have IP1 := O_Place1 F6 GP
  have IP3 := O_Place3 F6 GP
  have A_BadProgram := ok_BadProgram_init (P := P) (w := w) (mg := mg) (base := base) F7
  have A_is_one_of := ok_is_one_of (P := P) (w := w) (base := base) F9 GT
  have A_is_choice := ok_is_choice F12 GT A_is_one_of A_has_twins
  have A_is_choiceC := ok_is_choiceC F12 GT A_is_one_of A_has_twins
  have A_are_places := ok_are_places F10 GT A_has_twins
  have A_are_placesB := ok_are_placesB F10 ET A_has_twins
  have A_are_nexts := ok_are_nexts F11 GT A_is_choice
  have A_are_nextsB := ok_are_nextsB F11 GT A_is_choiceC
  have G0 := ok_Program_init F8 GT A_are_places A_are_nexts A_is_one_of A_BadProgram
  have G1 := ok_Program_initB1 F8 GT A_are_placesB A_are_nexts A_is_one_of A_BadProgram
  have G2 := ok_Program_initB2 F8 GT A_are_places A_are_nextsB A_is_one_of A_BadProgram
  have G3 := ok_Program_initB3 F8 GT A_are_places A_are_nexts A_is_one_of A_BadProgram
  have IG := O_Program2kC F8 (ok_Program_initC G0 G1 G2 G3)
  have A_law_take := ok_law_take (P := P) (w := w) (base := base) F13 T
  have A_law_cell := ok_law_cell (P := P) (w := w) (base := base) F14 T
  have A_law_name := ok_law_name F15 T A_law_take
  have A_law_rows := ok_law_rows F16 T A_law_take A_law_name
  have A_law_nexts := ok_law_nexts (P := P) (w := w) (base := base) F17 T
  have A_law_bad_places := ok_law_bad_places F18 ET A_law_take IP1 IP3
  have A_law_bad_nexts := ok_law_bad_nexts F19 ET A_law_take
  have A_law_made := ok_law_made F20 ET IG
  have A_law_copies := ok_law_copies (P := P) (w := w) (base := base) F21 T
  have r := ok_law F22 ET A_law_cell A_law_take A_law_rows A_law_nexts IP A_law_bad_nexts A_law_bad_places A_law_copies A_law_made
  rw [← hl]
  exact r
end
end K7
open PySem PySem.W PySem.Calls PyProof.Rows
theorem PySem.Challenge.cw_seenshares_k07_program_refusals_holds : PySem.Challenge.rw_seenshares_k07_program_refusals.Holds := by
  w_on; o_law
  refine HandSHeadRun.head_any (r := OpenLaw.row PySem.Challenge.rw_seenshares_k07_program_refusals) (q := view (OpenLaw.row PySem.Challenge.rw_seenshares_k07_program_refusals).prog [36]) (H := K7.hk) (ob := K7.ob) (M := 100000) (loose := K7.names)
    (d := HandSHeadRun.topDef (OpenLaw.row PySem.Challenge.rw_seenshares_k07_program_refusals).prog 36) (kwd := []) K7.ob_eq (by kernel_rfl) (fun s => by kernel_rfl) K7.run (by kernel_rfl) (by kernel_rfl) (by kernel_rfl) (by rfl) (by first | assumption | decide +kernel) (by decide +kernel) ⟨rfl, rfl, rfl, rfl, rfl, by decide +kernel⟩ ?hw ?hc
  case hw => w_witness2
  case hc =>
    refine L2.walk_ofE (l := PySem.Challenge.rw_seenshares_k07_program_refusals) (n := 63) (k := 9) (x := "_law_script") (CX := L2.CX0) rfl (by decide) (by kernel_rfl) ⟨rfl, by decide, by decide⟩ ?F (fun _ _ _ _ z => z)
    intro w mg fa h Y G hmg0
    obtain ⟨K, KX, c⟩ := Y
    have hmg : mg ("law" : PySem.Str) = some (.ref fa) := by
      have e : (HandSHeadRun.topDef (OpenLaw.row PySem.Challenge.rw_seenshares_k07_program_refusals).prog 36).name = ("law" : PySem.Str) := by kernel_rfl
      rw [← e]
      exact hmg0
    obtain ⟨fd, hb, hF⟩ := K7.facts (P := (PySem.Challenge.rw_seenshares_k07_program_refusals).prog) (w := w) KX G hmg c
    exact ⟨K, fd, K7.spLaw K, KX, hb, fun H a ns hl _ hS => ⟨a, ns, rfl, hS, hl, fun _ => rfl⟩, hF⟩
#print axioms PySem.Challenge.cw_seenshares_k07_program_refusals_holds
