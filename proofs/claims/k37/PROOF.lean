import PyProof.Rows.All
import Wide.All
import OpenK.AllK
import Wide.FinOn
import PyProof.EqAt
import PyProof.EqKinds
import PyProof.TupleCall
import KE.KStateDown
import KE.KCallOwn
import HandS.ForExc
import HandS.Wide
import HandS.Gcd
import HandS.Defaults
import HandS.IsInst
import HandS.ExcInit
import HandS.ExcField
import HandS.ExcIs
import HandS.FStr
import HandS.Codes
import HandS.Dict
import HandS.Head0
import HandS.Head1
import HandS.Head2
import HandS.Head3
import HandS.HeadEnd
import HandS.HeadHook1
import HandS.HeadHook2
import KE.KExcIs
import KE.KOpsOwn
import PyProof.FactsAll.int_1
import PyProof.FactsAll.int_2
import PyProof.FactsAll.int_3
import PyProof.FactsAll.int_5
import HandS.TryOnly
import HandS.Small
import PyProof.FactsAll.str_1
import PyProof.FactsAll.tuple_1
import PyProof.FactsAll.list_1
import PyProof.FactsAll.dict_1
import PyProof.FactsAll.bool_1
import PyProof.FactsAll.NoneType_1
import HandS.OwnEq
import HandS.Comp
import HandS.Walk
import HandS.MakeKwOnly
import HandS.MakeKw
import PyProof.Rows.StrIn
import KE.GoesMore
import HandS.DictComp
import HandS.Property
import HandS.DeepEq
import KE.KEqDict
import PyProof.NeKinds
import HandS.Exc
import HandS.SetFor
import HandS.Conv
import PyProof.CompUse
import KE.GoesEnumKw
import PyProof.Rows.CallKwBuiltin
import HandS.Sort
import PyProof.DictCopy
import PyProof.StrOps2
import HandS.WordsDict
import HandS.TupAny
import PySem.Challenge.RW_seenshares_k37_read_refusals
set_option Elab.async false
set_option linter.all false
set_option maxRecDepth 100000
set_option maxHeartbeats 2000000
namespace Vf
open PySem PySem.Spec PyProof.Rows L2
/-! ### defs at their places -/
abbrev Pl : Type := Str × Option Str
structure OkD (P : Program) (w : World) (K : PySem.W.Frag) (mg : Str → Option Value) (base : Heap) (CX : CXT) (k : Nat) (p : Pl) (ps : List Str) (dvs : List V) (sp : Sp) : Prop where
  ex : ∃ fd ds, FnOk P w K mg base CX k (He.fAd K p) fd ps sp ∧ Binds K fd ps ds ∧ Vals dvs ds
  kp : PySem.W.keepIn K (.ref (He.fAd K p)) = true
section
variable {X : Cx} {CX : CXT} {k j : Nat} {ps : List Str} {sp : Sp} {dvs : List V} {x m : Str} {p pos apos : Pos} {e o : Expr} {es : List Expr} {ta : TE} {t : TA}
theorem c_fn {E : XK} (O : OkD X.prog X.w X.K X.mg X.base CX k (x, none) ps dvs sp) (hr : Room j X.A) (hj : k ≤ j) (hm : X.mg x = some (.ref (He.ga X.K x))) (hx : Passes CX X E) (ha : PA X (e :: es) t) (hg : Gl X x := by rfl)
    (hdb : (x == ("__debug__" : Str)) = false := by decide) (he : starEach (e :: es) X.env = (false, eval e X.env) :: starEach es X.env := by rfl) (hpl : (backTo pos (starEach es X.env)).any (·.1) = false := by rfl) :
    PE X (.Call (.Name x p) (e :: es) [] pos) (tCall sp dvs E t) := by
  obtain ⟨fd, ds, F, b, v⟩ := O.ex
  exact pe_call F (hr.mono hj) hg hm O.kp b v hx ha hdb he hpl
theorem c_fnS {E : L2.St → XK} (O : OkD X.prog X.w X.K X.mg X.base CX k (x, none) ps [] sp) (hr : Room j X.A) (hj : k ≤ j) (hm : X.mg x = some (.ref (He.ga X.K x))) (hx : ∀ σ, PassesAt CX X σ (E σ)) (ha : PA X (e :: es) t) (hg : Gl X x := by rfl)
    (hdb : (x == ("__debug__" : Str)) = false := by decide) (he : starEach (e :: es) X.env = (false, eval e X.env) :: starEach es X.env := by rfl) (hpl : (backTo pos (starEach es X.env)).any (·.1) = false := by rfl) :
    PE X (.Call (.Name x p) (e :: es) [] pos) (tCallS sp E t) := by
  obtain ⟨fd, ds, F, b, v⟩ := O.ex
  cases v
  exact pe_callS F (hr.mono hj) hg hm O.kp b hx ha hdb he hpl
theorem mk_of {K : PySem.W.Frag} {x : Str} (c : (He.Fa.mkr x).ok K = true) : Mk K (He.ga K x) (He.fAd K (x, some "__init__")) := by
  obtain ⟨h1, h2⟩ := He.ba c
  obtain ⟨h2, h3⟩ := He.ba h2
  obtain ⟨h3, h4⟩ := He.ba h3
  exact ⟨h1, He.eqO_ok h2, h3, h4⟩
theorem meth_of {K : PySem.W.Frag} {x m : Str} (c : (He.Fa.meth x m).ok K = true) : Meth K (He.ga K x) m (He.fAd K (x, some m)) := by
  obtain ⟨h1, h2⟩ := He.ba c
  obtain ⟨h2, h3⟩ := He.ba h2
  exact ⟨He.eqO_ok h1, h2, h3⟩
theorem cls_of {K : PySem.W.Frag} {x : Str} (c : (He.Fa.cls x).ok K = true) : Cls K (He.ga K x) := by
  obtain ⟨h1, h2⟩ := He.ba c
  obtain ⟨h2, h3⟩ := He.ba h2
  obtain ⟨h3, h4⟩ := He.ba h3
  exact ⟨h1, h2, h3, He.eqO_ok h4⟩
theorem noat_of {K : PySem.W.Frag} {x f : Str} (c : (He.Fa.noat x f).ok K = true) : NoAttr K (He.ga K x) f := He.eqO_ok c
/-- C(e, ..) -/
theorem c_mk {E : XK} {C : Addr} (M : Mk X.K C (He.fAd X.K (x, some "__init__"))) (O : OkD X.prog X.w X.K X.mg X.base CX k (x, some "__init__") ps dvs sp) (hr : Room j X.A) (hj : k + 1 ≤ j) (hm : X.mg x = some (.ref C)) (hx : Passes CX X E) (ha : PA X (e :: es) t) (hg : Gl X x := by rfl)
    (hdb : (x == ("__debug__" : Str)) = false := by decide) (he : starEach (e :: es) X.env = (false, eval e X.env) :: starEach es X.env := by rfl) (hpl : (backTo pos (starEach es X.env)).any (·.1) = false := by rfl) :
    PE X (.Call (.Name x p) (e :: es) [] pos) (tMake C sp dvs E t) := by
  obtain ⟨fd, ds, F, b, v⟩ := O.ex
  exact pe_make M F (hr.mono hj) hg hm b v hx ha hdb he hpl
/-- o.m() -/
theorem c_me0 {E : XK} {C : Addr} {cn : Str} (hC : C = He.ga X.K cn) (he : PE X o ta) (c : Cls X.K C) (hm : Meth X.K C m (He.fAd X.K (cn, some m))) (O : OkD X.prog X.w X.K X.mg X.base CX k (cn, some m) ps dvs sp) (hr : Room j X.A) (hj : k ≤ j) (hx : Passes CX X E) {pl : Sem Bool}
    (ht : eval (.Call (.Attribute o m apos) [] [] pos) X.env = (do
      let ov ← eval o X.env
      standAt apos.atName
      let (f, first) ← holding [ov] (getMethod ov m pl)
      callWith pos f first (backTo pos (starEach [] X.env)) (backToKw pos (keywordEach [] X.env))) := by rfl) :
    PE X (.Call (.Attribute o m apos) [] [] pos) (tMeth C m sp dvs E ta tNil) := by
  obtain ⟨fd, ds, F, b, v⟩ := O.ex
  exact pe_meth0 he c hm F (hr.mono hj) b v hx ht
theorem c_me {E : XK} {C : Addr} {cn : Str} (hC : C = He.ga X.K cn) (hb : PE X o ta) (c : Cls X.K C) (hm : Meth X.K C m (He.fAd X.K (cn, some m))) (O : OkD X.prog X.w X.K X.mg X.base CX k (cn, some m) ps dvs sp) (hr : Room j X.A) (hj : k ≤ j) (hx : Passes CX X E) (ha : PA X (e :: es) t) {pl : Sem Bool}
    (hst : starEach (e :: es) X.env = (false, eval e X.env) :: starEach es X.env := by rfl) (hpl : (backTo pos (starEach es X.env)).any (·.1) = false := by rfl)
    (ht : eval (.Call (.Attribute o m apos) (e :: es) [] pos) X.env = (do
      let ov ← eval o X.env
      standAt apos.atName
      let (f, first) ← holding [ov] (getMethod ov m pl)
      callWith pos f first (backTo pos (starEach (e :: es) X.env)) (backToKw pos (keywordEach [] X.env))) := by rfl) :
    PE X (.Call (.Attribute o m apos) (e :: es) [] pos) (tMeth C m sp dvs E ta t) := by
  obtain ⟨fd, ds, F, b, v⟩ := O.ex
  exact pe_meth hb c hm F (hr.mono hj) b v hx ha hst hpl ht
end
/-! ### a try's body whose errors are wished for at any slots -/
theorem passAny {X : Cx} {W : WX} (n : Nat) (tk : Takes X W) (hn : X.N.length = n := by rfl) : Passes (L2.CX X.prog X.w) X (fun cls d H => ∀ σ : L2.St, σ.length = n → W cls d σ H) :=
  fun _ σ _ _ e s' I c => tk e s' (XE.of_call I (fun _ _ _ h => h σ (I.len.trans hn)) c)
/-! ### operators -/
section
variable {X : Cx}
/-- // by any divisor but 0 below 2 ^ 9000 -/
theorem op_fdivG : OpR X (binaryOp .FloorDiv) (rI (fun _ j => j ≠ 0 ∧ j.natAbs.log2 < 9000) fun i j => .int (i.fdiv j)) := opI fun i j _ _ _ _ _ hc q => floordiv_int hc.1 q (.inl (PyProof.noPylong_of_log2 hc.2))
/-- a built-in class as a value -/
theorem pe_ty {x : Str} {n : String} {pos : Pos} (hm : X.mg x = none) (hv : bootBuiltins x = some (.type n)) (hg : Gl X x := by rfl) (hn : x ≠ "__name__" := by decide) (hd : (x == ("__debug__" : Str)) = false := by decide) : PE X (.Name x pos) (tC (.ty n)) := pe_bltn hg hm hv rfl hn hd
/-- a class of the text as a value -/
theorem pe_cl {x : Str} {a : Addr} {pos : Pos} (hm : X.mg x = some (.ref a)) (hg : Gl X x := by rfl) (hd : (x == ("__debug__" : Str)) = false := by decide) : PE X (.Name x pos) (tC (.ref a)) := pe_glob hg hm rfl hd
/-- str(o), o of a class of the text that has its own __str__ -/
def rStrO (C : Addr) (sp : Sp) : List V → Hp → VK → Prop := fun xs H Q => ∃ a dx fs, xs = [.ref a] ∧ H a = some (.ins C dx fs) ∧ sp [.ref a] H (fun v H' => ∃ z, v = .str z ∧ Q (.str z) H') fun _ _ _ => False
theorem call_strO {k j : Nat} {C : Addr} {cn : Str} {ps : List Str} {sp : Sp} (hC : C = He.ga X.K cn) (hm : Meth X.K C "__str__" (He.fAd X.K (cn, some "__str__"))) (O : OkD X.prog X.w X.K X.mg X.base CX0 k (cn, some "__str__") ps [] sp) (hr : Room j X.A) (hj : k + 2 ≤ j) :
    CallR X (.type "str") (rStrO C sp) := by
  obtain ⟨fd, ds, F, b, v⟩ := O.ex
  cases v
  intro pins s σ H xs us Q I r h
  obtain ⟨a, dx, fs, rfl, ha, hsp⟩ := h
  obtain ⟨u, rfl, ru⟩ : ∃ u, us = [u] ∧ RelV (.ref a) u := by
    cases r with
    | cons p q => cases q; exact ⟨_, rfl, p⟩
  cases ru
  obtain ⟨mA, J, _⟩ := ins_get I.hok ha
  obtain ⟨od, J, _⟩ := J.look
  have hr2 : Room k X.A.in1.in1 := ((hr.mono hj).in1).in1
  refine PySem.W.kso_call hr2.units0 I.kIn J hm.at_ hm.fn ?_
  have hl := F.len _ _ _ _ hsp
  have hb := b s [.ref a] I.kIn (by simpa using hl)
  simp only [List.append_nil] at hb
  refine wpAny_call (codeAny_mono (F.run X.A.in1.in1 X.stack s H ⟨[.ref a], []⟩ [.ref a] [.ref a] _ _ hr2 I.env0.in1.in1 hb (.cons rfl .nil) hsp) fun r s' hq => ?_)
  cases r with
  | error e => exact hq.elim
  | ok fl =>
    cases fl with
    | ret w =>
      obtain ⟨z, H', I', rz, y, ez, q⟩ := I.after hq
      subst ez
      obtain ⟨tk, rfl⟩ := rz
      exact ⟨.str y, H', I', ⟨tk, rfl⟩, q⟩
    | next => exact False.elim hq
    | brk => exact False.elim hq
    | cont => exact False.elim hq
end
end Vf

set_option Elab.async false
set_option linter.all false
set_option maxRecDepth 100000
set_option maxHeartbeats 2000000
namespace Vf
open PySem PySem.Spec PyProof.Rows L2
/-! ### ints and other values -/
/-- a value that is no integer -/
inductive Odd (H : Hp) : V → Prop where
  | bl (b : Bool) : Odd H (.bl b)
  | non : Odd H .non
  | str (z : Str) : Odd H (.str z)
  | tup {a : Addr} {xs : List V} (h : H a = some (.tup xs)) : Odd H (.ref a)
  | lst {a : Addr} {xs : List V} (h : H a = some (.lst xs)) : Odd H (.ref a)
  | dic {a : Addr} {kvs : List (Key × V)} (h : H a = some (.dK kvs)) : Odd H (.ref a)
theorem Odd.ext {H H' : Hp} {x : V} (o : Odd H x) (s : Same H H') : Odd H' x := by
  cases o with
  | bl b => exact .bl b
  | non => exact .non
  | str z => exact .str z
  | tup h => exact .tup (s _ _ h)
  | lst h => exact .lst (s _ _ h)
  | dic h => exact .dic (s _ _ h)
theorem odd_ty (K : PySem.W.Frag) {H : Hp} {x : V} (o : Odd H x) : ∃ (n : String) (b1 b2 : Bool), TyX K H x (.type n) ∧ kitB n "int" = some b1 ∧ kitB n "bool" = some b2 ∧ (b1 && !b2) = false := by
  cases o with
  | bl b => exact ⟨"bool", true, true, .base (.bl b), by decide +kernel, by decide +kernel, rfl⟩
  | non => exact ⟨"NoneType", false, false, .base .non, by decide +kernel, by decide +kernel, rfl⟩
  | str z => exact ⟨"str", false, false, .base (.str z), by decide +kernel, by decide +kernel, rfl⟩
  | tup h => exact ⟨"tuple", false, false, .base (.tup h), by decide +kernel, by decide +kernel, rfl⟩
  | lst h => exact ⟨"list", false, false, .base (.lst h), by decide +kernel, by decide +kernel, rfl⟩
  | dic h => exact ⟨"dict", false, false, .base (.dK h), by decide +kernel, by decide +kernel, rfl⟩
theorem int_ty (K : PySem.W.Frag) (H : Hp) (n : Int) : TyX K H (.int n) (.type "int") ∧ kitB "int" "int" = some true ∧ kitB "int" "bool" = some false :=
  ⟨.base (.int n), by decide +kernel, by decide +kernel⟩
/-- is_integer(x) -/
def spIsInt : Sp := fun vs H Q _ => ∃ x, vs = [x] ∧ (((∃ n, x = .int n) ∧ Q (.bl true) H) ∨ (Odd H x ∧ Q (.bl false) H))
def t_isint (K : PySem.W.Frag) : TS := tRet (tAndV (tCB (rIsi K) (tCons (tVar 0) (tCons (tC (.ty "int")) tNil))) (tNotV (tCB (rIsi K) (tCons (tVar 0) (tCons (tC (.ty "bool")) tNil)))))
theorem run_isint {K : PySem.W.Frag} {N : List Str} {vs : List V} {H : Hp} {Q : VK} {E : XK} (h : spIsInt vs H Q E) : t_isint K { nx := fun _ H' => Q .non H', rt := Q } (start N vs) H := by
  obtain ⟨x, rfl, h⟩ := h
  have s0 : (start N [x])[0]? = some (some x) := rfl
  rcases h with ⟨⟨n, rfl⟩, q⟩ | ⟨o, q⟩
  · obtain ⟨t1, k1, k2⟩ := int_ty K H n
    refine ⟨_, s0, _, .ty "int", _, .type "int", true, rfl, .ty _, t1, kit_ty k1, true, rfl, ?_⟩
    refine iteT ?_
    exact ⟨_, s0, _, .ty "bool", _, .type "bool", false, rfl, .ty _, t1, kit_ty k2, false, rfl, q⟩
  · obtain ⟨n, b1, b2, t1, k1, k2, e⟩ := odd_ty K o
    refine ⟨_, s0, _, .ty "int", _, .type "int", b1, rfl, .ty _, t1, kit_ty k1, b1, rfl, ?_⟩
    cases b1 with
    | false => exact iteF q
    | true =>
      cases b2 with
      | false => cases e
      | true =>
        refine iteT ?_
        exact ⟨_, s0, _, .ty "bool", _, .type "bool", true, rfl, .ty _, t1, kit_ty k2, true, rfl, q⟩
/-! ### the draws -/
/-- _law_cell(script, k): some int -/
def spCell (K : PySem.W.Frag) : Sp := fun vs H Q _ => ∃ (l : Addr) (ns : List Int) (j : Nat), vs = [.ref l, .int (j : Int)] ∧ SqL K H l (ns.map V.int) ∧ j < 1000 ∧ ∀ n : Int, Q (.int n) H
/-- _law_take(draw, size) -/
def spTake : Sp := fun vs H Q _ => ∃ (d : Addr) (n s : Int), vs = [.ref d, .int s] ∧ H d = some (.lst [.int n]) ∧ 0 < s ∧ s < 1073741824 ∧ ∀ r m : Int, 0 ≤ r → r < s → Q (.int r) (upd H d (.lst [.int m]))
theorem atI0 {α : Type} {x : α} {xs : List α} : atI (x :: xs) 0 = some x := by simp [atI, ixN]
theorem atI1 {α : Type} {x y : α} {xs : List α} : atI (x :: y :: xs) 1 = some y := by
  have h : ixN (x :: y :: xs).length 1 = some 1 := by
    unfold ixN
    rw [if_pos (by omega), if_pos (by simp only [List.length_cons]; omega)]
    rfl
  unfold atI
  rw [h]
  rfl
theorem ixN0 {n : Nat} : ixN (n + 1) 0 = some 0 := by
  unfold ixN
  rw [if_pos (by omega), if_pos (by omega)]
  all_goals rfl
abbrev rAddI : R2 := rI0 fun i j => .int (i + j)
abbrev rModI : R2 := rI (fun _ j => 0 < j) fun i j => .int (i % j)
end Vf

set_option Elab.async false
set_option linter.all false
set_option maxRecDepth 100000
set_option maxHeartbeats 2000000
namespace Vf
open PySem PySem.Spec PyProof.Rows L2
/-! ### own errors: class C(..): def __init__(self, f): self.f = f -/
def oexB (K : PySem.W.Frag) (C : Addr) : Bool := match K.lookup C with
  | some ⟨.type "type", _, .cls cd, sl⟩ => (match cd.mro, sl.toList with
    | .ref C' :: bm, [_, _, _, _, some (.builtin n), _] => C' == C && n == "ValueError.__new__" && !cd.hasDel && cd.hasDict && PySem.HandSPX.refsVE bm
    | _, _ => false)
  | _ => false
theorem oexB_ok {K : PySem.W.Frag} {C : Addr} (q : oexB K C = true) : ∃ nm qn N bs bm sn sub ab col dd k0 k1 k2 k3 k5, K.lookup C = some (excClassObj nm qn C N bs bm true sn sub ab col dd k0 k1 k2 k3 k5 "ValueError.__new__") ∧ PySem.HandSPX.refsVE bm = true := by
  unfold oexB at q
  split at q
  · rename_i dd cd sl ho
    split at q
    · rename_i C' bm k0 k1 k2 k3 n k5 hm hs
      simp only [Bool.and_eq_true, beq_iff_eq, Bool.not_eq_true'] at q
      obtain ⟨⟨⟨⟨e1, e2⟩, hdel⟩, hh⟩, hbm⟩ := q
      obtain ⟨nm, bs, mro, ns, qn, hd, sn, sub, ab, col, del⟩ := cd
      obtain ⟨l⟩ := sl
      dsimp only at hm hdel hh hs
      subst hm hdel hh hs e1 e2
      exact ⟨nm, qn, ns, bs, bm, sn, sub, ab, col, dd, k0, k1, k2, k3, k5, ho, hbm⟩
    · cases q
  · cases q
/-- what is told of the error class x whose __init__ keeps its argument as f -/
structure ExD (K : PySem.W.Frag) (x : Str) : Prop where
  o : OexC K (He.ga K x)
  gg : PySem.W.findIn K (.ref (He.ga K x)) "__getattr__" = some none
  ga : PySem.W.findIn K (.ref (He.ga K x)) "__getattribute__" = some (some (.builtin "BaseException.__getattribute__"))
  ha : PySem.W.findIn K (.ref (He.ga K x)) "__class__" = some (some (.builtin "object.__class__"))
  hm : PySem.W.mroIn K (He.ga K x) (.type "object") = some true
  hd : PySem.W.hasDictIn K (He.ga K x) = true
  hcl : (PySem.W.clsIn K (He.ga K x)).isSome = true
def exD (K : PySem.W.Frag) (x : Str) : Bool :=
  oexB K (He.ga K x) && (He.eqO (PySem.W.findIn K (.ref (He.ga K x)) "__setattr__") (some (some (.builtin "object.__setattr__"))) && (decide (PySem.W.subIn K (.ref (He.ga K x)) (.type "BaseException") = some true) && (decide (PySem.W.typeIn K (.ref (He.ga K x)) = some (.type "type")) && (PySem.W.keepIn K (.ref (He.ga K x)) &&
  (He.eqO (PySem.W.findIn K (.ref (He.ga K x)) "__getattr__") (some none) && (He.eqO (PySem.W.findIn K (.ref (He.ga K x)) "__getattribute__") (some (some (.builtin "BaseException.__getattribute__"))) && (He.eqO (PySem.W.findIn K (.ref (He.ga K x)) "__class__") (some (some (.builtin "object.__class__"))) &&
  (decide (PySem.W.mroIn K (He.ga K x) (.type "object") = some true) && (PySem.W.hasDictIn K (He.ga K x) && (PySem.W.clsIn K (He.ga K x)).isSome)))))))))
theorem exD_ok {K : PySem.W.Frag} {x : Str} (h : exD K x = true) : ExD K x := by
  obtain ⟨h1, h⟩ := He.ba h
  obtain ⟨h2, h⟩ := He.ba h
  obtain ⟨h3, h⟩ := He.ba h
  obtain ⟨h4, h⟩ := He.ba h
  obtain ⟨h5, h⟩ := He.ba h
  obtain ⟨h6, h⟩ := He.ba h
  obtain ⟨h7, h⟩ := He.ba h
  obtain ⟨h8, h⟩ := He.ba h
  obtain ⟨h9, h⟩ := He.ba h
  obtain ⟨h10, h11⟩ := He.ba h
  exact ⟨⟨oexB_ok h1, He.eqO_ok h2, of_decide_eq_true h3, of_decide_eq_true h4, h5⟩, He.eqO_ok h6, He.eqO_ok h7, He.eqO_ok h8, of_decide_eq_true h9, h10, h11⟩
/-- .. with its __init__ and its field f -/
structure ExI (K : PySem.W.Frag) (x f : Str) : Prop where
  d : ExD K x
  i : PySem.W.findIn K (.ref (He.ga K x)) "__init__" = some (some (.ref (He.fAd K (x, some "__init__"))))
  t : PySem.W.typeIn K (.ref (He.fAd K (x, some "__init__"))) = some (.type "function")
  n : PySem.W.findIn K (.ref (He.ga K x)) f = some none
def exI (K : PySem.W.Frag) (x f : Str) : Bool :=
  exD K x && (He.eqO (PySem.W.findIn K (.ref (He.ga K x)) "__init__") (some (some (.ref (He.fAd K (x, some "__init__"))))) && (decide (PySem.W.typeIn K (.ref (He.fAd K (x, some "__init__"))) = some (.type "function")) && He.eqO (PySem.W.findIn K (.ref (He.ga K x)) f) (some none)))
theorem exI_ok {K : PySem.W.Frag} {x f : Str} (h : exI K x f = true) : ExI K x f := by
  obtain ⟨h1, h⟩ := He.ba h
  obtain ⟨h2, h⟩ := He.ba h
  obtain ⟨h3, h4⟩ := He.ba h
  exact ⟨exD_ok h1, He.eqO_ok h2, of_decide_eq_true h3, He.eqO_ok h4⟩
/-- the __init__: self.f = v -/
def spExI (K : PySem.W.Frag) (C : Addr) (f : Str) : Sp := fun vs H Q _ => ∃ (a : Addr) (v : V), vs = [.ref a, v] ∧ OexC K C ∧ PySem.W.findIn K (.ref C) f = some none ∧ H a = some (exo a C none) ∧
  ∀ dx, H dx = none → dx ≠ a → Q .non (upd (upd H dx (exd dx [(f, v)])) a (exo a C (some dx)))
theorem run_exI {K : PySem.W.Frag} {C : Addr} {f : Str} {N : List Str} {vs : List V} {H : Hp} {Q : VK} {E : XK} (h : spExI K C f vs H Q E) : tOst K f (tVar 0) (tVar 1) { nx := fun _ H' => Q .non H', rt := Q } (start N vs) H := by
  obtain ⟨a, v, rfl, T, hn, ea, q⟩ := h
  have s0 : (start N [.ref a, v])[0]? = some (some (.ref a)) := rfl
  have s1 : (start N [.ref a, v])[1]? = some (some v) := rfl
  exact ⟨_, s1, _, s0, a, C, rfl, T, hn, .inl ⟨ea, fun dx h1 h2 => q dx h1 h2⟩⟩
/-- the heap behind the making: the error's own dict alone is new -/
theorem exc_heap {H : Hp} {a d : Addr} {o1 o2 o3 o4 : HO} (ha : H a = none) (hda : d ≠ a) : upd (del (upd (upd (upd H a o1) d o2) a o3) a) d o4 = upd H d o4 := by
  funext b
  by_cases h1 : b = d
  · rw [h1, upd_same, upd_same]
  · rw [upd_ne h1, upd_ne h1]
    by_cases h2 : b = a
    · rw [h2, del_same, ha]
    · rw [del_ne h2, upd_ne h2, upd_ne h1, upd_ne h2]
theorem pa_weak {X : Cx} {es : List Expr} {ta : TA} (ha : PA X es ta) : PA X es (fun σ H Q => ∃ R, ta σ H R ∧ ∀ vs H1, R vs H1 → Q vs H1) := ⟨fun pos pins s σ H Q I h => by
  obtain ⟨R, h1, h2⟩ := h
  exact thn (ha.run pos pins s σ H R I h1) fun us s1 ⟨vs, H1, I1, r, q⟩ => ⟨vs, H1, I1, r, h2 _ _ q⟩⟩
section
variable {X : Cx} {CX : CXT} {k j : Nat} {ps : List Str} {x f : Str} {p pos pos2 : Pos} {e : Expr} {es : List Expr} {ta : TA} {W : WX}
/-- raise C(e): the error's dict, new, holds f -/
def tRaiseI (C : Addr) (f : Str) (W : WX) (ta : TA) : TS := fun _ σ H => ta σ H fun vs H1 => ∃ v, vs = [v] ∧ ∀ d, H1 d = none → W (.ref C) (some d) σ (upd H1 d (.xd [(f, v)]))
theorem c_raise (T : ExI X.K x f) (O : OkD X.prog X.w X.K X.mg X.base CX0 k (x, some "__init__") ps [] (spExI X.K (He.ga X.K x) f)) (hr : Room j X.A) (hj : k + 1 ≤ j) (hm : X.mg x = some (.ref (He.ga X.K x))) (tk : Takes X W) (ha : PA X (e :: es) ta) (hc : X.calm = true := by rfl) (hg : Gl X x := by rfl)
    (hdb : (x == ("__debug__" : Str)) = false := by decide) (he : starEach (e :: es) X.env = (false, eval e X.env) :: starEach es X.env := by rfl) (hpl : (backTo pos (starEach es X.env)).any (·.1) = false := by rfl) :
    PS X (.Raise (some (.Call (.Name x p) (e :: es) [] pos)) none pos2) (tRaiseI (He.ga X.K x) f W ta) := by
  obtain ⟨fd, ds, F, b, v⟩ := O.ex
  cases v
  refine ⟨fun pins s σ H D I h => (ps_raise hc tk (pmk_oex (p := p) T.d.o T.i T.t F (hr.mono hj) b .nil pass0 hg hm (pa_weak ha) hdb he hpl)).run pins s σ H D I ?_⟩
  refine ⟨_, h, fun vs H1 z => ?_⟩
  obtain ⟨v, rfl, q⟩ := z
  refine ⟨(by show 1 ≤ 1000; decide), fun a na => ⟨a, v, rfl, T.d.o, T.n, upd_same, fun dx h1 h2 => ?_⟩⟩
  have hdx : H1 dx = none := by
    rw [upd_ne h2] at h1
    exact h1
  refine ⟨rfl, dx, [(f, v)], upd_same, ?_, hdx, ?_⟩
  · rw [upd_ne h2, upd_same]
  · rw [exc_heap na h2]
    exact q dx hdx
end
/-! ### isinstance(e, c) of a caught error -/
section
variable {X : Cx}
theorem call_isiE {a D : Addr} {d : Option Addr} {oe : Obj} {pn : List (Addr × Obj)} {x : Str} (hD : D = He.ga X.K x) (T : ExD X.K x) (hn : PySem.W.specialIn X.K (.builtin "object.__class__") "__get__" = some (some (.builtin "getset_descriptor.__get__")))
    (ht : PySem.W.takesIn X.K (.builtin "object.__class__") = some true) {cls : Value} (hz : Zc cls d oe) (hf : ∃ vs, oe.data = .fields vs) : CallR (X.suite a ((a, oe) :: pn)) (.builtin "isinstance")
      (fun xs H Q => ∃ (c : V) (cv : Value) (b : Bool), xs = [.ref a, c] ∧ cls = .ref D ∧ ClsV c cv ∧ PySem.W.kitOne X.K (.ref D) cv = some b ∧ (∃ dd fs, d = some dd ∧ H dd = some (.xd fs)) ∧ Q (.bl b) H) := by
  subst hD
  intro pins s σ H xs us Q I r h
  obtain ⟨c, cv, b, rfl, ec, hcv, e, ⟨dd, fs, ed, hdd⟩, q⟩ := h
  obtain ⟨u1, u2, rfl, r1, r2⟩ := vals2 r
  have e2 := hcv.eq r2
  subst e2
  cases r1
  obtain ⟨hget, _⟩ := I.pin (a, oe) (List.mem_append.mpr (.inl List.mem_cons_self))
  obtain ⟨vs, hv⟩ := hf
  subst ed ec
  obtain ⟨mA, ⟨od, es, ep, ho, _⟩, _⟩ := (show ObjOk X.prog X.w H s.heap dd (.xd fs) from I.hok dd _ hdd)
  have J : PySem.W.InstAt s.heap a oe (He.ga X.K x) (some od) := by
    obtain ⟨oc, odd, oda, osl⟩ := oe
    obtain ⟨h1, h2⟩ := hz
    dsimp only at h1 h2 hv
    subst h1 h2 hv
    exact ⟨hget, rfl, rfl, ho⟩
  exact PySem.W.kia_one (PySem.W.kitx_exc T.hcl T.ga T.gg T.o.exC T.ha hn ht T.hm) I.kIn J e (fun z => nomatch z) fun tk => ⟨.bl b, H, I.kept (t' := tk) fun _ _ z => z, rfl, q⟩
end
/-! ### the head's hook: any Bool over the written part, the defs -/
abbrev AlM : Type := Bool × List He.FnW
def obsM (ex : PySem.W.Frag → Bool) (fn : List He.DefD) (K : PySem.W.Frag) : AlM := (ex K && fn.all fun d => d.ok K, fn.map fun d => He.fnW K d.at_)
def SaysM (ex : PySem.W.Frag → Bool) (fn : List He.DefD) (K : PySem.W.Frag) : Prop := obsM ex fn K = (true, fn.map He.DefD.val)
def obsMG (n : Nat) (ex : PySem.W.Frag → Bool) (fn : List He.DefD) (g : Addr → Option Obj) : AlM := obsM ex fn (He.frG g (He.asD g n))
def hookM (n : Nat) (ex : PySem.W.Frag → Bool) (fn : List He.DefD) : PySem.W.Hook where
  α := AlM
  obs := fun s => obsMG n ex fn s.heap.get?
  val := fun _ => (true, fn.map He.DefD.val)
  says := fun _ h => ∃ K : PySem.W.Frag, K.In h ∧ SaysM ex fn K
  of := fun _ _ e => ⟨_, He.frG_in, e⟩
  keeps := fun _ _ _ ⟨K, hK, c⟩ k => ⟨K, PySem.W.Frag.In.keeps hK k, c⟩
theorem obsMG_eq {n : Nat} {ex : PySem.W.Frag → Bool} {fn : List He.DefD} {g : Addr → Option Obj} {s : Shared} (h : ∀ a, g a = s.heap.get? a) : obsMG n ex fn g = (hookM n ex fn).obs s := by
  have e : g = s.heap.get? := funext h
  rw [e]
  rfl
theorem SaysM.ex {ex : PySem.W.Frag → Bool} {fn : List He.DefD} {K : PySem.W.Frag} (c : SaysM ex fn K) : ex K = true := (He.ba (congrArg (fun z : AlM => z.1) c)).1
theorem SaysM.fn {ex : PySem.W.Frag → Bool} {fn : List He.DefD} {K : PySem.W.Frag} (c : SaysM ex fn K) (i : Nat) {d : He.DefD} (h : fn[i]? = some d := by rfl) : ∃ fd, FunD K d.name d.qual d.params d.body d.scope (d.dvs K) (d.kws K) (He.fAd K d.at_) fd := by
  have c2 := (He.ba (congrArg (fun z : AlM => z.1) c)).2
  have e : fn.map (fun d => He.fnW K d.at_) = fn.map He.DefD.val := congrArg (fun z : AlM => z.2) c
  have e2 : He.fnW K d.at_ = d.val := by
    have e3 : (fn.map fun d => He.fnW K d.at_)[i]? = (fn.map He.DefD.val)[i]? := by rw [e]
    simp only [List.getElem?_map, h, Option.map_some] at e3
    exact Option.some.inj e3
  exact He.DefD.funD e2 (List.all_eq_true.mp c2 d (List.mem_of_getElem? h))

end Vf

set_option Elab.async false
set_option linter.all false
set_option maxRecDepth 100000
set_option maxHeartbeats 2000000
namespace Vf
open PySem PySem.Spec PyProof.Rows L2
/-! ### Euclid's loop -/
def Eu (g B i x y : Nat) : Prop := Nat.gcd x y = g ∧ ((i % 2 = 0 ∧ y * 2 ^ (i / 2) ≤ B) ∨ (i % 2 = 1 ∧ y < x ∧ x * 2 ^ (i / 2) ≤ B))
theorem Eu.start (x y : Nat) : Eu (Nat.gcd x y) y 0 x y := ⟨rfl, .inl ⟨rfl, by simp⟩⟩
theorem Eu.step {g B i x y : Nat} (h : Eu g B i x y) (hy : y ≠ 0) : Eu g B (i + 1) y (x % y) := by
  obtain ⟨hg, h⟩ := h
  have hg2 : Nat.gcd y (x % y) = g := by
    rw [← hg, Nat.gcd_comm x y, Nat.gcd_rec y x, Nat.gcd_comm]
  have hlt : x % y < y := Nat.mod_lt x (by omega)
  refine ⟨hg2, ?_⟩
  rcases h with ⟨he, hb⟩ | ⟨ho, hxy, hb⟩
  · refine .inr ⟨by omega, hlt, ?_⟩
    have e : (i + 1) / 2 = i / 2 := by omega
    rw [e]
    exact hb
  · refine .inl ⟨by omega, ?_⟩
    have e : (i + 1) / 2 = i / 2 + 1 := by omega
    have hd := Nat.div_add_mod x y
    have h1 : 1 ≤ x / y := Nat.div_pos (by omega) (by omega)
    have h2 : y * 1 ≤ y * (x / y) := Nat.mul_le_mul_left y h1
    have h3 : 2 * (x % y) ≤ x := by omega
    rw [e, Nat.pow_succ]
    calc x % y * (2 ^ (i / 2) * 2) = (2 * (x % y)) * 2 ^ (i / 2) := by rw [Nat.mul_comm (2 ^ (i / 2)) 2, ← Nat.mul_assoc, Nat.mul_comm (x % y) 2]
      _ ≤ x * 2 ^ (i / 2) := Nat.mul_le_mul_right _ h3
      _ ≤ B := hb
theorem Eu.last {g B x y : Nat} (h : Eu g B 500 x y) (hB : B < 2 ^ 250) : x = g := by
  obtain ⟨hg, h⟩ := h
  rcases h with ⟨_, hb⟩ | ⟨ho, _⟩
  · have e : (500 : Nat) / 2 = 250 := rfl
    rw [e] at hb
    have hy : y = 0 := by
      rcases Nat.eq_zero_or_pos y with h0 | h0
      · exact h0
      · exfalso
        have : 1 * 2 ^ 250 ≤ y * 2 ^ 250 := Nat.mul_le_mul_right _ h0
        omega
    rw [hy, Nat.gcd_zero_right] at hg
    exact hg
  · omega
theorem Eu.zero {g B i x : Nat} (h : Eu g B i x 0) : x = g := by
  have hg := h.1
  rw [Nat.gcd_zero_right] at hg
  exact hg
/-! ### lowest terms -/
def nG (t b : Int) : Int := ((Nat.gcd t.natAbs b.natAbs : Nat) : Int)
def nC (t b : Int) : Int := if b < 0 then -(nG t b) else nG t b
def nT (t b : Int) : Int := t.fdiv (nC t b)
def nB (t b : Int) : Int := b.fdiv (nC t b)
/-- a and b are t over b' in lowest terms -/
structure Nf (a b : Int) : Prop where
  pos : 0 < b
  cop : Nat.gcd a.natAbs b.natAbs = 1
structure NfOf (t u a b : Int) : Prop extends Nf a b where
  eq : a * u = t * b
  le1 : a.natAbs ≤ t.natAbs
  le2 : b.natAbs ≤ u.natAbs
theorem nG_pos {t b : Int} (hb : b ≠ 0) : 0 < nG t b := by
  have : 0 < Nat.gcd t.natAbs b.natAbs := Nat.gcd_pos_of_pos_right _ (by omega)
  unfold nG
  omega
theorem nC_abs (t b : Int) : (nC t b).natAbs = Nat.gcd t.natAbs b.natAbs := by
  unfold nC nG
  split <;> omega
theorem nC_ne {t b : Int} (hb : b ≠ 0) : nC t b ≠ 0 := by
  have := nG_pos (t := t) hb
  unfold nC
  split <;> omega
theorem nC_dvd1 (t b : Int) : nC t b ∣ t := by
  rw [← Int.natAbs_dvd_natAbs, nC_abs]
  exact Nat.gcd_dvd_left _ _
theorem nC_dvd2 (t b : Int) : nC t b ∣ b := by
  rw [← Int.natAbs_dvd_natAbs, nC_abs]
  exact Nat.gcd_dvd_right _ _
theorem nT_mul (t b : Int) : nT t b * nC t b = t := Int.fdiv_mul_cancel (nC_dvd1 t b)
theorem nB_mul (t b : Int) : nB t b * nC t b = b := Int.fdiv_mul_cancel (nC_dvd2 t b)
theorem nf_of (t : Int) {b : Int} (hb : b ≠ 0) : NfOf t b (nT t b) (nB t b) := by
  have e1 := nT_mul t b
  have e2 := nB_mul t b
  have hc := nC_ne (t := t) hb
  have ga := nC_abs t b
  have g0 : 0 < Nat.gcd t.natAbs b.natAbs := Nat.gcd_pos_of_pos_right _ (by omega)
  have a1 : (nT t b).natAbs * Nat.gcd t.natAbs b.natAbs = t.natAbs := by rw [← ga, ← Int.natAbs_mul, e1]
  have a2 : (nB t b).natAbs * Nat.gcd t.natAbs b.natAbs = b.natAbs := by rw [← ga, ← Int.natAbs_mul, e2]
  refine ⟨⟨?_, ?_⟩, ?_, ?_, ?_⟩
  · rcases (show 0 < nB t b ∨ nB t b ≤ 0 by omega) with h | h
    · exact h
    · exfalso
      by_cases hn : b < 0
      · have hc2 : nC t b < 0 := by
          have := nG_pos (t := t) hb
          unfold nC
          rw [if_pos hn]
          omega
        have := Int.mul_nonneg_of_nonpos_of_nonpos h (Int.le_of_lt hc2)
        omega
      · have hc2 : 0 < nC t b := by
          have := nG_pos (t := t) hb
          unfold nC
          rw [if_neg hn]
          omega
        have := Int.mul_nonpos_of_nonpos_of_nonneg h (Int.le_of_lt hc2)
        omega
  · have h := Nat.gcd_mul_right (nT t b).natAbs (Nat.gcd t.natAbs b.natAbs) (nB t b).natAbs
    rw [a1, a2] at h
    have h2 : 1 * Nat.gcd t.natAbs b.natAbs = Nat.gcd (nT t b).natAbs (nB t b).natAbs * Nat.gcd t.natAbs b.natAbs := by rw [Nat.one_mul]; exact h
    exact (Nat.eq_of_mul_eq_mul_right g0 h2).symm
  · calc nT t b * b = nT t b * (nB t b * nC t b) := by rw [e2]
      _ = (nT t b * nC t b) * nB t b := by rw [Int.mul_comm (nB t b), Int.mul_assoc]
      _ = t * nB t b := by rw [e1]
  · calc (nT t b).natAbs = (nT t b).natAbs * 1 := by rw [Nat.mul_one]
      _ ≤ (nT t b).natAbs * Nat.gcd t.natAbs b.natAbs := Nat.mul_le_mul_left _ g0
      _ = t.natAbs := a1
  · calc (nB t b).natAbs = (nB t b).natAbs * 1 := by rw [Nat.mul_one]
      _ ≤ (nB t b).natAbs * Nat.gcd t.natAbs b.natAbs := Nat.mul_le_mul_left _ g0
      _ = b.natAbs := a2
/-- bits: below 2 ^ n -/
def Bit (n : Nat) (x : Int) : Prop := x.natAbs < 2 ^ n
theorem Bit.mono {n m : Nat} {x : Int} (h : Bit n x) (l : n ≤ m) : Bit m x := Nat.lt_of_lt_of_le h (Nat.pow_le_pow_right (by decide) l)
theorem Bit.le {n : Nat} {x y : Int} (h : Bit n y) (l : x.natAbs ≤ y.natAbs) : Bit n x := Nat.lt_of_le_of_lt l h
theorem Bit.mul {n m : Nat} {x y : Int} (h : Bit n x) (h' : Bit m y) : Bit (n + m) (x * y) := by
  unfold Bit
  rw [Int.natAbs_mul, Nat.pow_add]
  exact Nat.mul_lt_mul'' h h'
theorem Bit.add {n : Nat} {x y : Int} (h : Bit n x) (h' : Bit n y) : Bit (n + 1) (x + y) := by
  unfold Bit at *
  rw [Nat.pow_succ]
  omega
theorem Bit.sub {n : Nat} {x y : Int} (h : Bit n x) (h' : Bit n y) : Bit (n + 1) (x - y) := by
  unfold Bit at *
  rw [Nat.pow_succ]
  omega
theorem Bit.neg {n : Nat} {x : Int} (h : Bit n x) : Bit n (-x) := by
  unfold Bit at *
  omega
theorem Bit.log {n m : Nat} {x : Int} (h : Bit n x) (h0 : 0 < n) (hm : n ≤ m) : x.natAbs.log2 < m := Nat.lt_of_lt_of_le (PySem.Flt.log2_lt_of h0 h) hm
theorem Bit.wm {n m : Nat} {x y : Int} (h : Bit n x) (h' : Bit m y) (h0 : 0 < n) (h1 : 0 < m) (l : n + m ≤ 1000000) : CMulW x y := wide_mul h h' h0 h1 l
end Vf

set_option Elab.async false
set_option linter.all false
set_option maxRecDepth 100000
set_option maxHeartbeats 2000000
namespace Vf
open PySem PySem.Spec PyProof.Rows L2
section
open PySem.W PySem.Calls
variable {prog : Program} {w : World} {A : Around} {E : Value → Shared → Prop} {s : Shared} {K : Frag} {x C f f0 L : Addr} {h₀ : Heap} {m : Str → Option Value} {ox : Obj} {od : Option Obj} {nm : String}
/-- a slot of int that is handed an instance of the text's own declines -/
theorem int_no {n : Int} {t : Tok} {name : String} {g : Int → Int → Sem Fin} {refl : Bool} (hd : ox.data = .plain) (hx : s.heap.get? x = some ox) {Q : Fin → Shared → Prop}
    (h : Q (.done (.ret .notImplemented)) s) : wpAny (model prog w) A (PySem.Builtin.Int.intBinary name g refl ⟨[.int n t, .ref x], []⟩) Q E s := by
  obtain ⟨hp, gg, d, tk, os⟩ := s
  obtain ⟨oc, odd, oda, osl⟩ := ox
  dsimp only at hd
  subst hd
  unfold PySem.Builtin.Int.intBinary
  wp_walk using AutoSeq1.wpAny_loadPart' hx
  exact h
/-- B declines an instance of the text's own -/
def Declines (B : Builtin) : Prop := ∀ (prog : Program) (w : World) (A : Around) (E : Value → Shared → Prop) (s : Shared) (n : Int) (t : Tok) (x : Addr) (ox : Obj) (Q : Fin → Shared → Prop), ox.data = .plain → s.heap.get? x = some ox → Q (.done (.ret .notImplemented)) s → wpAny (model prog w) A (B ⟨[.int n t, .ref x], []⟩) Q E s
theorem decl_bin (name : String) (g : Int → Int → Sem Fin) (r : Bool) : Declines (PySem.Builtin.Int.intBinary name g r) := fun _ _ _ _ _ _ _ _ _ _ hd hx h => int_no hd hx h
theorem decl_fdv : Declines PySem.Builtin.«int.__floordiv__» := fun prog w A E s n t x ox Q hd hx h => by
  obtain ⟨hp, gg, d, tk, os⟩ := s
  obtain ⟨oc, odd, oda, osl⟩ := ox
  dsimp only at hd
  subst hd
  unfold PySem.Builtin.«int.__floordiv__» PySem.Builtin.exactOperandsForPylong
  have k := fun g => int_no (prog := prog) (w := w) (A := A) (E := E) (n := n) (t := t) (name := "__floordiv__") (g := g) (refl := false) (s := ⟨hp, gg, d, tk, os⟩) rfl hx h
  wp_walk using AutoSeq1.wpAny_loadPart' hx
  all_goals first | exact k _ | exact h
/-- n op x, n an int, x an instance of the text's own: int's slot declines, the reflected one of x's class is asked -/
theorem bin_int_own {op : Operator} {n : Int} {t : Tok} {id : String} {B : Builtin} {Q : Value → Shared → Prop} (X : K.In s.heap) (I : InstAt s.heap x ox C od) (hp : ox.data = .plain) (hc : selfFirst K C = true)
    (hs : findIn K (.ref C) (PySem.dunder op.info.2) = some (some (.ref f0))) (hr : findIn K (.ref C) (dunderR op.info.2) = some (some (.ref f))) (hf : isFn K (.ref f) = true) (hm : mroIn K C (.type "int") = some false)
    (hfT : fillsNumberSlot (.type "int") op.info.2 = pure true) (slot : Slot "int" (PySem.dunder op.info.2) id) (entry : entryFor table id = some B) (ha : argsOk id ⟨[.int n t, .ref x], []⟩)
    (hB : Declines B)
    (h : wpAny (model prog w) A (call (.ref f) [.ref x, .int n t]) (PySem.W.CmpBack Q) E s) : wpAny (model prog w) A (binaryOp op (.int n t) (.ref x)) Q E s := by
  obtain ⟨cd, rest, hcd, hmro⟩ := ksp_first hc
  rcases hi : op.info with ⟨sym, nm'⟩
  rw [hi] at hs hr slot hfT
  dsimp only at hs hr slot hfT
  have one := ksp_try X I hr hf h
  have two : wpAny (model prog w) A (tryMethod (.int n t) (PySem.dunder nm') (.ref x)) (fun r s' => r = none ∧ s' = s) E s :=
    wpAny_tryMethod_declines (typeIs_int s n t) slot (wpAny_call_entry slot (typeIs_int s n t) entry (hB _ _ _ _ _ _ _ _ _ _ hp I.at_ ⟨_, rfl, rfl, rfl, rfl⟩) ha)
  obtain ⟨hh, gg, d, tt, os⟩ := s
  have L1 : Looks (model prog w) hh (typeOf (.int n t)) (.type "int") := Looks.of_pure rfl
  have L2 : Looks (model prog w) hh (typeOf (.ref x)) (.ref C) := I.type
  have L3 : Looks (model prog w) hh (fillsNumberSlot (.type "int") nm') true := Looks.of_pure hfT
  have L4 : Looks (model prog w) hh (fillsNumberSlot (.ref C) nm') true := fills_K X hcd hmro hs
  have L5 : Looks (model prog w) hh (isSubtype (.ref C) (.type "int")) false := looks_mroIn X hm
  have L6 : Looks (model prog w) hh (numberSlotInPython (.type "int") nm') false := Looks.of_pure rfl
  have hne : (Value.type "int" == Value.ref C) = false := Bool.eq_false_iff.mpr fun q => by cases beq_iff_eq.mp q
  simp only [binaryOp, hi]
  refine wpAny_holding (wpAny_bind ?_)
  unfold binaryOp1
  refine wpAny_bind (L1.at (wpAny_bind (L2.at (wpAny_bind (L3.at ?_)))))
  simp only [hne, Bool.false_eq_true, if_false]
  ksp_lk
  refine wpAny_mono two (fun r s' hr' => ?_) fun _ _ e => e
  obtain ⟨rfl, rfl⟩ := hr'
  ksp_lk
  refine wpAny_mono one (fun r s' hr' => ?_) fun _ _ e => e
  obtain ⟨v, rfl, hq⟩ := hr'
  ksp_lk
  exact hq
/-- n ? x for a comparison: int's slot declines, the swapped one of x's class is asked -/
theorem cmp_int_own {op : CmpOp} {n : Int} {t : Tok} {id : String} {B : Builtin} {Q : Value → Shared → Prop} (hu : A.units < cLine) (X : K.In s.heap) (I : InstAt s.heap x ox C od) (hp : ox.data = .plain)
    (hr : findIn K (.ref C) (cmpInfo op).2.2 = some (some (.ref f))) (hf : isFn K (.ref f) = true) (hm : mroIn K C (.type "int") = some false)
    (slot : Slot "int" (cmpInfo op).2.1 id) (entry : entryFor table id = some B) (ha : argsOk id ⟨[.int n t, .ref x], []⟩) (hB : Declines B)
    (h : wpAny (model prog w) A (call (.ref f) [.ref x, .int n t]) (PySem.W.CmpBack Q) E s) : wpAny (model prog w) A (richCompare op (.int n t) (.ref x)) Q E s := by
  have one : wpAny (model prog w) A (tryCompare (.ref x) (cmpInfo op).2.2 (.int n t)) (fun r s' => ∃ v, r = some v ∧ Q v s') E s := by
    unfold tryCompare
    refine wpAny_bind (ifBound_K X I hr hf (wpAny_mono h (fun v s' hv => ?_) fun _ _ e => e))
    cases v <;> first | exact hv.elim | exact wpAny_pure ⟨_, rfl, hv⟩
  have two : wpAny (model prog w) A (tryCompare (.int n t) (cmpInfo op).2.1 (.ref x)) (fun r s' => r = none ∧ s' = s) E s :=
    wpAny_tryCompare_declines (typeIs_int s n t) slot (wpAny_call_entry slot (typeIs_int s n t) entry (hB _ _ _ _ _ _ _ _ _ _ hp I.at_ ⟨_, rfl, rfl, rfl, rfl⟩) ha)
  have ot : oneThing? op (.int n t) (.ref x) = none := rfl
  have hne : (Value.type "int" != Value.ref C) = true := bne_iff_ne.mpr fun q => by cases q
  unfold richCompare
  simp only [ot]
  refine wpAny_holding (wpAny_bind (wpAny_cRoomFor hu ?_))
  refine wpAny_bind ((Looks.of_pure rfl : Looks (model prog w) s.heap (typeOf (.int n t)) (.type "int")).here (wpAny_bind (I.type.here ?_)))
  simp only [hne, if_true]
  refine wpAny_bind ((looks_mroIn X hm).here ?_)
  simp only [Bool.false_eq_true, if_false]
  refine wpAny_bind (wpAny_mono two (fun r s' z => ?_) fun _ _ e => e)
  obtain ⟨rfl, rfl⟩ := z
  simp only [Bool.not_false, if_true]
  refine wpAny_bind (wpAny_mono one (fun r s' z => ?_) fun _ _ e => e)
  obtain ⟨v, rfl, hq⟩ := z
  exact wpAny_pure hq
end
/-! ### readings over the layer -/
section
variable {X : Cx} {CX : CXT} {k j : Nat} {C : Addr} {cn m : Str} {ps : List Str} {sp : Sp} {E : XK}
theorem back_of {pins : List (Addr × Obj)} {σ : L2.St} {Q : VK} {u : Value} {s' : Shared} (h : EP X pins σ Q u s') : PySem.W.CmpBack (EP X pins σ Q) u s' := by
  obtain ⟨v, H', I, r, q⟩ := id h
  cases v with
  | non => cases (show u = Value.none from r); exact h
  | bl b => cases (show u = Value.bool b from r); exact h
  | int i => obtain ⟨t, e⟩ := (show ∃ t, u = Value.int i t from r); cases e; exact h
  | str z => obtain ⟨t, e⟩ := (show ∃ t, u = Value.str z t from r); cases e; exact h
  | byt z => obtain ⟨t, e⟩ := (show ∃ t, u = Value.bytes z t from r); cases e; exact h
  | flt z => obtain ⟨t, e⟩ := (show ∃ t, u = Value.float z t from r); cases e; exact h
  | ref a => cases (show u = Value.ref a from r); exact h
  | ty n => cases (show u = Value.type n from r); exact h
/-- a method of the text's own asked by the machine, at the running body's own depth -/
theorem run_own {f : Addr} {fd : FuncData} {pins : List (Addr × Obj)} {σ : L2.St} {H : Hp} {s : Shared} {Q : VK} {us : List Value} {vs : List V} (F : FnOk X.prog X.w X.K X.mg X.base CX k f fd ps sp) (hr : Room k X.A) (hb : L2.Binds X.K fd ps []) (hx : Passes CX X E)
    (I : L2.Inv X pins σ H s) (r : Vals vs us) (h : sp vs H Q E) : wpAny (model X.prog X.w) X.A (call (.ref f) us) (PySem.W.CmpBack (EP X pins σ Q)) X.xe s :=
  wpAny_mono (run_fn F hr hb .nil hx I r (by rw [List.append_nil]; exact h)) (fun _ _ z => back_of z) fun _ _ z => z
/-- o op p, both of the class at C -/
def rOO (C : Addr) (sp : Sp) (E : XK) : R2 := fun x y H Q => ∃ a b dx dy fs gs, x = .ref a ∧ y = .ref b ∧ H a = some (.ins C dx fs) ∧ H b = some (.ins C dy gs) ∧ sp [x, y] H Q E
/-- o op n, n an int -/
def rOI (C : Addr) (sp : Sp) (E : XK) : R2 := fun x y H Q => ∃ a n dx fs, x = .ref a ∧ y = .int n ∧ H a = some (.ins C dx fs) ∧ sp [x, y] H Q E
/-- n op o, n an int: the reflected method -/
def rIO (C : Addr) (sp : Sp) (E : XK) : R2 := fun x y H Q => ∃ n b dx fs, x = .int n ∧ y = .ref b ∧ H b = some (.ins C dx fs) ∧ sp [y, x] H Q E
theorem op_oo {op : Operator} (hd : PySem.dunder op.info.2 = m) (M : Meth X.K C m (He.fAd X.K (cn, some m))) (hc : PySem.W.selfFirst X.K C = true) (O : OkD X.prog X.w X.K X.mg X.base CX k (cn, some m) ps [] sp) (hr : Room j X.A) (hj : k ≤ j) (hx : Passes CX X E) : OpR X (binaryOp op) (rOO C sp E) := by
  obtain ⟨fd, ds, F, b, v⟩ := O.ex
  cases v
  intro pins s σ H x y v u Q I rx ry h
  obtain ⟨a, b', dx, dy, fs, gs, rfl, rfl, ha, hb, hsp⟩ := h
  cases rx
  cases ry
  obtain ⟨mA, J, _⟩ := ins_get I.hok ha
  obtain ⟨mB, J', _⟩ := ins_get I.hok hb
  obtain ⟨od, J, _⟩ := J.look
  obtain ⟨od', J', _⟩ := J'.look
  obtain ⟨mm, hF⟩ := I.fr
  exact PySem.W.binop_K hF I.ok.mod.kin J J'.type hc (by rw [hd]; exact M.at_) M.fn (run_own (vs := [V.ref a, V.ref b']) F (hr.mono hj) b hx I (.cons rfl (.cons rfl .nil)) hsp)
theorem op_oi {op : Operator} {fo ro rc : Option Value} (hd : PySem.dunder op.info.2 = m) (M : Meth X.K C m (He.fAd X.K (cn, some m))) (hc : PySem.W.selfFirst X.K C = true) (h2 : PySem.W.findIn X.K (.ref C) (dunderR op.info.2) = some rc) (hp : rc = none ∨ ∃ g : Addr, rc = some (.ref g))
    (h3 : PySem.W.findIn X.K (.type "int") (PySem.dunder op.info.2) = some fo) (h4 : PySem.W.findIn X.K (.type "int") (dunderR op.info.2) = some ro) (h5 : PySem.W.subIn X.K (.type "int") (.ref C) = some false)
    (O : OkD X.prog X.w X.K X.mg X.base CX k (cn, some m) ps [] sp) (hr : Room j X.A) (hj : k ≤ j) (hx : Passes CX X E) : OpR X (binaryOp op) (rOI C sp E) := by
  obtain ⟨fd, ds, F, b, v⟩ := O.ex
  cases v
  intro pins s σ H x y v u Q I rx ry h
  obtain ⟨a, n, dx, fs, rfl, rfl, ha, hsp⟩ := h
  cases rx
  obtain ⟨t, rfl⟩ := ry
  obtain ⟨mA, J, _⟩ := ins_get I.hok ha
  obtain ⟨od, J, _⟩ := J.look
  obtain ⟨mm, hF⟩ := I.fr
  exact PySem.W.ksp_binT hF I.ok.mod.kin J rfl hc (by rw [hd]; exact M.at_) M.fn h2 hp h3 h4 h5 (run_own (vs := [V.ref a, V.int n]) F (hr.mono hj) b hx I (.cons rfl (.cons ⟨t, rfl⟩ .nil)) hsp)
theorem op_io {op : Operator} {f0 : Addr} {id : String} {B : Builtin} (hd : dunderR op.info.2 = m) (M : Meth X.K C m (He.fAd X.K (cn, some m))) (hc : PySem.W.selfFirst X.K C = true) (h2 : PySem.W.findIn X.K (.ref C) (PySem.dunder op.info.2) = some (some (.ref f0))) (hm : PySem.W.mroIn X.K C (.type "int") = some false)
    (hfT : fillsNumberSlot (.type "int") op.info.2 = pure true) (slot : Slot "int" (PySem.dunder op.info.2) id) (entry : entryFor table id = some B) (ha : ∀ a b, argsOk id ⟨[a, b], []⟩) (hB : Declines B)
    (O : OkD X.prog X.w X.K X.mg X.base CX k (cn, some m) ps [] sp) (hr : Room j X.A) (hj : k ≤ j) (hx : Passes CX X E) : OpR X (binaryOp op) (rIO C sp E) := by
  obtain ⟨fd, ds, F, b, v⟩ := O.ex
  cases v
  intro pins s σ H x y v u Q I rx ry h
  obtain ⟨n, b', dx, fs, rfl, rfl, hb, hsp⟩ := h
  obtain ⟨t, rfl⟩ := rx
  cases ry
  obtain ⟨mA, J, _⟩ := ins_get I.hok hb
  obtain ⟨od, J, _⟩ := J.look
  exact bin_int_own I.kIn J rfl hc h2 (by rw [hd]; exact M.at_) M.fn hm hfT slot entry (ha _ _) hB (run_own (vs := [V.ref b', V.int n]) F (hr.mono hj) b hx I (.cons rfl (.cons ⟨t, rfl⟩ .nil)) hsp)
/-- -o -/
def rUO (C : Addr) (sp : Sp) (E : XK) : V → Hp → VK → Prop := fun x H Q => ∃ a dx fs, x = .ref a ∧ H a = some (.ins C dx fs) ∧ sp [x] H Q E
theorem un_negO (M : Meth X.K C "__neg__" (He.fAd X.K (cn, some "__neg__"))) (O : OkD X.prog X.w X.K X.mg X.base CX k (cn, some "__neg__") ps [] sp) (hr : Room j X.A) (hj : k ≤ j) (hx : Passes CX X E) : UnR X (unaryOp .USub) (rUO C sp E) := by
  obtain ⟨fd, ds, F, b, v⟩ := O.ex
  cases v
  intro pins s σ H x v Q I rx h
  obtain ⟨a, dx, fs, rfl, ha, hsp⟩ := h
  cases rx
  obtain ⟨mA, J, _⟩ := ins_get I.hok ha
  obtain ⟨od, J, _⟩ := J.look
  obtain ⟨mm, hF⟩ := I.fr
  exact PySem.W.ksp_neg hF I.ok.mod.kin J M.at_ M.fn (run_fn (vs := [V.ref a]) F (hr.mono hj) b .nil hx I (.cons rfl .nil) hsp)
/-- abs(o) -/
def rAbsO (C : Addr) (sp : Sp) : List V → Hp → VK → Prop := fun xs H Q => ∃ a dx fs, xs = [.ref a] ∧ H a = some (.ins C dx fs) ∧ sp xs H Q fun _ _ _ => False
theorem call_absO (M : Meth X.K C "__abs__" (He.fAd X.K (cn, some "__abs__"))) (O : OkD X.prog X.w X.K X.mg X.base CX0 k (cn, some "__abs__") ps [] sp) (hr : Room j X.A) (hj : k + 2 ≤ j) : CallR X (.builtin "abs") (rAbsO C sp) := by
  obtain ⟨fd, ds, F, b, v⟩ := O.ex
  cases v
  intro pins s σ H xs us Q I r h
  obtain ⟨a, dx, fs, rfl, ha, hsp⟩ := h
  obtain ⟨u, rfl, ru⟩ : ∃ u, us = [u] ∧ RelV (.ref a) u := by
    cases r with
    | cons p q => cases q; exact ⟨_, rfl, p⟩
  cases ru
  obtain ⟨mA, J, _⟩ := ins_get I.hok ha
  obtain ⟨od, J, _⟩ := J.look
  have hr2 : Room (k + 1) X.A.in1 := (hr.mono hj).in1
  have hr3 : Room k X.A.in1 := hr2.mono (by omega)
  have hl := F.len _ _ _ _ hsp
  have hb := b s [.ref a] I.kIn (by simpa using hl)
  simp only [List.append_nil] at hb
  refine PySem.Calls.call_function_entry PyProof.Rows.kind_abs PyProof.Rows.plain_abs PyProof.Rows.entry_abs (PyProof.Rows.args_abs _) ?_
  unfold PySem.Builtin.«abs»
  refine wpAny_bind (wpAny_pure ?_)
  refine wpAny_bind (m := callSpecial? (.ref a) (Str.ofString "__abs__")) (PySem.W.special_fn I.kIn J M.at_ (beq_iff_eq.mp M.fn) ?_)
  refine wpAny_call (codeAny_mono (F.run X.A.in1 X.stack s H ⟨[.ref a], []⟩ [.ref a] [.ref a] _ _ hr3 I.env0.in1 hb (.cons rfl .nil) hsp) fun r s' hq => ?_)
  cases r with
  | error e => exact hq.elim
  | ok fl =>
    cases fl with
    | ret w => exact wpAny_pure ⟨_, rfl, I.after hq⟩
    | next => exact False.elim hq
    | brk => exact False.elim hq
    | cont => exact False.elim hq
/-- comparisons -/
theorem cmp_oo {op : CmpOp} (hd : (cmpInfo op).2.1 = m) (hop : compareOp op = richCompare op) (M : Meth X.K C m (He.fAd X.K (cn, some m))) (O : OkD X.prog X.w X.K X.mg X.base CX k (cn, some m) ps [] sp) (hr : Room j X.A) (hj : k ≤ j) (hx : Passes CX X E) : OpR X (compareOp op) (rOO C sp E) := by
  obtain ⟨fd, ds, F, b, v⟩ := O.ex
  cases v
  intro pins s σ H x y v u Q I rx ry h
  obtain ⟨a, b', dx, dy, fs, gs, rfl, rfl, ha, hb, hsp⟩ := h
  cases rx
  cases ry
  obtain ⟨mA, J, _⟩ := ins_get I.hok ha
  obtain ⟨mB, J', _⟩ := ins_get I.hok hb
  obtain ⟨od, J, _⟩ := J.look
  obtain ⟨od', J', _⟩ := J'.look
  obtain ⟨mm, hF⟩ := I.fr
  rw [hop]
  exact PySem.W.cmp_K (tb := .ref C) hr.units0 hF I.ok.mod.kin J J'.type (by simp [PySem.W.notFirst]) (by rw [hd]; exact M.at_) M.fn (run_own (vs := [V.ref a, V.ref b']) F (hr.mono hj) b hx I (.cons rfl (.cons rfl .nil)) hsp)
theorem cmp_oi {op : CmpOp} (hd : (cmpInfo op).2.1 = m) (hop : compareOp op = richCompare op) (M : Meth X.K C m (He.fAd X.K (cn, some m))) (h5 : PySem.W.subIn X.K (.type "int") (.ref C) = some false)
    (O : OkD X.prog X.w X.K X.mg X.base CX k (cn, some m) ps [] sp) (hr : Room j X.A) (hj : k ≤ j) (hx : Passes CX X E) : OpR X (compareOp op) (rOI C sp E) := by
  obtain ⟨fd, ds, F, b, v⟩ := O.ex
  cases v
  intro pins s σ H x y v u Q I rx ry h
  obtain ⟨a, n, dx, fs, rfl, rfl, ha, hsp⟩ := h
  cases rx
  obtain ⟨t, rfl⟩ := ry
  obtain ⟨mA, J, _⟩ := ins_get I.hok ha
  obtain ⟨od, J, _⟩ := J.look
  obtain ⟨mm, hF⟩ := I.fr
  rw [hop]
  exact PySem.W.cmp_K (tb := .type "int") hr.units0 hF I.ok.mod.kin J (PySem.W.Looks.of_pure rfl) (by unfold PySem.W.notFirst; rw [h5]; simp) (by rw [hd]; exact M.at_) M.fn (run_own (vs := [V.ref a, V.int n]) F (hr.mono hj) b hx I (.cons rfl (.cons ⟨t, rfl⟩ .nil)) hsp)
theorem cmp_io {op : CmpOp} {id : String} {B : Builtin} (hd : (cmpInfo op).2.2 = m) (hop : compareOp op = richCompare op) (M : Meth X.K C m (He.fAd X.K (cn, some m))) (hm : PySem.W.mroIn X.K C (.type "int") = some false)
    (slot : Slot "int" (cmpInfo op).2.1 id) (entry : entryFor table id = some B) (ha : ∀ a b, argsOk id ⟨[a, b], []⟩) (hB : Declines B)
    (O : OkD X.prog X.w X.K X.mg X.base CX k (cn, some m) ps [] sp) (hr : Room j X.A) (hj : k ≤ j) (hx : Passes CX X E) : OpR X (compareOp op) (rIO C sp E) := by
  obtain ⟨fd, ds, F, b, v⟩ := O.ex
  cases v
  intro pins s σ H x y v u Q I rx ry h
  obtain ⟨n, b', dx, fs, rfl, rfl, hb, hsp⟩ := h
  obtain ⟨t, rfl⟩ := rx
  cases ry
  obtain ⟨mA, J, _⟩ := ins_get I.hok hb
  obtain ⟨od, J, _⟩ := J.look
  rw [hop]
  exact cmp_int_own hr.units0 I.kIn J rfl (by rw [hd]; exact M.at_) M.fn hm slot entry (ha _ _) hB (run_own (vs := [V.ref b', V.int n]) F (hr.mono hj) b hx I (.cons rfl (.cons ⟨t, rfl⟩ .nil)) hsp)
end
end Vf

set_option Elab.async false
set_option linter.all false
set_option maxRecDepth 100000
set_option maxHeartbeats 2000000
namespace Vf
open PySem PySem.Spec PyProof.Rows L2
section
variable {X : Cx} {C : Addr} {bmB : List Value} {B newId initId : String}
/-- X(), X an error of the text's own without an __init__ -/
theorem pmk_own0 {x : Str} {p pos : Pos} (F : ExcBaseFacts B newId initId bmB) (q : PySem.W.excIn X.K C bmB newId = true) (gC : X.mg x = some (.ref C)) (kC : PySem.W.keepIn X.K (.ref C) = true) (r : Raises X (.ref C)) (hg : Gl X x)
    (hdb : (x == ("__debug__" : Str)) = false := by decide) : PMk X (.Call (.Name x p) [] [] pos) (fun _ H Q => Q (.ref C) none H) := by
  intro pins s σ H Q I h
  refine wpAny_Call_Name_kw (ld_glob I hg gC ?_ hdb)
  refine PySem.W.callWith_K0 I.kIn kC ?_
  obtain ⟨_, _, _, _, _, _, _, _, _, _, _, _, _, _, _, _, _, hC, hN, hni, T⟩ := exc_obj I.kIn q
  show wpAny _ _ (call (.ref C) []) _ _ _
  exact wpAny_call_exc_subT F T hC hN hni (fun h' e hm => L2.mk_of I hm r h (I.hok.gone hm.new)) (Nat.zero_le _)
end
theorem c_raise0 {X : Cx} {x : Str} {p pos pos2 : Pos} {W : WX} (c : (He.Fa.exc x).ok X.K = true) (hm : X.mg x = some (.ref (He.ga X.K x))) (tk : Takes X W) (hc : X.calm = true := by rfl) (hg : Gl X x := by rfl) (hdb : (x == ("__debug__" : Str)) = false := by decide) :
    PS X (.Raise (some (.Call (.Name x p) [] [] pos)) none pos2) (fun _ σ H => W (.ref (He.ga X.K x)) none σ H) := by
  obtain ⟨h1, h2, h3, h4⟩ := He.exc_ok c
  exact ps_raise hc tk (pmk_own0 PySem.F.excBase_ValueError h1 hm h2 (raises_own h3 h4) hg hdb)
theorem passX {X : Cx} {E : XK} (tk : Takes X (fun cls d _ H => E cls d H)) : Passes (L2.CX X.prog X.w) X E := passes_call tk fun _ _ _ _ h => h
theorem opr_or {X : Cx} {f : Value → Value → Sem Value} {r1 r2 : R2} (h1 : OpR X f r1) (h2 : OpR X f r2) : OpR X f (fun x y H Q => r1 x y H Q ∨ r2 x y H Q) := fun pins s σ H x y v u Q I rx ry h => by
  rcases h with h | h
  · exact h1 pins s σ H x y v u Q I rx ry h
  · exact h2 pins s σ H x y v u Q I rx ry h
section
variable (K : PySem.W.Frag)
theorem int_add : PySem.W.findIn K (.type "int") (PySem.dunder "add") = some (some (.builtin "int.__add__")) := by kernel_rfl
theorem int_sub : PySem.W.findIn K (.type "int") (PySem.dunder "sub") = some (some (.builtin "int.__sub__")) := by kernel_rfl
theorem int_mul : PySem.W.findIn K (.type "int") (PySem.dunder "mul") = some (some (.builtin "int.__mul__")) := by kernel_rfl
theorem int_fdv : PySem.W.findIn K (.type "int") (PySem.dunder "floordiv") = some (some (.builtin "int.__floordiv__")) := by kernel_rfl
theorem int_radd : PySem.W.findIn K (.type "int") (dunderR "add") = some (some (.builtin "int.__radd__")) := by kernel_rfl
theorem int_rsub : PySem.W.findIn K (.type "int") (dunderR "sub") = some (some (.builtin "int.__rsub__")) := by kernel_rfl
theorem int_rmul : PySem.W.findIn K (.type "int") (dunderR "mul") = some (some (.builtin "int.__rmul__")) := by kernel_rfl
theorem int_rfdv : PySem.W.findIn K (.type "int") (dunderR "floordiv") = some (some (.builtin "int.__rfloordiv__")) := by kernel_rfl
end
end Vf

set_option Elab.async false
set_option linter.all false
set_option maxRecDepth 100000
set_option maxHeartbeats 2000000
namespace Vf
open PySem PySem.Spec PyProof.Rows L2
section
open PySem.W PySem.Calls
variable {prog : Program} {w : World} {A : Around} {E : Value → Shared → Prop} {s : Shared} {K : Frag} {x C f L : Addr} {h₀ : Heap} {m : Str → Option Value} {ox : Obj} {od : Option Obj}
/-- x, an instance of the text's own, is of no built-in type T -/
theorem inst_not {T : String} {Q : Bool → Shared → Prop} (X : K.In s.heap) (I : InstAt s.heap x ox C od) (hm : mroIn K C (.type T) = some false) (h : Q false s) : wpAny (model prog w) A (isInstance (.ref x) (.type T)) Q E s := by
  unfold isInstance
  exact wpAny_bind (I.type.here ((looks_mroIn X hm).here h))
theorem eq_no_none {Q : Fin → Shared → Prop} (h : Q (.done (.ret .notImplemented)) s) : wpAny (model prog w) A (PySem.Builtin.«NoneType.__eq__» ⟨[.none, .ref x], []⟩) Q E s := by
  unfold PySem.Builtin.«NoneType.__eq__»
  wp_walk
  exact h
theorem eq_no_int {n : Value} (hn : (∃ b, n = .bool b) ∨ ∃ i t, n = .int i t) (hd : ox.data = .plain) (hx : s.heap.get? x = some ox) {Q : Fin → Shared → Prop} (h : Q (.done (.ret .notImplemented)) s) : wpAny (model prog w) A (PySem.Builtin.«int.__eq__» ⟨[n, .ref x], []⟩) Q E s := by
  obtain ⟨hp, gg, d, tk, os⟩ := s
  obtain ⟨oc, odd, oda, osl⟩ := ox
  dsimp only at hd
  subst hd
  rcases hn with ⟨b, rfl⟩ | ⟨i, t, rfl⟩
  · wp_walk using AutoSeq1.wpAny_loadPart' hx
    exact h
  · wp_walk using AutoSeq1.wpAny_loadPart' hx
    exact h
theorem eq_no_str {z : Str} {t : Tok} (hd : ox.data = .plain) (hx : s.heap.get? x = some ox) {Q : Fin → Shared → Prop} (h : Q (.done (.ret .notImplemented)) s) : wpAny (model prog w) A (PySem.Builtin.«str.__eq__» ⟨[.str z t, .ref x], []⟩) Q E s := by
  obtain ⟨hp, gg, d, tk, os⟩ := s
  obtain ⟨oc, odd, oda, osl⟩ := ox
  dsimp only at hd
  subst hd
  wp_walk using AutoSeq1.wpAny_loadPart' hx
  exact h
theorem eq_no_tup {a : Addr} (X : K.In s.heap) (I : InstAt s.heap x ox C od) (hm : mroIn K C (.type "tuple") = some false) {Q : Fin → Shared → Prop} (h : Q (.done (.ret .notImplemented)) s) : wpAny (model prog w) A (PySem.Builtin.«tuple.__eq__» ⟨[.ref a, .ref x], []⟩) Q E s := by
  wp_walk using inst_not X I hm
  exact h
theorem eq_no_lst {a : Addr} (X : K.In s.heap) (I : InstAt s.heap x ox C od) (hm : mroIn K C (.type "list") = some false) {Q : Fin → Shared → Prop} (h : Q (.done (.ret .notImplemented)) s) : wpAny (model prog w) A (PySem.Builtin.«list.__eq__» ⟨[.ref a, .ref x], []⟩) Q E s := by
  wp_walk using inst_not X I hm
  exact h
theorem eq_no_dic {a : Addr} {oa : Obj} (ha : s.heap.get? a = some oa) (X : K.In s.heap) (I : InstAt s.heap x ox C od) (hm : mroIn K C (.type "dict") = some false) {Q : Fin → Shared → Prop} (h : Q (.done (.ret .notImplemented)) s) : wpAny (model prog w) A (PySem.Builtin.«dict.__eq__» ⟨[.ref a, .ref x], []⟩) Q E s := by
  wp_walk using inst_not X I hm
  exact h
/-- v == x: v's slot declines, x's own is asked -/
theorem eq_any_own {v : Value} {T id : String} {B : Builtin} {Q : Value → Shared → Prop} (hT : s.TypeIs v T) (hu : A.units < cLine) (X : K.In s.heap) (I : InstAt s.heap x ox C od)
    (hr : findIn K (.ref C) "__eq__" = some (some (.ref f))) (hf : isFn K (.ref f) = true) (hm : mroIn K C (.type T) = some false)
    (slot : Slot T (cmpInfo .Eq).2.1 id) (entry : entryFor table id = some B) (ha : argsOk id ⟨[v, .ref x], []⟩) (hB : ∀ Q : Fin → Shared → Prop, Q (.done (.ret .notImplemented)) s → wpAny (model prog w) A.in1 (B ⟨[v, .ref x], []⟩) Q E s)
    (h : wpAny (model prog w) A (call (.ref f) [.ref x, v]) (PySem.W.CmpBack Q) E s) : wpAny (model prog w) A (richCompare .Eq v (.ref x)) Q E s := by
  have one : wpAny (model prog w) A (tryCompare (.ref x) "__eq__" v) (fun r s' => ∃ z, r = some z ∧ Q z s') E s := by
    unfold tryCompare
    refine wpAny_bind (ifBound_K X I hr hf (wpAny_mono h (fun z s' hv => ?_) fun _ _ e => e))
    cases z <;> first | exact hv.elim | exact wpAny_pure ⟨_, rfl, hv⟩
  have two : wpAny (model prog w) A (tryCompare v (cmpInfo .Eq).2.1 (.ref x)) (fun r s' => r = none ∧ s' = s) E s :=
    wpAny_tryCompare_declines hT slot (wpAny_call_entry slot hT entry (hB _ ⟨_, rfl, rfl, rfl, rfl⟩) ha)
  have hne : (Value.type T != Value.ref C) = true := bne_iff_ne.mpr fun q => by cases q
  unfold richCompare
  simp only [hT.oneThing_none]
  refine wpAny_holding (wpAny_bind (wpAny_cRoomFor hu ?_))
  refine wpAny_bind (wpAny_typeOf hT (wpAny_bind (I.type.here ?_)))
  simp only [hne, if_true]
  refine wpAny_bind ((looks_mroIn X hm).here ?_)
  simp only [Bool.false_eq_true, if_false]
  refine wpAny_bind (wpAny_mono two (fun r s' z => ?_) fun _ _ e => e)
  obtain ⟨rfl, rfl⟩ := z
  simp only [Bool.not_false, if_true]
  refine wpAny_bind (wpAny_mono one (fun r s' z => ?_) fun _ _ e => e)
  obtain ⟨z, rfl, hq⟩ := z
  exact wpAny_pure hq
theorem sub_not {n : String} {l : List Value} (e : fastBuiltinMro n = some l) (h : ∀ a, l.contains (.ref a) = false) : subIn K (.type n) (.ref C) = some false := by
  show (fastBuiltinMro n).map (·.contains (.ref C)) = some false
  rw [e, Option.map_some, h]
end
theorem looks_ty {M : Model} {s : Shared} {u : Value} {n : String} (h : s.TypeIs u n) : PySem.W.Looks M s.heap (typeOf u) (.type n) := fun A Q E s' k q => by
  refine wpAny_typeOf (T := n) ?_ q
  cases u with
  | ref a =>
    obtain ⟨o, h1, h2⟩ := h
    exact ⟨o, k _ _ h1, h2⟩
  | _ => exact h
/-! ### odd values beside an own object -/
def oddK : List String := ["bool", "NoneType", "str", "tuple", "list", "dict"]
section
variable {X : Cx} {CX : CXT} {k j : Nat} {C : Addr} {cn m : Str} {ps : List Str} {sp : Sp} {E : XK}
/-- a built-in type none of our classes is over, nor they over it -/
theorem odd_is {pins : List (Addr × Obj)} {s : Shared} {σ : L2.St} {H : Hp} {x : V} {u : Value} (I : L2.Inv X pins σ H s) (o : Odd H x) (r : RelV x u) :
    ∃ n ∈ oddK, s.TypeIs u n := by
  cases o with
  | bl b => cases r; exact ⟨"bool", by simp [oddK], rfl⟩
  | non => cases r; exact ⟨"NoneType", by simp [oddK], rfl⟩
  | str z => obtain ⟨t, rfl⟩ := r; exact ⟨"str", by simp [oddK], rfl⟩
  | tup h =>
    cases r
    obtain ⟨_, _, _, o, h1, h2, _⟩ := (show ObjOk X.prog X.w H s.heap _ (.tup _) from I.hok _ _ h)
    exact ⟨"tuple", by simp [oddK], o, h1, h2⟩
  | lst h =>
    cases r
    obtain ⟨_, _, n, _, h1⟩ := (show ObjOk X.prog X.w H s.heap _ (.lst _) from I.hok _ _ h)
    exact ⟨"list", by simp [oddK], _, h1, rfl⟩
  | dic h =>
    cases r
    obtain ⟨_, _, vs, _, o, es, ep, h1, h2, _⟩ := (show ObjOk X.prog X.w H s.heap _ (.dK _) from I.hok _ _ h)
    exact ⟨"dict", by simp [oddK], o, h1, h2.1⟩
theorem odd_first {n : String} (h : n ∈ oddK) : PySem.W.subIn X.K (.type n) (.ref C) = some false := by
  simp only [oddK, List.mem_cons, List.not_mem_nil, or_false] at h
  rcases h with rfl | rfl | rfl | rfl | rfl | rfl
  · exact sub_not (l := [.type "bool", .type "int", .type "object"]) (by decide +kernel) fun a => by simp
  · exact sub_not (l := [.type "NoneType", .type "object"]) (by decide +kernel) fun a => by simp
  · exact sub_not (l := [.type "str", .type "object"]) (by decide +kernel) fun a => by simp
  · exact sub_not (l := [.type "tuple", .type "object"]) (by decide +kernel) fun a => by simp
  · exact sub_not (l := [.type "list", .type "object"]) (by decide +kernel) fun a => by simp
  · exact sub_not (l := [.type "dict", .type "object"]) (by decide +kernel) fun a => by simp
/-- a method of the text's own asked by the machine, somewhere below the running body -/
theorem run_ownA {A : Around} {f : Addr} {fd : FuncData} {pins : List (Addr × Obj)} {σ : L2.St} {H : Hp} {s : Shared} {Q : VK} {us : List Value} {vs : List V} (F : FnOk X.prog X.w X.K X.mg X.base CX k f fd ps sp) (sb : Sub X k A) (hb : L2.Binds X.K fd ps []) (hx : Passes CX X E)
    (I : L2.Inv X pins σ H s) (r : Vals vs us) (h : sp vs H Q E) : wpAny (model X.prog X.w) A (call (.ref f) us) (PySem.W.CmpBack (EP X pins σ Q)) X.xe s := by
  have e0 : Env0 X.prog X.w X.K X.mg X.base A X.stack s H := by
    have e := I.env0
    exact ⟨by rw [sb.fr]; exact e.frames, e.mod, e.bs, e.bsz, e.funs, e.frf, e.hok, e.bare⟩
  have hl := F.len _ _ _ _ h
  refine wpAny_call (codeAny_mono (F.run A X.stack s H ⟨us, []⟩ us vs _ E sb.room e0 (by
    have := hb s us I.kIn (by rw [List.append_nil, ← r.length, hl])
    simpa using this) r h) fun r s' hq => ?_)
  cases r with
  | error e => exact hx pins σ H s e s' I hq
  | ok fl =>
    cases fl with
    | ret w => exact back_of (I.after hq)
    | next => exact False.elim hq
    | brk => exact False.elim hq
    | cont => exact False.elim hq
/-- x == y, x odd, y of the class at C: its own == is asked -/
theorem rc_odd {A : Around} {pins : List (Addr × Obj)} {s : Shared} {σ : L2.St} {H : Hp} {x : V} {u : Value} {b dx : Addr} {fs : List (Str × V)} {Q : VK} (sb : Sub X k A) (M : Meth X.K C "__eq__" (He.fAd X.K (cn, some "__eq__")))
    (hm : ∀ n ∈ oddK, PySem.W.mroIn X.K C (.type n) = some false) (O : OkD X.prog X.w X.K X.mg X.base CX k (cn, some "__eq__") ps [] sp) (hx : Passes CX X E) (I : L2.Inv X pins σ H s) (o : Odd H x) (rx : RelV x u) (hb : H b = some (.ins C dx fs)) (h0 : sp [.ref b, x] H Q E) :
    wpAny (model X.prog X.w) A (richCompare .Eq u (.ref b)) (EP X pins σ Q) X.xe s := by
  obtain ⟨fd, ds, F, bi, v⟩ := O.ex
  cases v
  obtain ⟨mA, J, _⟩ := ins_get I.hok hb
  obtain ⟨od, J, _⟩ := J.look
  have go := run_ownA (vs := [V.ref b, x]) (us := [.ref b, u]) F sb bi hx I (.cons rfl (.cons rx .nil)) h0
  have hu := sb.room.units0
  cases o with
  | bl y =>
    cases rx
    exact eq_any_own (T := "bool") rfl hu I.kIn J M.at_ M.fn (hm _ (by simp [oddK])) PySem.F.slot_bool_eq PySem.F.entry_int_eq (PySem.F.args_int_eq_2 _ _) (fun Q q => eq_no_int (.inl ⟨_, rfl⟩) rfl J.at_ q) go
  | non =>
    cases rx
    exact eq_any_own (T := "NoneType") rfl hu I.kIn J M.at_ M.fn (hm _ (by simp [oddK])) PySem.F.slot_NoneType_eq PySem.F.entry_NoneType_eq (PySem.F.args_NoneType_eq_2 _ _) (fun Q q => eq_no_none q) go
  | str z =>
    obtain ⟨t, rfl⟩ := rx
    exact eq_any_own (T := "str") rfl hu I.kIn J M.at_ M.fn (hm _ (by simp [oddK])) PySem.F.slot_str_eq PySem.F.entry_str_eq (PySem.F.args_str_eq_2 _ _) (fun Q q => eq_no_str rfl J.at_ q) go
  | tup h =>
    cases rx
    obtain ⟨_, _, _, o, h1, h2, _⟩ := (show ObjOk X.prog X.w H s.heap _ (.tup _) from I.hok _ _ h)
    exact eq_any_own (T := "tuple") ⟨o, h1, h2⟩ hu I.kIn J M.at_ M.fn (hm _ (by simp [oddK])) PySem.F.slot_tuple_eq PySem.F.entry_tuple_eq (PySem.F.args_tuple_eq_2 _ _) (fun Q q => eq_no_tup I.kIn J (hm _ (by simp [oddK])) q) go
  | lst h =>
    cases rx
    obtain ⟨_, _, n, _, h1⟩ := (show ObjOk X.prog X.w H s.heap _ (.lst _) from I.hok _ _ h)
    exact eq_any_own (T := "list") ⟨_, h1, rfl⟩ hu I.kIn J M.at_ M.fn (hm _ (by simp [oddK])) PySem.F.slot_list_eq PySem.F.entry_list_eq (PySem.F.args_list_eq_2 _ _) (fun Q q => eq_no_lst I.kIn J (hm _ (by simp [oddK])) q) go
  | dic h =>
    cases rx
    obtain ⟨_, _, vs, _, o, es, ep, h1, h2, _⟩ := (show ObjOk X.prog X.w H s.heap _ (.dK _) from I.hok _ _ h)
    exact eq_any_own (T := "dict") ⟨o, h1, h2.1⟩ hu I.kIn J M.at_ M.fn (hm _ (by simp [oddK])) PySem.F.slot_dict_eq PySem.F.entry_dict_eq (PySem.F.args_dict_eq_2 _ _) (fun Q q => eq_no_dic h1 I.kIn J (hm _ (by simp [oddK])) q) go
/-- odd == o -/
def rDO (C : Addr) (sp : Sp) (E : XK) : R2 := fun x y H Q => ∃ b dx fs, Odd H x ∧ y = .ref b ∧ H b = some (.ins C dx fs) ∧ sp [y, x] H Q E
theorem eq_do (M : Meth X.K C "__eq__" (He.fAd X.K (cn, some "__eq__"))) (hm : ∀ n ∈ oddK, PySem.W.mroIn X.K C (.type n) = some false) (O : OkD X.prog X.w X.K X.mg X.base CX k (cn, some "__eq__") ps [] sp) (hr : Room j X.A) (hj : k ≤ j) (hx : Passes CX X E) : OpR X (compareOp .Eq) (rDO C sp E) := by
  intro pins s σ H x y v u Q I rx ry h
  obtain ⟨b, dx, fs, o, rfl, hb, hsp⟩ := h
  cases ry
  exact rc_odd ⟨hr.mono hj, rfl⟩ M hm O hx I o rx hb hsp
/-- o ? odd -/
def rOD (C : Addr) (sp : Sp) (E : XK) : R2 := fun x y H Q => ∃ a dx fs, x = .ref a ∧ H a = some (.ins C dx fs) ∧ Odd H y ∧ sp [x, y] H Q E
theorem cmp_od {op : CmpOp} (hd : (cmpInfo op).2.1 = m) (hop : compareOp op = richCompare op) (M : Meth X.K C m (He.fAd X.K (cn, some m))) (O : OkD X.prog X.w X.K X.mg X.base CX k (cn, some m) ps [] sp) (hr : Room j X.A) (hj : k ≤ j) (hx : Passes CX X E) : OpR X (compareOp op) (rOD C sp E) := by
  obtain ⟨fd, ds, F, b, v⟩ := O.ex
  cases v
  intro pins s σ H x y v u Q I rx ry h
  obtain ⟨a, dx, fs, rfl, ha, o, hsp⟩ := h
  cases rx
  obtain ⟨mA, J, _⟩ := ins_get I.hok ha
  obtain ⟨od, J, _⟩ := J.look
  obtain ⟨mm, hF⟩ := I.fr
  obtain ⟨n, hn, ht⟩ := odd_is I o ry
  rw [hop]
  exact PySem.W.cmp_K (tb := .type n) hr.units0 hF I.ok.mod.kin J (looks_ty ht) (by unfold PySem.W.notFirst; rw [odd_first hn]; simp) (by rw [hd]; exact M.at_) M.fn (run_own (vs := [V.ref a, y]) F (hr.mono hj) b hx I (.cons rfl (.cons ry .nil)) hsp)
/-! ### x in a list, where == is the text's own -/
/-- == inside a built-in's body: its answer; it only makes objects -/
abbrev Eqb := V → V → Hp → Bool → Prop
def EqB (X : Cx) (n : Nat) (D : Eqb) : Prop :=
  ∀ (A : Around) (pins : List (Addr × Obj)) (s : Shared) (σ : L2.St) (H : Hp) (x y : V) (u v : Value) (b : Bool), Sub X n A → L2.Inv X pins σ H s → RelV x u → RelV y v → D x y H b →
    wpAny (model X.prog X.w) A (eqBool u v) (fun r s' => r = b ∧ ∃ H', L2.Inv X pins σ H' s' ∧ Ext H H') X.xe s
theorem EqB.or {n : Nat} {D D' : Eqb} (h : EqB X n D) (h' : EqB X n D') : EqB X n (fun x y H b => D x y H b ∨ D' x y H b) := fun A pins s σ H x y u v b sb I rx ry d => by
  rcases d with d | d
  · exact h A pins s σ H x y u v b sb I rx ry d
  · exact h' A pins s σ H x y u v b sb I rx ry d
def DOO (C : Addr) (sp : Sp) (E : XK) : Eqb := fun x y H b => ∃ a c dx dy fs gs, x = .ref a ∧ y = .ref c ∧ H a = some (.ins C dx fs) ∧ H c = some (.ins C dy gs) ∧ (a = c → b = true) ∧ sp [x, y] H (fun v H' => v = .bl b ∧ Ext H H') E
def DDO (C : Addr) (sp : Sp) (E : XK) : Eqb := fun x y H b => ∃ c dy gs, Odd H x ∧ y = .ref c ∧ H c = some (.ins C dy gs) ∧ (x = y → b = true) ∧ sp [y, x] H (fun v H' => v = .bl b ∧ Ext H H') E
theorem eqB_of_rc {A : Around} {pins : List (Addr × Obj)} {s : Shared} {σ : L2.St} {H : Hp} {u v : Value} {b : Bool} (hs : (u == v) = true → b = true) (hf : ∀ i t, u ≠ .float i t) (I : L2.Inv X pins σ H s)
    (h : wpAny (model X.prog X.w) A (richCompare .Eq u v) (EP X pins σ (fun v H' => v = .bl b ∧ Ext H H')) X.xe s) : wpAny (model X.prog X.w) A (eqBool u v) (fun r s' => r = b ∧ ∃ H', L2.Inv X pins σ H' s' ∧ Ext H H') X.xe s := by
  unfold eqBool
  refine wpAny_holding ?_
  refine wpAny_ite_split (fun hab => ?_) (fun _ => ?_)
  · refine wpAny_bind (wpAny_rule ?_)
    exact wpAny_pure ⟨(hs hab).symm, H, I, Ext.rfl'⟩
  · have tail : wpAny (model X.prog X.w) A (richCompare .Eq u v >>= truthOfDropped) (fun r s' => r = b ∧ ∃ H', L2.Inv X pins σ H' s' ∧ Ext H H') X.xe s := by
      refine wpAny_bind (wpAny_mono h (fun z s' hz => ?_) fun _ _ x => x)
      obtain ⟨v', H', I', rz, e, ex⟩ := hz
      subst e
      cases rz
      exact wpAny_truthy_bool ⟨rfl, H', I', ex⟩
    cases u with
    | float i t => exact absurd rfl (hf i t)
    | _ => exact tail
theorem eqB_oo {n : Nat} (M : Meth X.K C "__eq__" (He.fAd X.K (cn, some "__eq__"))) (O : OkD X.prog X.w X.K X.mg X.base CX n (cn, some "__eq__") ps [] sp) (hx : Passes CX X E) : EqB X n (DOO C sp E) := by
  obtain ⟨fd, ds, F, bi, v⟩ := O.ex
  cases v
  intro A pins s σ H x y u v b sb I rx ry d
  obtain ⟨a, c, dx, dy, fs, gs, rfl, rfl, ha, hc, he, hsp⟩ := d
  cases rx
  cases ry
  obtain ⟨mA, J, _⟩ := ins_get I.hok ha
  obtain ⟨mB, J', _⟩ := ins_get I.hok hc
  obtain ⟨od, J, _⟩ := J.look
  obtain ⟨od', J', _⟩ := J'.look
  obtain ⟨mm, hF⟩ := I.fr
  refine eqB_of_rc (fun h => he (by have := eq_of_beq h; injection this)) (fun _ _ z => nomatch z) I ?_
  exact PySem.W.cmp_K (op := .Eq) (tb := .ref C) sb.room.units0 hF I.ok.mod.kin J J'.type (by simp [PySem.W.notFirst]) M.at_ M.fn (run_ownA (vs := [V.ref a, V.ref c]) F sb bi hx I (.cons rfl (.cons rfl .nil)) hsp)
theorem eqB_do {n : Nat} (M : Meth X.K C "__eq__" (He.fAd X.K (cn, some "__eq__"))) (hm : ∀ n ∈ oddK, PySem.W.mroIn X.K C (.type n) = some false) (O : OkD X.prog X.w X.K X.mg X.base CX n (cn, some "__eq__") ps [] sp) (hx : Passes CX X E) : EqB X n (DDO C sp E) := by
  intro A pins s σ H x y u v b sb I rx ry d
  obtain ⟨c, dy, gs, o, rfl, hc, he, hsp⟩ := d
  cases ry
  refine eqB_of_rc (fun h => he ?_) (fun i t z => ?_) I (rc_odd sb M hm O hx I o rx hc hsp)
  · have := eq_of_beq h
    subst this
    cases x with
    | ref a => cases rx; rfl
    | int i => obtain ⟨t, h⟩ := rx; cases h
    | str i => obtain ⟨t, h⟩ := rx; cases h
    | byt i => obtain ⟨t, h⟩ := rx; cases h
    | flt i => obtain ⟨t, h⟩ := rx; cases h
    | _ => cases rx
  · subst z
    cases o with
    | bl => cases rx
    | non => cases rx
    | str => obtain ⟨t, h⟩ := rx; cases h
    | tup => cases rx
    | lst => cases rx
    | dic => cases rx
/-- the loop of list.__contains__; at each turn the list is read anew -/
theorem in_loop {P : Program} {w : World} {A : Around} {R : Result → Shared → Prop} {l : Addr} {N : Nat} {x : Value} (J : Shared → Prop) (e : Nat → Bool)
    (hl : ∀ i s, J s → ∃ (its : List Value) (n : Nat) (dd : Option Addr) (sl : Array (Option Value)), s.heap.get? l = some { cls := .type "list", dict := dd, data := .seq its.toArray n, slots := sl } ∧ its.length = N ∧ ∀ h : i < its.length, wpAny (model P w) A.in1 (eqBool its[i] x) (fun r s' => r = e i ∧ J s') (fun e s' => R (.error e) s') s) (k : Nat) :
    ∀ i : Nat, N - i = k → i ≤ N → ∀ s, J s → (∀ s', J s' → R (.ok (.ret (.bool ((List.range' i k).any e)))) s') →
      wpAny (model P w) A.in1 (Builtin.«list.__contains__.loop» ⟨[.ref l, x, rawInt i], []⟩) (GQ.FinOf P w A R) (fun e s' => R (.error e) s') s := by
  induction k with
  | zero =>
    intro i hk hi s h fin
    obtain ⟨items, n, dd, sl, ho, hn, _⟩ := hl i s h
    have q := fin s h
    obtain ⟨hp, g, d, tk, os⟩ := s
    wp_walk using AutoSeq1.wpAny_loadPart' ho
    have hi : items.toArray[((i : Nat) : Int).toNat]? = none := by simp; omega
    rw [hi]
    wp_walk
    exact q
  | succ k ih =>
    intro i hk hi s h fin
    obtain ⟨items, n, dd, sl, ho, hn, turn⟩ := hl i s h
    have hlt : i < items.length := by omega
    have t := turn hlt
    obtain ⟨hp, g, d, tk, os⟩ := s
    wp_walk using AutoSeq1.wpAny_loadPart' ho
    have hi : items.toArray[((i : Nat) : Int).toNat]? = some items[i] := by simp [hlt]
    rw [hi]
    refine wpAny_bind (wpAny_mono t (fun r s2 q => ?_) fun _ _ z => z)
    obtain ⟨rfl, h2⟩ := q
    rw [List.range'_succ, List.any_cons] at fin
    cases hb : e i with
    | true =>
      rw [hb] at fin
      have q := fin s2 h2
      obtain ⟨hp2, g2, d2, tk2, os2⟩ := s2
      wp_walk
      exact q
    | false =>
      rw [hb] at fin
      have hc : ((i : Int) + 1) = ((i + 1 : Nat) : Int) := by push_cast; rfl
      have go := ih (i + 1) (by omega) (by omega) s2 h2 (fun s' h' => by simpa using fin s' h')
      obtain ⟨hp2, g2, d2, tk2, os2⟩ := s2
      wp_walk
      rw [hc]
      exact ⟨plainId_quiet MeetsSeq.plain_contains_loop _, codeAny_builtin MeetsSeq.entry_contains_loop (by
        rw [Around.under_plainId MeetsSeq.plain_contains_loop _]
        exact go)⟩
/-- x in the list at y: item by item D says how they compare -/
def rInB (K : PySem.W.Frag) (neg : Bool) (D : Eqb) : R2 := fun x y H Q => ∃ (p : Addr) (xs : List V) (bs : List Bool), y = .ref p ∧ SqL K H p xs ∧ Paired (fun z b => ∀ H', Ext H H' → D z x H' b) xs bs ∧ ∀ H', Ext H H' → Q (.bl (if neg then !bs.any id else bs.any id)) H'
theorem any_range (bs : List Bool) : (List.range' 0 bs.length).any (fun i => bs.getD i false) = bs.any id := by
  rw [← List.range_eq_range']
  rw [Bool.eq_iff_iff, List.any_eq_true, List.any_eq_true]
  constructor
  · rintro ⟨i, hi, e⟩
    have h := List.mem_range.mp hi
    refine ⟨bs[i], List.getElem_mem h, ?_⟩
    simpa [List.getD_eq_getElem?_getD, List.getElem?_eq_getElem h] using e
  · rintro ⟨b, hb, e⟩
    obtain ⟨i, h, rfl⟩ := List.mem_iff_getElem.mp hb
    exact ⟨i, List.mem_range.mpr h, by simpa [List.getD_eq_getElem?_getD, List.getElem?_eq_getElem h] using e⟩
theorem paired_get {α β : Type} {R : α → β → Prop} : ∀ {xs : List α} {bs : List β}, Paired R xs bs → ∀ i (h : i < xs.length), ∃ b, bs[i]? = some b ∧ R xs[i] b
  | _, _, .nil, i, h => absurd h (Nat.not_lt_zero _)
  | _ :: _, _ :: _, .cons r p, 0, _ => ⟨_, rfl, r⟩
  | _ :: _, _ :: _, .cons r p, i + 1, h => paired_get p i (by simpa using h)
theorem paired_len {α β : Type} {R : α → β → Prop} : ∀ {xs : List α} {bs : List β}, Paired R xs bs → xs.length = bs.length
  | _, _, .nil => rfl
  | _, _, .cons _ p => congrArg (· + 1) (paired_len p)
theorem in_body {n : Nat} {D : Eqb} {neg : Bool} (h : EqB X n D) (hr : Room (n + 1) X.A) {pins : List (Addr × Obj)} {s : Shared} {σ : L2.St} {H : Hp} {x y : V} {u v : Value} {Q : VK} (I : L2.Inv X pins σ H s) (rx : RelV x u) (ry : RelV y v) (hq : rInB X.K neg D x y H Q) :
    wpAny (model X.prog X.w) X.A (contains v u) (fun r s' => EP X pins σ Q (.bool (if neg then !r else r)) s') X.xe s := by
  obtain ⟨p, xs, bs, rfl, hS, pr, q⟩ := hq
  cases ry
  obtain ⟨its, r, pl, hz⟩ := I.list hS
  have hT : s.TypeIs (.ref p) "list" := by
    obtain ⟨⟨cls, dd, data, sl⟩, n', ho, hc, _⟩ := id pl
    exact ⟨_, ho, hc⟩
  have J0 : (fun s' => ∃ H', L2.Inv X pins σ H' s' ∧ Ext H H') s := ⟨H, I, Ext.rfl'⟩
  refine wpAny_contains_slot hT PySem.F.slot_list_contains ?_
  refine GQ.call_here PySem.F.slot_list_contains hT PySem.F.entry_list_contains (PySem.F.args_list_contains_2 _ _) ?_
  have lp := in_loop (P := X.prog) (w := X.w) (A := X.A) (R := wants (fun r s' => wpAny (model X.prog X.w) X.A (truthy r) (fun r s' => EP X pins σ Q (Value.bool (if neg = true then !r else r)) s') X.xe s') X.xe) (l := p) (N := xs.length) (x := u) (fun s' => ∃ H', L2.Inv X pins σ H' s' ∧ Ext H H') (fun i => bs.getD i false) ?hl bs.length 0 (by rw [paired_len pr]; rfl) (Nat.zero_le _) s J0 ?fin
  case hl =>
    rintro i s' ⟨H', I', e⟩
    obtain ⟨its', r', pl', _⟩ := I'.list (SqL.ext hS e)
    obtain ⟨o, n', ho, hc, hd, hs⟩ := pl'
    obtain ⟨cls, dd, data, sl⟩ := o
    dsimp only at hc hd hs
    refine ⟨its', n', dd, sl, by first | (rw [ho, hc, hs]) | (rw [ho]; subst hc; subst hs; rfl), r'.length.symm, fun hi => ?_⟩
    have hx : i < xs.length := by rw [r'.length]; exact hi
    obtain ⟨z, hz', rz⟩ := r'.get (List.getElem?_eq_getElem hx)
    rw [List.getElem?_eq_getElem hi] at hz'
    obtain ⟨b, hb, hd'⟩ := paired_get pr i hx
    have eb : bs.getD i false = b := by simp [List.getD_eq_getElem?_getD, hb]
    rw [Option.some.inj hz', eb]
    refine wpAny_mono (h X.A.in1 pins s' σ H' _ x _ u b ⟨hr.in1, rfl⟩ I' rz rx (hd' _ e)) (fun r2 s2 q2 => ?_) fun _ _ z => z
    obtain ⟨h2, H2, I2, e2⟩ := q2
    exact ⟨h2, H2, I2, e.trans e2⟩
  case fin =>
    rintro s' ⟨H', I', e⟩
    rw [any_range]
    exact wpAny_truthy_bool ⟨.bl _, H', I', rfl, q H' e⟩
  obtain ⟨hp, g, d, tk, os⟩ := s
  wp_walk
  exact ⟨plainId_quiet MeetsSeq.plain_contains_loop _, codeAny_builtin MeetsSeq.entry_contains_loop (by
    rw [Around.under_plainId MeetsSeq.plain_contains_loop _]
    exact lp)⟩
theorem op_inB {n : Nat} {D : Eqb} (h : EqB X n D) (hr : Room (n + 1) X.A) : OpR X (compareOp .In) (rInB X.K false D) := fun pins s σ H x y v u Q I rx ry hq => by
  show wpAny (model X.prog X.w) X.A (do return Value.bool (← contains u v)) (EP X pins σ Q) X.xe s
  exact wpAny_bind (wpAny_mono (in_body h hr I rx ry hq) (fun _ _ z => wpAny_pure z) fun _ _ z => z)
theorem op_notInB {n : Nat} {D : Eqb} (h : EqB X n D) (hr : Room (n + 1) X.A) : OpR X (compareOp .NotIn) (rInB X.K true D) := fun pins s σ H x y v u Q I rx ry hq => by
  show wpAny (model X.prog X.w) X.A (do return Value.bool (!(← contains u v))) (EP X pins σ Q) X.xe s
  exact wpAny_bind (wpAny_mono (in_body h hr I rx ry hq) (fun _ _ z => wpAny_pure z) fun _ _ z => z)
end
end Vf

set_option Elab.async false
set_option linter.all false
set_option maxRecDepth 100000
set_option maxHeartbeats 2000000
namespace Vf
open PySem PySem.Spec PyProof.Rows L2
/-! ### names of the text that stand for an int, a text, a tuple of texts -/
section
variable {X : Cx}
theorem c_gint {x : Str} {i : Int} {pos : Pos} (hm : ∃ t, X.mg x = some (.int i t)) (hg : Gl X x := by rfl) (hd : (x == ("__debug__" : Str)) = false := by decide) : PE X (.Name x pos) (tC (.int i)) := by
  obtain ⟨t, h⟩ := hm
  exact pe_glob hg h ⟨t, rfl⟩ hd
theorem c_gstr {x z : Str} {pos : Pos} (hm : ∃ t, X.mg x = some (.str z t)) (hg : Gl X x := by rfl) (hd : (x == ("__debug__" : Str)) = false := by decide) : PE X (.Name x pos) (tC (.str z)) := by
  obtain ⟨t, h⟩ := hm
  exact pe_glob hg h ⟨t, rfl⟩ hd
end
def strsB : List Value → List Str → Bool
  | [], [] => true
  | .str y _ :: us, z :: zs => decide (y = z) && strsB us zs
  | _, _ => false
theorem strsB_ok : ∀ {us : List Value} {zs : List Str}, strsB us zs = true → Vals (zs.map V.str) us
  | [], [], _ => .nil
  | .str y t :: us, z :: zs, h => by
    obtain ⟨h1, h2⟩ := He.ba h
    have e := of_decide_eq_true h1
    subst e
    exact .cons ⟨t, rfl⟩ (strsB_ok h2)
/-- at a a tuple of the texts zs -/
def kTup (K : PySem.W.Frag) (a : Addr) (zs : List Str) : Bool := match K.lookup a with
  | some ⟨.type n, _, .seq its _, _⟩ => decide (n = "tuple") && (decide (its.size ≤ sizeLine) && strsB its.toList zs)
  | _ => false
theorem kTup_ok {K : PySem.W.Frag} {a : Addr} {zs : List Str} (h : kTup K a zs = true) (H : Hp) : SqT K H a (zs.map V.str) := by
  unfold kTup at h
  split at h
  · rename_i n od its m sl e
    obtain ⟨h1, h2⟩ := He.ba h
    obtain ⟨h2, h3⟩ := He.ba h2
    have e1 := of_decide_eq_true h1
    subst e1
    exact .inr ⟨_, its, m, e, rfl, rfl, of_decide_eq_true h2, strsB_ok h3⟩
  · cases h
/-! ### C(.., k = v, ..) -/
structure OkK (P : Program) (w : World) (K : PySem.W.Frag) (mg : Str → Option Value) (base : Heap) (CX : CXT) (k : Nat) (p : Pl) (ps : List Str) (n : Nat) (ks : List Str) (gV : List V → List V → List V) (sp : Sp) : Prop where
  ex : ∃ fd g, FnOk P w K mg base CX k (He.fAd K p) fd ps sp ∧ KBn K fd ps n ks g gV
theorem c_mkK {X : Cx} {CX : CXT} {k j n : Nat} {ps ks : List Str} {sp : Sp} {x : Str} {p pos : Pos} {e : Expr} {es : List Expr} {kws : List Keyword} {t tk : TA} {gV : List V → List V → List V} {E : XK} {C : Addr} (M : Mk X.K C (He.fAd X.K (x, some "__init__"))) (O : OkK X.prog X.w X.K X.mg X.base CX k (x, some "__init__") ps (n + 1) ks gV sp) (hr : Room j X.A) (hj : k + 1 ≤ j) (hm : X.mg x = some (.ref C)) (hx : Passes CX X E) (ha : PA X (e :: es) t) (hkw : PK X kws tk) (hg : Gl X x := by rfl)
    (hall : (backToKw pos (keywordEach kws X.env)).all (·.1.isSome) = true := by rfl) (hks : (backToKw pos (keywordEach kws X.env)).filterMap (·.1) = ks := by rfl) (hdb : (x == ("__debug__" : Str)) = false := by decide)
    (he : starEach (e :: es) X.env = (false, eval e X.env) :: starEach es X.env := by rfl) (hpl : ((backTo pos (starEach (e :: es) X.env)).any (·.1) || (backToKw pos (keywordEach kws X.env)).any (·.1.isNone)) = false := by rfl) :
    PE X (.Call (.Name x p) (e :: es) kws pos) (tMakeK C n ks.length sp gV E t tk) := by
  obtain ⟨fd, g, F, b⟩ := O.ex
  exact pe_makeK M F (hr.mono hj) hg hm b hx ha hkw hall hks hdb he hpl
/-! ### texts -/
/-- one sign in a text -/
theorem sign_in (x : Str) (c : Nat) : (!(Builtin.Str.occurrences x ⟨#[c]⟩ 0 x.length 1).isEmpty) = decide (c ∈ x.cps.toList) := PySem.StrLaws.found_one x c
/-- a value that is no text -/
inductive OddS (H : Hp) : V → Prop where
  | bl (b : Bool) : OddS H (.bl b)
  | non : OddS H .non
  | int (i : Int) : OddS H (.int i)
  | tup {a : Addr} {xs : List V} (h : H a = some (.tup xs)) : OddS H (.ref a)
  | lst {a : Addr} {xs : List V} (h : H a = some (.lst xs)) : OddS H (.ref a)
  | dic {a : Addr} {kvs : List (Key × V)} (h : H a = some (.dK kvs)) : OddS H (.ref a)
theorem oddS_ty (K : PySem.W.Frag) {H : Hp} {x : V} (o : OddS H x) : ∃ n : String, TyX K H x (.type n) ∧ kitB n "str" = some false := by
  cases o with
  | bl b => exact ⟨"bool", .base (.bl b), by decide +kernel⟩
  | non => exact ⟨"NoneType", .base .non, by decide +kernel⟩
  | int i => exact ⟨"int", .base (.int i), by decide +kernel⟩
  | tup h => exact ⟨"tuple", .base (.tup h), by decide +kernel⟩
  | lst h => exact ⟨"list", .base (.lst h), by decide +kernel⟩
  | dic h => exact ⟨"dict", .base (.dK h), by decide +kernel⟩
/-- a value that is no bool -/
inductive OddB (H : Hp) : V → Prop where
  | str (z : Str) : OddB H (.str z)
  | non : OddB H .non
  | int (i : Int) : OddB H (.int i)
  | tup {a : Addr} {xs : List V} (h : H a = some (.tup xs)) : OddB H (.ref a)
  | lst {a : Addr} {xs : List V} (h : H a = some (.lst xs)) : OddB H (.ref a)
  | dic {a : Addr} {kvs : List (Key × V)} (h : H a = some (.dK kvs)) : OddB H (.ref a)
theorem oddB_ty (K : PySem.W.Frag) {H : Hp} {x : V} (o : OddB H x) : ∃ n : String, TyX K H x (.type n) ∧ kitB n "bool" = some false := by
  cases o with
  | str z => exact ⟨"str", .base (.str z), by decide +kernel⟩
  | non => exact ⟨"NoneType", .base .non, by decide +kernel⟩
  | int i => exact ⟨"int", .base (.int i), by decide +kernel⟩
  | tup h => exact ⟨"tuple", .base (.tup h), by decide +kernel⟩
  | lst h => exact ⟨"list", .base (.lst h), by decide +kernel⟩
  | dic h => exact ⟨"dict", .base (.dK h), by decide +kernel⟩
end Vf

set_option Elab.async false
set_option linter.all false
set_option maxRecDepth 100000
set_option maxHeartbeats 2000000
namespace Vf
open PySem PySem.Spec PyProof.Rows L2
/-- the callee's errors are the def's own -/
theorem passE {X : Cx} {E : XK} (hs : X.stack = X.env :: X.outer) (hf : X.env.frame = some X.env.locals) (hex : X.ex = []) {E₁ : Value → Shared → Prop}
    (hx : X.xe = fun e s' => wpAny (model X.prog X.w) X.A (leaving X.env e) (fun _ s'' => L2.CX X.prog X.w X.outer X.H_0 X.s_0 E e s'') E₁ s') : Passes (L2.CX X.prog X.w) X E :=
  passes_call (takes_of hs hf hex hx) fun _ _ _ _ h => h
/-! ### o.m(k = v, ..) -/
def tMethK (C : Addr) (m : Str) (n : Nat) (sp : Sp) (gV : List V → List V → List V) (E : XK) (ta : TE) (tk : TA) : TE := fun σ H Q => ta σ H fun x H1 => ∃ a dx fs, x = .ref a ∧ H1 a = some (.ins C dx fs) ∧ fs.lookup m = none ∧
  tk σ H1 fun zs H2 => zs.length = n ∧ sp (gV [.ref a] zs) H2 Q E
theorem c_meK {X : Cx} {CX : CXT} {k j : Nat} {ps ks : List Str} {sp : Sp} {m cn : Str} {o : Expr} {pos apos : Pos} {kws : List Keyword} {ta : TE} {tk : TA} {gV : List V → List V → List V} {E : XK} {C : Addr} (hC : C = He.ga X.K cn) (hb : PE X o ta) (c : Cls X.K C) (hm : Meth X.K C m (He.fAd X.K (cn, some m)))
    (O : OkK X.prog X.w X.K X.mg X.base CX k (cn, some m) ps 1 ks gV sp) (hr : Room j X.A) (hj : k ≤ j) (hx : Passes CX X E) (hkw : PK X kws tk) {pl : Sem Bool}
    (hall : (backToKw pos (keywordEach kws X.env)).all (·.1.isSome) = true := by rfl) (hks : (backToKw pos (keywordEach kws X.env)).filterMap (·.1) = ks := by rfl)
    (hpl : ((backTo pos (starEach [] X.env)).any (·.1) || (backToKw pos (keywordEach kws X.env)).any (·.1.isNone)) = false := by rfl)
    (ht : eval (.Call (.Attribute o m apos) [] kws pos) X.env = (do
      let ov ← eval o X.env
      standAt apos.atName
      let (f, first) ← holding [ov] (getMethod ov m pl)
      callWith pos f first (backTo pos (starEach [] X.env)) (backToKw pos (keywordEach kws X.env))) := by rfl) :
    PE X (.Call (.Attribute o m apos) [] kws pos) (tMethK C m ks.length sp gV E ta tk) := by
  obtain ⟨fd, g, F, b⟩ := O.ex
  refine ⟨fun pins s σ H Q I h => ?_⟩
  refine PySem.W.methodCall_KW (pl := pl) (thn (hb.run pins s σ H _ I h) fun u s1 ⟨x, H1, I1, rx, a, dx, fs, ex, ea, l, q⟩ => ?_) ht
  subst ex
  obtain rfl : u = Value.ref a := rx
  refine getmeth_ok I1 ea c hm l ?_
  refine PySem.W.callWith_KW0 (first := [.ref a]) (h₀ := X.base) I.ok.mod.kin hm.kp hall ?_ hpl
  refine thn (hkw.run pos pins s1 σ H1 _ I1 q) fun ws s2 ⟨zs, H2, I2, rz, l2, q2⟩ => ⟨I2.kIn, ?_⟩
  rw [hks]
  exact run_fnN (us := [.ref a]) (vs := [.ref a]) F (hr.mono hj) b hx I2 (.cons rfl .nil) rz rfl l2 q2
/-! ### o != o of a class with an own == alone -/
section
open PySem.W PySem.Calls
variable {M : Model} {prog : Program} {w : World} {A : Around} {E : Value → Shared → Prop} {s : Shared} {K : Frag} {x y C f : Addr} {ox oy : Obj} {od od' : Option Obj}
theorem ifBound_objNe {args : List Value} {Q : Option Value → Shared → Prop} (X : K.In s.heap) (I : InstAt s.heap x ox C od) (hs : findIn K (.ref C) "__ne__" = some (some (.builtin "object.__ne__")))
    (h : wpAny M A (call (.builtin "object.__ne__") (.ref x :: args)) (fun v => Q (some v)) E s) : wpAny M A (callSpecialIfBound? (.ref x) "__ne__" args) Q E s := by
  simp only [callSpecialIfBound?, bindSpecialIfBound?]
  refine wpAny_holding (wpAny_bind (wpAny_bind (wpAny_bind (I.type.here ((looks_findIn X hs).here ?_)))))
  refine wpAny_bind (wpAny_askSetting (wpAny_ite ?_))
  have fin : wpAny M A (call (.builtin "object.__ne__") ([.ref x] ++ args) >>= fun v => pure (some v)) Q E s := wpAny_bind (wpAny_mono h (fun v s' h' => wpAny_pure h') fun _ _ h' => h')
  split
  · exact wpAny_bind (wpAny_of_eq (F.cmp_object.ne.bind _) (wpAny_pure (by exact fin)))
  · exact wpAny_tryCatch (wpAny_bind (wpAny_of_eq (F.cmp_object.ne.bind _) (wpAny_pure (by exact fin))))
def NeBack (Q : Value → Shared → Prop) (v : Value) (s' : Shared) : Prop := ∃ t, v = .bool t ∧ Q (.bool (!t)) s'
theorem entry_ne {Q : Fin → Shared → Prop} (hu : A.units < cLine) (X : K.In s.heap) (I : InstAt s.heap x ox C od) (hs : findIn K (.ref C) "__eq__" = some (some (.ref f))) (hf : isFn K (.ref f) = true)
    (h : wpAny (model prog w) A (call (.ref f) [.ref x, .ref y]) (NeBack fun v => Q (.done (.ret v))) E s) : wpAny (model prog w) A (Builtin.«object.__ne__» ⟨[.ref x, .ref y], []⟩) Q E s := by
  have e : wpAny (model prog w) A (callSpecialIfBound? (.ref x) "__eq__" [.ref y]) (fun r s' => ∃ t, r = some (.bool t) ∧ Q (.done (.ret (.bool (!t)))) s') E s :=
    ifBound_K X I hs hf (wpAny_mono h (fun v s' hv => by obtain ⟨t, rfl, q⟩ := hv; exact ⟨t, rfl, q⟩) fun _ _ e => e)
  unfold Builtin.«object.__ne__»
  repeat (first | with_reducible refine wpAny_cRoomFor hu ?_ | with_reducible refine wpAny_mono e ?_ (fun _ _ e => e) | wp_step)
  rintro r s' ⟨t, rfl, q⟩
  refine wpAny_bind (wpAny_truthy_bool ?_)
  exact wpAny_pure q
theorem call_ne {Q : Value → Shared → Prop} (hu : A.in1.units < cLine) (X : K.In s.heap) (I : InstAt s.heap x ox C od) (hm : mroIn K C (.type "object") = some true) (hs : findIn K (.ref C) "__eq__" = some (some (.ref f))) (hf : isFn K (.ref f) = true)
    (h : wpAny (model prog w) A.in1 (call (.ref f) [.ref x, .ref y]) (NeBack Q) E s) :
    wpAny (model prog w) A (call (.builtin "object.__ne__") [.ref x, .ref y]) Q E s :=
  wpAny_call (codeAny_call_builtin F.cmp_object.ne.plain F.cmpEntry_ne (check_slot F.cmpKind_ne F.cmpSplit_ne (I.type.andThen (looks_mroIn X hm)) (F.cmpArgs_ne _ _) (entry_ne hu X I hs hf h)))
theorem rc_ne {Q : Value → Shared → Prop} (hu : A.units < cLine) (hu1 : A.in1.units < cLine) (X : K.In s.heap) (I : InstAt s.heap x ox C od) (I' : InstAt s.heap y oy C od') (hm : mroIn K C (.type "object") = some true)
    (hn : findIn K (.ref C) "__ne__" = some (some (.builtin "object.__ne__"))) (hs : findIn K (.ref C) "__eq__" = some (some (.ref f))) (hf : isFn K (.ref f) = true)
    (h : wpAny (model prog w) A.in1 (call (.ref f) [.ref x, .ref y]) (NeBack Q) E s) : wpAny (model prog w) A (richCompare .NotEq (.ref x) (.ref y)) Q E s := by
  have one : wpAny (model prog w) A (tryCompare (.ref x) "__ne__" (.ref y)) (fun r s' => ∃ v, r = some v ∧ Q v s') E s := by
    unfold tryCompare
    refine wpAny_bind (ifBound_objNe X I hn (call_ne hu1 X I hm hs hf (wpAny_mono h (fun v s' hv => ?_) fun _ _ e => e)))
    obtain ⟨t, rfl, q⟩ := hv
    exact ⟨t, rfl, wpAny_pure ⟨_, rfl, q⟩⟩
  unfold richCompare
  simp only [oneThing_ref]
  refine wpAny_holding (wpAny_bind (wpAny_cRoomFor hu ?_))
  refine wpAny_bind (I.type.here (wpAny_bind (I'.type.here ?_)))
  split
  · rename_i q
    exact absurd q (by simp)
  · refine wpAny_bind (wpAny_pure ?_)
    simp only [Bool.false_eq_true, if_false]
    refine wpAny_bind (wpAny_mono one (fun r s' z => ?_) fun _ _ e => e)
    obtain ⟨v, rfl, hq⟩ := z
    exact wpAny_pure hq
end
def rNeO (C : Addr) (sp : Sp) : R2 := fun x y H Q => ∃ a b dx dy fs gs, x = .ref a ∧ y = .ref b ∧ H a = some (.ins C dx fs) ∧ H b = some (.ins C dy gs) ∧ sp [.ref a, .ref b] H (fun v H' => ∃ t, v = .bl t ∧ Q (.bl (!t)) H') fun _ _ _ => False
theorem cmp_neO {X : Cx} {k j : Nat} {C : Addr} {cn : Str} {ps : List Str} {sp : Sp} (hC : C = He.ga X.K cn) (M : Meth X.K C "__eq__" (He.fAd X.K (cn, some "__eq__"))) (hn : PySem.W.findIn X.K (.ref C) "__ne__" = some (some (.builtin "object.__ne__"))) (hm : PySem.W.mroIn X.K C (.type "object") = some true)
    (O : OkD X.prog X.w X.K X.mg X.base CX0 k (cn, some "__eq__") ps [] sp) (hr : Room j X.A) (hj : k + 1 ≤ j) : OpR X (compareOp .NotEq) (rNeO C sp) := by
  obtain ⟨fd, ds, F, b, v⟩ := O.ex
  cases v
  intro pins s σ H x y v u Q I rx ry h
  obtain ⟨a, b', dx, dy, fs, gs, rfl, rfl, ha, hb, hsp⟩ := h
  cases rx
  cases ry
  obtain ⟨mA, J, _⟩ := ins_get I.hok ha
  obtain ⟨mB, J', _⟩ := ins_get I.hok hb
  obtain ⟨od, J, _⟩ := J.look
  obtain ⟨od', J', _⟩ := J'.look
  have hr1 : Room k X.A.in1 := (hr.mono hj).in1
  refine rc_ne hr.units0 hr1.units0 I.kIn J J' hm hn M.at_ M.fn ?_
  have hl := F.len _ _ _ _ hsp
  have hbb := b s [.ref a, .ref b'] I.kIn (by simpa using hl)
  simp only [List.append_nil] at hbb
  refine wpAny_call (codeAny_mono (F.run X.A.in1 X.stack s H ⟨[.ref a, .ref b'], []⟩ [.ref a, .ref b'] [.ref a, .ref b'] _ _ hr1 I.env0.in1 hbb (.cons rfl (.cons rfl .nil)) hsp) fun r s' hq => ?_)
  cases r with
  | error e => exact hq.elim
  | ok fl =>
    cases fl with
    | ret w =>
      obtain ⟨z, H', I', rz, t, ez, q⟩ := I.after hq
      subst ez
      cases rz
      exact ⟨t, rfl, .bl (!t), H', I', rfl, q⟩
    | next => exact False.elim hq
    | brk => exact False.elim hq
    | cont => exact False.elim hq
end Vf

set_option Elab.async false
set_option linter.all false
set_option maxRecDepth 100000
set_option maxHeartbeats 2000000
/-! ### enumerate over a tuple -/
namespace PySem
open Sem (wp)
open AutoSeq1 (wpAny_loadPart')
theorem vf_enum_newT (l : Addr) (items : Array Value) (n : Nat) (dct : Option Addr) (sl : Array (Option Value)) :
    Meets (Builtin.«enumerate.__new__» ⟨[.type "enumerate", .ref l], []⟩) (fun _ R s => s.heap.get? l = some { cls := .type "tuple", dict := dct, data := .seq items n, slots := sl } ∧
      R (.ok (.ret (.ref (s.heap.push { cls := .type "tuple_iterator", data := .fields #[.ref l, .int 0 0] }).objs.size)))
        { s with heap := (s.heap.push { cls := .type "tuple_iterator", data := .fields #[.ref l, .int 0 0] }).push { cls := .type "enumerate", data := .fields #[.none, .bool false, .ref s.heap.objs.size, rawInt 0, .none, .none] } }) :=
  .of_wp fun prog w A R s h => by
    obtain ⟨hp, g, d, tk, os⟩ := s; obtain ⟨hl, h⟩ := h
    have hsub := sub_enumerate
    have hL : Heap.IsTuple (Shared.heap ⟨hp, g, d, tk, os⟩) l items := ⟨_, hl, rfl, n, rfl⟩
    wp_walk using wpAny_loadPart' hl
    refine wpAny_stack_any fun st => wpAny_pure ?_
    split
    · rename_i c _ _ _ _ _
      cases (c == Value.type "enumerate")
      · wp_walk using wpAny_loadPart' hl, wpAny_pyIter_tuple hL
        exact ⟨_, rfl, h⟩
      · wp_walk using wpAny_loadPart' hl, wpAny_pyIter_tuple hL
        exact ⟨_, rfl, h⟩
    · wp_walk using wpAny_loadPart' hl, wpAny_pyIter_tuple hL
      exact ⟨_, rfl, h⟩
section
variable {prog : Program} {w : World} {A : Around} {E : Value → Shared → Prop} {s : Shared}
theorem vf_call_enumT {l : Addr} {items : Array Value} {Q : Value → Shared → Prop} (hL : s.heap.IsTuple l items)
    (h : ∀ h', IsEnum h' (s.heap.objs.size + 1) s.heap.objs.size 0 .none → h'.IsTupleIter s.heap.objs.size l 0 → h'.objs.size = s.heap.objs.size + 2 →
      (∀ b o, s.heap.get? b = some o → h'.get? b = some o) → Q (.ref (s.heap.objs.size + 1)) { s with heap := h' }) :
    wpAny (model prog w) A (call (.type "enumerate") [.ref l]) Q E s := by
  obtain ⟨⟨c, dct, dt, sl⟩, hl, hc, n, hd⟩ := hL
  replace hc : c = .type "tuple" := hc
  replace hd : dt = .seq items n := hd
  subst hc hd
  refine callType_new F.called_enumerate (by decide) (F.typeCall_enumerate_1 _) (F.newCall_enumerate_1 _) (fun obj => F.args_object_init_2 obj _) F.entry_enumerate_new
    (vf_enum_newT l items n dct sl) ⟨hl, ?_⟩
  have hz : (s.heap.push { cls := .type "tuple_iterator", data := .fields #[.ref l, .int 0 0] }).objs.size = s.heap.objs.size + 1 := Heap.size_push ..
  show _ ∧ _
  rw [hz]
  have he : IsEnum ((s.heap.push { cls := .type "tuple_iterator", data := .fields #[.ref l, .int 0 0] }).push
      { cls := .type "enumerate", data := .fields #[.none, .bool false, .ref s.heap.objs.size, rawInt 0, .none, .none] }) (s.heap.objs.size + 1) s.heap.objs.size 0 .none := by
    have := Heap.get?_push_size (s.heap.push { cls := .type "tuple_iterator", data := .fields #[.ref l, .int 0 0] })
      (o := { cls := .type "enumerate", data := .fields #[.none, .bool false, .ref s.heap.objs.size, rawInt 0, .none, .none] }) rfl
    rw [hz] at this; exact this
  refine ⟨⟨_, he, rfl⟩, h _ he ⟨_, Heap.get?_push_of_some _ (Heap.get?_push_size _ rfl), rfl, rfl⟩ (by rw [Heap.size_push, hz]) fun b o x => Heap.get?_push_of_some _ (Heap.get?_push_of_some _ x)⟩
end
end PySem
namespace Vf
open PySem PySem.Spec PyProof.Rows L2
/-- the tuple at a, each item in a new pair -/
def IteT (K : PySem.W.Frag) (a : Addr) : It :=
  ⟨fun i H => ∃ (xs : List V) (x : V), SqT K H a xs ∧ xs[i]? = some x, fun i H v H' => ∃ T x, v = .ref T ∧ H T = none ∧ H' = upd H T (.tup [.int (i : Nat), x]) ∧ ∀ xs, SqT K H a xs → xs[i]? = some x, fun i H => ∃ xs : List V, SqT K H a xs ∧ xs.length = i⟩
theorem turn_enumT {P : Program} {w : World} {K : PySem.W.Frag} {elts : List Expr} {kk : Nat} {tpos : Pos} (a e it : Addr) :
    Turn P w K (.Tuple elts kk tpos) (IteT K a) [e, it] e (fun i h => (∃ old, IsEnum h e it ((i : Nat) : Int) old) ∧ h.IsTupleIter it a i ∧ e ≠ it) where
  mem := by simp
  obj := fun i h st b hb => by
    obtain ⟨⟨old, he⟩, ⟨o, ho, hc, hd⟩, _⟩ := st
    have e' : b = e ∨ b = it := by simpa using hb
    rcases e' with z | z
    · rw [z]; exact ⟨_, he, fun v q => nomatch q⟩
    · rw [z]; exact ⟨o, ho, fun v q => by rw [hd] at q; cases q⟩
  keep := fun i h h' st k => let ⟨⟨old, he⟩, hi, hne⟩ := st; ⟨⟨old, k e (by simp) _ he⟩, hi.at fun o q => k it (by simp) o q, hne⟩
  item := by
    intro X hP hw hK hc i pins s σ H E I hf st hg
    subst hP hw hK
    obtain ⟨⟨old, he⟩, hit, hne⟩ := st
    obtain ⟨xs, x, hq, hx⟩ := hg
    obtain ⟨its, rv, p, hz⟩ := I.tuple hq
    obtain ⟨u, hu, ru⟩ := rv.get hx
    have pT : s.heap.IsTuple a its.toArray := p
    have hel : e < s.heap.objs.size := Heap.lt_size he
    have hil : it < s.heap.objs.size := by obtain ⟨_, q, _⟩ := hit; exact Heap.lt_size q
    have nai : a ≠ it := fun z => by
      subst z
      obtain ⟨o1, h1, c1, _⟩ := pT
      obtain ⟨o2, h2, c2, _⟩ := hit
      rw [h1] at h2
      cases h2
      rw [c1] at c2
      injection c2 with c2
      exact absurd c2 (by decide)
    have nae : a ≠ e := fun z => by
      subst z
      obtain ⟨o1, h1, c1, _⟩ := pT
      rw [show s.heap.get? a = _ from he] at h1
      cases h1
      injection c1 with c1
      exact absurd c1 (by decide)
    have hli : i < its.toArray.size := by
      have := (List.getElem?_eq_some_iff.mp hu).1
      simpa using this
    have hh : X.A.in1.handled = none := I.ok.hd hc
    refine wpAny_pyNext_enum_itemD (Draws.tuple hh it a nai its.toArray) he ⟨hit, pT⟩ hli hne (by simp [hne, nae.symm]) fun v h' tk hv ho hit' hT hsz hk => ?_
    have ev : v = u := by
      have h1 : its[i]? = some v := by simpa using hv
      rw [hu] at h1
      exact (Option.some.inj h1).symm
    subst ev
    refine ⟨_, rfl, wpAny_letOwnedTupleGo_enum (s := { s with heap := h', toks := tk + 1 }) ho fun h'' he' sb => ?_⟩
    have hT2 : h''.get? s.heap.objs.size = some { cls := .type "tuple", data := .seq #[.int i tk, v] } := (sb.2 _ (Nat.ne_of_gt hel)).trans hT
    have new : ObjOk X.prog X.w (upd H s.heap.objs.size (.tup [.int (i : Nat), x])) h'' s.heap.objs.size (.tup [.int (i : Nat), x]) :=
      ⟨by show 2 ≤ sizeLine; decide, [.int i tk, v], .cons ⟨_, rfl⟩ (.cons ru .nil), ⟨_, hT2, rfl, _, rfl⟩⟩
    have I1 : Inv X pins σ (upd H s.heap.objs.size (.tup [.int (i : Nat), x])) { s with heap := h'', toks := tk + 1 } :=
      I.turnedNew (ch := [e, it]) (fun b ob hb q => (sb.2 b (fun z => hb (by simp [z]))).trans (hk b ob (fun z => hb (by simp [z])) (fun z => hb (by simp [z])) q)) hf (Nat.le_refl _) new
    refine ⟨.ref s.heap.objs.size, _, I1, rfl, ⟨_, x, rfl, I.hok.fresh (Nat.le_refl _), rfl, fun ys hy => by rw [I.tuple_inj hy hq]; exact hx⟩, ⟨⟨v, ?_⟩, hit'.1.at fun o q => (sb.2 it (Ne.symm hne)).trans q, hne⟩, fun b hb => ?_⟩
    · have e1 : ((i + 1 : Nat) : Int) = (i : Int) + 1 := by omega
      rw [e1]; exact he'
    · have hb' : b < s.heap.objs.size := by
        have e' : b = e ∨ b = it := by simpa using hb
        rcases e' with z | z
        · rw [z]; exact hel
        · rw [z]; exact hil
      rw [upd_ne (Nat.ne_of_lt hb')]
      exact (hf b hb).1
  done := by
    intro X hP hw hK hc i pins s σ H E I hf st hg
    subst hP hw hK
    obtain ⟨⟨old, he⟩, hit, hne⟩ := st
    obtain ⟨xs, hq, hx⟩ := hg
    obtain ⟨its, rv, p, hz⟩ := I.tuple hq
    have pT : s.heap.IsTuple a its.toArray := p
    obtain ⟨f0, f1, f2, f3, f4, f5⟩ := hf it (by simp)
    have hl := rv.length
    have nai : a ≠ it := fun z => by
      subst z
      obtain ⟨o1, h1, c1, _⟩ := pT
      obtain ⟨o2, h2, c2, _⟩ := hit
      rw [h1] at h2
      cases h2
      rw [c1] at c2
      injection c2 with c2
      exact absurd c2 (by decide)
    have hh : X.A.in1.handled = none := I.ok.hd hc
    have hin : its.toArray.size = i := by simp; omega
    subst hin
    exact wpAny_pyNext_enum_endD (Draws.tuple hh it a nai its.toArray) he ⟨hit, pT⟩ fun h' eb => ⟨rfl, I.turned (t' := s.toks) (fun b o hb q => eb b o hb q) f0 f1 f3 f4 f5⟩
  self := fun A i s Q E st h => let ⟨⟨_, he⟩, _⟩ := st; wpAny_pyIter_enum he h
def iEnumT (K : PySem.W.Frag) (ta : TA) : TI := fun σ H R => ta σ H fun vs H1 => ∃ a xs, vs = [.ref a] ∧ SqT K H1 a xs ∧ R (IteT K a) H1
theorem pi_enumT {X : Cx} {e : Expr} {ta : TA} {p pos tpos : Pos} {elts : List Expr} {kk : Nat} (hg : Gl X "enumerate") (hm : X.mg "enumerate" = none) (ha : PA X [e] ta) (hs : starEach [e] X.env = [(false, eval e X.env)] := by rfl) :
    PI X (.Tuple elts kk tpos) (.Call (.Name "enumerate" p) [e] [] pos) (iEnumT X.K ta) := by
  refine ⟨fun pins s σ H R I h => ?_⟩
  refine Call_ (ld_blt I hg hm boot_enumerate (PyProof.Rows.callWith_type1 (thn (ha.run pos pins s σ H _ I h) fun us s1 ⟨vs, H1, I1, r1, q1⟩ => ?_) hs rfl))
  obtain ⟨a, xs, ex, hq, q⟩ := q1
  subst ex
  cases r1 with
  | cons r rr =>
    cases rr
    cases r
    obtain ⟨its, rv, p', hz⟩ := I1.tuple hq
    refine vf_call_enumT (show s1.heap.IsTuple a its.toArray from p') fun h' he hit hsz hk => wpAny_pyIter_enum he ?_
    have I2 : Inv X pins σ H1 { s1 with heap := h' } := I1.kept (t' := s1.toks) hk
    refine ⟨s1.heap.objs.size + 1, [s1.heap.objs.size + 1, s1.heap.objs.size], _, _, H1, rfl, I2, turn_enumT a (s1.heap.objs.size + 1) s1.heap.objs.size, ⟨⟨.none, he⟩, hit, Nat.succ_ne_self _⟩, fun b hb => ?_, q⟩
    have e' : b = s1.heap.objs.size + 1 ∨ b = s1.heap.objs.size := by simpa using hb
    have hle : s1.heap.objs.size ≤ b := by
      rcases e' with z | z
      · rw [z]; exact Nat.le_add_right _ _
      · rw [z]; exact Nat.le_refl _
    exact I1.fpOk hle (I1.hok.fresh hle)
theorem walk_enumT {K : PySem.W.Frag} {a : Addr} {xs : List V} : Walk (IteT K a) xs.length (fun H => SqT K H a xs) (YPair (fun i => some (.int (i : Nat))) (fun i => xs[i]?)) := by
  refine ⟨fun i _ hi q => ⟨xs, xs[i], q, by simp [hi]⟩, fun _ q => ⟨xs, q, rfl⟩, fun i H v H' _ q y => ?_⟩
  obtain ⟨T, x, h1, h2, h3, h4⟩ := y
  exact ⟨T, .int (i : Nat), x, h1, h2, h3, rfl, h4 xs q⟩
theorem ix_listK {X : Cx} {K : PySem.W.Frag} (h : X.K = K) : IxR X (rIxL K) := h ▸ ix_list
theorem ix_tupK {X : Cx} {K : PySem.W.Frag} (h : X.K = K) : IxR X (rIxT K) := h ▸ ix_tup
/-- a dict comprehension over any walk -/
theorem dc_it {J : It} {n : Nat} {G : Hp → Prop} {Y : Nat → Hp → V → Hp → Prop} (w : Walk J n G Y) {g : TG} {tt : TT} {tk tv : TE} {vs : List Nat} {σ : L2.St} {H1 : Hp} {D : Addr} {Qd : Hp → Prop} (Pv : Nat → Hp → Prop) (h0 : Pv 0 (upd H1 D (.dK []))) (hG : ∀ i H, i ≤ n → Pv i H → G H)
    (hs : ∀ i x H H', i < n → Pv i H → Y i H x H' → g x (wipe σ vs) H' fun σ2 H2 => wipe σ2 vs = wipe σ vs ∧ tt σ2 H2 fun b H3 =>
      if b = true then tk σ2 H3 fun y H4 => tv σ2 H4 fun z H5 => ∃ kvs k, y = kV k ∧ H5 D = some (.dK kvs) ∧ kvs.length < sizeLine ∧ Pv (i + 1) (upd H5 D (.dK (putK kvs k z))) else Pv (i + 1) H3) (hd : ∀ H, Pv n H → Qd H) :
    ∃ W : Nat → Nat → Hp → Prop, (∃ m, W 0 m (upd H1 D (.dK []))) ∧ ∀ i m H, W i m H →
      (J.stop i H ∧ Qd H) ∨ (J.go i H ∧ ∃ Nx : Hp → Prop, (∀ H', Nx H' → ∃ m', m' < m ∧ W (i + 1) m' H') ∧ ∀ x H', J.yld i H x H' → g x (wipe σ vs) H' fun σ2 H2 => wipe σ2 vs = wipe σ vs ∧ tt σ2 H2 fun b H3 =>
        if b = true then tk σ2 H3 fun y H4 => tv σ2 H4 fun z H5 => ∃ kvs k, y = kV k ∧ H5 D = some (.dK kvs) ∧ kvs.length < sizeLine ∧ Nx (upd H5 D (.dK (putK kvs k z))) else Nx H3) := by
  refine ⟨fun i m H => m = n - i ∧ i ≤ n ∧ Pv i H, ⟨n, by simp, Nat.zero_le _, h0⟩, ?_⟩
  rintro i m H ⟨rfl, hi, p⟩
  have q := hG i H hi p
  by_cases hlt : i < n
  · exact .inr ⟨w.goes i H hlt q, Pv (i + 1), fun H' p' => ⟨n - (i + 1), by omega, rfl, hlt, p'⟩, fun x H' y => hs i x H H' hlt p (w.yields i H x H' hlt q y)⟩
  · have e : i = n := by omega
    subst e
    exact .inl ⟨w.stops H q, hd H p⟩
end Vf

set_option Elab.async false
set_option linter.all false
set_option maxRecDepth 100000
set_option maxHeartbeats 2000000
namespace Vf
open PySem PySem.Spec PyProof.Rows L2
/-! ### x in o, o[x], len(o) of a class of the text's own -/
section
variable {X : Cx} {k j : Nat} {C : Addr} {cn : Str} {ps : List Str} {sp : Sp}
def rInO (neg : Bool) (C : Addr) (sp : Sp) : R2 := fun x y H Q => ∃ b dx fs, y = .ref b ∧ H b = some (.ins C dx fs) ∧ sp [.ref b, x] H (fun v H' => ∃ t, v = .bl t ∧ Q (.bl (if neg then !t else t)) H') fun _ _ _ => False
theorem in_run (M : Meth X.K C "__contains__" (He.fAd X.K (cn, some "__contains__"))) (O : OkD X.prog X.w X.K X.mg X.base CX0 k (cn, some "__contains__") ps [] sp) (hr : Room j X.A) (hj : k ≤ j) {pins : List (Addr × Obj)} {σ : L2.St} {H : Hp} {s : Shared} {x : V} {u : Value} {b : Addr} {Qv : VK}
    (I : L2.Inv X pins σ H s) (rx : RelV x u) (hsp : sp [.ref b, x] H (fun v H' => ∃ t, v = .bl t ∧ Qv (.bl t) H') fun _ _ _ => False) {Q : Value → Shared → Prop} (hq : ∀ t s' H', L2.Inv X pins σ H' s' → Qv (.bl t) H' → wpAny (model X.prog X.w) X.A (truthy (.bool t)) (fun b => Q (.bool b)) X.xe s') :
    wpAny (model X.prog X.w) X.A (call (.ref (He.fAd X.K (cn, some "__contains__"))) [.ref b, u]) (fun r s' => wpAny (model X.prog X.w) X.A (truthy r) (fun b => Q (.bool b)) X.xe s') X.xe s := by
  obtain ⟨fd, ds, F, bi, v⟩ := O.ex
  cases v
  have hl := F.len _ _ _ _ hsp
  have hb := bi s [.ref b, u] I.kIn (by simpa using hl)
  simp only [List.append_nil] at hb
  refine wpAny_call (codeAny_mono (F.run X.A X.stack s H ⟨[.ref b, u], []⟩ [.ref b, u] [.ref b, x] _ _ (hr.mono hj) I.env0 hb (.cons rfl (.cons rx .nil)) hsp) fun r s' hq' => ?_)
  cases r with
  | error e => exact hq'.elim
  | ok fl =>
    cases fl with
    | ret w =>
      obtain ⟨z, H', I', rz, t, ez, q⟩ := I.after hq'
      subst ez
      cases rz
      exact hq t s' H' I' q
    | next => exact False.elim hq'
    | brk => exact False.elim hq'
    | cont => exact False.elim hq'
theorem op_inO (M : Meth X.K C "__contains__" (He.fAd X.K (cn, some "__contains__"))) (O : OkD X.prog X.w X.K X.mg X.base CX0 k (cn, some "__contains__") ps [] sp) (hr : Room j X.A) (hj : k ≤ j) : OpR X (compareOp .In) (rInO false C sp) := by
  intro pins s σ H x y v u Q I rx ry h
  obtain ⟨b, dx, fs, rfl, hb, hsp⟩ := h
  cases ry
  obtain ⟨mA, J, _⟩ := ins_get I.hok hb
  obtain ⟨od, J, _⟩ := J.look
  obtain ⟨mm, hF⟩ := I.fr
  exact PySem.W.in_K hF I.ok.mod.kin J M.at_ M.fn (in_run (cn := cn) M O hr hj I rx hsp fun t s' H' I' q => wpAny_truthy_bool ⟨.bl t, H', I', rfl, q⟩)
theorem op_notInO (M : Meth X.K C "__contains__" (He.fAd X.K (cn, some "__contains__"))) (O : OkD X.prog X.w X.K X.mg X.base CX0 k (cn, some "__contains__") ps [] sp) (hr : Room j X.A) (hj : k ≤ j) : OpR X (compareOp .NotIn) (rInO true C sp) := by
  obtain ⟨fd, ds, F, bi, vd⟩ := O.ex
  cases vd
  intro pins s σ H x y v u Q I rx ry h
  obtain ⟨b, dx, fs, rfl, hb, hsp⟩ := h
  cases ry
  obtain ⟨mA, J, _⟩ := ins_get I.hok hb
  obtain ⟨od, J, _⟩ := J.look
  obtain ⟨mm, hF⟩ := I.fr
  have hl := F.len _ _ _ _ hsp
  have hb := bi s [.ref b, v] I.kIn (by simpa using hl)
  simp only [List.append_nil] at hb
  refine PySem.W.notIn_K hF I.ok.mod.kin J M.at_ M.fn (wpAny_call (codeAny_mono (F.run X.A X.stack s H ⟨[.ref b, v], []⟩ [.ref b, v] [.ref b, x] _ _ (hr.mono hj) I.env0 hb (.cons rfl (.cons rx .nil)) hsp) fun r s' hq' => ?_))
  cases r with
  | error e => exact hq'.elim
  | ok fl =>
    cases fl with
    | ret w =>
      obtain ⟨z, H', I', rz, t, ez, q⟩ := I.after hq'
      subst ez
      cases rz
      exact wpAny_truthy_bool ⟨.bl (!t), H', I', rfl, q⟩
    | next => exact False.elim hq'
    | brk => exact False.elim hq'
    | cont => exact False.elim hq'
/-- o[x] -/
def rSubO (C : Addr) (sp : Sp) (E : XK) : R2 := fun x y H Q => ∃ a dx fs, x = .ref a ∧ H a = some (.ins C dx fs) ∧ sp [.ref a, y] H Q E
theorem pe_subO {CX : CXT} {E : XK} {a b : Expr} {pos : Pos} {ta tb : TE} (ha : PE X a ta) (hb : PE X b tb) (M : Meth X.K C "__getitem__" (He.fAd X.K (cn, some "__getitem__"))) (hfn : PySem.W.fnIn X.K (He.fAd X.K (cn, some "__getitem__")) = true)
    (O : OkD X.prog X.w X.K X.mg X.base CX k (cn, some "__getitem__") ps [] sp) (hr : Room j X.A) (hj : k + 1 ≤ j) (hx : Passes CX X E)
    (hsl : ∀ x i, subscripted b true (.ref x) i = runValue (.builtin "lifetime.subscript" ⟨[.ref x, i], []⟩) := by intro _ _; rfl) : PE X (.Subscript a b pos) (tOp (rSubO C sp E) ta tb) := by
  obtain ⟨fd, ds, F, bi, v⟩ := O.ex
  cases v
  refine ⟨fun pins s σ H Q I h => ?_⟩
  refine Subscript_ (binT ha hb I h fun v u s2 x y H2 I2 rx ry q => ?_)
  obtain ⟨p, dx, fs, rfl, hp, hsp⟩ := q
  cases rx
  obtain ⟨mA, J, _⟩ := ins_get I2.hok hp
  obtain ⟨od, J, _⟩ := J.look
  obtain ⟨mm, hF⟩ := I2.fr
  have hl := F.len _ _ _ _ hsp
  have hbb := bi s2 [.ref p, u] I2.kIn (by simpa using hl)
  simp only [List.append_nil] at hbb
  refine PySem.W.sub_K hF I2.ok.mod.kin J M.at_ hfn M.fn (wpAny_call (codeAny_mono (F.run X.A.in1 X.stack s2 H2 ⟨[.ref p, u], []⟩ [.ref p, u] [.ref p, y] _ _ ((hr.mono hj).in1) I2.env0.in1 hbb (.cons rfl (.cons ry .nil)) hsp) fun r s' hq => ?_)) (hsl _ _)
  cases r with
  | error e => exact hx pins σ H2 s2 e s' I2 hq
  | ok fl =>
    cases fl with
    | ret w => exact I2.after hq
    | next => exact False.elim hq
    | brk => exact False.elim hq
    | cont => exact False.elim hq
/-- len(o) -/
def rLenO (C : Addr) (sp : Sp) : List V → Hp → VK → Prop := fun xs H Q => ∃ a dx fs, xs = [.ref a] ∧ H a = some (.ins C dx fs) ∧ sp [.ref a] H (fun v H' => ∃ n : Int, v = .int n ∧ 0 ≤ n ∧ n < 2 ^ 62 ∧ Q (.int n) H') fun _ _ _ => False
theorem call_lenO (M : Meth X.K C "__len__" (He.fAd X.K (cn, some "__len__"))) (O : OkD X.prog X.w X.K X.mg X.base CX0 k (cn, some "__len__") ps [] sp) (hr : Room j X.A) (hj : k + 1 ≤ j) : CallR X (.builtin "len") (rLenO C sp) := by
  obtain ⟨fd, ds, F, bi, v⟩ := O.ex
  cases v
  intro pins s σ H xs us Q I r h
  obtain ⟨a, dx, fs, rfl, ha, hsp⟩ := h
  obtain ⟨u, rfl, ru⟩ : ∃ u, us = [u] ∧ RelV (.ref a) u := by
    cases r with
    | cons p q => cases q; exact ⟨_, rfl, p⟩
  cases ru
  obtain ⟨mA, J, _⟩ := ins_get I.hok ha
  obtain ⟨od, J, _⟩ := J.look
  obtain ⟨mm, hF⟩ := I.fr
  have hl := F.len _ _ _ _ hsp
  have hb := bi s [.ref a] I.kIn (by simpa using hl)
  simp only [List.append_nil] at hb
  refine PySem.W.len_K hF I.ok.mod.kin J M.at_ M.fn (wpAny_call (codeAny_mono (F.run X.A.in1 X.stack s H ⟨[.ref a], []⟩ [.ref a] [.ref a] _ _ ((hr.mono hj).in1) I.env0.in1 hb (.cons rfl .nil) hsp) fun r s' hq => ?_))
  cases r with
  | error e => exact hq.elim
  | ok fl =>
    cases fl with
    | ret w =>
      obtain ⟨z, H', I', rz, n, ez, n0, n1, q⟩ := I.after hq
      subst ez
      obtain ⟨t, rfl⟩ := rz
      exact ⟨⟨n0, by omega⟩, .int n, H', I'.tok _, ⟨_, rfl⟩, q⟩
    | next => exact False.elim hq
    | brk => exact False.elim hq
    | cont => exact False.elim hq
end
end Vf
/-! ### == of dicts whose values have an == that runs -/
namespace PySem.W
open Lean Elab Tactic Meta PySem PySem.Calls PyProof.Rows PyProof.V PySem.Spec
section
variable {prog : Program} {w : World} {K : Type} [DecidableEq K] {knd : KeyKind prog w K} {A : Around} {E : Value → Shared → Prop} {s : Shared}
def VfEqJ (prog : Program) (w : World) (A : Around) (E : Value → Shared → Prop) (J : Shared → Prop) (v y : Value) (e : Bool) : Prop := ∀ (s : Shared) (Q : Bool → Shared → Prop), J s → (∀ s', J s' → Q e s') → wpAny (model prog w) A (eqBool v y) Q E s
inductive VfHits {K : Type} [DecidableEq K] (prog : Program) (w : World) (A : Around) (E : Value → Shared → Prop) (J : Shared → Prop) (kb : List (K × Value)) : List (K × Value) → Bool → Prop
  | nil : VfHits prog w A E J kb [] true
  | miss {k : K} {v : Value} {r : List (K × Value)} : valueAt kb k = none → VfHits prog w A E J kb ((k, v) :: r) false
  | hit {k : K} {v y : Value} {r : List (K × Value)} {e b : Bool} : valueAt kb k = some y → VfEqJ prog w A E J v y e → VfHits prog w A E J kb r b → VfHits prog w A E J kb ((k, v) :: r) (e && b)
theorem VfHits.inv {J : Shared → Prop} {kb : List (K × Value)} {k : K} {v : Value} {r : List (K × Value)} {b : Bool} (h : VfHits prog w A E J kb ((k, v) :: r) b) :
    (valueAt kb k = none ∧ b = false) ∨ ∃ y e b', valueAt kb k = some y ∧ VfEqJ prog w A E J v y e ∧ VfHits prog w A E J kb r b' ∧ b = (e && b') := by
  cases h with
  | miss hn => exact .inl ⟨hn, rfl⟩
  | hit hy he hr => exact .inr ⟨_, _, _, hy, he, hr, rfl⟩
theorem vf_samePairs {J : Shared → Prop} {nm : String} {a b : Addr} {ka kb : List (K × Value)} {r : Bool} {Q : Bool → Shared → Prop} (ha : (a == sysModules) = false) (hb : (b == sysModules) = false)
    (hJ : ∀ s', J s' → s'.heap.get? a = s.heap.get? a ∧ s'.heap.get? b = s.heap.get? b) (h0 : J s) (da : s.heap.DictOf knd a ka) (db : s.heap.DictOf knd b kb) (hits : ka.length = kb.length → VfHits prog w A E J kb ka r) (h : ∀ s', J s' → Q (ka.length == kb.length && r) s') :
    wpAny (model prog w) A (Builtin.Dict.samePairs nm a b) Q E s := by
  obtain ⟨oa, es, ep, hoa, _, hda, hka, hpa, _⟩ := da
  obtain ⟨ob, es', ep', hob, _, hdb, hkb, hpb, _⟩ := db
  have hla : ka.length = es.size := by rw [← hpa.length]; exact Array.length_toList
  have hlb : kb.length = es'.size := by rw [← hpb.length]; exact Array.length_toList
  have hfind : ∀ k, findBy knd.is es' k = valueAt kb k := fun k => by
    rw [← hpb.find k]
    clear hlb hpb hkb hdb hob
    obtain ⟨l⟩ := es'
    simp [findBy]
  have hA : ∀ {s'}, J s' → s'.heap.get? a = some oa := fun j => (hJ _ j).1.trans hoa
  have hB : ∀ {s'}, J s' → s'.heap.get? b = some ob := fun j => (hJ _ j).2.trans hob
  rw [hla, hlb] at h
  unfold Builtin.Dict.samePairs Builtin.Dict.showsAll
  rw [if_neg (show ¬ (a == sysModules) = true by rw [ha]; exact Bool.false_ne_true), if_neg (show ¬ (b == sysModules) = true by rw [hb]; exact Bool.false_ne_true)]
  refine wpAny_bind (wpAny_pure (wpAny_bind (wpAny_pure ?_)))
  refine wpAny_bind (wpAny_dictEntries hoa hda ?_)
  dsimp only
  refine wpAny_bind (wpAny_dictEntries hob hdb ?_)
  by_cases hsz : es.size = es'.size
  case neg =>
    rw [if_pos (by simpa using hsz)]
    have hbf : (es.size == es'.size) = false := by simpa using hsz
    rw [hbf, Bool.false_and] at h
    exact wpAny_bind (wpAny_rule (wpAny_pure (h _ h0)))
  case pos =>
    have h' : ∀ s', J s' → Q r s' := fun s' j => by simpa [hsz] using h s' j
    have hits' := hits (by rw [hla, hlb]; exact hsz)
    rw [if_neg (by rw [hsz]; simp)]
    refine wpAny_bind (wpAny_dictEpoch hoa hda ?_)
    refine wpAny_bind ?_
    rw [Std.Legacy.Range.forIn_eq_forIn_range']
    simp only [Std.Legacy.Range.size, Nat.sub_zero, Nat.add_sub_cancel, Nat.div_one]
    refine wpAny_forIn_list _
      (fun rest q s' => J s' ∧ q = (none, ()) ∧ ∃ i, rest = List.range' i (es.size - i) ∧ i ≤ es.size ∧ VfHits prog w A E J kb (ka.drop i) r)
      _ ?_ ?_ _ _ ⟨h0, rfl, 0, by simp, Nat.zero_le _, hits'⟩
    · rintro x rest q s' ⟨js, rfl, i, hr, hi, hpre⟩
      have hlt : i < es.size := by
        rcases Nat.lt_or_ge i es.size with h | h
        · exact h
        · rw [Nat.sub_eq_zero_of_le h] at hr; simp at hr
      obtain ⟨rfl, hrest⟩ : x = i ∧ rest = List.range' (i + 1) (es.size - (i + 1)) := by
        have e : es.size - i = (es.size - (i + 1)) + 1 := by omega
        rw [e, List.range'_succ] at hr
        injection hr with h1 h2
        exact ⟨h1, h2⟩
      refine wpAny_bind (wpAny_dictEntries (hA js) hda ?_)
      rw [Array.getElem?_eq_getElem hlt]
      have hlt' : x < ka.length := by rw [hla]; exact hlt
      obtain ⟨k, v, hkv⟩ : ∃ k v, ka[x] = (k, v) := ⟨_, _, rfl⟩
      have hdrop : ka.drop x = (k, v) :: ka.drop (x + 1) := by rw [← hkv]; exact List.drop_eq_getElem_cons hlt'
      obtain ⟨hkey, hval⟩ := hpa.get? (i := x) (e := es[x]) (k := k) (v := v) (by rw [Array.getElem?_toList]; exact Array.getElem?_eq_getElem hlt) (by rw [List.getElem?_eq_getElem hlt', hkv])
      obtain ⟨k', hk', hh⟩ := hka es[x] (Array.getElem_mem hlt)
      have ekk : k' = k := knd.inj _ _ _ hk' hkey
      rw [ekk] at hh
      rw [hdrop] at hpre
      show wpAny _ _ (holding [es[x].key, es[x].val] _ >>= _) _ _ _
      rw [hh]
      refine wpAny_bind (wpAny_holding (wpAny_bind (wpAny_dictFind_of hkey (hB js) hdb hkb ?_)))
      cases hj : es'.findIdx? fun e => knd.is k e.key with
      | none =>
        have hn : valueAt kb k = none := by rw [← hfind k, findBy_of_findIdx?, hj]
        rcases hpre.inv with ⟨_, er⟩ | ⟨y, _, _, hy, _⟩
        · rw [er] at h'
          refine wpAny_pure ?_
          show wpAny _ _ (if (!false) = true then _ else _) _ _ _
          rw [if_pos (by decide)]
          exact wpAny_pure (wpAny_pure (h' _ js))
        · rw [hn] at hy; exact nomatch hy
      | some j =>
        obtain ⟨hjlt, _, _⟩ := Array.findIdx?_eq_some_iff_getElem.mp hj
        have hv' : valueAt kb k = some es'[j].val := by
          rw [← hfind k, findBy_of_findIdx?, hj]
          simp [Array.getElem?_eq_getElem hjlt]
        refine wpAny_bind (wpAny_dictEntries (hB js) hdb ?_)
        rw [Array.getElem?_eq_getElem hjlt]
        rcases hpre.inv with ⟨hn, _⟩ | ⟨y, e, b', hy, he, hrr, er⟩
        · rw [hv'] at hn; exact nomatch hn
        · have ey : es'[j].val = y := Option.some.inj (hv'.symm.trans hy)
          rw [← ey, ← hval] at he
          refine wpAny_holding (he _ _ js fun s2 js2 => ?_)
          cases e with
          | false =>
            rw [er, Bool.false_and] at h'
            show wpAny _ _ (if (!false) = true then _ else _) _ _ _
            rw [if_pos (by decide)]
            exact wpAny_pure (wpAny_pure (h' _ js2))
          | true =>
            rw [Bool.true_and] at er
            rw [← er] at hrr
            show wpAny _ _ (if (!true) = true then _ else _) _ _ _
            rw [if_neg (by decide)]
            refine wpAny_bind (wpAny_dictEpoch (hA js2) hda ?_)
            rw [if_neg (by simp)]
            exact wpAny_pure ⟨js2, rfl, x + 1, hrest, hlt, hrr⟩
    · rintro q s' ⟨js, rfl, i, hr, hi, hpre⟩
      have hin : i = es.size := by
        rcases Nat.lt_or_ge i es.size with h | h
        · have e : es.size - i = (es.size - (i + 1)) + 1 := by omega
          rw [e, List.range'_succ] at hr; exact nomatch hr
        · exact Nat.le_antisymm hi h
      refine wpAny_pure ?_
      rw [hin, ← hla, List.drop_length] at hpre
      cases hpre
      exact h' _ js
theorem vf_rcDicts {J : Shared → Prop} {a b : Addr} {ka kb : List (K × Value)} {r : Bool} (ha : (a == sysModules) = false) (hb : (b == sysModules) = false)
    (hJ : ∀ s', J s' → s'.heap.get? a = s.heap.get? a ∧ s'.heap.get? b = s.heap.get? b) (h0 : J s) (da : s.heap.DictOf knd a ka) (db : s.heap.DictOf knd b kb) (hu : A.units < cLine) (hits : ka.length = kb.length → VfHits prog w A.in1 E J kb ka r) {Q : Value → Shared → Prop} (h : ∀ s', J s' → Q (.bool (ka.length == kb.length && r)) s') : wpAny (model prog w) A (compareOp .Eq (.ref a) (.ref b)) Q E s := by
  refine wpAny_richCompare_same_room (op := .Eq) da.typeIs db.typeIs PySem.F.slot_dict_eq (wpAny_call_entry PySem.F.slot_dict_eq da.typeIs PySem.F.entry_dict_eq ?_ (PySem.F.args_dict_eq_2 _ _)) hu
  show wpAny _ _ (Builtin.Dict.dictSlotArgs "__eq__" ⟨[.ref a, .ref b], []⟩ >>= _) _ _ s
  refine wpAny_bind ?_
  unfold Builtin.Dict.dictSlotArgs
  refine wpAny_bind (wpAny_notOrdered_dict da.typeIs ?_)
  show wpAny _ _ (pure (Value.ref a, Value.ref b)) _ _ s
  refine wpAny_pure ?_
  refine wpAny_bind (wpAny_isInstance (T := "dict") db.typeIs PySem.F.sub_dict_dict ?_)
  simp only [Bool.not_true, Bool.false_eq_true, if_false]
  refine wpAny_bind (wpAny_pure (wpAny_bind (wpAny_pure ?_)))
  refine wpAny_bind (vf_samePairs ha hb hJ h0 da db hits fun s' js => ?_)
  refine wpAny_pure ⟨_, rfl, ?_, ?_⟩
  · exact fun x => nomatch x
  · simpa using h s' js
end
end PySem.W
namespace Vf
open PySem PySem.Spec PyProof.Rows L2
/-- the entries of a dict against another dict; ls: the other one -/
inductive DHits (D : V → V → Bool → Prop) (ls : List (Key × V)) : List (Key × V) → Bool → Prop
  | nil : DHits D ls [] true
  | miss {k : Key} {v : V} {r : List (Key × V)} : valV ls k = none → DHits D ls ((k, v) :: r) false
  | hit {k : Key} {v y : V} {r : List (Key × V)} {e b : Bool} : valV ls k = some y → D v y e → DHits D ls r b → DHits D ls ((k, v) :: r) (e && b)
theorem DHits.vf {P : Program} {w : World} {A : Around} {E : Value → Shared → Prop} {J : Shared → Prop} {D : V → V → Bool → Prop} {ls : List (Key × V)} {vb : List (Key × Value)} (rb : KV ls vb)
    (hD : ∀ {x y u v b}, D x y b → RelV x u → RelV y v → PySem.W.VfEqJ P w A E J u v b) : ∀ {ks : List (Key × V)} {va : List (Key × Value)} {r : Bool}, KV ks va → DHits D ls ks r → PySem.W.VfHits P w A E J vb va r
  | [], _, _, ra, h => by
    cases h
    cases ra
    exact .nil
  | (k, x) :: ks, va, r, ra, h => by
    cases ra with
    | @cons _ q _ qs h1 h2 =>
      obtain ⟨e, rx⟩ := h1
      obtain ⟨k', u⟩ := q
      dsimp only at e
      subst e
      have hv := rb.val k
      cases h with
      | miss hn =>
        rw [hn] at hv
        refine .miss ?_
        cases hq : valueAt vb k with
        | none => rfl
        | some z =>
          rw [hq] at hv
          exact hv.elim
      | hit hy he hr =>
        rw [hy] at hv
        obtain ⟨z, hz, rz⟩ := hv.some_of
        exact .hit hz (hD he rx rz) (DHits.vf rb hD h2 hr)
section
variable {X : Cx}
/-- == of two dicts by the values' own == -/
def rEqDB (D : Eqb) : R2 := fun x y H Q => ∃ a b ks ls r, x = .ref a ∧ y = .ref b ∧ a ≠ b ∧ H a = some (.dK ks) ∧ H b = some (.dK ls) ∧
  (ks.length = ls.length → DHits (fun v y e => ∀ H', (∀ c o, c ≠ a → c ≠ b → H c = some o → H' c = some o) → D v y H' e) ls ks r) ∧ ∀ H', Ext H H' → Q (.bl (ks.length == ls.length && r)) H'
theorem op_eqDB {n : Nat} {D : Eqb} (h : EqB X n D) (hr : Room (n + 1) X.A) : OpR X (compareOp .Eq) (rEqDB D) := by
  intro pins s σ H x y v u Q I rx ry hq
  obtain ⟨a, b, ks, ls, r, rfl, rfl, nab, ea, eb, hits, q⟩ := hq
  cases rx
  cases ry
  obtain ⟨_, ya, va, ra, da⟩ := (show ObjOk X.prog X.w H s.heap a (.dK ks) from I.hok a _ ea)
  obtain ⟨_, yb, vb, rb, db⟩ := (show ObjOk X.prog X.w H s.heap b (.dK ls) from I.hok b _ eb)
  obtain ⟨oa, Ia⟩ := I.lock ea trivial
  have eb1 : (upd H a (.frz oa (.dK ks))) b = some (.dK ls) := by rw [upd_ne nab.symm]; exact eb
  obtain ⟨ob, Ib⟩ := Ia.lock eb1 trivial
  have fa : (upd (upd H a (.frz oa (.dK ks))) b (.frz ob (.dK ls))) a = some (.frz oa (.dK ks)) := by rw [upd_ne nab, upd_same]
  have fb : (upd (upd H a (.frz oa (.dK ks))) b (.frz ob (.dK ls))) b = some (.frz ob (.dK ls)) := upd_same
  have out : ∀ c o, c ≠ a → c ≠ b → H c = some o → (upd (upd H a (.frz oa (.dK ks))) b (.frz ob (.dK ls))) c = some o := fun c o h1 h2 e => by rw [upd_ne h2, upd_ne h1]; exact e
  have noa := I.nofrz ea trivial
  have nob := Ia.nofrz eb1 trivial
  generalize upd (upd H a (.frz oa (.dK ks))) b (.frz ob (.dK ls)) = H2 at Ib fa fb out
  refine PySem.W.vf_rcDicts (knd := mixKind X.prog X.w) (r := r) (J := fun s' => ∃ H', L2.Inv X pins σ H' s' ∧ Ext H2 H') ya yb (fun s' js => ?_) ⟨H2, Ib, Ext.rfl'⟩ da db hr.units0 (fun hl => ?_) fun s' js => ?_
  · obtain ⟨H', I', e⟩ := js
    exact ⟨(I'.frzK (e _ _ fa)).2.1.trans (Ib.frzK fa).2.1.symm, (I'.frzK (e _ _ fb)).2.1.trans (Ib.frzK fb).2.1.symm⟩
  · refine DHits.vf rb (fun {x y u v bb} hd rx ry s2 Q2 js k => ?_) ra (hits (by rw [ra.length, rb.length]; exact hl))
    obtain ⟨H', I', e⟩ := js
    refine wpAny_mono (h X.A.in1 pins s2 σ H' x y u v bb ⟨hr.in1, rfl⟩ I' rx ry (hd H' fun c o h1 h2 hc => e _ _ (out c o h1 h2 hc))) (fun r2 s3 q2 => ?_) fun _ _ z => z
    obtain ⟨h2, H3, I3, e2⟩ := q2
    subst h2
    exact k s3 ⟨H3, I3, e.trans e2⟩
  · obtain ⟨H', I', e⟩ := js
    have fa' := e _ _ fa
    have fb' := e _ _ fb
    have I2 := I'.unlock fb' nob
    have fa2 : (upd H' b (.dK ls)) a = some (.frz oa (.dK ks)) := by rw [upd_ne nab]; exact fa'
    have I3 := I2.unlock fa2 noa
    refine ⟨.bl _, _, I3, by rw [← ra.length, ← rb.length]; rfl, q _ fun c o hc => ?_⟩
    by_cases h1 : c = a
    · subst h1
      rw [ea] at hc
      cases hc
      exact upd_same
    · rw [upd_ne h1]
      by_cases h2 : c = b
      · subst h2
        rw [eb] at hc
        cases hc
        exact upd_same
      · rw [upd_ne h2]
        exact e _ _ (out c o h1 h2 hc)
/-- data beside data -/
def DDat (K : PySem.W.Frag) : Eqb := fun x y H b => ∃ d e, Dp K H x d ∧ Dp K H y e ∧ SeqAt.shaped d = true ∧ SeqAt.shaped e = true ∧ b = PyData.eqv d e ∧ (x = y → b = true)
theorem eqB_dat {n : Nat} : EqB X n (DDat X.K) := fun A pins s σ H x y u v b sb I rx ry hd => by
  obtain ⟨d, e, h1, h2, sd, se, rfl, hid⟩ := hd
  obtain ⟨as, r1⟩ := Dp.reads I d x u h1 rx
  obtain ⟨bs, r2⟩ := Dp.reads I e y v h2 ry
  have hf : ∀ i t, u ≠ .float i t := fun i t z => by
    subst z
    cases h1 <;> first | (cases rx; done) | (obtain ⟨_, z⟩ := rx; cases z; done)
  have hxy : (u == v) = true → x = y := fun z => by
    have euv := eq_of_beq z
    subst euv
    cases h1 <;> cases h2 <;> first
      | (cases rx; cases ry; rfl)
      | (cases rx; cases ry; done)
      | (obtain ⟨t, q⟩ := rx; obtain ⟨t', q'⟩ := ry; rw [q] at q'; injection q' with q1 q2; rw [q1])
      | (obtain ⟨t, q⟩ := rx; obtain ⟨t', q'⟩ := ry; rw [q] at q'; cases q'; done)
      | (cases rx; obtain ⟨t, q⟩ := ry; cases q; done)
      | (obtain ⟨t, q⟩ := rx; cases ry; cases q; done)
  exact eqB_of_rc (fun z => hid (hxy z)) hf I (SeqAt.compareEq_shaped (A := A) r1 r2 sd se sb.room.units ⟨.bl _, H, I, rfl, rfl, Ext.rfl'⟩)
end
end Vf

set_option Elab.async false
set_option linter.all false
set_option maxRecDepth 100000
set_option maxHeartbeats 2000000
namespace PySem.W
open PySem PySem.SeqAt MeetsSeq
section
variable {prog : Program} {w : World} {A : Around} {E : Value → Shared → Prop} {s : Shared} {a : Addr} {o : Obj}
theorem vf_no_dic_str {z : Str} {t : Tok} (ha : s.heap.get? a = some o) (hc : o.cls = .type "dict") {Q : Fin → Shared → Prop} (h : Q (.done (.ret .notImplemented)) s) : wpAny (model prog w) A (PySem.Builtin.«dict.__eq__» ⟨[.ref a, .str z t], []⟩) Q E s := by
  have f1 := PySem.F.sub_str_dict
  wp_walk
  exact h
theorem vf_no_str_dic {z : Str} {t : Tok} {es : Array DictEntry} {ep : Nat} (ha : s.heap.get? a = some o) (hd : o.data = .dict es ep) {Q : Fin → Shared → Prop} (h : Q (.done (.ret .notImplemented)) s) : wpAny (model prog w) A (PySem.Builtin.«str.__eq__» ⟨[.str z t, .ref a], []⟩) Q E s := by
  obtain ⟨hp, gg, d, tk, os⟩ := s
  obtain ⟨oc, odd, oda, osl⟩ := o
  dsimp only at hd
  subst hd
  wp_walk using AutoSeq1.wpAny_loadPart' ha
  exact h
theorem vf_rc_str_dict {b : Str} {u : Tok} {es : Array DictEntry} {ep : Nat} (ho : s.heap.get? a = some o) (hc : o.cls = .type "dict") (hd : o.data = .dict es ep) (hu : A.units < cLine) : RcAt A s (.str b u) (.ref a) false := fun prog w E Q h => by
  have tb : s.TypeIs (.ref a) "dict" := ⟨o, ho, hc⟩
  exact rc_eq_decline_or (k := false) (typeIs_str s b u) tb (by decide) PySem.F.sub_dict_str PySem.F.slot_str_eq PySem.F.slot_dict_eq_refl
    (fun _ hq => wpAny_call_entry PySem.F.slot_str_eq (typeIs_str s b u) PySem.F.entry_str_eq (vf_no_str_dic ho hd ⟨_, rfl, hq⟩) (PySem.F.args_str_eq_2 _ _))
    (fun _ hq => wpAny_call_entry PySem.F.slot_dict_eq_refl tb PySem.F.entry_dict_eq (vf_no_dic_str ho hc ⟨_, rfl, hq⟩) (PySem.F.args_dict_eq_2 _ _))
    (fun _ hq => wpAny_of_eq (rfl : isSame (.str b u) (.ref a) = pure false) hq) (.inr hu) h
theorem vf_str_dict {b : Str} {u : Tok} {es : Array DictEntry} {ep : Nat} (ho : s.heap.get? a = some o) (hc : o.cls = .type "dict") (hd : o.data = .dict es ep) (hu : A.units < cLine) : EqAt A s (.str b u) (.ref a) false := fun prog w E Q h => by
  unfold eqBool
  refine wpAny_holding ?_
  refine wpAny_ite_split (fun hab => absurd (eq_of_beq hab) nofun) (fun _ => ?_)
  exact wpAny_bind (vf_rc_str_dict ho hc hd hu prog w E _ (wpAny_truthy_bool h))
end
end PySem.W
namespace Vf
open PySem PySem.Spec PyProof.Rows L2
/-- == of two items, in place -/
inductive EqI (K : PySem.W.Frag) (H : Hp) : V → V → Bool → Prop
  | flat {x y : V} : flatV x = true → flatV y = true → EqI K H x y (eqV x y)
  | same (a : Addr) : EqI K H (.ref a) (.ref a) true
  | strT {z : Str} {a : Addr} {xs : List V} : SqT K H a xs → EqI K H (.str z) (.ref a) false
  | strL {z : Str} {a : Addr} {xs : List V} : SqL K H a xs → EqI K H (.str z) (.ref a) false
  | strD {z : Str} {a : Addr} {ks : List (Key × V)} : H a = some (.dK ks) → EqI K H (.str z) (.ref a) false
section
variable {X : Cx} {pins : List (Addr × Obj)} {σ : L2.St} {H : Hp} {s : Shared}
theorem EqI.at (I : L2.Inv X pins σ H s) {A : Around} {x y : V} {u v : Value} {b : Bool} (h : EqI X.K H x y b) (rx : RelV x u) (ry : RelV y v) (hu : A.units < cLine) : SeqAt.EqAt A s u v b := by
  cases h with
  | flat fx fy => exact eqAt_V rx ry fx fy
  | same a =>
    cases rx
    cases ry
    exact SeqAt.EqAt.same _
  | strT h =>
    obtain ⟨t, rfl⟩ := rx
    cases ry
    obtain ⟨its, r, p, _⟩ := I.tuple h
    exact SeqAt.EqAt.str_tuple _ _ p hu
  | strL h =>
    obtain ⟨t, rfl⟩ := rx
    cases ry
    obtain ⟨its, r, p, _⟩ := I.list h
    exact SeqAt.EqAt.str_list _ _ p.isList hu
  | strD h =>
    obtain ⟨t, rfl⟩ := rx
    cases ry
    obtain ⟨_, _, vs, _, o, es, ep, h1, h2, h3, _⟩ := (show ObjOk X.prog X.w H s.heap _ (.dK _) from I.hok _ _ h)
    exact PySem.W.vf_str_dict h1 h2.1 h3 hu
end
theorem vals_mem : ∀ {xs : List V} {us : List Value} {w : Value}, Vals xs us → w ∈ us → ∃ z ∈ xs, RelV z w
  | _, _, _, .nil, h => nomatch h
  | _, _, _, .cons r t, h => by
    rcases List.mem_cons.mp h with rfl | h
    · exact ⟨_, List.mem_cons_self, r⟩
    · obtain ⟨z, hz, rz⟩ := vals_mem t h
      exact ⟨z, List.mem_cons_of_mem _ hz, rz⟩
def answ (e : V → Bool) (w : Value) : Bool := match absV w with | some z => e z | none => false
theorem answ_of (e : V → Bool) {z : V} {w : Value} (r : RelV z w) : answ e w = e z := by
  unfold answ
  rw [r.abs]
theorem any_answ (e : V → Bool) : ∀ {xs : List V} {us : List Value}, Vals xs us → us.any (answ e) = xs.any e
  | _, _, .nil => rfl
  | _, _, .cons r t => by
    rw [List.any_cons, List.any_cons, answ_of e r, any_answ e t]
theorem items_at {A : Around} {s : Shared} {F : V → V → Prop} (ih : ∀ {x y v u}, RelV x v → RelV y u → F x y → SeqAt.EqAt A s v u true) {xs ys : List V} (hp : Paired F xs ys) :
    ∀ {us ws : List Value}, Vals xs us → Vals ys ws → ∀ j (h1 : j < us.length) (h2 : j < ws.length), SeqAt.EqAt A s us[j] ws[j] true := by
  induction hp with
  | nil =>
    intro us ws r1 r2 j h1 h2
    cases r1
    exact absurd h1 (Nat.not_lt_zero j)
  | cons h _ k =>
    intro us ws r1 r2 j h1 h2
    cases r1 with
    | cons a1 b1 =>
      cases r2 with
      | cons a2 b2 =>
        cases j with
        | zero => exact ih a1 a2 h
        | succ j => exact k b1 b2 j (Nat.lt_of_succ_lt_succ h1) (Nat.lt_of_succ_lt_succ h2)
section
variable {X : Cx}
/-- x not in l, l a list, item by item -/
def rNotInI (K : PySem.W.Frag) : R2 := fun x y H Q => ∃ (p : Addr) (xs : List V) (e : V → Bool), y = .ref p ∧ SqL K H p xs ∧ (∀ z ∈ xs, EqI K H z x (e z)) ∧ Q (.bl (!xs.any e)) H
theorem op_notInI (hu : X.A.units + 64 < cLine) : OpR X (compareOp .NotIn) (rNotInI X.K) := by
  intro pins s σ H x y v u Q I rx ry h
  obtain ⟨p, xs, e, rfl, hx, hall, q⟩ := h
  cases ry
  obtain ⟨its, r, pl, hz⟩ := I.list hx
  refine SeqAt.notIn_listAt (answ e) pl.isList (fun w hw => ?_) ⟨.bl _, H, I, rfl, ?_⟩
  · obtain ⟨z, hz, rz⟩ := vals_mem r (by simpa using hw)
    rw [answ_of e rz]
    exact (hall z hz).at I rz rx (by show X.A.units + 1 < cLine; omega)
  · rw [List.any_toArray, any_answ e r]
    exact q
/-- l != m, two lists or two tuples of equal items -/
def rNe0 (K : PySem.W.Frag) : R2 := fun x y H Q => ∃ (a b : Addr) (xs ys : List V), x = .ref a ∧ y = .ref b ∧ ((SqT K H a xs ∧ SqT K H b ys) ∨ (SqL K H a xs ∧ SqL K H b ys)) ∧ Paired (fun z z' => EqI K H z z' true) xs ys ∧ Q (.bl false) H
theorem op_ne0 (hu : X.A.units + 64 < cLine) : OpR X (compareOp .NotEq) (rNe0 X.K) := by
  intro pins s σ H x y v u Q I rx ry h
  obtain ⟨a, b, xs, ys, rfl, rfl, hq, hp, q⟩ := h
  cases rx
  cases ry
  have hu1 : X.A.in1.units < cLine := by show X.A.units + 1 < cLine; omega
  rcases hq with ⟨ha, hb⟩ | ⟨ha, hb⟩
  · obtain ⟨us, r1, p1, _⟩ := I.tuple ha
    obtain ⟨ws, r2, p2, _⟩ := I.tuple hb
    have hs : us.toArray.size = ws.toArray.size := by rw [List.size_toArray, List.size_toArray, ← r1.length, ← r2.length]; exact Paired.length hp
    refine SeqAt.RcNeAt.tuples (e := fun _ => true) p1 p2 (by omega) (fun j h1 h2 => ?_) _ _ _ _ ?_
    · have := items_at (fun r1 r2 k => EqI.at I k r1 r2 hu1) hp r1 r2 j (by simpa using h1) (by simpa using h2)
      simpa using this
    · rw [hs, show ((List.range (min ws.toArray.size ws.toArray.size)).all fun _ => true) = true from List.all_eq_true.mpr fun _ _ => rfl, beq_self_eq_true]
      exact ⟨.bl false, H, I, rfl, q⟩
  · obtain ⟨us, r1, p1, _⟩ := I.list ha
    obtain ⟨ws, r2, p2, _⟩ := I.list hb
    have hs : us.toArray.size = ws.toArray.size := by rw [List.size_toArray, List.size_toArray, ← r1.length, ← r2.length]; exact Paired.length hp
    refine SeqAt.RcNeAt.lists (e := fun _ => true) p1.isList p2.isList hs (by omega) (fun j h1 h2 => ?_) _ _ _ _ ?_
    · have := items_at (fun r1 r2 k => EqI.at I k r1 r2 hu1) hp r1 r2 j (by simpa using h1) (by simpa using h2)
      simpa using this
    · rw [show ((List.range us.toArray.size).all fun _ => true) = true from List.all_eq_true.mpr fun _ _ => rfl]
      exact ⟨.bl false, H, I, rfl, q⟩
/-- d != e, two dicts of equal items -/
def rNe0D (K : PySem.W.Frag) : R2 := fun x y H Q => ∃ (a b : Addr) (ks ls : List (Key × V)), x = .ref a ∧ y = .ref b ∧ H a = some (.dK ks) ∧ H b = some (.dK ls) ∧ ks.length = ls.length ∧ (∀ p ∈ ks, ∃ u, valV ls p.1 = some u ∧ EqI K H p.2 u true) ∧ Q (.bl false) H
theorem op_ne0D (hu : X.A.units + 64 < cLine) : OpR X (compareOp .NotEq) (rNe0D X.K) := by
  intro pins s σ H x y v u Q I rx ry h
  obtain ⟨a, b, ks, ls, rfl, rfl, ha, hb, hl, hp, q⟩ := h
  cases rx
  cases ry
  have hu1 : X.A.in1.units < cLine := by show X.A.units + 1 < cLine; omega
  obtain ⟨_, ya, va, ra, da⟩ := (show ObjOk X.prog X.w H s.heap a (.dK ks) from I.hok a _ ha)
  obtain ⟨_, yb, vb, rb, db⟩ := (show ObjOk X.prog X.w H s.heap b (.dK ls) from I.hok b _ hb)
  have e : va.length = vb.length := by rw [← ra.length, ← rb.length]; exact hl
  refine PySem.W.keq_ne (knd := mixKind X.prog X.w) (r := true) ya yb da db (by omega) (fun _ => ?_) ?_
  · have go : ∀ {ks : List (Key × V)} {va : List (Key × Value)}, KV ks va → (∀ p ∈ ks, ∃ u, valV ls p.1 = some u ∧ EqI X.K H p.2 u true) → PySem.W.KeqHits X.A.in1 s vb va true := by
      intro ks va ra
      unfold KV at ra
      induction ra with
      | nil => intro _; exact .nil
      | @cons p q ps qs h t k =>
        intro hp
        obtain ⟨h1, h2⟩ := h
        obtain ⟨u, e, f⟩ := hp p List.mem_cons_self
        have rr : RelO (some u) (valueAt vb p.1) := by rw [← e]; exact rb.val p.1
        obtain ⟨y, hy, ry⟩ := rr.some_of
        obtain ⟨key, v⟩ := q
        have h1' : p.1 = key := h1
        rw [h1'] at hy
        show PySem.W.KeqHits X.A.in1 s vb ((key, v) :: qs) (true && true)
        exact .hit hy (f.at I h2 ry hu1) (k fun p' hm => hp p' (List.mem_cons_of_mem _ hm))
    exact go ra hp
  · rw [show (!(va.length == vb.length && true)) = false from by rw [e]; simp]
    exact ⟨.bl false, H, I, rfl, q⟩
end
end Vf

set_option Elab.async false
set_option linter.all false
set_option maxRecDepth 100000
set_option maxHeartbeats 2000000
namespace Vf
open PySem PySem.Spec PyProof.Rows L2
/-! ### properties: their getters, found by the class and the name -/
def gAd (K : PySem.W.Frag) (c m : Str) : Addr := match PySem.W.recIn K (He.ma K (He.ga K c) m) "property" with
  | some (.ref f :: _) => f
  | _ => 0
structure GetD where
  cls : Str
  attr : Str
  d : He.DefD
def GetD.val (g : GetD) : He.FnW := g.d.val
def gnW (K : PySem.W.Frag) (g : GetD) : He.FnW := match K.lookup (gAd K g.cls g.attr) with
  | some ⟨_, _, .func fd, _⟩ => some (fd.name, fd.qualname, fd.params, fd.body, fd.scope, fd.globals, fd.closure, fd.builtins)
  | _ => none
def propB (K : PySem.W.Frag) (C : Addr) (m : Str) : Bool := He.eqO (PySem.W.findIn K (.ref C) m) (some (some (.ref (He.ma K C m)))) && (He.eqO (PySem.W.specialIn K (.ref (He.ma K C m)) "__get__") (some (some (.builtin "property.__get__"))) &&
  (decide (PySem.W.takesIn K (.ref (He.ma K C m)) = some true) && (match PySem.W.recIn K (He.ma K C m) "property" with
    | some (.ref _ :: _) => true
    | _ => false)))
def GetD.ok (K : PySem.W.Frag) (g : GetD) : Bool := propB K (He.ga K g.cls) g.attr && (PySem.W.keepIn K (.ref (gAd K g.cls g.attr)) && (match K.lookup (gAd K g.cls g.attr) with
  | some ⟨_, _, .func fd, _⟩ => PySem.W.codeIn K fd.code g.d.qual && (He.dflB K fd.defaults (g.d.dvs K) && He.kwdB K fd.kwdefaults (g.d.kws K))
  | _ => false))
theorem propB_ok {K : PySem.W.Frag} {c m : Str} (h : propB K (He.ga K c) m = true) : PropOf K (He.ga K c) m (He.ma K (He.ga K c) m) (gAd K c m) := by
  obtain ⟨h1, h⟩ := He.ba h
  obtain ⟨h2, h⟩ := He.ba h
  obtain ⟨h3, h4⟩ := He.ba h
  refine ⟨He.eqO_ok h1, He.eqO_ok h2, of_decide_eq_true h3, ?_⟩
  unfold gAd
  split at h4
  · rename_i f r e
    exact ⟨r, by rw [e]⟩
  · cases h4
theorem GetD.funD {K : PySem.W.Frag} {g : GetD} (e : gnW K g = g.d.val) (c : g.ok K = true) : (∃ fd, FunD K g.d.name g.d.qual g.d.params g.d.body g.d.scope (g.d.dvs K) (g.d.kws K) (gAd K g.cls g.attr) fd) ∧ PropOf K (He.ga K g.cls) g.attr (He.ma K (He.ga K g.cls) g.attr) (gAd K g.cls g.attr) := by
  obtain ⟨pr, c⟩ := He.ba c
  refine ⟨?_, propB_ok pr⟩
  obtain ⟨kp, c2⟩ := He.ba c
  unfold gnW at e
  cases q : K.lookup (gAd K g.cls g.attr) with
  | none =>
    rw [q] at c2
    cases c2
  | some o =>
    obtain ⟨oc, od, dt, osl⟩ := o
    rw [q] at c2 e
    cases dt with
    | func fd =>
      obtain ⟨n1, n2, n3, n4, n5, n6, n7, n8, n9, n10, n11, n12, n13, n14, n15⟩ := fd
      have e2 : (some (n1, n2, n3, n4, n5, n6, n7, n15) : He.FnW) = some (g.d.name, g.d.qual, g.d.params, .stmts g.d.body, g.d.scope, mainGlobals, [], builtinsNs) := e
      simp only [Option.some.injEq, Prod.mk.injEq] at e2
      obtain ⟨h1, h2, h3, h4, h5, h6, h7, h8⟩ := e2
      subst h1 h2 h3 h4 h5 h6 h7 h8
      have c3 : (PySem.W.codeIn K n13 g.d.qual && (He.dflB K n8 (g.d.dvs K) && He.kwdB K n9 (g.d.kws K))) = true := c2
      obtain ⟨k1, k2⟩ := He.ba c3
      obtain ⟨k3, k4⟩ := He.ba k2
      exact ⟨_, ⟨oc, od, n8, n9, n10, n11, n12, n13, n14, osl, rfl, q, k1, He.dflB_ok k3, He.kwdB_ok k4⟩, kp⟩
    | _ => cases c2
/-! ### the head's hook, with properties -/
abbrev AlP : Type := Bool × List He.FnW × List He.FnW
def obsP (ex : PySem.W.Frag → Bool) (fn : List He.DefD) (gs : List GetD) (K : PySem.W.Frag) : AlP := (ex K && ((fn.all fun d => d.ok K) && gs.all fun g => g.ok K), fn.map fun d => He.fnW K d.at_, gs.map (gnW K))
def SaysP (ex : PySem.W.Frag → Bool) (fn : List He.DefD) (gs : List GetD) (K : PySem.W.Frag) : Prop := obsP ex fn gs K = (true, fn.map He.DefD.val, gs.map GetD.val)
def obsPG (n : Nat) (ex : PySem.W.Frag → Bool) (fn : List He.DefD) (gs : List GetD) (g : Addr → Option Obj) : AlP := obsP ex fn gs (He.frG g (He.asD g n))
def hookP (n : Nat) (ex : PySem.W.Frag → Bool) (fn : List He.DefD) (gs : List GetD) : PySem.W.Hook where
  α := AlP
  obs := fun s => obsPG n ex fn gs s.heap.get?
  val := fun _ => (true, fn.map He.DefD.val, gs.map GetD.val)
  says := fun _ h => ∃ K : PySem.W.Frag, K.In h ∧ SaysP ex fn gs K
  of := fun _ _ e => ⟨_, He.frG_in, e⟩
  keeps := fun _ _ _ ⟨K, hK, c⟩ k => ⟨K, PySem.W.Frag.In.keeps hK k, c⟩
theorem obsPG_eq {n : Nat} {ex : PySem.W.Frag → Bool} {fn : List He.DefD} {gs : List GetD} {g : Addr → Option Obj} {s : Shared} (h : ∀ a, g a = s.heap.get? a) : obsPG n ex fn gs g = (hookP n ex fn gs).obs s := by
  have e : g = s.heap.get? := funext h
  rw [e]
  rfl
theorem SaysP.ex {ex : PySem.W.Frag → Bool} {fn : List He.DefD} {gs : List GetD} {K : PySem.W.Frag} (c : SaysP ex fn gs K) : ex K = true := (He.ba (congrArg (fun z : AlP => z.1) c)).1
theorem SaysP.fn {ex : PySem.W.Frag → Bool} {fn : List He.DefD} {gs : List GetD} {K : PySem.W.Frag} (c : SaysP ex fn gs K) (i : Nat) {d : He.DefD} (h : fn[i]? = some d := by rfl) : ∃ fd, FunD K d.name d.qual d.params d.body d.scope (d.dvs K) (d.kws K) (He.fAd K d.at_) fd := by
  have c2 := (He.ba (He.ba (congrArg (fun z : AlP => z.1) c)).2).1
  have e : fn.map (fun d => He.fnW K d.at_) = fn.map He.DefD.val := congrArg (fun z : AlP => z.2.1) c
  have e2 : He.fnW K d.at_ = d.val := by
    have e3 : (fn.map fun d => He.fnW K d.at_)[i]? = (fn.map He.DefD.val)[i]? := by rw [e]
    simp only [List.getElem?_map, h, Option.map_some] at e3
    exact Option.some.inj e3
  exact He.DefD.funD e2 (List.all_eq_true.mp c2 d (List.mem_of_getElem? h))
theorem SaysP.gt {ex : PySem.W.Frag → Bool} {fn : List He.DefD} {gs : List GetD} {K : PySem.W.Frag} (c : SaysP ex fn gs K) (i : Nat) {g : GetD} (h : gs[i]? = some g := by rfl) : (∃ fd, FunD K g.d.name g.d.qual g.d.params g.d.body g.d.scope (g.d.dvs K) (g.d.kws K) (gAd K g.cls g.attr) fd) ∧ PropOf K (He.ga K g.cls) g.attr (He.ma K (He.ga K g.cls) g.attr) (gAd K g.cls g.attr) := by
  have c2 := (He.ba (He.ba (congrArg (fun z : AlP => z.1) c)).2).2
  have e : (gs.map (gnW K)) = gs.map GetD.val := congrArg (fun z : AlP => z.2.2) c
  have e2 : gnW K g = g.val := by
    have e3 : (gs.map (gnW K))[i]? = (gs.map GetD.val)[i]? := by rw [e]
    simp only [List.getElem?_map, h, Option.map_some] at e3
    exact Option.some.inj e3
  exact GetD.funD e2 (List.all_eq_true.mp c2 g (List.mem_of_getElem? h))
/-- the getter keeps its promise -/
structure OkG (P : Program) (w : World) (K : PySem.W.Frag) (mg : Str → Option Value) (base : Heap) (CX : CXT) (k : Nat) (c m : Str) (sp : Sp) : Prop where
  ex : ∃ fd, FnOk P w K mg base CX k (gAd K c m) fd ["self"] sp ∧ Binds K fd ["self"] []
  pr : PropOf K (He.ga K c) m (He.ma K (He.ga K c) m) (gAd K c m)
theorem pe_propG {X : Cx} {k j : Nat} {c m : Str} {sp : Sp} {e : Expr} {pos : Pos} {ta : TE} (he : PE X e ta) (cl : Cls X.K (He.ga X.K c)) (O : OkG X.prog X.w X.K X.mg X.base CX0 k c m sp) (hr : Room j X.A) (hj : k + 1 ≤ j)
    (hab : attributeBase e m X.env (eval e X.env) = eval e X.env) : PE X (.Attribute e m pos) (tProp (He.ga X.K c) sp [] E0 ta) := by
  obtain ⟨fd, F, b⟩ := O.ex
  exact pe_prop he cl O.pr F (hr.mono hj) b .nil pass0 hab
end Vf

set_option Elab.async false
set_option linter.all false
set_option maxRecDepth 100000
set_option maxHeartbeats 2000000
namespace PySem.W
open PySem PySem.SeqAt MeetsSeq
section
variable {prog : Program} {w : World} {A : Around} {E : Value → Shared → Prop} {s : Shared} {a b : Addr} {o : Obj}
/-- a dict's slot declines what is no dict -/
theorem vf_dic_no {v : Value} {T : String} (ha : s.TypeIs (.ref a) "dict") (hT : s.TypeIs v T) (hs : isSubtype (.type T) (.type "dict") = pure false) {Q : Fin → Shared → Prop} (h : Q (.done (.ret .notImplemented)) s) : wpAny (model prog w) A (PySem.Builtin.«dict.__eq__» ⟨[.ref a, v], []⟩) Q E s := by
  wp_walk using wpAny_isInstance hT hs
  exact h
theorem vf_none_no {Q : Fin → Shared → Prop} (h : Q (.done (.ret .notImplemented)) s) : wpAny (model prog w) A (PySem.Builtin.«NoneType.__eq__» ⟨[.none, .ref a], []⟩) Q E s := by
  wp_walk
  exact h
theorem vf_int_no {v : Value} {es : Array DictEntry} {ep : Nat} (hv : (∃ c, v = .bool c) ∨ ∃ i t, v = .int i t) (ha : s.heap.get? a = some o) (hd : o.data = .dict es ep) {Q : Fin → Shared → Prop} (h : Q (.done (.ret .notImplemented)) s) : wpAny (model prog w) A (PySem.Builtin.«int.__eq__» ⟨[v, .ref a], []⟩) Q E s := by
  obtain ⟨hp, gg, d, tk, os⟩ := s
  obtain ⟨oc, odd, oda, osl⟩ := o
  dsimp only at hd
  subst hd
  rcases hv with ⟨c, rfl⟩ | ⟨i, t, rfl⟩
  · wp_walk using AutoSeq1.wpAny_loadPart' ha
    exact h
  · wp_walk using AutoSeq1.wpAny_loadPart' ha
    exact h
theorem vf_tup_no {T : String} (hT : s.TypeIs (.ref a) T) (hs : isSubtype (.type T) (.type "tuple") = pure false) {Q : Fin → Shared → Prop} (h : Q (.done (.ret .notImplemented)) s) : wpAny (model prog w) A (PySem.Builtin.«tuple.__eq__» ⟨[.ref b, .ref a], []⟩) Q E s := by
  wp_walk using wpAny_isInstance hT hs
  exact h
theorem vf_lst_no {T : String} (hT : s.TypeIs (.ref a) T) (hs : isSubtype (.type T) (.type "list") = pure false) {Q : Fin → Shared → Prop} (h : Q (.done (.ret .notImplemented)) s) : wpAny (model prog w) A (PySem.Builtin.«list.__eq__» ⟨[.ref b, .ref a], []⟩) Q E s := by
  wp_walk using wpAny_isInstance hT hs
  exact h
end
end PySem.W
namespace PySem.W
open PySem PySem.SeqAt MeetsSeq
/-- == answers no, asked either way -/
structure NoAt (A : Around) (s : Shared) (x y : Value) : Prop where
  rc : RcAt A s x y false
  eq : EqAt A s x y false
theorem eq_of_rc {A : Around} {s : Shared} {x y : Value} {b : Bool} (hxy : (x == y) = true → b = true) (hf : ∀ i t, x ≠ .float i t) (rc : RcAt A s x y b) : EqAt A s x y b := fun prog w E Q h => by
  unfold eqBool
  refine wpAny_holding ?_
  refine wpAny_ite_split (fun hab => ?_) (fun _ => ?_)
  · rw [hxy hab] at h
    first
      | exact wpAny_pure h
      | exact wpAny_bind (wpAny_rule (wpAny_pure h))
  · cases x with
    | float i t => exact absurd rfl (hf i t)
    | _ => exact wpAny_bind (rc prog w E _ (wpAny_truthy_bool h))
/-- both slots decline: not equal -/
theorem vf_no {A : Around} {s : Shared} {x y : Value} {Tx Ty idx idy : String} {Bx By : Builtin} (hx : s.TypeIs x Tx) (hy : s.TypeIs y Ty) (hne : (Value.type Tx != Value.type Ty) = true) (hxy : (x == y) = false) (hsub : isSubtype (.type Ty) (.type Tx) = pure false)
    (sx : Slot Tx (cmpInfo .Eq).2.1 idx) (sy : Slot Ty (cmpInfo .Eq).2.2 idy) (sy1 : Slot Ty (cmpInfo .Eq).2.1 idy) (ex : entryFor table idx = some Bx) (ey : entryFor table idy = some By) (ax : argsOk idx ⟨[x, y], []⟩) (ay : argsOk idy ⟨[y, x], []⟩)
    (bx : ∀ (prog : Program) (w : World) (A : Around) (E : Value → Shared → Prop) (Q : Fin → Shared → Prop), Q (.done (.ret .notImplemented)) s → wpAny (model prog w) A (Bx ⟨[x, y], []⟩) Q E s)
    (by_ : ∀ (prog : Program) (w : World) (A : Around) (E : Value → Shared → Prop) (Q : Fin → Shared → Prop), Q (.done (.ret .notImplemented)) s → wpAny (model prog w) A (By ⟨[y, x], []⟩) Q E s)
    (hs : ∀ (prog : Program) (w : World) (A : Around) (E : Value → Shared → Prop) (Q : Bool → Shared → Prop), Q false s → wpAny (model prog w) A (isSame x y) Q E s) (hf : ∀ i t, x ≠ .float i t) (hu : A.units < cLine) : NoAt A s x y := by
  have rc : RcAt A s x y false := fun prog w E Q h =>
    rc_eq_decline_or (k := false) hx hy hne hsub sx sy
      (fun _ hq => wpAny_call_entry sx hx ex (bx _ _ _ _ _ ⟨_, rfl, hq⟩) ax)
      (fun _ hq => wpAny_call_entry sy1 hy ey (by_ _ _ _ _ _ ⟨_, rfl, hq⟩) ay)
      (fun _ hq => hs _ _ _ _ _ hq) (.inr hu) h
  exact ⟨rc, eq_of_rc (fun z => absurd (z.symm.trans hxy) (by decide)) hf rc⟩
end PySem.W
namespace Vf
open PySem PySem.Spec PyProof.Rows L2 PySem.W
/-- == of two values: data, or a dict beside what is none, or two empty dicts -/
inductive EqW (K : PySem.W.Frag) (H : Hp) : V → V → Bool → Prop
  | dat {x y : V} {d e : PyData} : Dp K H x d → Dp K H y e → SeqAt.shaped d = true → SeqAt.shaped e = true → EqW K H x y (PyData.eqv d e)
  | dicL {y : V} {e : PyData} {a : Addr} {ks : List (Key × V)} : H a = some (.dK ks) → Dp K H y e → EqW K H (.ref a) y false
  | dicR {x : V} {d : PyData} {a : Addr} {ks : List (Key × V)} : Dp K H x d → H a = some (.dK ks) → EqW K H x (.ref a) false
  | dd {a b : Addr} : H a = some (.dK []) → H b = some (.dK []) → EqW K H (.ref a) (.ref b) true
section
variable {X : Cx} {pins : List (Addr × Obj)} {σ : L2.St} {H : Hp} {s : Shared}
theorem dic_obj (I : L2.Inv X pins σ H s) {a : Addr} {ks : List (Key × V)} (h : H a = some (.dK ks)) : ∃ o es ep, s.heap.get? a = some o ∧ o.cls = .type "dict" ∧ o.data = .dict es ep := by
  obtain ⟨_, _, vs, _, o, es, ep, h1, h2, h3, _⟩ := (show ObjOk X.prog X.w H s.heap _ (.dK _) from I.hok _ _ h)
  exact ⟨o, es, ep, h1, h2.1, h3⟩
theorem eqW_dicR (I : L2.Inv X pins σ H s) {A : Around} {x : V} {u : Value} {d : PyData} {a : Addr} {ks : List (Key × V)} (h : Dp X.K H x d) (ha : H a = some (.dK ks)) (rx : RelV x u) (hu : A.units < cLine) : NoAt A s u (.ref a) := by
  obtain ⟨o, es, ep, ho, hc, hd⟩ := dic_obj I ha
  have ta : s.TypeIs (.ref a) "dict" := ⟨o, ho, hc⟩
  cases h with
  | non =>
    cases rx
    exact vf_no (rfl : s.TypeIs .none "NoneType") ta (by decide) rfl PySem.F.sub_dict_NoneType PySem.F.slot_NoneType_eq PySem.F.slot_dict_eq_refl PySem.F.slot_dict_eq PySem.F.entry_NoneType_eq PySem.F.entry_dict_eq (PySem.F.args_NoneType_eq_2 _ _) (PySem.F.args_dict_eq_2 _ _)
      (fun _ _ _ _ _ q => vf_none_no q) (fun _ _ _ _ _ q => vf_dic_no (v := .none) (T := "NoneType") ta rfl PySem.F.sub_NoneType_dict q) (fun _ _ _ _ _ q => wpAny_of_eq (rfl : isSame .none (.ref a) = pure false) q) (fun _ _ z => nomatch z) hu
  | bl b =>
    cases rx
    exact vf_no (rfl : s.TypeIs (.bool b) "bool") ta (by decide) rfl PySem.F.sub_dict_bool PySem.F.slot_bool_eq PySem.F.slot_dict_eq_refl PySem.F.slot_dict_eq PySem.F.entry_int_eq PySem.F.entry_dict_eq (PySem.F.args_int_eq_2 _ _) (PySem.F.args_dict_eq_2 _ _)
      (fun _ _ _ _ _ q => vf_int_no (.inl ⟨_, rfl⟩) ho hd q) (fun _ _ _ _ _ q => vf_dic_no (v := .bool b) (T := "bool") ta rfl PySem.F.sub_bool_dict q) (fun _ _ _ _ _ q => wpAny_of_eq (rfl : isSame (.bool b) (.ref a) = pure false) q) (fun _ _ z => nomatch z) hu
  | int i =>
    obtain ⟨t, rfl⟩ := rx
    exact vf_no (rfl : s.TypeIs (.int i t) "int") ta (by decide) rfl PySem.F.sub_dict_int PySem.F.slot_int_eq PySem.F.slot_dict_eq_refl PySem.F.slot_dict_eq PySem.F.entry_int_eq PySem.F.entry_dict_eq (PySem.F.args_int_eq_2 _ _) (PySem.F.args_dict_eq_2 _ _)
      (fun _ _ _ _ _ q => vf_int_no (.inr ⟨_, _, rfl⟩) ho hd q) (fun _ _ _ _ _ q => vf_dic_no (v := .int i t) (T := "int") ta rfl PySem.F.sub_int_dict q) (fun _ _ _ _ _ q => wpAny_of_eq (rfl : isSame (.int i t) (.ref a) = pure false) q) (fun _ _ z => nomatch z) hu
  | str z =>
    obtain ⟨t, rfl⟩ := rx
    exact ⟨vf_rc_str_dict ho hc hd hu, vf_str_dict ho hc hd hu⟩
  | @lst l _ _ hs _ =>
    cases rx
    obtain ⟨its, r, p, _⟩ := I.list hs
    obtain ⟨ol, n, hl, hlc, hld, hlx⟩ := p
    have tl : s.TypeIs (.ref l) "list" := ⟨_, hl, hlc⟩
    have hne : l ≠ a := fun e => by
      rw [e, ho] at hl
      cases hl
      rw [hc] at hlc
      exact absurd hlc (by simp)
    exact vf_no tl ta (by decide) (by simpa using hne) PySem.F.sub_dict_list PySem.F.slot_list_eq PySem.F.slot_dict_eq_refl PySem.F.slot_dict_eq PySem.F.entry_list_eq PySem.F.entry_dict_eq (PySem.F.args_list_eq_2 _ _) (PySem.F.args_dict_eq_2 _ _)
      (fun _ _ _ _ _ q => vf_lst_no ta PySem.F.sub_dict_list q) (fun _ _ _ _ _ q => vf_dic_no ta tl PySem.F.sub_list_dict q) (fun _ _ _ _ _ q => SeqAt.wpAny_isSame_ref_other' hne hl ho (by rw [hc]; simp) q) (fun _ _ z => nomatch z) hu
  | @tup l _ _ hs _ =>
    cases rx
    obtain ⟨its, r, p, _⟩ := I.tuple hs
    obtain ⟨ol, hl, hlc, hld⟩ := p
    have tl : s.TypeIs (.ref l) "tuple" := ⟨_, hl, hlc⟩
    have hne : l ≠ a := fun e => by
      rw [e, ho] at hl
      cases hl
      rw [hc] at hlc
      exact absurd hlc (by simp)
    exact vf_no tl ta (by decide) (by simpa using hne) PySem.F.sub_dict_tuple PySem.F.slot_tuple_eq PySem.F.slot_dict_eq_refl PySem.F.slot_dict_eq PySem.F.entry_tuple_eq PySem.F.entry_dict_eq (PySem.F.args_tuple_eq_2 _ _) (PySem.F.args_dict_eq_2 _ _)
      (fun _ _ _ _ _ q => vf_tup_no ta PySem.F.sub_dict_tuple q) (fun _ _ _ _ _ q => vf_dic_no ta tl PySem.F.sub_tuple_dict q) (fun _ _ _ _ _ q => SeqAt.wpAny_isSame_ref_other' hne hl ho (by rw [hc]; simp) q) (fun _ _ z => nomatch z) hu
theorem eqW_dicL (I : L2.Inv X pins σ H s) {A : Around} {x : V} {u : Value} {d : PyData} {a : Addr} {ks : List (Key × V)} (h : Dp X.K H x d) (ha : H a = some (.dK ks)) (rx : RelV x u) (hu : A.units < cLine) : NoAt A s (.ref a) u := by
  obtain ⟨o, es, ep, ho, hc, hd⟩ := dic_obj I ha
  have ta : s.TypeIs (.ref a) "dict" := ⟨o, ho, hc⟩
  cases h with
  | non =>
    cases rx
    exact vf_no ta (show s.TypeIs .none "NoneType" from rfl) (by decide) rfl PySem.F.sub_NoneType_dict PySem.F.slot_dict_eq PySem.F.slot_NoneType_eq_refl PySem.F.slot_NoneType_eq PySem.F.entry_dict_eq PySem.F.entry_NoneType_eq (PySem.F.args_dict_eq_2 _ _) (PySem.F.args_NoneType_eq_2 _ _)
      (fun _ _ _ _ _ q => vf_dic_no (v := .none) (T := "NoneType") ta rfl PySem.F.sub_NoneType_dict q) (fun _ _ _ _ _ q => vf_none_no q) (fun _ _ _ _ _ q => wpAny_of_eq (rfl : isSame (.ref a) .none = pure false) q) (fun _ _ z => nomatch z) hu
  | bl b =>
    cases rx
    exact vf_no ta (show s.TypeIs (.bool b) "bool" from rfl) (by decide) rfl PySem.F.sub_bool_dict PySem.F.slot_dict_eq PySem.F.slot_bool_eq_refl PySem.F.slot_bool_eq PySem.F.entry_dict_eq PySem.F.entry_int_eq (PySem.F.args_dict_eq_2 _ _) (PySem.F.args_int_eq_2 _ _)
      (fun _ _ _ _ _ q => vf_dic_no (v := .bool b) (T := "bool") ta rfl PySem.F.sub_bool_dict q) (fun _ _ _ _ _ q => vf_int_no (.inl ⟨_, rfl⟩) ho hd q) (fun _ _ _ _ _ q => wpAny_of_eq (rfl : isSame (.ref a) (.bool b) = pure false) q) (fun _ _ z => nomatch z) hu
  | int i =>
    obtain ⟨t, rfl⟩ := rx
    exact vf_no ta (show s.TypeIs (.int i t) "int" from rfl) (by decide) rfl PySem.F.sub_int_dict PySem.F.slot_dict_eq PySem.F.slot_int_eq_refl PySem.F.slot_int_eq PySem.F.entry_dict_eq PySem.F.entry_int_eq (PySem.F.args_dict_eq_2 _ _) (PySem.F.args_int_eq_2 _ _)
      (fun _ _ _ _ _ q => vf_dic_no (v := .int i t) (T := "int") ta rfl PySem.F.sub_int_dict q) (fun _ _ _ _ _ q => vf_int_no (.inr ⟨_, _, rfl⟩) ho hd q) (fun _ _ _ _ _ q => wpAny_of_eq (rfl : isSame (.ref a) (.int i t) = pure false) q) (fun _ _ z => nomatch z) hu
  | str z =>
    obtain ⟨t, rfl⟩ := rx
    exact vf_no ta (show s.TypeIs (.str z t) "str" from rfl) (by decide) rfl PySem.F.sub_str_dict PySem.F.slot_dict_eq PySem.F.slot_str_eq_refl PySem.F.slot_str_eq PySem.F.entry_dict_eq PySem.F.entry_str_eq (PySem.F.args_dict_eq_2 _ _) (PySem.F.args_str_eq_2 _ _)
      (fun _ _ _ _ _ q => vf_dic_no (v := .str z t) (T := "str") ta rfl PySem.F.sub_str_dict q) (fun _ _ _ _ _ q => vf_no_str_dic ho hd q) (fun _ _ _ _ _ q => wpAny_of_eq (rfl : isSame (.ref a) (.str z t) = pure false) q) (fun _ _ z => nomatch z) hu
  | @lst l _ _ hs _ =>
    cases rx
    obtain ⟨its, r, p, _⟩ := I.list hs
    obtain ⟨ol, n, hl, hlc, hld, hlx⟩ := p
    have tl : s.TypeIs (.ref l) "list" := ⟨_, hl, hlc⟩
    have hne : a ≠ l := fun e => by
      rw [← e, ho] at hl
      cases hl
      rw [hc] at hlc
      exact absurd hlc (by simp)
    exact vf_no ta tl (by decide) (by simpa using hne) PySem.F.sub_list_dict PySem.F.slot_dict_eq PySem.F.slot_list_eq_refl PySem.F.slot_list_eq PySem.F.entry_dict_eq PySem.F.entry_list_eq (PySem.F.args_dict_eq_2 _ _) (PySem.F.args_list_eq_2 _ _)
      (fun _ _ _ _ _ q => vf_dic_no ta tl PySem.F.sub_list_dict q) (fun _ _ _ _ _ q => vf_lst_no ta PySem.F.sub_dict_list q) (fun _ _ _ _ _ q => wpAny_isSame_ref_other hne ho hl (by rw [hc]; simp) q) (fun _ _ z => nomatch z) hu
  | @tup l _ _ hs _ =>
    cases rx
    obtain ⟨its, r, p, _⟩ := I.tuple hs
    obtain ⟨ol, hl, hlc, hld⟩ := p
    have tl : s.TypeIs (.ref l) "tuple" := ⟨_, hl, hlc⟩
    have hne : a ≠ l := fun e => by
      rw [← e, ho] at hl
      cases hl
      rw [hc] at hlc
      exact absurd hlc (by simp)
    exact vf_no ta tl (by decide) (by simpa using hne) PySem.F.sub_tuple_dict PySem.F.slot_dict_eq PySem.F.slot_tuple_eq_refl PySem.F.slot_tuple_eq PySem.F.entry_dict_eq PySem.F.entry_tuple_eq (PySem.F.args_dict_eq_2 _ _) (PySem.F.args_tuple_eq_2 _ _)
      (fun _ _ _ _ _ q => vf_dic_no ta tl PySem.F.sub_tuple_dict q) (fun _ _ _ _ _ q => vf_tup_no ta PySem.F.sub_dict_tuple q) (fun _ _ _ _ _ q => wpAny_isSame_ref_other hne ho hl (by rw [hc]; simp) q) (fun _ _ z => nomatch z) hu
theorem EqW.run (I : L2.Inv X pins σ H s) {A : Around} {x y : V} {u v : Value} {b : Bool} (h : EqW X.K H x y b) (rx : RelV x u) (ry : RelV y v) (hu : A.units + 64 < cLine) :
    (∀ E Q : Value → Shared → Prop, Q (.bool b) s → wpAny (model X.prog X.w) A (richCompare .Eq u v) Q E s) ∧ SeqAt.EqP X.prog X.w A s u v b := by
  cases h with
  | dat h1 h2 sd se =>
    obtain ⟨as, r1⟩ := Dp.reads I _ x u h1 rx
    obtain ⟨bs, r2⟩ := Dp.reads I _ y v h2 ry
    exact ⟨fun E Q q => SeqAt.compareEq_shaped r1 r2 sd se hu q, (SeqAt.eqAt_reads _ _ A s u v as bs r1 r2 (SeqAt.canLay_of_shaped sd) (SeqAt.canLay_of_shaped se) (SeqAt.room_of_shaped sd hu)).eqP⟩
  | dicL h1 h2 =>
    cases rx
    have := eqW_dicL I (A := A) h2 h1 ry (by omega)
    exact ⟨this.rc X.prog X.w, this.eq.eqP⟩
  | dicR h1 h2 =>
    cases ry
    have := eqW_dicR I (A := A) h1 h2 rx (by omega)
    exact ⟨this.rc X.prog X.w, this.eq.eqP⟩
  | @dd a b h1 h2 =>
    cases rx
    cases ry
    obtain ⟨_, ya, va, ra, da⟩ := (show ObjOk X.prog X.w H s.heap a (.dK []) from I.hok a _ h1)
    obtain ⟨_, yb, vb, rb, db⟩ := (show ObjOk X.prog X.w H s.heap b (.dK []) from I.hok b _ h2)
    cases ra
    cases rb
    have rc : ∀ E Q : Value → Shared → Prop, Q (.bool true) s → wpAny (model X.prog X.w) A (richCompare .Eq (.ref a) (.ref b)) Q E s := fun E Q q =>
      PySem.W.rcP_dicts (knd := mixKind X.prog X.w) (r := true) ya yb da db (by omega) (fun _ => .nil) E Q q
    refine ⟨rc, ?_⟩
    by_cases e : a = b
    · subst e
      exact (SeqAt.EqAt.same _).eqP
    · exact SeqAt.eqP_refs e rc
/-- x == y of such values -/
def rEqW (K : PySem.W.Frag) : R2 := fun x y H Q => ∃ b, EqW K H x y b ∧ Q (.bl b) H
theorem op_eqW (hu : X.A.units + 64 < cLine) : OpR X (compareOp .Eq) (rEqW X.K) := by
  intro pins s σ H x y v u Q I rx ry h
  obtain ⟨b, h, q⟩ := h
  exact (h.run I rx ry hu).1 _ _ ⟨.bl b, H, I, rfl, q⟩
/-- in, not in: such values -/
def DW (K : PySem.W.Frag) : Eqb := fun x y H b => EqW K H x y b
theorem eqB_w {n : Nat} : EqB X n (DW X.K) := fun A pins s σ H x y u v b sb I rx ry hd => (hd.run I rx ry sb.room.units).2 _ _ ⟨rfl, H, I, Ext.rfl'⟩
mutual
theorem Dp_ext {K : PySem.W.Frag} {H H' : Hp} (sm : Same H H') : ∀ (d : PyData) (x : V), Dp K H x d → Dp K H' x d
  | _, _, .non => .non
  | _, _, .bl b => .bl b
  | _, _, .int i => .int i
  | _, _, .str z => .str z
  | .list ds, _, .lst h hs => .lst (sm.seq h) (DpAll_ext sm ds _ hs)
  | .tuple ds, _, .tup h hs => .tup (SqT.ext h sm) (DpAll_ext sm ds _ hs)
theorem DpAll_ext {K : PySem.W.Frag} {H H' : Hp} (sm : Same H H') : ∀ (ds : List PyData) (xs : List V), DpAll K H xs ds → DpAll K H' xs ds
  | _, _, .nil => .nil
  | d :: ds, _, .cons h hs => .cons (Dp_ext sm d _ h) (DpAll_ext sm ds _ hs)
end
theorem EqW.ext {K : PySem.W.Frag} {H H' : Hp} (sm : Same H H') {x y : V} {b : Bool} (h : EqW K H x y b) : EqW K H' x y b := by
  cases h with
  | dat h1 h2 sd se => exact .dat (Dp_ext sm _ _ h1) (Dp_ext sm _ _ h2) sd se
  | dicL h1 h2 => exact .dicL (sm _ _ h1) (Dp_ext sm _ _ h2)
  | dicR h1 h2 => exact .dicR (Dp_ext sm _ _ h1) (sm _ _ h2)
  | dd h1 h2 => exact .dd (sm _ _ h1) (sm _ _ h2)
end
end Vf

set_option Elab.async false
set_option linter.all false
set_option maxRecDepth 100000
set_option maxHeartbeats 2000000
/-! try with several clauses that bind their error; over the library's readings of one clause and of clauses without names. -/
namespace Vf
open PySem PySem.Spec PyProof.Rows L2
abbrev Clause : Type := Value × Nat × (Addr → Value → Option Addr → TS)
/-- the ends of a clause: its name goes -/
def goneE (i : Nat) (D : Ends) : Ends := { nx := fun τ G => D.nx (τ.set i none) G, rt := D.rt, bk := fun τ G => D.bk (τ.set i none) G, ct := fun τ G => D.ct (τ.set i none) G }
def wClauses (K : PySem.W.Frag) (Wout : WX) (D : Ends) : List Clause → WX
  | [] => Wout
  | (c, i, ts) :: r => fun cls d τ G => ∃ t, PySem.W.exmOne K cls c = some t ∧ (t = true → ∀ a, G a = none → ts a cls d (goneE i D) (τ.set i (some (.ref a))) G) ∧ (t = false → wClauses K Wout D r cls d τ G)
inductive Clauses (X : Cx) : List ExceptHandler → List Clause → Prop
  | nil : Clauses X [] []
  | cons {x n : Str} {c : Value} {i : Nat} {ts : Addr → Value → Option Addr → TS} {b₀ : Stmt} {suite : List Stmt} {np np' : Pos} {hds : List ExceptHandler} {l : List Clause} (hi : X.N[i]? = some n) (hl : X.env.kindOf n = some .local) (hc : Names X x c)
      (hsu : ∀ (a : Addr) (oe : Obj) (cls : Value) (d : Option Addr) (pn : List (Addr × Obj)), Zc cls d oe → (∃ vs, oe.data = .fields vs) → PSs (X.suite a ((a, oe) :: pn)) (b₀ :: suite) (ts a cls d)) (r : Clauses X hds l) :
      Clauses X (.ExceptHandler (some (.Name x np)) (some n) (b₀ :: suite) np' :: hds) ((c, i, ts) :: l)
section
variable {X : Cx} {body : List Stmt} {h₀ : ExceptHandler} {hds : List ExceptHandler} {l : List Clause} {pos : Pos} {tb : WX → TS} {Wout : WX}
theorem ps_try_clauses (hst : X.stack = X.env :: X.outer) (hfr0 : X.env.frame = some X.env.locals) (hN : X.N.Nodup) (tk : Takes X Wout)
    (hb : ∀ (W : WX) (pn : List (Addr × Obj)) (xe : Value → Shared → Prop), Takes (X.tr pn xe) W → PassesOwn (model X.prog X.w) X.A X.env xe → PSs (X.tr pn xe) body (tb W))
    (hh : Clauses X (h₀ :: hds) l) : PS X (.Try body (h₀ :: hds) [] [] pos) (fun D σ H => tb (wClauses X.K Wout D l) D σ H) := by
  refine ⟨fun pins s σ H D I hyp => ?_⟩
  have iok := I.ok
  have hframes : X.A.frames = some (X.env :: X.outer) := by rw [iok.frames, hst]
  refine wpAny_Try_except (wpAny_mono ((hb (wClauses X.K Wout D l) (X.pn ++ pins) (fun er t1 => wpAny (model X.prog X.w) X.A (noteFrame er X.env) (fun _ t2 => wpAny (model X.prog X.w) X.A (setFlight er none) (fun _ t3 =>
    wpAny (model X.prog X.w) X.A (handleBy er X.env (h₀ :: hds)) (SP X pins D) X.xe t3) X.xe t2) X.xe t1) (fun u s' air => ?_) PassesOwn.looking).run [] s σ H D (I.toTry _) hyp) (fun fl t1 done => ?_) (fun er t1 q => q))
  · obtain ⟨a, B, sI, pins', τ, G, cls, d, rfl, Ja, newB, upA, sky, gNone, osEq, bare, wish⟩ := air
    have Jb : Inv X pins τ G sI := Ja.ofTry iok
    have skyB : Sky B (X.env :: X.outer) a (Zc cls d) X.env.locals s'.heap := by rw [← hst]; exact sky
    show wpAny (model X.prog X.w) X.A (noteFrame (.ref a) X.env) _ _ _
    refine Sky.land Zc.steady hframes hfr0 skyB fun hp3 fly3 up3 => ?_
    have J3 : Inv X pins τ G { s' with heap := hp3 } := Jb.landed newB fly3.1 (upA.trans up3) osEq bare
    obtain ⟨o3, w3, there3, zc3, dat3⟩ := fly3.there
    have off : a ∉ frs (X.env :: X.outer) := fun hm => by
      obtain ⟨_, o', e', hno⟩ := fly3.2.2.1.mem hm
      rw [there3] at e'
      cases e'
      exact hno _ dat3
    have offL : a ≠ X.env.locals := fun z => off (List.mem_filterMap.mpr ⟨X.env, List.mem_cons_self, by rw [hfr0, z]⟩)
    have offF : a ∉ X.fs := fun hm => by
      obtain ⟨en, hen, q⟩ := List.mem_filterMap.mp hm
      exact off (List.mem_filterMap.mpr ⟨en, List.mem_cons_of_mem _ hen, q⟩)
    have S3 := J3.suite there3 dat3 gNone offL offF
    have walk : ∀ {hs2 : List ExceptHandler} {l2 : List Clause}, Clauses X hs2 l2 → wClauses X.K Wout D l2 cls d τ G → wpAny (model X.prog X.w) X.A (handleBy (.ref a) X.env hs2) (SP X pins D) X.xe { s' with heap := hp3 } := by
      intro hs2 l2 hk
      induction hk with
      | nil =>
        intro out
        refine wpAny_handleBy_nil ?_
        obtain ⟨_, _, _, oe, vs, T, oT, _, there, zc, dat, v1, _⟩ := id fly3
        unfold PySem.passOn
        refine wpAny_bind (wpAny_field there dat v1 ?_)
        rw [if_neg (by simp : ¬ ((Value.ref T == Value.none) = true))]
        have last : wpAny (model X.prog X.w) X.A (setFlight (.ref a) X.env.frame) (fun _ t4 => wpAny (model X.prog X.w) X.A (throw (.ref a) : Sem Flow) (SP X pins D) X.xe t4) X.xe { s' with heap := hp3 } := by
          rw [hfr0]
          refine HandSPX.setFlight_upZ fly3 fun hp4 fly4 up4 => wpAny_throw (tk _ _ ⟨a, B, sI, pins, τ, G, cls, d, rfl, Jb, newB, (upA.trans up3).trans up4, .inr (.inr (by rw [hst]; exact fly4)), gNone, osEq, bare, out⟩)
        first
          | exact wpAny_bind (wpAny_pure (wpAny_bind last))
          | exact wpAny_bind last
      | @cons x n c i ts b₀ suite np np' hds2 l2 hi hl hc hsu r ih =>
        rintro ⟨t, et, yes, no⟩
        refine wpAny_handleBy_cons (codeAny_handlers_test ?_) (by intro q; cases q)
        have look : PySem.W.Looks (model X.prog X.w) hp3 (typeOf (.ref a)) cls := fun A Q E t keep q => wpAny_typeOf_ref (keep _ _ there3) (by rw [zc3.1]; exact q)
        have match_ := PySem.W.exm_one (M := model X.prog X.w) (J3.kIn) look et
        have name : ∀ {Q E : Value → Shared → Prop}, Q c { s' with heap := hp3 } → wpAny (model X.prog X.w) (X.A.mark (some (.ref a))) (eval (.Name x np) X.env) Q E { s' with heap := hp3 } := fun {Q E} q => by
          obtain ⟨g1, g2, g3 | ⟨g3, g4, g5⟩⟩ := hc
          · exact ld_glob (X := X.suite a ((a, o3) :: (X.pn ++ pins))) S3 g1 g3 q g2
          · exact ld_blt (X := X.suite a ((a, o3) :: (X.pn ++ pins))) S3 g1 g3 g4 q g5 g2
        refine name (match_.here ?_)
        cases t with
        | false =>
          show wpAny _ X.A (handleBy (.ref a) X.env hds2) _ _ _
          exact ih (no rfl)
        | true =>
          refine codeAny_handlers_suite_as (HandSPX.lands_againZ fly3 fun hp4 fly4 up4 => ?_)
          have J4 : Inv X pins τ G { s' with heap := hp4 } := Jb.landed newB fly4.1 ((upA.trans up3).trans up4) osEq bare
          obtain ⟨o4, w4, there4, zc4, dat4⟩ := fly4.there
          refine store_ok (X := X.suite a ((a, o4) :: (X.pn ++ pins))) (v := .ref a) (J4.suite there4 dat4 gNone offL offF) hN hi (.inl hl) rfl (fun t5 S5 => ?_) (.inr hl)
          refine wpAny_mono ((hsu a o4 cls d (X.pn ++ pins) zc4 ⟨_, dat4⟩).run [] t5 _ G _ S5 (yes rfl a gNone)) (fun fl t6 done => ?_) (fun _ _ z => False.elim z)
          have bye : ∀ {τ6 : L2.St} {G6 : Hp} {Q : Shared → Prop}, Inv (X.suite a ((a, o4) :: (X.pn ++ pins))) [] τ6 G6 t6 → (∀ t7, Inv X pins (τ6.set i none) G6 t7 → Q t7) →
              wpAny (model X.prog X.w) X.A (do bindName X.env n .none; unbindBehindTheSuite X.env n np') (fun _ t7 => Q t7) X.xe t6 := fun {τ6 G6 Q} S6 q => gone_ok (S6.unsuite iok) hN hi hl q
          cases fl with
          | ret u =>
            obtain ⟨v6, τ6, G6, S6, r6, q6⟩ := done
            exact bye S6 fun t7 J7 => ⟨_, _, _, J7, r6, q6⟩
          | _ =>
            obtain ⟨τ6, G6, S6, q6⟩ := done
            exact bye S6 fun t7 J7 => ⟨_, _, J7, q6⟩
    exact walk hh wish
  · cases fl with
    | ret u =>
      obtain ⟨v, τ, G, Ja, rv, q⟩ := done
      exact ⟨v, τ, G, Ja.ofTry iok, rv, q⟩
    | next =>
      obtain ⟨τ, G, Ja, q⟩ := done
      exact wpAny_execs_nil ⟨τ, G, Ja.ofTry iok, q⟩
    | _ =>
      obtain ⟨τ, G, Ja, q⟩ := done
      exact ⟨τ, G, Ja.ofTry iok, q⟩
end
end Vf

set_option Elab.async false
set_option linter.all false
set_option maxRecDepth 100000
set_option maxHeartbeats 2000000
namespace Vf
open PySem PySem.Spec PyProof.Rows L2
section
variable {X : Cx}
/-- xs.count(y), flat items -/
def rCntV (K : PySem.W.Frag) : V → List V → Hp → VK → Prop := fun x xs H Q => ∃ (p : Addr) (ys : List V) (y : V), x = .ref p ∧ xs = [y] ∧ SqL K H p ys ∧ flatV y = true ∧ ys.all flatV = true ∧ Q (.int ((ys.countP fun z => eqV z y : Nat) : Int)) H
theorem count_answ (e : V → Bool) : ∀ {xs : List V} {us : List Value}, Vals xs us → us.countP (answ e) = xs.countP e
  | _, _, .nil => rfl
  | _, _, .cons r t => by
    rw [List.countP_cons, List.countP_cons, answ_of e r, count_answ e t]
theorem mt_lcountV : MtR X "list.count" (rCntV X.K) := by
  intro pins s σ H x xs v us Q I rx rxs h
  obtain ⟨p, ys, y, rfl, rfl, hs, fy, fs, q⟩ := h
  cases rx
  obtain ⟨u, rfl, ru⟩ := rxs.one
  obtain ⟨its, rv, ⟨⟨cls, dd, data, sl⟩, n, ho, hc, hdn, hd⟩, hlen⟩ := I.list hs
  simp only at hc hd
  subst hc hd
  refine call_meets PySem.F.slot_list_count ⟨_, ho, rfl⟩ PySem.F.entry_list_count (PySem.F.args_list_count_2 _ _)
    (SeqAt.list_countAt p its.toArray n dd sl u (answ fun z => eqV z y)) ⟨ho, fun w hw => ?_, ?_⟩
  · obtain ⟨z, hz, rz⟩ := vals_mem rv (by simpa using hw)
    rw [answ_of _ rz]
    exact eqAt_V rz ru (List.all_eq_true.mp fs z hz) fy
  · have ec : its.toArray.toList.countP (answ fun z => eqV z y) = ys.countP fun z => eqV z y := count_answ _ rv
    refine ⟨.int ((ys.countP fun z => eqV z y : Nat) : Int), H, I.tok _, ⟨s.toks, ?_⟩, q⟩
    show Value.int ((its.toArray.toList.countP (answ fun z => eqV z y) : Nat) : Int) s.toks = Value.int ((ys.countP fun z => eqV z y : Nat) : Int) s.toks
    rw [ec]
/-! ### readings over a given K -/
theorem mt_lcountVK {K : PySem.W.Frag} (h : X.K = K) : MtR X "list.count" (rCntV K) := h ▸ mt_lcountV
theorem sl_listK {K : PySem.W.Frag} (h : X.K = K) : SlR X (rSlL K) := h ▸ sl_list
theorem sl_tupK {K : PySem.W.Frag} (h : X.K = K) : SlR X (rSlT K) := h ▸ sl_tup
theorem op_in_seqK {K : PySem.W.Frag} (hK : X.K = K) : OpR X (compareOp .In) (rIn K false) := hK ▸ op_in_seq
theorem op_notIn_seqK {K : PySem.W.Frag} (hK : X.K = K) : OpR X (compareOp .NotIn) (rIn K true) := hK ▸ op_notIn_seq
theorem op_notInIK {K : PySem.W.Frag} (hK : X.K = K) (hu : X.A.units + 64 < cLine) : OpR X (compareOp .NotIn) (rNotInI K) := hK ▸ op_notInI hu
theorem op_inBK {K : PySem.W.Frag} {n : Nat} (hK : X.K = K) (hr : Room (n + 1) X.A) : OpR X (compareOp .In) (rInB K false (DW K)) := hK ▸ op_inB (n := n) eqB_w hr
end
section
variable {X : Cx} {o e : Expr} {es : List Expr} {to : TE} {t : TA} {name : Str} {apos cpos : Pos} {T id : String} {r : V → List V → Hp → VK → Prop}
theorem pe_bmK {K : PySem.W.Frag} (hK : X.K = K) (pa : PlainAttrs T) (slot : Slot T name id) (hty : typeOf (.builtin id) = pure (.type "method_descriptor")) (hm : MtR X id r) (ho : PE X o to) (ha : PA X (e :: es) t)
    (hbase : attributeBase o name X.env (eval o X.env) = eval o X.env := by rfl)
    (hfew : ((backTo cpos (starEach (e :: es) X.env)).all (fun x => !x.1) && (backToKw cpos (keywordEach [] X.env)).all (fun x => x.1.isSome)
      && decide ((e :: es).length + ([] : List Keyword).length + (if ([] : List Keyword).isEmpty then 0 else 1) < 30)) = true := by rfl)
    (hline : (apos.endLine == cpos.line) = true := by rfl) (hs : starEach (e :: es) X.env = (false, eval e X.env) :: starEach es X.env := by rfl) (hplain : (backTo cpos (starEach es X.env)).any (·.1) = false := by rfl) :
    PE X (.Call (.Attribute o name apos) (e :: es) [] cpos) (tBM K T r to t) := hK ▸ pe_bm pa slot hty hm ho ha hbase hfew hline hs hplain
end
/-! ### a comprehension of two walks -/
theorem lc2_it {J : It} {n : Nat} {G : Hp → Prop} {Y : Nat → Hp → V → Hp → Prop} (w : Walk J n G Y) {g g1 : TG} {tt tt1 : TT} {wi1 : TI} {te : TE} {vs vs1 : List Nat} {σ : L2.St} {H1 : Hp} {D : Addr} {Qd : Hp → Prop} (Pv : Nat → Hp → Prop) (h0 : Pv 0 (upd H1 D (.lst []))) (hG : ∀ i H, i ≤ n → Pv i H → G H)
    (hs : ∀ i x H H', i < n → Pv i H → Y i H x H' → g x (wipe σ vs) H' fun σ2 H2 => wipe σ2 vs = wipe σ vs ∧ tt σ2 H2 fun b H3 =>
      if b = true then wi1 σ2 H3 fun J1 H4 => ∃ W1 : Nat → Nat → Hp → Prop, (∃ m, W1 0 m H4) ∧ ∀ j k H, W1 j k H →
        (J1.stop j H ∧ Pv (i + 1) H) ∨ (J1.go j H ∧ ∃ Nx1 : Hp → Prop, (∀ H', Nx1 H' → ∃ k', k' < k ∧ W1 (j + 1) k' H') ∧ ∀ x H', J1.yld j H x H' → g1 x (wipe σ2 vs1) H' fun σ3 H5 => wipe σ3 vs1 = wipe σ2 vs1 ∧ tt1 σ3 H5 fun b H6 =>
          if b = true then te σ3 H6 fun y H7 => ∃ acc, H7 D = some (.lst acc) ∧ acc.length < sizeLine ∧ Nx1 (upd H7 D (.lst (acc ++ [y]))) else Nx1 H6)
      else Pv (i + 1) H3) (hd : ∀ H, Pv n H → Qd H) :
    ∃ W : Nat → Nat → Hp → Prop, (∃ m, W 0 m (upd H1 D (.lst []))) ∧ ∀ i m H, W i m H →
      (J.stop i H ∧ Qd H) ∨ (J.go i H ∧ ∃ Nx : Hp → Prop, (∀ H', Nx H' → ∃ m', m' < m ∧ W (i + 1) m' H') ∧ ∀ x H', J.yld i H x H' → g x (wipe σ vs) H' fun σ2 H2 => wipe σ2 vs = wipe σ vs ∧ tt σ2 H2 fun b H3 =>
        if b = true then wi1 σ2 H3 fun J1 H4 => ∃ W1 : Nat → Nat → Hp → Prop, (∃ m, W1 0 m H4) ∧ ∀ j k H, W1 j k H →
          (J1.stop j H ∧ Nx H) ∨ (J1.go j H ∧ ∃ Nx1 : Hp → Prop, (∀ H', Nx1 H' → ∃ k', k' < k ∧ W1 (j + 1) k' H') ∧ ∀ x H', J1.yld j H x H' → g1 x (wipe σ2 vs1) H' fun σ3 H5 => wipe σ3 vs1 = wipe σ2 vs1 ∧ tt1 σ3 H5 fun b H6 =>
            if b = true then te σ3 H6 fun y H7 => ∃ acc, H7 D = some (.lst acc) ∧ acc.length < sizeLine ∧ Nx1 (upd H7 D (.lst (acc ++ [y]))) else Nx1 H6)
        else Nx H3) := by
  refine ⟨fun i m H => m = n - i ∧ i ≤ n ∧ Pv i H, ⟨n, by simp, Nat.zero_le _, h0⟩, ?_⟩
  rintro i m H ⟨rfl, hi, p⟩
  have q := hG i H hi p
  by_cases hlt : i < n
  · exact .inr ⟨w.goes i H hlt q, Pv (i + 1), fun H' p' => ⟨n - (i + 1), by omega, rfl, hlt, p'⟩, fun x H' y => hs i x H H' hlt p (w.yields i H x H' hlt q y)⟩
  · have e : i = n := by omega
    subst e
    exact .inl ⟨w.stops H q, hd H p⟩
/-- its inner walk -/
theorem lc2_in {J1 : It} {n : Nat} {G : Hp → Prop} {Y : Nat → Hp → V → Hp → Prop} (w : Walk J1 n G Y) {g1 : TG} {tt1 : TT} {te : TE} {vs1 : List Nat} {σ2 : L2.St} {H4 : Hp} {D : Addr} {Qd : Hp → Prop} (Pv : Nat → Hp → Prop) (h0 : Pv 0 H4) (hG : ∀ i H, i ≤ n → Pv i H → G H)
    (hs : ∀ i x H H', i < n → Pv i H → Y i H x H' → g1 x (wipe σ2 vs1) H' fun σ3 H5 => wipe σ3 vs1 = wipe σ2 vs1 ∧ tt1 σ3 H5 fun b H6 =>
      if b = true then te σ3 H6 fun y H7 => ∃ acc, H7 D = some (.lst acc) ∧ acc.length < sizeLine ∧ Pv (i + 1) (upd H7 D (.lst (acc ++ [y]))) else Pv (i + 1) H6) (hd : ∀ H, Pv n H → Qd H) :
    ∃ W1 : Nat → Nat → Hp → Prop, (∃ m, W1 0 m H4) ∧ ∀ j k H, W1 j k H →
      (J1.stop j H ∧ Qd H) ∨ (J1.go j H ∧ ∃ Nx1 : Hp → Prop, (∀ H', Nx1 H' → ∃ k', k' < k ∧ W1 (j + 1) k' H') ∧ ∀ x H', J1.yld j H x H' → g1 x (wipe σ2 vs1) H' fun σ3 H5 => wipe σ3 vs1 = wipe σ2 vs1 ∧ tt1 σ3 H5 fun b H6 =>
        if b = true then te σ3 H6 fun y H7 => ∃ acc, H7 D = some (.lst acc) ∧ acc.length < sizeLine ∧ Nx1 (upd H7 D (.lst (acc ++ [y]))) else Nx1 H6) := by
  refine ⟨fun i m H => m = n - i ∧ i ≤ n ∧ Pv i H, ⟨n, by simp, Nat.zero_le _, h0⟩, ?_⟩
  rintro i m H ⟨rfl, hi, p⟩
  have q := hG i H hi p
  by_cases hlt : i < n
  · exact .inr ⟨w.goes i H hlt q, Pv (i + 1), fun H' p' => ⟨n - (i + 1), by omega, rfl, hlt, p'⟩, fun x H' y => hs i x H H' hlt p (w.yields i H x H' hlt q y)⟩
  · have e : i = n := by omega
    subst e
    exact .inl ⟨w.stops H q, hd H p⟩
/-! ### name = {..: .. for ..} on one line -/
section
variable {X : Cx}
theorem sw_trueD {kx vx : Expr} {gs : List Comprehension} {scope : Scope} {pos py : Pos} {y : Str} {l : Nat} {env : Env} (hk : env.scope.kind = .function) (hy : env.scope.names.lookup y = some .local) (hl : (py.line == pos.line) = true)
    (ha : (scope.names.any fun (n, k) => n == y && (k == .local || k == .cell)) = false) : swapsWith (.DictComp kx vx gs scope pos) (some (.Name y py)) l env = pure true := by
  have ky : env.kindOf y = some .local := hy
  have hb : env.blockKind = .function := by unfold Env.blockKind; rw [hk]; rfl
  unfold swapsWith
  simp only [hb, ky, ha, Expr.pos, hl]
  rfl
theorem ps_setDc {i : Nat} {y : Str} {py : Pos} {kx vx tg iter : Expr} {ifs : List Expr} {scope : Scope} {own : List (Str × Nat)} {pos spos : Pos} {wi : TI} {g : TG} {tt : TT} {tk tv : TE} (hc : X.calm = true) (hN : X.N.Nodup) (hy : X.N[i]? = some y) (hyl : X.env.scope.names.lookup y = some .local)
    (hsw : swapsWith (.DictComp kx vx [⟨tg, iter, ifs, 0⟩] scope pos) (some (.Name y py)) spos.line X.env = pure true) (hi : PI X tg iter wi) (ok : BlkOk X.N X.env.scope scope own)
    (hg : ∀ (s : Shared) (H : Hp) (C : Addr) (cl : List (Str × Addr)) (fp : List Addr), PG (X.blk s H scope (compEnvC scope cl C X.env) fp) tg g) (ht : ∀ (s : Shared) (H : Hp) (C : Addr) (cl : List (Str × Addr)) (fp : List Addr), PTs (X.blk s H scope (compEnvC scope cl C X.env) fp) ifs tt)
    (hk : ∀ (s : Shared) (H : Hp) (C : Addr) (cl : List (Str × Addr)) (fp : List Addr), PE (X.blk s H scope (compEnvC scope cl C X.env) fp) kx tk)
    (he : ∀ (s : Shared) (H : Hp) (C : Addr) (cl : List (Str × Addr)) (fp : List Addr), PE (X.blk s H scope (compEnvC scope cl C X.env) fp) vx tv) (hs : ∀ x, foldedSetIterable iter X.env x = pure x := by intro _; rfl) :
    PS X (.Assign [.Name y py] (.DictComp kx vx [⟨tg, iter, ifs, 0⟩] scope pos) spos) (tAsg (tDc wi g tt tk tv (own.map (·.2))) (gName i)) := by
  refine ⟨fun pins s σ H D I h => ?_⟩
  rw [PySem.exec_Assign_Name_used _ _ _ _ hsw]
  refine wpAny_bind (wpAny_standAt (wpAny_bind ?_))
  show wpAny _ X.A (do let _ ← comprehension (.DictComp kx vx [⟨tg, iter, ifs, 0⟩] scope pos) scope X.env (firstIterPos [⟨tg, iter, ifs, 0⟩] pos) newDict false (eval iter X.env) (some (assign (.Name y py) X.env))) _ _ s
  have h : tDc wi g tt tk tv (own.map (·.2)) σ H (fun x H1 => gName i x σ H1 D.nx) := h
  refine wpAny_bind (thn (dc_core (Qf := fun _ s' => SP X pins D .next s') hc hN I hi ok hg ht hk he hs h fun L C s' m H' I' q hn f => ?_) fun _ s' hq => wpAny_pure (wpAny_pure hq))
  show wpAny _ _ (assign (.Name y py) X.env (.ref L)) _ _ _
  refine wpAny_assign_Name (store_ok2 (v := V.ref L) I' hN hy (.inl hyl) rfl (fun s2 I2 ⟨a, sb, ha⟩ => ?_) (.inr hyl))
  obtain ⟨f0, f1, f2, f3, f4, f5⟩ := f
  have haC : C ≠ a := by
    rcases ha with z | z
    · rw [z]; exact f1
    · exact fun e => f4 y a z e.symm
  refine ⟨m, hn.sameBut sb haC, fun h3 sb3 => ?_⟩
  exact ⟨_, H', I2.turned (t' := s2.toks) (fun b o hb e => (sb3.2 b hb).trans e) f0 f1 f3 f4 f5, q⟩
end
end Vf

set_option Elab.async false
set_option linter.all false
set_option maxRecDepth 100000
set_option maxHeartbeats 2000000
namespace Vf
open PySem PySem.Spec PyProof.Rows L2
/-! ### and, or: one way on, whatever the parts answer -/
section
variable {X : Cx} {e a b : Expr} {rest : List Expr} {pos : Pos}
def tWk (t : TE) : TE := fun σ H Q => ∃ R : VK, t σ H R ∧ ∀ v H', R v H' → Q v H'
def tTWk (t : TT) : TT := fun σ H Q => ∃ R : Bool → Hp → Prop, t σ H R ∧ ∀ c H', R c H' → Q c H'
theorem pe_weak {t : TE} (h : PE X e t) : PE X e (tWk t) := ⟨fun pins s σ H Q I ⟨R, h1, k⟩ =>
  PySem.wpAny_mono (h.run pins s σ H R I h1) (fun v s' ⟨x, H', I', r, q⟩ => ⟨x, H', I', r, k _ _ q⟩) fun _ _ z => z⟩
theorem pt_weak {t : TT} (h : PT X e t) : PT X e (tTWk t) := ⟨fun pins s σ H Q I ⟨R, h1, k⟩ =>
  PySem.wpAny_mono (h.run pins s σ H R I h1) (fun v s' ⟨H', I', q⟩ => ⟨H', I', k _ _ q⟩) fun _ _ z => z⟩
theorem pw_weak {t : TT} (h : PW X e t) : PW X e (tTWk t) := ⟨fun wh pins s σ H Q I ⟨R, h1, k⟩ =>
  PySem.wpAny_mono (h.run wh pins s σ H R I h1) (fun v s' ⟨H', I', q⟩ => ⟨H', I', k _ _ q⟩) fun _ _ z => z⟩
def tAndB (t u : TT) : TT := fun σ H Q => t σ H fun c H1 => ∃ (d : Bool) (R : Hp → Prop), (c = true → u σ H1 fun b H2 => b = d ∧ R H2) ∧ (c = false → R H1) ∧ ∀ H2, R H2 → Q (c && d) H2
def tOrB (t u : TT) : TT := fun σ H Q => t σ H fun c H1 => ∃ (d : Bool) (R : Hp → Prop), (c = false → u σ H1 fun b H2 => b = d ∧ R H2) ∧ (c = true → R H1) ∧ ∀ H2, R H2 → Q (c || d) H2
def tAndVB (t u : TE) : TE := fun σ H Q => t σ H fun x H1 => ∃ (c d : Bool) (R : Hp → Prop), x = .bl c ∧ (c = true → u σ H1 fun b H2 => b = .bl d ∧ R H2) ∧ (c = false → R H1) ∧ ∀ H2, R H2 → Q (.bl (c && d)) H2
def tOrVB (t u : TE) : TE := fun σ H Q => t σ H fun x H1 => ∃ (c d : Bool) (R : Hp → Prop), x = .bl c ∧ (c = false → u σ H1 fun b H2 => b = .bl d ∧ R H2) ∧ (c = true → R H1) ∧ ∀ H2, R H2 → Q (.bl (c || d)) H2
theorem pw_andB {t u : TT} (ha : PT X a t) (hb : PW X (.BoolOp .And (b :: rest) pos) u) : PW X (.BoolOp .And (a :: b :: rest) pos) (tAndB t u) :=
  ⟨fun wh pins s σ H Q I h => (pw_and (pt_weak ha) (pw_weak hb)).run wh pins s σ H Q I ⟨_, h, fun c H1 ⟨d, R, h1, h2, k⟩ => by
    cases c with
    | true => exact iteT ⟨_, h1 rfl, fun b H2 ⟨e, r⟩ => e ▸ k H2 r⟩
    | false => exact iteF (k H1 (h2 rfl))⟩⟩
theorem pw_orB {t u : TT} (ha : PT X a t) (hb : PW X (.BoolOp .Or (b :: rest) pos) u) : PW X (.BoolOp .Or (a :: b :: rest) pos) (tOrB t u) :=
  ⟨fun wh pins s σ H Q I h => (pw_or (pt_weak ha) (pw_weak hb)).run wh pins s σ H Q I ⟨_, h, fun c H1 ⟨d, R, h1, h2, k⟩ => by
    cases c with
    | true => exact iteT (k H1 (h2 rfl))
    | false => exact iteF ⟨_, h1 rfl, fun b H2 ⟨e, r⟩ => e ▸ k H2 r⟩⟩⟩
theorem pe_andB {t u : TE} (ha : PE X a t) (hb : PE X (.BoolOp .And (b :: rest) pos) u) : PE X (.BoolOp .And (a :: b :: rest) pos) (tAndVB t u) :=
  ⟨fun pins s σ H Q I h => (pe_and (pe_weak ha) (pe_weak hb)).run pins s σ H Q I ⟨_, h, fun x H1 ⟨c, d, R, e, h1, h2, k⟩ => ⟨c, e, by
    cases c with
    | true => exact iteT ⟨_, h1 rfl, fun b H2 ⟨e, r⟩ => e ▸ k H2 r⟩
    | false => exact iteF (k H1 (h2 rfl))⟩⟩⟩
theorem pe_orB {t u : TE} (ha : PE X a t) (hb : PE X (.BoolOp .Or (b :: rest) pos) u) : PE X (.BoolOp .Or (a :: b :: rest) pos) (tOrVB t u) :=
  ⟨fun pins s σ H Q I h => (pe_or (pe_weak ha) (pe_weak hb)).run pins s σ H Q I ⟨_, h, fun x H1 ⟨c, d, R, e, h1, h2, k⟩ => ⟨c, e, by
    cases c with
    | true => exact iteT (k H1 (h2 rfl))
    | false => exact iteF ⟨_, h1 rfl, fun b H2 ⟨e, r⟩ => e ▸ k H2 r⟩⟩⟩⟩
/-- a if t else b: one value -/
def tIfB (t : TT) (u v : TE) : TE := fun σ H Q => t σ H fun c H1 => ∃ (x : V) (R : Hp → Prop), (c = true → u σ H1 fun y H2 => y = x ∧ R H2) ∧ (c = false → v σ H1 fun y H2 => y = x ∧ R H2) ∧ ∀ H2, R H2 → Q x H2
theorem pe_ifExpB {c : Expr} {t : TT} {u v : TE} (hc : PT X c t) (ha : PE X a u) (hb : PE X b v) : PE X (.IfExp c a b pos) (tIfB t u v) :=
  ⟨fun pins s σ H Q I h => (pe_ifExp (pt_weak hc) (pe_weak ha) (pe_weak hb)).run pins s σ H Q I ⟨_, h, fun c H1 ⟨x, R, h1, h2, k⟩ => by
    cases c with
    | true => exact iteT ⟨_, h1 rfl, fun y H2 ⟨e, r⟩ => e ▸ k H2 r⟩
    | false => exact iteF ⟨_, h2 rfl, fun y H2 ⟨e, r⟩ => e ▸ k H2 r⟩⟩⟩
/-- a tuple as target, within a comprehension -/
theorem pg_tupK {K : PySem.W.Frag} {es : List Expr} {k : Nat} {t : TGs} (hK : X.K = K) (n : Nat) (hc : X.calm = true) (h : PGs X es t)
    (hn : (assignEach es X.env).length = n := by rfl) (hst : (assignEach es X.env).findIdx? (·.1) = none := by rfl) : PG X (.Tuple es k pos) (gTup K n t) := hK ▸ pg_tup hc h hn hst
/-- a test whose two ways are told by one -/
theorem ite_one {c : Bool} {A B : Prop} (h1 : c = true → A) (h2 : c = false → B) : if c = true then A else B := by
  cases c with
  | true => exact iteT (h1 rfl)
  | false => exact iteF (h2 rfl)
end
/-! ### f(e, .., k = v, ..) of a def with defaults -/
def tFnK (n m : Nat) (sp : Sp) (gV : List V → List V → List V) (E : XK) (t tk : TA) : TE := fun σ H Q => t σ H fun vs H1 => tk σ H1 fun zs H2 => vs.length = n ∧ zs.length = m ∧ sp (gV vs zs) H2 Q E
theorem c_fnK {X : Cx} {CX : CXT} {k j n : Nat} {ps ks : List Str} {sp : Sp} {x : Str} {p pos : Pos} {e : Expr} {es : List Expr} {kws : List Keyword} {t tk : TA} {gV : List V → List V → List V} {E : XK} (O : OkK X.prog X.w X.K X.mg X.base CX k (x, none) ps n ks gV sp) (hr : Room j X.A) (hj : k ≤ j) (kp : PySem.W.keepIn X.K (.ref (He.fAd X.K (x, none))) = true)
    (hm : X.mg x = some (.ref (He.ga X.K x))) (hx : Passes CX X E) (ha : PA X (e :: es) t) (hkw : PK X kws tk) (hg : Gl X x := by rfl) (hall : (backToKw pos (keywordEach kws X.env)).all (·.1.isSome) = true := by rfl) (hks : (backToKw pos (keywordEach kws X.env)).filterMap (·.1) = ks := by rfl)
    (hdb : (x == ("__debug__" : Str)) = false := by decide) (he : starEach (e :: es) X.env = (false, eval e X.env) :: starEach es X.env := by rfl) (hpl : ((backTo pos (starEach (e :: es) X.env)).any (·.1) || (backToKw pos (keywordEach kws X.env)).any (·.1.isNone)) = false := by rfl) :
    PE X (.Call (.Name x p) (e :: es) kws pos) (tFnK n ks.length sp gV E t tk) := by
  obtain ⟨fd, g, F, b⟩ := O.ex
  refine ⟨fun pins s σ H Q I h => wpAny_Call_Name_kw (ld_glob I hg hm ?_ hdb)⟩
  refine PySem.W.callWith_KW (h₀ := X.base) I.ok.mod.kin kp hall (thn (ha.run pos pins s σ H _ I h) fun us s1 ⟨vs, H1, I1, r, q⟩ => thn (hkw.run pos pins s1 σ H1 _ I1 q) fun ws s2 ⟨zs, H2, I2, rz, l1, l2, q2⟩ => ⟨I2.kIn, ?_⟩) hpl he
  rw [hks]
  refine wpAny_call (codeAny_mono (F.run X.A X.stack s2 H2 ⟨us, ks.zip ws⟩ (g us ws) (gV vs zs) Q E (hr.mono hj) I2.env0 (b.to s2 us ws I2.kIn (r.length.symm.trans l1) (rz.length.symm.trans l2)) (b.rel r rz) q2) fun r s' hq => ?_)
  match r, hq with
  | .error e, hq => exact hx pins σ H2 s2 e s' I2 hq
  | .ok (.ret u), hq => exact I2.after hq
end Vf

set_option Elab.async false
set_option linter.all false
set_option maxRecDepth 100000
set_option maxHeartbeats 2000000
/-! ### enumerate(list, start = c) -/
namespace Vf
open PySem PySem.Spec PyProof.Rows L2
section
variable {M : Model} {A : Around} {E : Value → Shared → Prop} {s : Shared} {env : Env}
theorem callWith_type_kwB {pos : Pos} {T : String} {first : List Value} {args : List (Bool × Sem Value)} {keywords : List (Option Str × Sem Value)} {Q : Value → Shared → Prop}
    (hplain : args.any (·.1) = false) (hkw : keywords.any (·.1.isNone) = false)
    (h : wpAny M A (evalArgs (.type T) true args keywords) (fun a s₁ => wpAny M A (call (.type T) (first ++ a.pos) a.kw) Q E s₁) E s) :
    wpAny M A (callWith pos (.type T) first args keywords) Q E s := by
  unfold callWith
  refine wpAny_bind (wpAny_holding (wpAny_mono h (fun a s₁ h₁ => wpAny_bind (wpAny_standAt ?_)) fun _ _ x => x))
  simp only [hplain, hkw, Bool.or_false]
  refine wpAny_bind (wpAny_pure ?_)
  exact wpAny_bind (wpAny_mono h₁ (fun r s₂ hr => wpAny_bind (wpAny_holding (wpAny_point (wpAny_pure hr)))) fun _ _ x => x)
theorem callWith_typeKw {pos : Pos} {T : String} {e : Expr} {rest : List Expr} {kws : List Keyword} {Q : Value → Shared → Prop}
    (h : wpAny M A (spliced (backTo pos (starEach (e :: rest) env))) (fun vs s₁ => wpAny M A (evalAll ((backToKw pos (keywordEach kws env)).map (·.2)))
      (fun kvs s₂ => wpAny M A (call (.type T) vs (((backToKw pos (keywordEach kws env)).filterMap (·.1)).zip kvs)) Q E s₂) E s₁) E s)
    (he : backTo pos (starEach (e :: rest) env) = (false, eval e env) :: backTo pos (starEach rest env) := by rfl)
    (hplain : (backTo pos (starEach (e :: rest) env)).any (·.1) = false := by rfl)
    (hall : (backToKw pos (keywordEach kws env)).all (·.1.isSome) = true := by rfl)
    (hkw : (backToKw pos (keywordEach kws env)).any (·.1.isNone) = false := by rfl) :
    wpAny M A (callWith pos (.type T) [] (backTo pos (starEach (e :: rest) env)) (backToKw pos (keywordEach kws env))) Q E s := by
  refine callWith_type_kwB hplain hkw ?_
  rw [he] at h ⊢
  exact PyProof.Rows.evalArgs_kwB hall h
end
/-- the list at a, each item in a new pair, counted from c on -/
def IteS (K : PySem.W.Frag) (c : Int) (a : Addr) : It :=
  ⟨fun i H => ∃ (xs : List V) (x : V), SqL K H a xs ∧ xs[i]? = some x, fun i H v H' => ∃ T x, v = .ref T ∧ H T = none ∧ H' = upd H T (.tup [.int (c + (i : Nat)), x]) ∧ ∀ xs, SqL K H a xs → xs[i]? = some x, fun i H => ∃ xs : List V, SqL K H a xs ∧ xs.length = i⟩
theorem turn_enumS {P : Program} {w : World} {K : PySem.W.Frag} {elts : List Expr} {kk : Nat} {tpos : Pos} (c : Int) (a e it : Addr) :
    Turn P w K (.Tuple elts kk tpos) (IteS K c a) [e, it] e (fun i h => (∃ old, IsEnum h e it (c + ((i : Nat) : Int)) old) ∧ h.IsListIter it a i ∧ e ≠ it) where
  mem := by simp
  obj := fun i h st b hb => by
    obtain ⟨⟨old, he⟩, ⟨o, ho, hc, hd⟩, _⟩ := st
    have e' : b = e ∨ b = it := by simpa using hb
    rcases e' with z | z
    · rw [z]; exact ⟨_, he, fun v q => nomatch q⟩
    · rw [z]; exact ⟨o, ho, fun v q => by rw [hd] at q; cases q⟩
  keep := fun i h h' st k => let ⟨⟨old, he⟩, hi, hne⟩ := st; ⟨⟨old, k e (by simp) _ he⟩, hi.at fun o q => k it (by simp) o q, hne⟩
  item := by
    intro X hP hw hK hc i pins s σ H E I hf st hg
    subst hP hw hK
    obtain ⟨⟨old, he⟩, hit, hne⟩ := st
    obtain ⟨xs, x, hq, hx⟩ := hg
    obtain ⟨its, rv, p, hz⟩ := I.list hq
    obtain ⟨u, hu, ru⟩ := rv.get hx
    have pT : s.heap.IsList a its.toArray := p.isList
    have hel : e < s.heap.objs.size := Heap.lt_size he
    have hil : it < s.heap.objs.size := by obtain ⟨_, q, _⟩ := hit; exact Heap.lt_size q
    have nai : a ≠ it := fun z => by
      subst z
      obtain ⟨o1, h1, c1, _⟩ := pT
      obtain ⟨o2, h2, c2, _⟩ := hit
      rw [h1] at h2
      cases h2
      rw [c1] at c2
      injection c2 with c2
      exact absurd c2 (by decide)
    have nae : a ≠ e := fun z => by
      subst z
      obtain ⟨o1, h1, c1, _⟩ := pT
      rw [show s.heap.get? a = _ from he] at h1
      cases h1
      injection c1 with c1
      exact absurd c1 (by decide)
    have hli : i < its.toArray.size := by
      have := (List.getElem?_eq_some_iff.mp hu).1
      simpa using this
    have hh : X.A.in1.handled = none := I.ok.hd hc
    refine wpAny_pyNext_enum_itemC (Draws.list hh it a nai its.toArray) he ⟨hit, pT⟩ hli hne (by simp [hne, nae.symm]) fun v h' tk hv ho hit' hT hsz hk => ?_
    have ev : v = u := by
      have h1 : its[i]? = some v := by simpa using hv
      rw [hu] at h1
      exact (Option.some.inj h1).symm
    subst ev
    refine ⟨_, rfl, wpAny_letOwnedTupleGo_enum (s := { s with heap := h', toks := tk + 1 }) ho fun h'' he' sb => ?_⟩
    have hT2 : h''.get? s.heap.objs.size = some { cls := .type "tuple", data := .seq #[.int (c + (i : Nat)) tk, v] } := (sb.2 _ (Nat.ne_of_gt hel)).trans hT
    have new : ObjOk X.prog X.w (upd H s.heap.objs.size (.tup [.int (c + (i : Nat)), x])) h'' s.heap.objs.size (.tup [.int (c + (i : Nat)), x]) :=
      ⟨by show 2 ≤ sizeLine; decide, [.int (c + (i : Nat)) tk, v], .cons ⟨_, rfl⟩ (.cons ru .nil), ⟨_, hT2, rfl, _, rfl⟩⟩
    have I1 : Inv X pins σ (upd H s.heap.objs.size (.tup [.int (c + (i : Nat)), x])) { s with heap := h'', toks := tk + 1 } :=
      I.turnedNew (ch := [e, it]) (fun b ob hb q => (sb.2 b (fun z => hb (by simp [z]))).trans (hk b ob (fun z => hb (by simp [z])) (fun z => hb (by simp [z])) q)) hf (Nat.le_refl _) new
    refine ⟨.ref s.heap.objs.size, _, I1, rfl, ⟨_, x, rfl, I.hok.fresh (Nat.le_refl _), rfl, fun ys hy => by rw [I.list_inj hy hq]; exact hx⟩, ⟨⟨v, ?_⟩, hit'.1.at fun o q => (sb.2 it (Ne.symm hne)).trans q, hne⟩, fun b hb => ?_⟩
    · have e1 : c + ((i + 1 : Nat) : Int) = c + (i : Int) + 1 := by omega
      rw [e1]; exact he'
    · have hb' : b < s.heap.objs.size := by
        have e' : b = e ∨ b = it := by simpa using hb
        rcases e' with z | z
        · rw [z]; exact hel
        · rw [z]; exact hil
      rw [upd_ne (Nat.ne_of_lt hb')]
      exact (hf b hb).1
  done := by
    intro X hP hw hK hc i pins s σ H E I hf st hg
    subst hP hw hK
    obtain ⟨⟨old, he⟩, hit, hne⟩ := st
    obtain ⟨xs, hq, hx⟩ := hg
    obtain ⟨its, rv, p, hz⟩ := I.list hq
    have pT : s.heap.IsList a its.toArray := p.isList
    obtain ⟨f0, f1, f2, f3, f4, f5⟩ := hf it (by simp)
    have hl := rv.length
    have nai : a ≠ it := fun z => by
      subst z
      obtain ⟨o1, h1, c1, _⟩ := pT
      obtain ⟨o2, h2, c2, _⟩ := hit
      rw [h1] at h2
      cases h2
      rw [c1] at c2
      injection c2 with c2
      exact absurd c2 (by decide)
    have hh : X.A.in1.handled = none := I.ok.hd hc
    have hin : its.toArray.size = i := by simp; omega
    subst hin
    exact wpAny_pyNext_enum_endD (Draws.list hh it a nai its.toArray) he ⟨hit, pT⟩ fun h' eb => ⟨rfl, I.turned (t' := s.toks) (fun b o hb q => eb b o hb q) f0 f1 f3 f4 f5⟩
  self := fun A i s Q E st h => let ⟨⟨_, he⟩, _⟩ := st; wpAny_pyIter_enum he h
def iEnumS (K : PySem.W.Frag) (ta tk : TA) : TI := fun σ H R => ta σ H fun vs H1 => tk σ H1 fun ks H2 => ∃ a xs c, vs = [.ref a] ∧ ks = [.int c] ∧ -(2 ^ 63) ≤ c ∧ c < 2 ^ 63 ∧ SqL K H2 a xs ∧ R (IteS K c a) H2
theorem pi_enumS {X : Cx} {e : Expr} {ta tk : TA} {kws : List Keyword} {p pos tpos : Pos} {elts : List Expr} {kk : Nat} (hg : Gl X "enumerate") (hm : X.mg "enumerate" = none) (ha : PA X [e] ta) (hkw : PK X kws tk)
    (hks : (backToKw pos (keywordEach kws X.env)).filterMap (·.1) = [Str.ofString "start"] := by rfl) (he : backTo pos (starEach [e] X.env) = (false, eval e X.env) :: backTo pos (starEach [] X.env) := by rfl)
    (hplain : (backTo pos (starEach [e] X.env)).any (·.1) = false := by rfl) (hall : (backToKw pos (keywordEach kws X.env)).all (·.1.isSome) = true := by rfl) (hnone : (backToKw pos (keywordEach kws X.env)).any (·.1.isNone) = false := by rfl) :
    PI X (.Tuple elts kk tpos) (.Call (.Name "enumerate" p) [e] kws pos) (iEnumS X.K ta tk) := by
  refine ⟨fun pins s σ H R I h => ?_⟩
  refine PySem.wpAny_Call_Name_kw (ld_blt I hg hm boot_enumerate (callWith_typeKw (thn (ha.run pos pins s σ H _ I h) fun us s1 ⟨vs, H1, I1, r1, q1⟩ => ?_) he hplain hall hnone))
  refine thn (hkw.run pos pins s1 σ H1 _ I1 q1) fun ws s2 ⟨zs, H2, I2, rz, q2⟩ => ?_
  obtain ⟨a, xs, c, ex, ez, c0, c1, hq, q⟩ := q2
  subst ex ez
  rw [hks]
  cases r1 with
  | cons r rr =>
    cases rr
    cases r
    cases rz with
    | cons rc rr =>
      cases rr
      obtain ⟨t, rfl⟩ := rc
      obtain ⟨its, rv, p', hz⟩ := I2.list hq
      refine enum_begins_start (begins_list a its.toArray) p'.isList c0 c1 fun h' he hit hsz hk => wpAny_pyIter_enum he ?_
      have I3 : Inv X pins σ H2 { s2 with heap := h' } := I2.kept (t' := s2.toks) hk
      refine ⟨s2.heap.objs.size + 1, [s2.heap.objs.size + 1, s2.heap.objs.size], _, _, H2, rfl, I3, turn_enumS c a (s2.heap.objs.size + 1) s2.heap.objs.size, ⟨⟨.none, by simpa using he⟩, ⟨_, hit, rfl, rfl⟩, Nat.succ_ne_self _⟩, fun b hb => ?_, q⟩
      have e' : b = s2.heap.objs.size + 1 ∨ b = s2.heap.objs.size := by simpa using hb
      have hle : s2.heap.objs.size ≤ b := by
        rcases e' with z | z
        · rw [z]; exact Nat.le_add_right _ _
        · rw [z]; exact Nat.le_refl _
      exact I2.fpOk hle (I2.hok.fresh hle)
theorem walk_enumS {K : PySem.W.Frag} {c : Int} {a : Addr} {xs : List V} : Walk (IteS K c a) xs.length (fun H => SqL K H a xs) (YPair (fun i => some (.int (c + (i : Nat)))) (fun i => xs[i]?)) := by
  refine ⟨fun i _ hi q => ⟨xs, xs[i], q, by simp [hi]⟩, fun _ q => ⟨xs, q, rfl⟩, fun i H v H' _ q y => ?_⟩
  obtain ⟨T, x, h1, h2, h3, h4⟩ := y
  exact ⟨T, .int (c + (i : Nat)), x, h1, h2, h3, rfl, h4 xs q⟩
end Vf

set_option Elab.async false
set_option linter.all false
set_option maxRecDepth 100000
set_option maxHeartbeats 1000000
namespace Vf
open PySem PySem.Spec PyProof.Rows L2
section
variable {X : Cx} {o : Expr} {p pos apos mpos : Pos} {td : TE}
/-! ### list(d.values()) -/
def tListVals (td : TE) : TE := fun σ H Q => td σ H fun x H1 => ∃ a kvs, x = V.ref a ∧ H1 a = some (.dK kvs) ∧ ∀ q, H1 q = none → Q (.ref q) (upd H1 q (.lst (kvs.map (·.2))))
theorem pe_listVals (hc : X.calm = true) (hg : Gl X "list") (hm : X.mg "list" = none) (hd : PE X o td) (hbase : attributeBase o "values" X.env (eval o X.env) = eval o X.env := by rfl) (hline : (apos.endLine == mpos.line) = true := by rfl)
    (he : starEach [Expr.Call (.Attribute o "values" apos) [] [] mpos] X.env = [(false, eval (Expr.Call (.Attribute o "values" apos) [] [] mpos) X.env)] := by rfl) :
    PE X (.Call (.Name "list" p) [.Call (.Attribute o "values" apos) [] [] mpos] [] pos) (tListVals td) := by
  refine ⟨fun pins s σ H Q I h => ?_⟩
  refine wpAny_Call_Name_kw (ld_blt I hg hm (u := .type "list") (by first | rfl | decide +kernel) ?_ (by first | decide +kernel | decide) (by first | decide +kernel | decide))
  rw [he]
  refine PySem.callWith_type1 (wpAny_Call_method0_late hbase hline (thn (hd.run pins s σ H _ I h) fun v s1 ⟨x, H1, I1, r1, a, kvs, ex, ha, q⟩ => ?_))
  subst ex
  obtain rfl : v = Value.ref a := r1
  obtain ⟨hz, hsys, vs, rel, dof⟩ := dk_of I1.hok ha
  obtain ⟨ep, dat⟩ := dof.dictAt
  have dat' := dat
  obtain ⟨ob, es, ho, ex, hdat, hko, hpr, hnd⟩ := dat'
  refine ⟨"dict", "dict.values", F.plainAttrs_dict, F.slot_dict_values, F.type_dict_values, ⟨ob, ho, ex.1⟩, fun b e => ?_, Calls.callWith_builtin rfl (PySem.evalArgs_none ?_)⟩
  · cases e
    exact ⟨ob, ho, ex.2.1⟩
  refine call_meetsIn F.slot_dict_values ⟨ob, ho, ex.1⟩ F.entry_dict_values (F.args_dict_values_1 _) (meets_dict_values (mixKind X.prog X.w) a hsys) ⟨⟨vs, dof⟩, ?_⟩
  have k1 : ∀ b u, s1.heap.get? b = some u → (s1.heap.push { cls := .type "dict_values", data := .fields #[.ref a] }).get? b = some u := fun b u e => Heap.get?_push_of_some _ e
  have dat1 : (s1.heap.push { cls := .type "dict_values", data := .fields #[.ref a] }).DictAt (mixKind X.prog X.w) a vs ep := dat.keep k1
  have I2 : Inv X pins σ H1 { s1 with heap := s1.heap.push { cls := .type "dict_values", data := .fields #[.ref a] } } := I1.kept (t' := s1.toks) fun b ob q => Heap.get?_push_of_some _ q
  have hl : kvs.length = vs.length := KV.length rel
  refine PySem.W.kdl_call (PySem.W.kdl_values (r := s1.heap.objs.size) (knd := mixKind X.prog X.w) (kvs := vs) (ep := ep)) (I2.ok.hd hc) ⟨⟨_, Heap.get?_push_size _ rfl, rfl, rfl⟩, dat1⟩ (by rw [← hl]; exact hz) fun h' tk acc' c' hkeep hS hacc => ?_
  refine ⟨.ref _, upd H1 _ (.lst (kvs.map (·.2))), I2.laid hkeep (Nat.le_refl _) (show ObjOk X.prog X.w _ _ _ (.lst (kvs.map (·.2))) from ⟨?_, acc'.toList, c', ?_, ?_⟩), rfl, q _ (I2.hok.fresh (Nat.le_refl _))⟩
  · rw [List.length_map]; exact hz
  · have el : acc'.toList.length = acc'.size := by simp
    refine vals_of_at (by rw [List.length_map, el, hacc.1, hl]) fun j x w h1 h2 => ?_
    obtain ⟨k, hk⟩ := hacc.2 j w (by rw [← Array.getElem?_toList]; exact h2)
    obtain ⟨x', h3, h4⟩ := KV.at' rel hk
    rw [List.getElem?_map, h3] at h1
    cases h1
    exact h4
  · rw [Array.toArray_toList]; exact hS
end
end Vf

set_option Elab.async false
set_option linter.all false
set_option maxRecDepth 100000
set_option maxHeartbeats 1000000
namespace Vf
open PySem PySem.Spec PyProof.Rows L2
section
variable {X : Cx}
/-- t == u, two tuples of equal items -/
def rEq0 (K : PySem.W.Frag) : R2 := fun x y H Q => ∃ (a b : Addr) (xs ys : List V), x = .ref a ∧ y = .ref b ∧ SqT K H a xs ∧ SqT K H b ys ∧ Paired (fun z z' => EqI K H z z' true) xs ys ∧ Q (.bl true) H
theorem op_eq0 (hu : X.A.units + 64 < cLine) : OpR X (compareOp .Eq) (rEq0 X.K) := by
  intro pins s σ H x y v u Q I rx ry h
  obtain ⟨a, b, xs, ys, rfl, rfl, ha, hb, hp, q⟩ := h
  cases rx
  cases ry
  have hu1 : X.A.in1.units < cLine := by show X.A.units + 1 < cLine; omega
  obtain ⟨us, r1, p1, _⟩ := I.tuple ha
  obtain ⟨ws, r2, p2, _⟩ := I.tuple hb
  have hs : us.toArray.size = ws.toArray.size := by rw [List.size_toArray, List.size_toArray, ← r1.length, ← r2.length]; exact Paired.length hp
  refine SeqAt.RcAt.tuples (e := fun _ => true) p1 p2 (by omega) (fun j h1 h2 => ?_) _ _ _ _ ?_
  · have := items_at (fun r1 r2 k => EqI.at I k r1 r2 hu1) hp r1 r2 j (by simpa using h1) (by simpa using h2)
    simpa using this
  · rw [hs, show ((List.range (min ws.toArray.size ws.toArray.size)).all fun _ => true) = true from List.all_eq_true.mpr fun _ _ => rfl, beq_self_eq_true]
    exact ⟨.bl true, H, I, rfl, q⟩
end
end Vf

set_option Elab.async false
set_option linter.all false
set_option maxRecDepth 100000
set_option maxHeartbeats 1000000
namespace Vf
open PySem PySem.Spec PyProof.Rows L2
section
variable {X : Cx}
/-- l == m, two lists: of unlike lengths, or of equal items -/
def rEqL0 (K : PySem.W.Frag) : R2 := fun x y H Q => ∃ (a b : Addr) (xs ys : List V), x = .ref a ∧ y = .ref b ∧ SqL K H a xs ∧ SqL K H b ys ∧ ((xs.length ≠ ys.length ∧ Q (.bl false) H) ∨ (Paired (fun z z' => EqI K H z z' true) xs ys ∧ Q (.bl true) H))
theorem op_eqL0 (hu : X.A.units + 64 < cLine) : OpR X (compareOp .Eq) (rEqL0 X.K) := by
  intro pins s σ H x y v u Q I rx ry h
  obtain ⟨a, b, xs, ys, rfl, rfl, ha, hb, h⟩ := h
  cases rx
  cases ry
  have hu1 : X.A.in1.units < cLine := by show X.A.units + 1 < cLine; omega
  obtain ⟨us, r1, p1, _⟩ := I.list ha
  obtain ⟨ws, r2, p2, _⟩ := I.list hb
  rcases h with ⟨hn, q⟩ | ⟨hp, q⟩
  · have hs : (us.toArray.size != ws.toArray.size) = true := by
      rw [List.size_toArray, List.size_toArray, ← r1.length, ← r2.length]
      simpa using hn
    exact SeqAt.RcAt.lists_lengths p1.isList p2.isList hs (by omega) _ _ _ _ ⟨.bl false, H, I, rfl, q⟩
  · have hs : us.toArray.size = ws.toArray.size := by rw [List.size_toArray, List.size_toArray, ← r1.length, ← r2.length]; exact Paired.length hp
    refine SeqAt.RcAt.lists (e := fun _ => true) p1.isList p2.isList hs (by omega) (fun j h1 h2 => ?_) _ _ _ _ ?_
    · have := items_at (fun r1 r2 k => EqI.at I k r1 r2 hu1) hp r1 r2 j (by simpa using h1) (by simpa using h2)
      simpa using this
    · rw [show ((List.range us.toArray.size).all fun _ => true) = true from List.all_eq_true.mpr fun _ _ => rfl]
      exact ⟨.bl true, H, I, rfl, q⟩
/-- l == [] -/
def rEqNil (K : PySem.W.Frag) : R2 := fun x y H Q => ∃ (a b : Addr) (xs : List V), x = .ref a ∧ y = .ref b ∧ SqL K H a xs ∧ SqL K H b [] ∧ Q (.bl xs.isEmpty) H
theorem op_eqNil (hu : X.A.units + 64 < cLine) : OpR X (compareOp .Eq) (rEqNil X.K) := by
  intro pins s σ H x y v u Q I rx ry h
  obtain ⟨a, b, xs, rfl, rfl, ha, hb, q⟩ := h
  refine op_eqL0 hu _ _ _ _ _ _ _ _ _ I rx ry ⟨a, b, xs, [], rfl, rfl, ha, hb, ?_⟩
  cases xs with
  | nil => exact .inr ⟨.nil, q⟩
  | cons x xs => exact .inl ⟨(by simp), q⟩
end
end Vf

set_option Elab.async false
set_option linter.all false
set_option maxRecDepth 100000
set_option maxHeartbeats 1000000
namespace Vf
open PySem PySem.Spec PyProof.Rows L2
section
variable {X : Cx}
/-- d.copy() -/
def rDCopy : V → List V → Hp → VK → Prop := fun x vs H Q => ∃ (a : Addr) (kvs : List (Key × V)), x = .ref a ∧ vs = [] ∧ H a = some (.dK kvs) ∧ ∀ p, H p = none → Q (.ref p) (upd H p (.dK kvs))
theorem mt_dcopy : MtR X "dict.copy" rDCopy := by
  intro pins s σ H x vs v us Q I rx rv h
  obtain ⟨a, kvs, rfl, rfl, ha, q⟩ := h
  cases rx
  cases rv
  obtain ⟨hz, hsys, vs, rel, dof⟩ := dk_of I.hok ha
  refine call_meetsIn F.slot_dict_copy dof.typeIs F.entry_dict_copy (F.args_dict_copy_1 _) (meets_dict_copy (mixKind X.prog X.w) a hsys) ⟨vs, dof, (by rw [← KV.length rel]; exact hz), fun h' d1 d2 keep => ?_⟩
  exact ⟨.ref _, upd H _ (.dK kvs), I.laid (t' := s.toks) keep (Nat.le_refl _) (show ObjOk X.prog X.w _ _ _ (.dK kvs) from ⟨hz, beq_eq_false_iff_ne.mpr (Ne.symm (Nat.ne_of_lt I.big)), vs, rel, d1⟩), rfl, q _ (I.hok.fresh (Nat.le_refl _))⟩
/-- text * int -/
def strN (z : Str) (n : Nat) : Str := ⟨(List.replicate n z.cps).foldl (· ++ ·) #[]⟩
def rMulS : R2 := fun x y H Q => ∃ (z : Str) (k : Nat), x = .str z ∧ y = .int (k : Int) ∧ 2 ≤ k ∧ k ≤ 100 ∧ 1 ≤ z.length ∧ z.length ≤ 100 ∧ (strN z k).length ≤ sizeLine ∧ Q (.str (strN z k)) H
theorem op_mulS : OpR X (binaryOp .Mult) rMulS := by
  intro pins s σ H x y v u Q I rx ry h
  obtain ⟨z, k, rfl, rfl, k2, k100, z1, z100, zl, q⟩ := h
  obtain ⟨t, rfl⟩ := rx
  obtain ⟨t', rfl⟩ := ry
  have hl : z.length * ((k : Int)).toNat ≤ 10000 := by
    rw [Int.toNat_natCast]
    exact Nat.mul_le_mul z100 k100
  refine PySem.P.mul_str ?_ (fun _ _ => ?_) (fun _ _ => ?_) ?_
  · rw [decide_eq_false (by omega), decide_eq_false (by omega)]
    rfl
  · have : ((2 ^ 63 - 1 : Int)) / (k : Int) ≥ ((2 ^ 63 - 1 : Int)) / 100 := by
      refine Int.le_ediv_of_mul_le (by omega) ?_
      have h1 : ((2 ^ 63 - 1 : Int)) / 100 * (k : Int) ≤ ((2 ^ 63 - 1 : Int)) / 100 * 100 := Int.mul_le_mul_of_nonneg_left (by omega) (by decide)
      exact Int.le_trans h1 (by decide)
    have h2 : ((2 ^ 63 - 1 : Int)) / 100 > 100 := by decide
    omega
  · show decide _ = false
    exact decide_eq_false (by have : (10000 : Nat) ≤ sizeLine := by decide
                              omega)
  · rw [if_neg (by omega), if_neg (by
      have e1 : ((k : Int) == 1) = false := beq_eq_false_iff_ne.mpr (by omega)
      have e2 : (z.length == 0) = false := beq_eq_false_iff_ne.mpr (by omega)
      rw [e1, e2]
      decide)]
    rw [Int.toNat_natCast]
    exact ⟨zl, .str _, H, I.tok _, ⟨_, rfl⟩, q⟩
/-- x != y: of flat values, of lists or tuples of equal items, of dicts of equal items -/
def rNeK (K : PySem.W.Frag) : R2 := fun x y H Q => (flatV x = true ∧ x = y ∧ Q (.bl false) H) ∨ rNe0 K x y H Q ∨ rNe0D K x y H Q
theorem op_neK (hu : X.A.units + 64 < cLine) : OpR X (compareOp .NotEq) (rNeK X.K) := by
  intro pins s σ H x y v u Q I rx ry h
  rcases h with ⟨hf, rfl, q⟩ | h | h
  · refine op_ne _ _ _ _ _ _ _ _ _ I rx ry ⟨?_, ?_⟩
    · cases x <;> first | rfl | cases hf
    · rw [decide_eq_true rfl]
      exact q
  · exact op_ne0 hu _ _ _ _ _ _ _ _ _ I rx ry h
  · exact op_ne0D hu _ _ _ _ _ _ _ _ _ I rx ry h
end
end Vf

set_option Elab.async false
set_option linter.all false
set_option maxRecDepth 100000
set_option maxHeartbeats 1000000
namespace Vf
open PySem PySem.Spec PyProof.Rows L2
/-- the objects that the facts want: those near the module's names, and what the properties' getters are made of -/
def asX (g : Addr → Option Obj) (gs : List GetD) : List Addr := He.asD g 4 ++ He.growD g (He.growD g (gs.map fun x => gAd (He.frG g (He.asD g 4)) x.cls x.attr))
def obsXG (ex : PySem.W.Frag → Bool) (fn : List He.DefD) (gs : List GetD) (g : Addr → Option Obj) : AlP := obsP ex fn gs (He.frG g (asX g gs))
def hookX (ex : PySem.W.Frag → Bool) (fn : List He.DefD) (gs : List GetD) : PySem.W.Hook where
  α := AlP
  obs := fun s => obsXG ex fn gs s.heap.get?
  val := fun _ => (true, fn.map He.DefD.val, gs.map GetD.val)
  says := fun _ h => ∃ K : PySem.W.Frag, K.In h ∧ SaysP ex fn gs K
  of := fun _ _ e => ⟨_, He.frG_in, e⟩
  keeps := fun _ _ _ ⟨K, hK, c⟩ k => ⟨K, PySem.W.Frag.In.keeps hK k, c⟩
theorem obsXG_eq {ex : PySem.W.Frag → Bool} {fn : List He.DefD} {gs : List GetD} {g : Addr → Option Obj} {s : Shared} (h : ∀ a, g a = s.heap.get? a) : obsXG ex fn gs g = (hookX ex fn gs).obs s := by
  have e : g = s.heap.get? := funext h
  rw [e]
  rfl
end Vf

set_option Elab.async false
set_option linter.all false
set_option maxRecDepth 100000
set_option maxHeartbeats 1000000
namespace Vf
open PySem PySem.Spec PyProof.Rows L2
/-- the objects that those at the addresses name -/
def nxL (g : Addr → Option Obj) (as : List Addr) : List Addr := as.flatMap fun a => match g a with
  | some o => (He.refsD o).filter fun b => !Nat.beq a b
  | none => []
/-- level by level, none taken out: a list in which each is there once costs its length's square -/
def lvL (g : Addr → Option Obj) : Nat → List Addr → List Addr
  | 0, as => as
  | n + 1, as => as ++ lvL g n (nxL g as)
def asL (g : Addr → Option Obj) (gs : List GetD) : List Addr := lvL g 4 [mainGlobals] ++ lvL g 2 (gs.map fun x => gAd (He.frG g (lvL g 4 [mainGlobals])) x.cls x.attr)
def obsLG (ex : PySem.W.Frag → Bool) (fn : List He.DefD) (gs : List GetD) (g : Addr → Option Obj) : AlP := obsP ex fn gs (He.frG g (asL g gs))
def hookL (ex : PySem.W.Frag → Bool) (fn : List He.DefD) (gs : List GetD) : PySem.W.Hook where
  α := AlP
  obs := fun s => obsLG ex fn gs s.heap.get?
  val := fun _ => (true, fn.map He.DefD.val, gs.map GetD.val)
  says := fun _ h => ∃ K : PySem.W.Frag, K.In h ∧ SaysP ex fn gs K
  of := fun _ _ e => ⟨_, He.frG_in, e⟩
  keeps := fun _ _ _ ⟨K, hK, c⟩ k => ⟨K, PySem.W.Frag.In.keeps hK k, c⟩
theorem obsLG_eq {ex : PySem.W.Frag → Bool} {fn : List He.DefD} {gs : List GetD} {g : Addr → Option Obj} {s : Shared} (h : ∀ a, g a = s.heap.get? a) : obsLG ex fn gs g = (hookL ex fn gs).obs s := by
  have e : g = s.heap.get? := funext h
  rw [e]
  rfl
end Vf

set_option Elab.async false
set_option linter.all false
set_option maxRecDepth 100000
namespace K37
open PySem PySem.Spec PyProof.Rows L2 Vf
def top (i : Nat) : Stmt := PySem.Challenge.pw_seenshares_k37_read_refusals.main.body.getD i (.Pass ⟨0, 0, 0, 0⟩)
def KEPT : List Str := ["any", "closed", "end", "open", "to"]
def LET : Str := "abcdefghijklmnopqrstuvwxyz"
abbrev s_is_integer : Stmt := top 13
abbrev s_is_integer_from : Stmt := top 14
abbrev s_is_flag : Stmt := top 15
abbrev s_is_name : Stmt := top 16
abbrev s_BadPlace_init : Stmt := inClass (top 3) 0
abbrev s_Place_init : Stmt := inClass (top 21) 0
abbrev s_Place_eq : Stmt := inClass (top 21) 1
abbrev s_has_twins : Stmt := top 17
abbrev s_is_one_of : Stmt := top 23
abbrev s_is_choice : Stmt := top 26
abbrev s_are_places : Stmt := top 24
abbrev s_are_nexts : Stmt := top 25
abbrev s_BadProgram_init : Stmt := inClass (top 4) 0
abbrev s_Program_init : Stmt := inClass (top 22) 0
abbrev s_NoPlace_init : Stmt := inClass (top 5) 0
abbrev s_Program_contains : Stmt := inClass (top 22) 4
abbrev s_Program_getitem : Stmt := inClass (top 22) 2
abbrev s_BadSampler_init : Stmt := inClass (top 6) 0
abbrev s_Sampler_init : Stmt := inClass (top 29) 0
abbrev s_Program_nexts : Stmt := inClass (top 22) 1
abbrev s_BadText_init : Stmt := inClass (top 8) 0
abbrev s_digit_of : Stmt := top 42
abbrev s_lines_of : Stmt := top 35
abbrev s_check_end : Stmt := top 36
abbrev s_start_line : Stmt := top 39
abbrev s_place_line : Stmt := top 40
abbrev s_sampler_line : Stmt := top 41
abbrev s_start_told : Stmt := top 43
abbrev s_sampler_told : Stmt := top 45
abbrev s_place_told : Stmt := top 44
abbrev s_with_names : Stmt := top 37
abbrev s_program_with : Stmt := top 38
abbrev s_write : Stmt := top 33
abbrev s_read : Stmt := top 34
abbrev s_law_take : Stmt := top 48
abbrev s_law_cell : Stmt := top 47
abbrev s_law_name : Stmt := top 49
abbrev s_law_rows : Stmt := top 50
abbrev s_law_spec : Stmt := top 51
abbrev s_law_text : Stmt := top 52
abbrev s_law_number : Stmt := top 53
abbrev s_law_is_name : Stmt := top 54
abbrev s_law_is_sampler : Stmt := top 55
abbrev s_law_place_line : Stmt := top 56
abbrev s_law_wrong_line : Stmt := top 57
abbrev s_law_read : Stmt := top 58
abbrev s_law_signs : Stmt := top 59
abbrev s_law_lines : Stmt := top 60
abbrev s_law_words : Stmt := top 61
abbrev s_law_spoiled : Stmt := top 62
abbrev s_law : Stmt := top 63
end K37
set_option Elab.async false
set_option linter.all false
set_option maxRecDepth 100000
set_option maxHeartbeats 0
namespace K37
open PySem PySem.Spec PyProof.Rows L2 Vf
def fn : List He.DefD := [
  ⟨("is_integer", none), "is_integer", "is_integer", defArgs s_is_integer, defBody s_is_integer, defScope s_is_integer, [], []⟩,
  ⟨("is_integer_from", none), "is_integer_from", "is_integer_from", defArgs s_is_integer_from, defBody s_is_integer_from, defScope s_is_integer_from, [], []⟩,
  ⟨("is_flag", none), "is_flag", "is_flag", defArgs s_is_flag, defBody s_is_flag, defScope s_is_flag, [], []⟩,
  ⟨("is_name", none), "is_name", "is_name", defArgs s_is_name, defBody s_is_name, defScope s_is_name, [], []⟩,
  ⟨("has_twins", none), "has_twins", "has_twins", defArgs s_has_twins, defBody s_has_twins, defScope s_has_twins, [], []⟩,
  ⟨("BadPlace", some "__init__"), "__init__", "BadPlace.__init__", defArgs s_BadPlace_init, defBody s_BadPlace_init, defScope s_BadPlace_init, [], []⟩,
  ⟨("Place", some "__init__"), "__init__", "Place.__init__", defArgs s_Place_init, defBody s_Place_init, defScope s_Place_init, [.int 1, .non], [("let", .bl true)]⟩,
  ⟨("BadProgram", some "__init__"), "__init__", "BadProgram.__init__", defArgs s_BadProgram_init, defBody s_BadProgram_init, defScope s_BadProgram_init, [], []⟩,
  ⟨("NoPlace", some "__init__"), "__init__", "NoPlace.__init__", defArgs s_NoPlace_init, defBody s_NoPlace_init, defScope s_NoPlace_init, [], []⟩,
  ⟨("Program", some "__init__"), "__init__", "Program.__init__", defArgs s_Program_init, defBody s_Program_init, defScope s_Program_init, [], [("start", .non)]⟩,
  ⟨("Program", some "__contains__"), "__contains__", "Program.__contains__", defArgs s_Program_contains, defBody s_Program_contains, defScope s_Program_contains, [], []⟩,
  ⟨("Program", some "__getitem__"), "__getitem__", "Program.__getitem__", defArgs s_Program_getitem, defBody s_Program_getitem, defScope s_Program_getitem, [], []⟩,
  ⟨("is_one_of", none), "is_one_of", "is_one_of", defArgs s_is_one_of, defBody s_is_one_of, defScope s_is_one_of, [], []⟩,
  ⟨("are_places", none), "are_places", "are_places", defArgs s_are_places, defBody s_are_places, defScope s_are_places, [], []⟩,
  ⟨("are_nexts", none), "are_nexts", "are_nexts", defArgs s_are_nexts, defBody s_are_nexts, defScope s_are_nexts, [], []⟩,
  ⟨("is_choice", none), "is_choice", "is_choice", defArgs s_is_choice, defBody s_is_choice, defScope s_is_choice, [], []⟩,
  ⟨("BadSampler", some "__init__"), "__init__", "BadSampler.__init__", defArgs s_BadSampler_init, defBody s_BadSampler_init, defScope s_BadSampler_init, [], []⟩,
  ⟨("Sampler", some "__init__"), "__init__", "Sampler.__init__", defArgs s_Sampler_init, defBody s_Sampler_init, defScope s_Sampler_init, [.int 0], [("phase", .int 0)]⟩,
  ⟨("BadText", some "__init__"), "__init__", "BadText.__init__", defArgs s_BadText_init, defBody s_BadText_init, defScope s_BadText_init, [], []⟩,
  ⟨("write", none), "write", "write", defArgs s_write, defBody s_write, defScope s_write, [], []⟩,
  ⟨("read", none), "read", "read", defArgs s_read, defBody s_read, defScope s_read, [], []⟩,
  ⟨("lines_of", none), "lines_of", "lines_of", defArgs s_lines_of, defBody s_lines_of, defScope s_lines_of, [], []⟩,
  ⟨("check_end", none), "check_end", "check_end", defArgs s_check_end, defBody s_check_end, defScope s_check_end, [], []⟩,
  ⟨("with_names", none), "with_names", "with_names", defArgs s_with_names, defBody s_with_names, defScope s_with_names, [], []⟩,
  ⟨("program_with", none), "program_with", "program_with", defArgs s_program_with, defBody s_program_with, defScope s_program_with, [], []⟩,
  ⟨("start_line", none), "start_line", "start_line", defArgs s_start_line, defBody s_start_line, defScope s_start_line, [], []⟩,
  ⟨("place_line", none), "place_line", "place_line", defArgs s_place_line, defBody s_place_line, defScope s_place_line, [], []⟩,
  ⟨("sampler_line", none), "sampler_line", "sampler_line", defArgs s_sampler_line, defBody s_sampler_line, defScope s_sampler_line, [], []⟩,
  ⟨("digit_of", none), "digit_of", "digit_of", defArgs s_digit_of, defBody s_digit_of, defScope s_digit_of, [], []⟩,
  ⟨("start_told", none), "start_told", "start_told", defArgs s_start_told, defBody s_start_told, defScope s_start_told, [], []⟩,
  ⟨("place_told", none), "place_told", "place_told", defArgs s_place_told, defBody s_place_told, defScope s_place_told, [], []⟩,
  ⟨("sampler_told", none), "sampler_told", "sampler_told", defArgs s_sampler_told, defBody s_sampler_told, defScope s_sampler_told, [], []⟩,
  ⟨("_law_cell", none), "_law_cell", "_law_cell", defArgs s_law_cell, defBody s_law_cell, defScope s_law_cell, [], []⟩,
  ⟨("_law_take", none), "_law_take", "_law_take", defArgs s_law_take, defBody s_law_take, defScope s_law_take, [], []⟩,
  ⟨("_law_name", none), "_law_name", "_law_name", defArgs s_law_name, defBody s_law_name, defScope s_law_name, [], []⟩,
  ⟨("_law_rows", none), "_law_rows", "_law_rows", defArgs s_law_rows, defBody s_law_rows, defScope s_law_rows, [], []⟩,
  ⟨("_law_spec", none), "_law_spec", "_law_spec", defArgs s_law_spec, defBody s_law_spec, defScope s_law_spec, [], []⟩,
  ⟨("_law_text", none), "_law_text", "_law_text", defArgs s_law_text, defBody s_law_text, defScope s_law_text, [], []⟩,
  ⟨("_law_number", none), "_law_number", "_law_number", defArgs s_law_number, defBody s_law_number, defScope s_law_number, [], []⟩,
  ⟨("_law_is_name", none), "_law_is_name", "_law_is_name", defArgs s_law_is_name, defBody s_law_is_name, defScope s_law_is_name, [], []⟩,
  ⟨("_law_is_sampler", none), "_law_is_sampler", "_law_is_sampler", defArgs s_law_is_sampler, defBody s_law_is_sampler, defScope s_law_is_sampler, [], []⟩,
  ⟨("_law_place_line", none), "_law_place_line", "_law_place_line", defArgs s_law_place_line, defBody s_law_place_line, defScope s_law_place_line, [], []⟩,
  ⟨("_law_wrong_line", none), "_law_wrong_line", "_law_wrong_line", defArgs s_law_wrong_line, defBody s_law_wrong_line, defScope s_law_wrong_line, [], []⟩,
  ⟨("_law_read", none), "_law_read", "_law_read", defArgs s_law_read, defBody s_law_read, defScope s_law_read, [], []⟩,
  ⟨("_law_signs", none), "_law_signs", "_law_signs", defArgs s_law_signs, defBody s_law_signs, defScope s_law_signs, [], []⟩,
  ⟨("_law_lines", none), "_law_lines", "_law_lines", defArgs s_law_lines, defBody s_law_lines, defScope s_law_lines, [], []⟩,
  ⟨("_law_words", none), "_law_words", "_law_words", defArgs s_law_words, defBody s_law_words, defScope s_law_words, [], []⟩,
  ⟨("_law_spoiled", none), "_law_spoiled", "_law_spoiled", defArgs s_law_spoiled, defBody s_law_spoiled, defScope s_law_spoiled, [], []⟩,
  ⟨("law", none), "law", "law", defArgs s_law, defBody s_law, defScope s_law, [], []⟩]
def fa : List He.Fa := [.meth "Place" "__eq__", .meth "Program" "__eq__", .meth "Program" "__contains__", .meth "Program" "__getitem__", .free "int", .free "bool", .free "str", .free "len", .free "all", .free "isinstance", .int "LONGEST_NAME" 8, .int "MOST_TICKS" 6, .str "LETTERS" "abcdefghijklmnopqrstuvwxyz", .glo "KEPT_WORDS", .glo "is_integer", .glo "is_integer_from", .glo "is_flag", .glo "is_name", .glo "Place", .glo "BadPlace", .cls "Place", .mkr "Place", .noat "Place" "name", .noat "Place" "least", .noat "Place" "most", .noat "Place" "let", .free "enumerate", .free "list", .free "tuple", .free "dict", .int "MOST_PLACES" 6, .glo "has_twins", .glo "is_one_of", .glo "are_places", .glo "are_nexts", .glo "is_choice", .glo "Program", .glo "BadProgram", .glo "NoPlace", .cls "Program", .mkr "Program", .noat "Program" "names", .noat "Program" "start", .noat "Program" "_places", .noat "Program" "_nexts", .free "range", .int "MOST_PERIOD" 8, .glo "Sampler", .glo "BadSampler", .cls "Sampler", .mkr "Sampler", .noat "Sampler" "period", .noat "Sampler" "jitter", .noat "Sampler" "phase", .int "MOST_TEXT" 1000, .str "DIGITS" "0123456789", .glo "SeenError", .glo "BadRun", .glo "write", .glo "read", .glo "lines_of", .glo "check_end", .glo "with_names", .glo "program_with", .glo "start_line", .glo "place_line", .glo "sampler_line", .glo "digit_of", .glo "start_told", .glo "place_told", .glo "sampler_told", .glo "BadText", .glo "_law_cell", .glo "_law_take", .glo "_law_name", .glo "_law_rows", .glo "_law_spec", .glo "_law_text", .glo "_law_number", .glo "_law_is_name", .glo "_law_is_sampler", .glo "_law_place_line", .glo "_law_wrong_line", .glo "_law_read", .glo "_law_signs", .glo "_law_lines", .glo "_law_words", .glo "_law_spoiled", .glo "law"]
def gt : List GetD := [⟨"Program", "nexts", ⟨("Program", some "nexts"), "nexts", "Program.nexts", defArgs s_Program_nexts, defBody s_Program_nexts, defScope s_Program_nexts, [], []⟩⟩]
def ex2 (K : PySem.W.Frag) : Bool := ((He.eqO (PySem.W.findIn K (.ref (He.ga K "Place")) "__ne__") (some (some (.builtin "object.__ne__")))) && ((He.eqO (PySem.W.findIn K (.ref (He.ga K "Program")) "__ne__") (some (some (.builtin "object.__ne__")))) && ((PySem.W.fnIn K (He.fAd K ("Program", some "__getitem__"))) && ((kTup K (He.ga K "KEPT_WORDS") KEPT) && ((exI K "BadPlace" "why") && ((He.eqO (PySem.W.specialIn K (.builtin "object.__class__") "__get__") (some (some (.builtin "getset_descriptor.__get__")))) && ((decide (PySem.W.takesIn K (.builtin "object.__class__") = some true)) && ((He.eqO (PySem.W.findIn K (.ref (He.ga K "Place")) "__class__") (some (some (.builtin "object.__class__")))) && ((decide (PySem.W.mroIn K (He.ga K "Place") (.type "object") = some true)) && ((decide (PySem.W.kitOne K (.ref (He.ga K "Place")) (.ref (He.ga K "Place")) = some true)) && ((exI K "BadProgram" "why") && ((exI K "NoPlace" "name") && ((He.eqO (PySem.W.findIn K (.ref (He.ga K "Program")) "__class__") (some (some (.builtin "object.__class__")))) && ((decide (PySem.W.mroIn K (He.ga K "Program") (.type "object") = some true)) && ((decide (PySem.W.kitOne K (.ref (He.ga K "Program")) (.ref (He.ga K "Program")) = some true)) && ((exI K "BadSampler" "why") && ((exI K "BadText" "line") && ((decide (PySem.W.exmOne K (.ref (He.ga K "BadText")) (.ref (He.ga K "BadText")) = some true)) && ((decide (PySem.W.kitOne K (.ref (He.ga K "BadText")) (.ref (He.ga K "SeenError")) = some true)) && ((decide (PySem.W.kitOne K (.ref (He.ga K "BadText")) (.ref (He.ga K "BadRun")) = some false)) && ((decide (PySem.W.exmOne K (.ref (He.ga K "BadSampler")) (.ref (He.ga K "BadSampler")) = some true)) && ((decide (PySem.W.exmOne K (.ref (He.ga K "BadPlace")) (.ref (He.ga K "BadPlace")) = some true)) && true))))))))))))))))))))))
def ex (K : PySem.W.Frag) : Bool := (fa.all fun f => f.ok K) && ex2 K
abbrev R : PySem.W.OpenRow := PySem.W.OpenLaw.row PySem.Challenge.rw_seenshares_k37_read_refusals
abbrev hk : PySem.W.Hook := hookL ex fn gt
def ob (s : PySem.W.SharedT) : AlP := obsLG ex fn gt (HandSHeadRun.getT s)
theorem ob_eq (s : PySem.W.SharedT) : ob s = hk.obs s.abs := obsLG_eq (HandSHeadRun.getT_eq s)
def names : List Str := ("_wall" : Str) :: ("SeenError" : Str) :: ("BadPlace" : Str) :: ("BadProgram" : Str) :: ("NoPlace" : Str) :: ("BadSampler" : Str) :: ("BadRun" : Str) :: ("BadText" : Str) :: ("KEPT_WORDS" : Str) :: ("LETTERS" : Str) :: ("LONGEST_NAME" : Str) :: ("is_integer" : Str) :: ("is_integer_from" : Str) :: ("is_flag" : Str) :: ("is_name" : Str) :: ("has_twins" : Str) :: ("MOST_TICKS" : Str) :: ("MOST_PLACES" : Str) :: ("Place" : Str) :: ("Program" : Str) :: ("is_one_of" : Str) :: ("are_places" : Str) :: ("are_nexts" : Str) :: ("is_choice" : Str) :: ("MOST_PERIOD" : Str) :: ("Sampler" : Str) :: ("MOST_TEXT" : Str) :: ("DIGITS" : Str) :: ("write" : Str) :: ("read" : Str) :: ("lines_of" : Str) :: ("check_end" : Str) :: ("with_names" : Str) :: ("program_with" : Str) :: ("start_line" : Str) :: ("place_line" : Str) :: ("sampler_line" : Str) :: ("digit_of" : Str) :: ("start_told" : Str) :: ("place_told" : Str) :: ("sampler_told" : Str) :: ("_law_cell" : Str) :: ("_law_take" : Str) :: ("_law_name" : Str) :: ("_law_rows" : Str) :: ("_law_spec" : Str) :: ("_law_text" : Str) :: ("_law_number" : Str) :: ("_law_is_name" : Str) :: ("_law_is_sampler" : Str) :: ("_law_place_line" : Str) :: ("_law_wrong_line" : Str) :: ("_law_read" : Str) :: ("_law_signs" : Str) :: ("_law_lines" : Str) :: ("_law_words" : Str) :: ("_law_spoiled" : Str) :: []
noncomputable def E0 (w : World) (os : OsState) : Option PySem.W.SharedT := HandSHeadRun.endF (HandSHeadRun.stepQ (HandSHeadRun.denQ HandSHeadRun.tabQ) R.prog w) 100000 R.prog w os
noncomputable def KK (s : PySem.W.SharedT) : PySem.W.Frag := He.frG (HandSHeadRun.getT s) (asL (HandSHeadRun.getT s) gt)
theorem run_of {w : World} {os : OsState} (a : (E0 w os).map (fun s => HandSHeadRun.looksF R.prog (PySem.W.boot_heap w.params) s.abs) = some true)
    (b : (E0 w os).map (fun s => HandSHeadRun.seenQ (PySem.W.view R.prog [63]) names (importedModules R.prog.main.body) (fun s => PySem.W.xlAt (PySem.W.view R.prog [63]) [] s && PySem.W.recOk R.toRowW.records s) s.abs) = some (PySem.W.openGood (PySem.W.view R.prog [63]) names))
    (c : (E0 w os).map (fun s => ex (KK s)) = some true) (d : (E0 w os).map (fun s => ((fn.all fun d => d.ok (KK s)) && gt.all fun g => g.ok (KK s))) = some true)
    (e : (E0 w os).map (fun s => (fn.map fun d => He.fnW (KK s) d.at_, gt.map (gnW (KK s)))) = some (fn.map He.DefD.val, gt.map GetD.val)) :
    (E0 w os).map (fun s => (HandSHeadRun.looksF R.prog (PySem.W.boot_heap w.params) s.abs, HandSHeadRun.seenQ (PySem.W.view R.prog [63]) names (importedModules R.prog.main.body) (fun s => PySem.W.xlAt (PySem.W.view R.prog [63]) [] s && PySem.W.recOk R.toRowW.records s) s.abs, ob s)) = some (true, PySem.W.openGood (PySem.W.view R.prog [63]) names, PySem.W.Hook.val hk w) := by
  generalize E0 w os = r at a b c d e ⊢
  cases r with
  | none => cases a
  | some s =>
    have a : HandSHeadRun.looksF R.prog (PySem.W.boot_heap w.params) s.abs = true := Option.some.inj a
    have b : HandSHeadRun.seenQ (PySem.W.view R.prog [63]) names (importedModules R.prog.main.body) (fun s => PySem.W.xlAt (PySem.W.view R.prog [63]) [] s && PySem.W.recOk R.toRowW.records s) s.abs = PySem.W.openGood (PySem.W.view R.prog [63]) names := Option.some.inj b
    have c : ex (KK s) = true := Option.some.inj c
    have d : ((fn.all fun d => d.ok (KK s)) && gt.all fun g => g.ok (KK s)) = true := Option.some.inj d
    have e : (fn.map (fun d => He.fnW (KK s) d.at_), gt.map (gnW (KK s))) = (fn.map He.DefD.val, gt.map GetD.val) := Option.some.inj e
    obtain ⟨e1, e2⟩ := Prod.mk.inj e
    have o : ob s = PySem.W.Hook.val hk w := by
      show ((ex (KK s) && ((fn.all fun d => d.ok (KK s)) && gt.all fun g => g.ok (KK s))), fn.map (fun d => He.fnW (KK s) d.at_), gt.map (gnW (KK s))) = (true, fn.map He.DefD.val, gt.map GetD.val)
      rw [c, d, e1, e2]
      rfl
    show some (_, _, _) = some (_, _, _)
    rw [a, b, o]
theorem runLk (w : World) (os : OsState) : (E0 w os).map (fun s => HandSHeadRun.looksF R.prog (PySem.W.boot_heap w.params) s.abs) = some true := by kernel_rfl
theorem runSn (w : World) (os : OsState) : (E0 w os).map (fun s => HandSHeadRun.seenQ (PySem.W.view R.prog [63]) names (importedModules R.prog.main.body) (fun s => PySem.W.xlAt (PySem.W.view R.prog [63]) [] s && PySem.W.recOk R.toRowW.records s) s.abs) = some (PySem.W.openGood (PySem.W.view R.prog [63]) names) := by kernel_rfl
theorem runA (w : World) (os : OsState) : (E0 w os).map (fun s => ex (KK s)) = some true := by kernel_rfl
theorem runB (w : World) (os : OsState) : (E0 w os).map (fun s => ((fn.all fun d => d.ok (KK s)) && gt.all fun g => g.ok (KK s))) = some true := by kernel_rfl
theorem runC (w : World) (os : OsState) : (E0 w os).map (fun s => (fn.map fun d => He.fnW (KK s) d.at_, gt.map (gnW (KK s)))) = some (fn.map He.DefD.val, gt.map GetD.val) := by kernel_rfl
theorem run (w : World) : HandSHeadRun.RunEq R (PySem.W.view R.prog [63]) hk ob 100000 names w := fun os => run_of (runLk w os) (runSn w os) (runA w os) (runB w os) (runC w os)
end K37

set_option Elab.async false
set_option linter.all false
set_option maxRecDepth 100000
set_option maxHeartbeats 2000000
namespace K37
open PySem PySem.Spec PyProof.Rows L2 Vf
abbrev OkF (P : Program) (w : World) (K : PySem.W.Frag) (mg : Str → Option Value) (base : Heap) (CX : CXT) (k : Nat) (x : Str) (ps : List Str) (sp : Sp) : Prop := OkD P w K mg base CX k (x, none) ps [] sp
abbrev OkM (P : Program) (w : World) (K : PySem.W.Frag) (mg : Str → Option Value) (base : Heap) (CX : CXT) (k : Nat) (c m : Str) (ps : List Str) (sp : Sp) : Prop := OkD P w K mg base CX k (c, some m) ps [] sp
abbrev FnD (K : PySem.W.Frag) (p : Pl) (x q : Str) (st : Stmt) (fd : FuncData) : Prop := FunD K x q (defArgs st) (defBody st) (defScope st) [] [] (He.fAd K p) fd
abbrev CP (K : PySem.W.Frag) : Addr := He.ga K "Place"
abbrev CBP (K : PySem.W.Frag) : Addr := He.ga K "BadPlace"
structure PTxt (K : PySem.W.Frag) (mg : Str → Option Value) : Prop where
  z_int : mg "int" = none
  z_bool : mg "bool" = none
  z_str : mg "str" = none
  z_len : mg "len" = none
  z_all : mg "all" = none
  z_isinstance : mg "isinstance" = none
  i_LONGEST_NAME : ∃ t, mg "LONGEST_NAME" = some (.int 8 t)
  i_MOST_TICKS : ∃ t, mg "MOST_TICKS" = some (.int 6 t)
  i_LETTERS : ∃ t, mg "LETTERS" = some (.str LET t)
  g_KEPT_WORDS : mg "KEPT_WORDS" = some (.ref (He.ga K "KEPT_WORDS"))
  t_KEPT : kTup K (He.ga K "KEPT_WORDS") KEPT = true
  g_is_integer : mg "is_integer" = some (.ref (He.ga K "is_integer"))
  g_is_integer_from : mg "is_integer_from" = some (.ref (He.ga K "is_integer_from"))
  g_is_flag : mg "is_flag" = some (.ref (He.ga K "is_flag"))
  g_is_name : mg "is_name" = some (.ref (He.ga K "is_name"))
  g_Place : mg "Place" = some (.ref (He.ga K "Place"))
  g_BadPlace : mg "BadPlace" = some (.ref (He.ga K "BadPlace"))
  c_Place : Cls K (He.ga K "Place")
  m_Place : Mk K (He.ga K "Place") (He.fAd K ("Place", some "__init__"))
  nN : NoAttr K (He.ga K "Place") "name"
  nL : NoAttr K (He.ga K "Place") "least"
  nM : NoAttr K (He.ga K "Place") "most"
  nT : NoAttr K (He.ga K "Place") "let"
  x_BadPlace : ExI K "BadPlace" "why"
  hn : PySem.W.specialIn K (.builtin "object.__class__") "__get__" = some (some (.builtin "getset_descriptor.__get__"))
  ht : PySem.W.takesIn K (.builtin "object.__class__") = some true
  ha : PySem.W.findIn K (.ref (He.ga K "Place")) "__class__" = some (some (.builtin "object.__class__"))
  hm : PySem.W.mroIn K (He.ga K "Place") (.type "object") = some true
  k1 : PySem.W.kitOne K (.ref (He.ga K "Place")) (.ref (He.ga K "Place")) = some true
/-! ### a place's fields -/
def plf (z : Str) (l m : Int) (b : Bool) : List (Str × V) := putF "let" (.bl b) (putF "most" (.int m) (putF "least" (.int l) (putF "name" (.str z) [])))
theorem plf_name (z : Str) (l m : Int) (b : Bool) : (plf z l m b).lookup ("name" : Str) = some (.str z) := by
  unfold plf
  rw [lookup_putF, if_neg (by decide +kernel), lookup_putF, if_neg (by decide +kernel), lookup_putF, if_neg (by decide +kernel), lookup_putF, if_pos rfl]
theorem plf_least (z : Str) (l m : Int) (b : Bool) : (plf z l m b).lookup ("least" : Str) = some (.int l) := by
  unfold plf
  rw [lookup_putF, if_neg (by decide +kernel), lookup_putF, if_neg (by decide +kernel), lookup_putF, if_pos rfl]
theorem plf_most (z : Str) (l m : Int) (b : Bool) : (plf z l m b).lookup ("most" : Str) = some (.int m) := by
  unfold plf
  rw [lookup_putF, if_neg (by decide +kernel), lookup_putF, if_pos rfl]
theorem plf_let (z : Str) (l m : Int) (b : Bool) : (plf z l m b).lookup ("let" : Str) = some (.bl b) := by
  unfold plf
  rw [lookup_putF, if_pos rfl]
/-- at p a place -/
def PlA (C : Addr) (H : Hp) (p : Addr) (z : Str) (l m : Int) (b : Bool) : Prop := ∃ dx, H p = some (.ins C dx (plf z l m b))
theorem PlA.ext {C : Addr} {H H' : Hp} {p : Addr} {z : Str} {l m : Int} {b : Bool} (h : PlA C H p z l m b) (s : Same H H') : PlA C H' p z l m b := by
  obtain ⟨dx, e⟩ := h
  exact ⟨dx, s _ _ e⟩
theorem same_new {H : Hp} {p : Addr} {o : HO} (h : H p = none) : Same H (upd H p o) := fun b u e => by
  rw [upd_ne (ne_of_none e h)]
  exact e
theorem same_make {H : Hp} {x dx : Addr} {o1 o2 : HO} (nx : H x = none) (ndx : H dx = none) : Same H (upd (upd H dx o1) x o2) := fun b o e => by
  rw [upd_ne (ne_of_none e nx), upd_ne (ne_of_none e ndx)]
  exact e
theorem same_make2 {H : Hp} {x dx : Addr} {o1 o2 o3 : HO} (nx : H x = none) (ndx : H dx = none) : Same H (upd (upd (upd H dx o1) x o2) x o3) := by
  rw [upd_upd]
  exact same_make nx ndx
theorem same_app {H H1 H2 : Hp} {D : Addr} {o : HO} (s : Same H H1) (s2 : Same H1 H2) (nD : H D = none) : Same H (upd H2 D o) := fun b u e => by
  rw [upd_ne (ne_of_none e nD)]
  exact s2 _ _ (s _ _ e)
section
variable {P : Program} {w : World} {K : PySem.W.Frag} {mg : Str → Option Value} {base : Heap}
theorem okd {CX : CXT} {k : Nat} {p : Pl} {x q : Str} {st : Stmt} {fd : FuncData} {ps : List Str} {sp : Sp} (F : FnD K p x q st fd) (ok : FnOk P w K mg base CX k (He.fAd K p) fd ps sp)
    (h : ∀ (kV doc pm : Value) (an : Option Addr) (cdv ct : Value) (us : List Value), us.length = ps.length → bindArgs (PySem.W.fnOf x q (defArgs st) (defBody st) (defScope st) .none kV doc pm an cdv ct) ⟨us, []⟩ = pure (ps.zip us)) : OkD P w K mg base CX k p ps [] sp :=
  ⟨⟨fd, [], ok, FunD.bindsN F h, .nil⟩, F.kp⟩
theorem sc_is_integer : FnScope ["x"] ["x"] (defScope s_is_integer) := ⟨rfl, rfl, rfl, by decide +kernel, rfl, by decide +kernel, by decide +kernel⟩
-- slots: 0 x
theorem ok_is_integer {fd : FuncData} (F : FnD K ("is_integer", none) "is_integer" "is_integer" s_is_integer fd) (T : PTxt K mg) : OkF P w K mg base CX0 1 "is_integer" ["x"] spIsInt := by
  refine okd F (F.ok sc_is_integer (fun vs H Q E h => ?_) fun cdv A outer s H vs Q E hr h => ⟨t_isint K, PSs.nox ?_, run_isint h⟩) fun _ _ _ _ _ _ us hl => match us, hl with | [_], _ => rfl
  · obtain ⟨x, rfl, _⟩ := h
    rfl
  · exact (pss_one (ps_ret (pe_and (pe_callB (id := "isinstance") call_isi (by rfl) T.z_isinstance (by decide +kernel) (pa_cons (pv 0) (pa_cons (pe_ty (n := "int") T.z_int (by decide +kernel)) pa_nil))) (pe_one (pe_not (pe_callB (id := "isinstance") call_isi (by rfl) T.z_isinstance (by decide +kernel) (pa_cons (pv 0) (pa_cons (pe_ty (n := "bool") T.z_bool (by decide +kernel)) pa_nil))))))))
theorem sc_is_integer_from : FnScope ["x", "low", "high"] ["x", "low", "high"] (defScope s_is_integer_from) := ⟨rfl, rfl, rfl, by decide +kernel, rfl, by decide +kernel, by decide +kernel⟩
-- slots: 0 x, 1 low, 2 high
/-- l is no integer from lo to hi -/
def NotFr (H : Hp) (l : V) (lo hi : Int) : Prop := (∃ n, l = .int n ∧ ¬ (lo ≤ n ∧ n ≤ hi)) ∨ Odd H l
def spFr : Sp := fun vs H Q _ => ∃ (x : V) (lo hi : Int), vs = [x, .int lo, .int hi] ∧ ((∃ n, x = .int n ∧ lo ≤ n ∧ n ≤ hi ∧ Q (.bl true) H) ∨ (NotFr H x lo hi ∧ Q (.bl false) H))
theorem ok_is_integer_from {fd : FuncData} (F : FnD K ("is_integer_from", none) "is_integer_from" "is_integer_from" s_is_integer_from fd) (T : PTxt K mg) (O_is_integer : OkF P w K mg base CX0 1 "is_integer" ["x"] spIsInt) : OkF P w K mg base CX0 2 "is_integer_from" ["x", "low", "high"] spFr := by
  refine okd F (F.ok sc_is_integer_from (fun vs H Q E h => ?_) fun cdv A outer s H vs Q E hr h => ?_) fun _ _ _ _ _ _ us hl => match us, hl with | [_, _, _], _ => rfl
  · obtain ⟨x, lo, hi, rfl, _⟩ := h
    rfl
  · obtain ⟨x, lo, hi, rfl, h⟩ := h
    refine ⟨_, PSs.nox (pss_one (ps_ret (pe_and (c_fn O_is_integer hr (by decide) T.g_is_integer pass0 (pa_cons (pv 0) pa_nil)) (pe_one (pe_chain op_le op_le (pv 1) (pv 0) (pv 2)))))), ?_⟩
    rcases h with ⟨n, rfl, l1, l2, q⟩ | ⟨⟨n, rfl, hn⟩ | o, q⟩
    · refine ⟨_, rfl, _, rfl, .inl ⟨⟨n, rfl⟩, true, rfl, iteT ?_⟩⟩
      refine ⟨_, rfl, _, rfl, lo, n, rfl, rfl, true, congrArg V.bl (decide_eq_true l1), iteT ⟨_, rfl, n, hi, rfl, rfl, ?_⟩⟩
      show Q (.bl (decide (n ≤ hi))) H
      rw [decide_eq_true l2]
      exact q
    · refine ⟨_, rfl, _, rfl, .inl ⟨⟨n, rfl⟩, true, rfl, iteT ?_⟩⟩
      by_cases l1 : lo ≤ n
      · have l2 : ¬ n ≤ hi := fun z => hn ⟨l1, z⟩
        refine ⟨_, rfl, _, rfl, lo, n, rfl, rfl, true, congrArg V.bl (decide_eq_true l1), iteT ⟨_, rfl, n, hi, rfl, rfl, ?_⟩⟩
        show Q (.bl (decide (n ≤ hi))) H
        rw [decide_eq_false l2]
        exact q
      · exact ⟨_, rfl, _, rfl, lo, n, rfl, rfl, false, congrArg V.bl (decide_eq_false l1), iteF q⟩
    · exact ⟨_, rfl, _, rfl, .inr ⟨o, false, rfl, iteF q⟩⟩
theorem sc_is_flag : FnScope ["x"] ["x"] (defScope s_is_flag) := ⟨rfl, rfl, rfl, by decide +kernel, rfl, by decide +kernel, by decide +kernel⟩
-- slots: 0 x
def spFlag : Sp := fun vs H Q _ => ∃ x, vs = [x] ∧ ((∃ b, x = .bl b ∧ Q (.bl true) H) ∨ (OddB H x ∧ Q (.bl false) H))
theorem ok_is_flag {fd : FuncData} (F : FnD K ("is_flag", none) "is_flag" "is_flag" s_is_flag fd) (T : PTxt K mg) : OkF P w K mg base CX0 1 "is_flag" ["x"] spFlag := by
  refine okd F (F.ok sc_is_flag (fun vs H Q E h => ?_) fun cdv A outer s H vs Q E hr h => ?_) fun _ _ _ _ _ _ us hl => match us, hl with | [_], _ => rfl
  · obtain ⟨x, rfl, _⟩ := h
    rfl
  · obtain ⟨x, rfl, h⟩ := h
    refine ⟨_, PSs.nox (pss_one (ps_ret (pe_callB (id := "isinstance") call_isi (by rfl) T.z_isinstance (by decide +kernel) (pa_cons (pv 0) (pa_cons (pe_ty (n := "bool") T.z_bool (by decide +kernel)) pa_nil))))), ?_⟩
    rcases h with ⟨b, rfl, q⟩ | ⟨o, q⟩
    · exact ⟨_, rfl, .bl b, .ty "bool", .type "bool", .type "bool", true, rfl, .ty _, .base (.bl _), kit_ty (by decide +kernel), q⟩
    · obtain ⟨n, t1, k1⟩ := oddB_ty K o
      exact ⟨_, rfl, x, .ty "bool", .type n, .type "bool", false, rfl, .ty _, t1, kit_ty k1, q⟩
theorem sc_is_name : FnScope ["x", "letter"] ["x"] (defScope s_is_name) := ⟨rfl, rfl, rfl, by decide +kernel, rfl, by decide +kernel, by decide +kernel⟩
-- slots: 0 x, 1 letter
/-- a text that is a name -/
def nmB (z : Str) : Bool := decide (1 ≤ z.length) && (decide (z.length ≤ 8) && (!inV (.str z) (KEPT.map V.str) && z.cps.toList.all fun c => decide (c ∈ LET.cps.toList)))
def spName : Sp := fun vs H Q _ => ∃ x, vs = [x] ∧ ((∃ z, x = .str z ∧ z.length ≤ sizeLine ∧ ∀ H', Same H H' → Q (.bl (nmB z)) H') ∨ (OddS H x ∧ Q (.bl false) H))
theorem ok_is_name {fd : FuncData} (F : FnD K ("is_name", none) "is_name" "is_name" s_is_name fd) (T : PTxt K mg) : OkF P w K mg base CX0 1 "is_name" ["x"] spName := by
  refine okd F (F.ok sc_is_name (fun vs H Q E h => ?_) fun cdv A outer s H vs Q E hr h => ?_) fun _ _ _ _ _ _ us hl => match us, hl with | [_], _ => rfl
  · obtain ⟨x, rfl, _⟩ := h
    rfl
  · obtain ⟨x, rfl, h⟩ := h
    refine ⟨_, PSs.nox (pss_cons (ps_if (PW.pt (pw_or (pt_not (pt_val (pe_callB (id := "isinstance") call_isi (by rfl) T.z_isinstance (by decide +kernel) (pa_cons (pv 0) (pa_cons (pe_ty (n := "str") T.z_str (by decide +kernel)) pa_nil))))) (pw_or1 (pt_not (pt_chain op_le op_le pe_int (pe_callB call_len_str (by rfl) T.z_len (by decide +kernel) (pa_cons (pv 0) pa_nil)) (c_gint T.i_LONGEST_NAME)))))) (pss_one (ps_ret pe_bl))
  pss_nil)
  (pss_one (ps_ret (pe_and (pe_cmpR op_notIn_seq (pv 0) (pe_cl T.g_KEPT_WORDS) rfl) (pe_one (pe_callB (id := "all") (cr_all rfl) (by rfl) T.z_all (by decide +kernel) (pa_cons (pe_lc (own := [("letter", 1)]) (g := gName 1) (tt := tYes) (by rfl) sc_is_name.nd (pi_str (pv 0)) (blkOk_by (N := ["x", "letter"]) (sc := defScope s_is_name) (by decide +kernel)) (fun _ _ _ _ _ => (pg_name (i := 1) sc_is_name.nd rfl (Or.inl rfl))) (fun _ _ _ _ _ => pts_nil) (fun _ _ _ _ _ => (pe_cmpR op_in_str (pv 1) (c_gstr T.i_LETTERS) rfl))) pa_nil))))))), ?_⟩
    rcases h with ⟨z, rfl, hz, k⟩ | ⟨o, q⟩
    · refine ⟨_, rfl, .str z, .ty "str", .type "str", .type "str", true, rfl, .ty _, .base (.str _), kit_ty (by decide +kernel), true, rfl, iteF ?_⟩
      have go : ∀ b : Bool, nmB z = b → ∀ H', Same H H' → Q (.bl b) H' := fun b e H' s => e ▸ k H' s
      by_cases l1 : (1 : Int) ≤ z.length
      · by_cases l2 : (z.length : Int) ≤ 8
        · refine ⟨_, rfl, z, rfl, hz, 1, z.length, rfl, rfl, true, congrArg V.bl (decide_eq_true l1), iteT ⟨z.length, 8, rfl, rfl, true, congrArg V.bl (decide_eq_true l2), iteF ?_⟩⟩
          refine ⟨_, rfl, _, _, rfl, .inr (kTup_ok T.t_KEPT _), rfl, by decide +kernel, _, rfl, ?_⟩
          have e1 : decide (1 ≤ z.length) = true := decide_eq_true (by omega)
          have e2 : decide (z.length ≤ 8) = true := decide_eq_true (by omega)
          unfold nmB at go
          rw [e1, e2, Bool.true_and, Bool.true_and] at go
          show if (!inV (.str z) (KEPT.map V.str)) = true then _ else _
          cases hv : inV (.str z) (KEPT.map V.str) with
          | true =>
            rw [hv] at go
            exact iteF (go false rfl _ fun _ _ h => h)
          | false =>
            rw [hv] at go
            refine iteT ?_
            refine ⟨_, rfl, z, rfl, fun D nD => lc_it walk_str (fun i H' => Same H H' ∧ H' D = some (.lst ((z.cps.toList.take i).map fun c => V.bl (decide (c ∈ LET.cps.toList))))) ⟨same_new nD, upd_same⟩ (fun _ _ _ _ => trivial) ?_ ?_⟩
            · rintro i x H1 H' hi ⟨sg, hD⟩ ⟨rfl, c, hc, rfl⟩
              have hc2 : z.cps.toList[i]? = some c := by simpa using hc
              refine ⟨rfl, _, rfl, _, _, rfl, rfl, ?_⟩
              refine ⟨_, hD, ?_, same_app sg (Same.refl _) nD, ?_⟩
              · rw [List.length_map, List.length_take]
                have hl : z.cps.toList.length = z.length := by simp [Str.length]
                have : min i z.cps.toList.length < 9 := by omega
                exact Nat.lt_of_lt_of_le this (by decide)
              · rw [upd_same, sign_in, List.take_add_one, List.map_append, hc2]
                rfl
            · rintro H' ⟨sg, hD⟩
              have hD2 : H' D = some (.lst ((z.cps.toList.map fun c => decide (c ∈ LET.cps.toList)).map V.bl)) := by
                rw [hD, List.map_map, List.take_of_length_le (by simp)]
                rfl
              refine ⟨D, _, rfl, SqL.of hD2, go _ ?_ _ sg⟩
              rw [List.all_map]
              rfl
        · refine ⟨_, rfl, z, rfl, hz, 1, z.length, rfl, rfl, true, congrArg V.bl (decide_eq_true l1), iteT ⟨z.length, 8, rfl, rfl, false, congrArg V.bl (decide_eq_false l2), iteT ?_⟩⟩
          refine go false ?_ _ fun _ _ h => h
          unfold nmB
          rw [show decide (z.length ≤ 8) = false from decide_eq_false (by omega)]
          simp
      · refine ⟨_, rfl, z, rfl, hz, 1, z.length, rfl, rfl, false, congrArg V.bl (decide_eq_false l1), iteF ⟨false, rfl, iteT ?_⟩⟩
        refine go false ?_ _ fun _ _ h => h
        unfold nmB
        rw [show decide (1 ≤ z.length) = false from decide_eq_false (by omega)]
        simp
    · obtain ⟨n, t1, k1⟩ := oddS_ty K o
      exact ⟨_, rfl, x, .ty "str", .type n, .type "str", false, rfl, .ty _, t1, kit_ty k1, false, rfl, iteT q⟩
end
end K37

set_option Elab.async false
set_option linter.all false
set_option pp.deepTerms.threshold 14
set_option pp.maxSteps 2500
set_option maxRecDepth 100000
set_option maxHeartbeats 2000000
namespace K37
open PySem PySem.Spec PyProof.Rows L2 Vf 
section
variable {P : Program} {w : World} {K : PySem.W.Frag} {mg : Str → Option Value} {base : Heap}
theorem sc_BadPlace_init : FnScope ["self", "why"] ["self", "why"] (defScope s_BadPlace_init) := ⟨rfl, rfl, rfl, by decide +kernel, rfl, by decide +kernel, by decide +kernel⟩
-- slots: 0 self, 1 why
theorem ok_BadPlace_init {fd : FuncData} (F : FnD K ("BadPlace", some "__init__") "__init__" "BadPlace.__init__" s_BadPlace_init fd) : OkD P w K mg base CX0 1 ("BadPlace", some "__init__") ["self", "why"] [] (spExI K (CBP K) "why") := by
  refine okd F (F.ok sc_BadPlace_init (fun vs H Q E h => ?_) fun cdv A outer s H vs Q E hr h => ⟨tOst K "why" (tVar 0) (tVar 1), PSs.nox ?_, run_exI h⟩) fun _ _ _ _ _ _ us hl => match us, hl with | [_, _], _ => rfl
  · obtain ⟨a, v, rfl, _⟩ := h
    rfl
  · exact pss_one (ps_ost (pv 0) (pv 1))
/-- what a place is made of -/
inductive PlIn (H : Hp) (x l m t : V) : Str → Prop where
  | name (h : (∃ z, x = .str z ∧ z.length ≤ sizeLine ∧ nmB z = false) ∨ OddS H x) : PlIn H x l m t "name"
  | least (z : Str) (hx : x = .str z) (hz : z.length ≤ sizeLine) (hn : nmB z = true) (h : NotFr H l 1 6) : PlIn H x l m t "least"
  | most (z : Str) (hx : x = .str z) (hz : z.length ≤ sizeLine) (hn : nmB z = true) (n : Int) (hl : l = .int n) (n1 : 1 ≤ n) (n2 : n ≤ 6) (hm : m ≠ .non) (h : NotFr H m n 6) : PlIn H x l m t "most"
  | let_ (z : Str) (hx : x = .str z) (hz : z.length ≤ sizeLine) (hn : nmB z = true) (n : Int) (hl : l = .int n) (n1 : 1 ≤ n) (n2 : n ≤ 6) (hm : m = .non ∨ ∃ k : Int, m = .int k ∧ n ≤ k ∧ k ≤ 6) (h : OddB H t) : PlIn H x l m t "let"
/-- the parts of a place that is made -/
def PlOk (x l m t : V) (z : Str) (n k : Int) (b : Bool) : Prop := x = .str z ∧ z.length ≤ sizeLine ∧ nmB z = true ∧ l = .int n ∧ 1 ≤ n ∧ n ≤ k ∧ k ≤ 6 ∧ (m = .int k ∨ (m = .non ∧ k = n)) ∧ t = .bl b
theorem Odd.same {H H' : Hp} {x : V} (o : Odd H x) (s : Same H H') : Odd H' x := o.ext s
theorem oddB_ext {H H' : Hp} {x : V} (o : OddB H x) (s : Same H H') : OddB H' x := by
  cases o with
  | str z => exact .str z
  | non => exact .non
  | int i => exact .int i
  | tup h => exact .tup (s _ _ h)
  | lst h => exact .lst (s _ _ h)
  | dic h => exact .dic (s _ _ h)
theorem NotFr.ext {H H' : Hp} {x : V} {lo hi : Int} (o : NotFr H x lo hi) (s : Same H H') : NotFr H' x lo hi := o.elim .inl fun o => .inr (o.ext s)
def spPlI (K : PySem.W.Frag) : Sp := fun vs H Q E => ∃ (p dx : Addr) (x l m t : V), vs = [.ref p, x, l, m, t] ∧ H p = some (.ins (CP K) dx []) ∧
  ((∃ w, PlIn H x l m t w ∧ ∀ H' d, Same H H' → H' d = none → E (.ref (CBP K)) (some d) (upd H' d (.xd [("why", .str w)]))) ∨
   (∃ z n k b, PlOk x l m t z n k b ∧ ∀ H', Same H H' → Q .non (upd H' p (.ins (CP K) dx (plf z n k b)))))
theorem sc_Place_init : FnScope ["self", "name", "least", "most", "let"] ["self", "name", "least", "most", "let"] (defScope s_Place_init) := ⟨rfl, rfl, rfl, by decide +kernel, rfl, by decide +kernel, by decide +kernel⟩
-- slots: 0 self, 1 name, 2 least, 3 most, 4 let
theorem ok_Place_init {fd : FuncData} (F : FunD K "__init__" "Place.__init__" (defArgs s_Place_init) (defBody s_Place_init) (defScope s_Place_init) [.int 1, .non] [("let", .bl true)] (He.fAd K ("Place", some "__init__")) fd) (T : PTxt K mg)
    (O_is_name : OkF P w K mg base CX0 1 "is_name" ["x"] spName) (O_is_integer_from : OkF P w K mg base CX0 2 "is_integer_from" ["x", "low", "high"] spFr) (O_is_flag : OkF P w K mg base CX0 1 "is_flag" ["x"] spFlag)
    (O_BadPlace_init : OkD P w K mg base CX0 1 ("BadPlace", some "__init__") ["self", "why"] [] (spExI K (CBP K) "why")) :
    FnOk P w K mg base (L2.CX P w) 4 (He.fAd K ("Place", some "__init__")) fd ["self", "name", "least", "most", "let"] (spPlI K) := by
  refine F.ok sc_Place_init (fun vs H Q E h => ?_) fun cdv A outer s H vs Q E hr h => ?_
  · obtain ⟨p, dx, x, l, m, t, rfl, _⟩ := h
    rfl
  · obtain ⟨p, dx, x, l, m, t, rfl, hp, h⟩ := h
    refine ⟨_, (pss_cons (ps_if (pt_not (pt_val (c_fn O_is_name hr (by decide) T.g_is_name pass0 (pa_cons (pv 1) pa_nil)))) (pss_one (c_raise T.x_BadPlace O_BadPlace_init hr (by decide) T.g_BadPlace (takes_of rfl rfl rfl rfl) (pa_cons pe_str pa_nil)))
  pss_nil)
  (pss_cons (ps_if (pt_not (pt_val (c_fn O_is_integer_from hr (by decide) T.g_is_integer_from pass0 (pa_cons (pv 2) (pa_cons pe_int (pa_cons (c_gint T.i_MOST_TICKS) pa_nil)))))) (pss_one (c_raise T.x_BadPlace O_BadPlace_init hr (by decide) T.g_BadPlace (takes_of rfl rfl rfl rfl) (pa_cons pe_str pa_nil)))
  pss_nil)
  (pss_cons (ps_if (PW.pt (pw_and (pt_cmpR op_notN (pv 3) pe_non (nomark _)) (pw_and1 (pt_not (pt_val (c_fn O_is_integer_from hr (by decide) T.g_is_integer_from pass0 (pa_cons (pv 3) (pa_cons (pv 2) (pa_cons (c_gint T.i_MOST_TICKS) pa_nil))))))))) (pss_one (c_raise T.x_BadPlace O_BadPlace_init hr (by decide) T.g_BadPlace (takes_of rfl rfl rfl rfl) (pa_cons pe_str pa_nil)))
  pss_nil)
  (pss_cons (ps_if (pt_not (pt_val (c_fn O_is_flag hr (by decide) T.g_is_flag pass0 (pa_cons (pv 4) pa_nil)))) (pss_one (c_raise T.x_BadPlace O_BadPlace_init hr (by decide) T.g_BadPlace (takes_of rfl rfl rfl rfl) (pa_cons pe_str pa_nil)))
  pss_nil)
  (pss_cons (ps_fld (pv 0) (pv 1) rfl)
  (pss_cons (ps_fld (pv 0) (pv 2) rfl)
  (pss_cons (ps_fld (pv 0) (pe_ifExp (pt_cmpR op_isN (pv 3) pe_non (nomark _)) (pv 2) (pv 3)) rfl)
  (pss_one (ps_fld (pv 0) (pv 4) rfl))))))))), ?_⟩
    rcases h with ⟨w, hi, k⟩ | ⟨z, n, kk, b, ⟨rfl, hz, hn, rfl, n1, n2, n3, hm, rfl⟩, k⟩
    · cases hi with
      | name h =>
        rcases h with ⟨z, rfl, hz, hn⟩ | o
        · refine ⟨_, rfl, _, rfl, .inl ⟨z, rfl, hz, fun H1 s1 => ⟨false, by rw [hn], iteT ⟨_, rfl, fun d hd => k H1 d s1 hd⟩⟩⟩⟩
        · exact ⟨_, rfl, _, rfl, .inr ⟨o, false, rfl, iteT ⟨_, rfl, fun d hd => k H d (Same.refl _) hd⟩⟩⟩
      | least z hx hz hn h =>
        subst hx
        refine ⟨_, rfl, _, rfl, .inl ⟨z, rfl, hz, fun H1 s1 => ⟨true, by rw [hn], iteF ?_⟩⟩⟩
        exact ⟨_, rfl, _, _, _, rfl, .inr ⟨h.ext s1, false, rfl, iteT ⟨_, rfl, fun d hd => k H1 d s1 hd⟩⟩⟩
      | most z hx hz hn n hl n1 n2 hm h =>
        subst hx hl
        refine ⟨_, rfl, _, rfl, .inl ⟨z, rfl, hz, fun H1 s1 => ⟨true, by rw [hn], iteF ?_⟩⟩⟩
        refine ⟨_, rfl, _, _, _, rfl, .inl ⟨n, rfl, n1, n2, true, rfl, iteF ?_⟩⟩
        exact ⟨_, rfl, rfl, true, by rw [decide_eq_false hm]; rfl, iteT ⟨_, rfl, _, rfl, _, _, _, rfl, .inr ⟨h.ext s1, false, rfl, iteT ⟨_, rfl, fun d hd => k H1 d s1 hd⟩⟩⟩⟩
      | let_ z hx hz hn n hl n1 n2 hm h =>
        subst hx hl
        refine ⟨_, rfl, _, rfl, .inl ⟨z, rfl, hz, fun H1 s1 => ⟨true, by rw [hn], iteF ?_⟩⟩⟩
        refine ⟨_, rfl, _, _, _, rfl, .inl ⟨n, rfl, n1, n2, true, rfl, iteF ?_⟩⟩
        have fin := fun d hd => k H1 d s1 hd
        rcases hm with rfl | ⟨kk, rfl, k1, k2⟩
        · exact ⟨_, rfl, rfl, false, rfl, iteF ⟨_, rfl, _, rfl, .inr ⟨oddB_ext h s1, false, rfl, iteT ⟨_, rfl, fin⟩⟩⟩⟩
        · exact ⟨_, rfl, rfl, true, rfl, iteT ⟨_, rfl, _, rfl, _, _, _, rfl, .inl ⟨kk, rfl, k1, k2, true, rfl, iteF ⟨_, rfl, _, rfl, .inr ⟨oddB_ext h s1, false, rfl, iteT ⟨_, rfl, fin⟩⟩⟩⟩⟩⟩
    · refine ⟨_, rfl, _, rfl, .inl ⟨z, rfl, hz, fun H1 s1 => ⟨true, by rw [hn], iteF ?_⟩⟩⟩
      refine ⟨_, rfl, _, _, _, rfl, .inl ⟨n, rfl, n1, by omega, true, rfl, iteF ?_⟩⟩
      have hp1 := s1 _ _ hp
      have z0 : (0 : Nat) < 1000 := by decide
      have fin := k H1 s1
      rcases hm with rfl | ⟨rfl, rfl⟩
      · refine ⟨_, rfl, rfl, true, rfl, iteT ⟨_, rfl, _, rfl, _, _, _, rfl, .inl ⟨kk, rfl, n2, n3, true, rfl, iteF ⟨_, rfl, _, rfl, .inl ⟨b, rfl, true, rfl, iteF ?_⟩⟩⟩⟩⟩
        refine ⟨_, rfl, _, rfl, p, _, dx, [], rfl, hp1, T.c_Place, T.nN, (by show 0 < 1000; decide), ?_⟩
        refine ⟨_, rfl, _, rfl, p, _, dx, _, rfl, upd_same, T.c_Place, T.nL, (by show 1 < 1000; decide), ?_⟩
        rw [upd_upd]
        refine ⟨_, rfl, rfl, false, rfl, iteF ⟨_, rfl, _, rfl, p, _, dx, _, rfl, upd_same, T.c_Place, T.nM, (by show 2 < 1000; decide), ?_⟩⟩
        rw [upd_upd]
        refine ⟨_, rfl, _, rfl, p, _, dx, _, rfl, upd_same, T.c_Place, T.nT, (by show 3 < 1000; decide), ?_⟩
        rw [upd_upd]
        exact fin
      · refine ⟨_, rfl, rfl, false, rfl, iteF ⟨_, rfl, _, rfl, .inl ⟨b, rfl, true, rfl, iteF ?_⟩⟩⟩
        refine ⟨_, rfl, _, rfl, p, _, dx, [], rfl, hp1, T.c_Place, T.nN, (by show 0 < 1000; decide), ?_⟩
        refine ⟨_, rfl, _, rfl, p, _, dx, _, rfl, upd_same, T.c_Place, T.nL, (by show 1 < 1000; decide), ?_⟩
        rw [upd_upd]
        refine ⟨_, rfl, rfl, true, rfl, iteT ⟨_, rfl, _, rfl, p, _, dx, _, rfl, upd_same, T.c_Place, T.nM, (by show 2 < 1000; decide), ?_⟩⟩
        rw [upd_upd]
        refine ⟨_, rfl, _, rfl, p, _, dx, _, rfl, upd_same, T.c_Place, T.nT, (by show 3 < 1000; decide), ?_⟩
        rw [upd_upd]
        exact fin
/-- Place(name, least, most, let=t); the shorter ones -/
theorem O_Place3k {fd : FuncData} (F : FunD K "__init__" "Place.__init__" (defArgs s_Place_init) (defBody s_Place_init) (defScope s_Place_init) [.int 1, .non] [("let", .bl true)] (He.fAd K ("Place", some "__init__")) fd) (G : FnOk P w K mg base (L2.CX P w) 4 (He.fAd K ("Place", some "__init__")) fd ["self", "name", "least", "most", "let"] (spPlI K)) :
    OkK P w K mg base (L2.CX P w) 4 ("Place", some "__init__") ["self", "name", "least", "most", "let"] 4 ["let"] (fun vs zs => vs ++ zs) (spPlI K) := by
  obtain ⟨its, mv, b⟩ := F.kbinds (ps := ["self", "name", "least", "most", "let"]) 4 ["let"] [] (fun us _ _ ws => us ++ ws) (by decide) (by decide) (fun _ h => nomatch h) (fun r1 _ _ r4 => r1.append r4)
    fun T D doc pm an cdv ct us its mv ws h1 h2 h3 h4 => match us, its, mv, ws, h1, h2, h3, h4 with | [_, _, _, _], [_, _], [], [_], _, _, _, _ => ⟨_, rfl, rfl⟩
  exact ⟨fd, _, G, b⟩
theorem O_Place2 {fd : FuncData} (F : FunD K "__init__" "Place.__init__" (defArgs s_Place_init) (defBody s_Place_init) (defScope s_Place_init) [.int 1, .non] [("let", .bl true)] (He.fAd K ("Place", some "__init__")) fd) (G : FnOk P w K mg base (L2.CX P w) 4 (He.fAd K ("Place", some "__init__")) fd ["self", "name", "least", "most", "let"] (spPlI K)) :
    OkK P w K mg base (L2.CX P w) 4 ("Place", some "__init__") ["self", "name", "least", "most", "let"] 3 [] (fun vs _ => vs ++ [.non, .bl true]) (spPlI K) := by
  obtain ⟨its, mv, b⟩ := F.kbinds (ps := ["self", "name", "least", "most", "let"]) 3 [] [("let", .bl true)] (fun us its mv _ => us ++ (its.drop 1 ++ mv)) (by decide) (by decide) (fun _ h => h) (fun r1 r2 r3 _ => r1.append ((r2.drop 1).append r3))
    fun T D doc pm an cdv ct us its mv ws h1 h2 h3 h4 => match us, its, mv, ws, h1, h2, h3, h4 with | [_, _, _], [_, _], [_], [], _, _, _, _ => ⟨_, rfl, _, _, _, _, _, _, rfl, rfl, rfl⟩
  exact ⟨fd, _, G, b⟩
theorem O_Place1 {fd : FuncData} (F : FunD K "__init__" "Place.__init__" (defArgs s_Place_init) (defBody s_Place_init) (defScope s_Place_init) [.int 1, .non] [("let", .bl true)] (He.fAd K ("Place", some "__init__")) fd) (G : FnOk P w K mg base (L2.CX P w) 4 (He.fAd K ("Place", some "__init__")) fd ["self", "name", "least", "most", "let"] (spPlI K)) :
    OkK P w K mg base (L2.CX P w) 4 ("Place", some "__init__") ["self", "name", "least", "most", "let"] 2 [] (fun vs _ => vs ++ [.int 1, .non, .bl true]) (spPlI K) := by
  obtain ⟨its, mv, b⟩ := F.kbinds (ps := ["self", "name", "least", "most", "let"]) 2 [] [("let", .bl true)] (fun us its mv _ => us ++ (its ++ mv)) (by decide) (by decide) (fun _ h => h) (fun r1 r2 r3 _ => r1.append (r2.append r3))
    fun T D doc pm an cdv ct us its mv ws h1 h2 h3 h4 => match us, its, mv, ws, h1, h2, h3, h4 with | [_, _], [_, _], [_], [], _, _, _, _ => ⟨_, rfl, _, _, _, _, _, _, rfl, rfl, rfl⟩
  exact ⟨fd, _, G, b⟩
theorem sc_Place_eq : FnScope ["self", "other"] ["self", "other"] (defScope s_Place_eq) := ⟨rfl, rfl, rfl, by decide +kernel, rfl, by decide +kernel, by decide +kernel⟩
-- slots: 0 self, 1 other
def plB (z z' : Str) (l l' m m' : Int) (b b' : Bool) : Bool := decide (z = z') && (decide (l = l') && (decide (m = m') && decide (b = b')))
def spPlE (C : Addr) : Sp := fun vs H Q _ => ∃ (p q : Addr) (z z' : Str) (l l' m m' : Int) (b b' : Bool), vs = [.ref p, .ref q] ∧ PlA C H p z l m b ∧ PlA C H q z' l' m' b' ∧ Q (.bl (plB z z' l l' m m' b b')) H
theorem str_dec (a c : Str) : decide (V.str a = V.str c) = decide (a = c) := decide_eq_decide.mpr ⟨fun h => V.str.inj h, fun h => by rw [h]⟩
theorem int_dec (a c : Int) : decide (V.int a = V.int c) = decide (a = c) := decide_eq_decide.mpr ⟨fun h => V.int.inj h, fun h => by rw [h]⟩
theorem bl_dec (a c : Bool) : decide (V.bl a = V.bl c) = decide (a = c) := decide_eq_decide.mpr ⟨fun h => V.bl.inj h, fun h => by rw [h]⟩
theorem ok_Place_eq {fd : FuncData} (F : FnD K ("Place", some "__eq__") "__eq__" "Place.__eq__" s_Place_eq fd) (T : PTxt K mg) : OkM P w K mg base CX0 1 "Place" "__eq__" ["self", "other"] (spPlE (CP K)) := by
  refine okd F (F.ok sc_Place_eq (fun vs H Q E h => ?_) fun cdv A outer s H vs Q E hr h => ?_) fun _ _ _ _ _ _ us hl => match us, hl with | [_, _], _ => rfl
  · obtain ⟨p, q, z, z', l, l', m, m', b, b', rfl, _⟩ := h
    rfl
  · obtain ⟨p, q, z, z', l, l', m, m', b, b', rfl, ⟨dx, hp⟩, ⟨dy, hq⟩, k⟩ := h
    refine ⟨_, PSs.nox (pss_one (ps_ret (pe_and (pe_callB (id := "isinstance") call_isi (by rfl) T.z_isinstance (by decide +kernel) (pa_cons (pv 1) (pa_cons (pe_cl T.g_Place) pa_nil))) (pe_and (pe_cmpR op_eq (pe_fld (pv 0) rfl) (pe_fld (pv 1) rfl) (nomark _)) (pe_and (pe_cmpR op_eq (pe_fld (pv 0) rfl) (pe_fld (pv 1) rfl) (nomark _)) (pe_and (pe_cmpR op_eq (pe_fld (pv 0) rfl) (pe_fld (pv 1) rfl) (nomark _)) (pe_one (pe_cmpR op_eq (pe_fld (pv 0) rfl) (pe_fld (pv 1) rfl) (nomark _))))))))), ?_⟩
    refine ⟨_, rfl, .ref q, .ref (CP K), .ref (CP K), .ref (CP K), true, rfl, .own _, .base (.ins hq T.c_Place T.ha T.hn T.ht T.hm), T.k1, true, rfl, iteT ?_⟩
    unfold plB at k
    rw [← str_dec, ← int_dec, ← int_dec, ← bl_dec] at k
    refine ⟨_, rfl, p, _, dx, _, _, rfl, hp, T.c_Place, T.nN, plf_name .., _, rfl, q, _, dy, _, _, rfl, hq, T.c_Place, T.nN, plf_name .., rfl, _, rfl, ?_⟩
    cases e1 : decide (V.str z = V.str z') with
    | false =>
      rw [e1] at k
      exact iteF k
    | true =>
      rw [e1] at k
      refine iteT ⟨_, rfl, p, _, dx, _, _, rfl, hp, T.c_Place, T.nL, plf_least .., _, rfl, q, _, dy, _, _, rfl, hq, T.c_Place, T.nL, plf_least .., rfl, _, rfl, ?_⟩
      cases e2 : decide (V.int l = V.int l') with
      | false =>
        rw [e2] at k
        exact iteF k
      | true =>
        rw [e2] at k
        refine iteT ⟨_, rfl, p, _, dx, _, _, rfl, hp, T.c_Place, T.nM, plf_most .., _, rfl, q, _, dy, _, _, rfl, hq, T.c_Place, T.nM, plf_most .., rfl, _, rfl, ?_⟩
        cases e3 : decide (V.int m = V.int m') with
        | false =>
          rw [e3] at k
          exact iteF k
        | true =>
          rw [e3] at k
          exact iteT ⟨_, rfl, p, _, dx, _, _, rfl, hp, T.c_Place, T.nT, plf_let .., _, rfl, q, _, dy, _, _, rfl, hq, T.c_Place, T.nT, plf_let .., rfl, k⟩
end
end K37

set_option Elab.async false
set_option linter.all false
set_option pp.deepTerms.threshold 14
set_option pp.maxSteps 2500
set_option maxRecDepth 100000
set_option maxHeartbeats 2000000
namespace K37
open PySem PySem.Spec PyProof.Rows L2 Vf 
section
variable {P : Program} {w : World} {K : PySem.W.Frag} {mg : Str → Option Value} {base : Heap}
structure GTxt (K : PySem.W.Frag) (mg : Str → Option Value) : Prop extends PTxt K mg where
  z_enumerate : mg "enumerate" = none
  z_list : mg "list" = none
  z_tuple : mg "tuple" = none
  z_dict : mg "dict" = none
  i_MOST_PLACES : ∃ t, mg "MOST_PLACES" = some (.int 6 t)
  g_has_twins : mg "has_twins" = some (.ref (He.ga K "has_twins"))
  g_is_one_of : mg "is_one_of" = some (.ref (He.ga K "is_one_of"))
  g_are_places : mg "are_places" = some (.ref (He.ga K "are_places"))
  g_are_nexts : mg "are_nexts" = some (.ref (He.ga K "are_nexts"))
  g_is_choice : mg "is_choice" = some (.ref (He.ga K "is_choice"))
  g_Program : mg "Program" = some (.ref (He.ga K "Program"))
  g_BadProgram : mg "BadProgram" = some (.ref (He.ga K "BadProgram"))
  g_NoPlace : mg "NoPlace" = some (.ref (He.ga K "NoPlace"))
  c_Program : Cls K (He.ga K "Program")
  m_Program : Mk K (He.ga K "Program") (He.fAd K ("Program", some "__init__"))
  nA : NoAttr K (He.ga K "Program") "names"
  nB : NoAttr K (He.ga K "Program") "start"
  nC : NoAttr K (He.ga K "Program") "_places"
  nD : NoAttr K (He.ga K "Program") "_nexts"
  x_BadProgram : ExI K "BadProgram" "why"
  x_NoPlace : ExI K "NoPlace" "name"
  pa : PySem.W.findIn K (.ref (He.ga K "Program")) "__class__" = some (some (.builtin "object.__class__"))
  pm : PySem.W.mroIn K (He.ga K "Program") (.type "object") = some true
  pk : PySem.W.kitOne K (.ref (He.ga K "Program")) (.ref (He.ga K "Program")) = some true
abbrev CG (K : PySem.W.Frag) : Addr := He.ga K "Program"
abbrev CBG (K : PySem.W.Frag) : Addr := He.ga K "BadProgram"
theorem pe_fldK {X : Cx} {K : PySem.W.Frag} {e : Expr} {f : Str} {pos : Pos} {ta : TE} (hK : X.K = K) (he : PE X e ta) (hb : attributeBase e f X.env (eval e X.env) = eval e X.env) : PE X (.Attribute e f pos) (tFld K ta f) := hK ▸ pe_fld he hb
theorem call_isiB {X : Cx} {K : PySem.W.Frag} (hK : X.K = K) : CallR X (.builtin "isinstance") (rIsi K) := hK ▸ call_isi
theorem cutV_upto {xs : List V} {i : Nat} (h : i ≤ xs.length) : cutV xs none (some (i : Int)) = xs.take i := by
  unfold cutV
  have e1 : HT.sIx xs.length 0 none = 0 := rfl
  have e2 : HT.sIx xs.length xs.length (some (i : Int)) = i := by
    rw [HT.sIx_nat]
    omega
  rw [e1, e2]
  simp
theorem nodup_snoc (zs : List Str) (z : Str) : (!decide (zs ++ [z]).Nodup) = (!decide zs.Nodup || decide (z ∈ zs)) := by
  rw [Bool.eq_iff_iff]
  simp only [Bool.not_eq_true', decide_eq_false_iff_not, Bool.or_eq_true, decide_eq_true_eq, List.nodup_append, List.mem_singleton]
  constructor
  · intro h
    by_cases hn : zs.Nodup
    · right
      exact Classical.byContradiction fun hz => h ⟨hn, by simp, fun a ha b hb => by rw [hb]; exact fun e => hz (e ▸ ha)⟩
    · exact .inl hn
  · rintro (h | h) ⟨h1, _, h3⟩
    · exact h h1
    · exact h3 z h z rfl rfl
theorem sc_has_twins : FnScope ["items", "at", "item", "earlier"] ["items"] (defScope s_has_twins) := ⟨rfl, rfl, rfl, by decide +kernel, rfl, by decide +kernel, by decide +kernel⟩
-- slots: 0 items, 1 at, 2 item, 3 earlier
/-- texts at a: are two of them equal -/
def spTw (K : PySem.W.Frag) : Sp := fun vs H Q _ => ∃ (a : Addr) (zs : List Str), vs = [.ref a] ∧ zs.length ≤ 1000 ∧ (SqL K H a (zs.map V.str) ∨ SqT K H a (zs.map V.str)) ∧ ∀ H', Same H H' → Q (.bl (!decide zs.Nodup)) H'
theorem ok_has_twins {fd : FuncData} (F : FnD K ("has_twins", none) "has_twins" "has_twins" s_has_twins fd) (T : GTxt K mg) : OkF P w K mg base CX0 1 "has_twins" ["items"] (spTw K) := by
  refine okd F (F.ok sc_has_twins (fun vs H Q E h => ?_) fun cdv A outer s H vs Q E hr h => ?_) fun _ _ _ _ _ _ us hl => match us, hl with | [_], _ => rfl
  · obtain ⟨a, zs, rfl, _⟩ := h
    rfl
  · obtain ⟨a, zs, rfl, hlen, hS | hS, k⟩ := h
    · refine ⟨_, PSs.nox (pss_cons (ps_for PassesOwn.never rfl (pi_enum (by rfl) T.z_enumerate (pa_cons (pv 0) pa_nil)) (pg_tup rfl (pgs_cons (pg_name (i := 1) sc_has_twins.nd rfl (Or.inl rfl)) (pgs_cons (pg_name (i := 2) sc_has_twins.nd rfl (Or.inl rfl)) pgs_nil)))
  (pss_one (ps_for PassesOwn.never rfl (pi_list (pe_slice sl_list (pv 0) po_none (po_some (pv 1)))) (pg_name (i := 3) sc_has_twins.nd rfl (Or.inl rfl))
  (pss_one (ps_if (pt_cmpR op_eq (pv 2) (pv 3) (nomark _)) (pss_one (ps_ret pe_bl))
  pss_nil)))))
  (pss_one (ps_ret pe_bl))), ?_⟩
      refine ⟨_, rfl, a, _, rfl, hS, for_it walk_enum (fun i σ H' => Same H H' ∧ (zs.take i).Nodup ∧ ∃ v1 v2 v3 : Option V, σ = [some (.ref a), v1, v2, v3]) ⟨Same.refl _, List.nodup_nil, none, none, none, rfl⟩ (fun i σ H' _ h => h.1.seq hS) ?_ ?_⟩
      · rintro i x σ H1 H2 hi ⟨sg, hn, v1, v2, v3, rfl⟩ hy
        obtain ⟨T', x', y', rfl, nT', rfl, hx', hy'⟩ := hy
        cases (Option.some.inj hx')
        replace hy' : (zs.map V.str)[i]? = some y' := hy'
        rw [List.getElem?_map] at hy'
        obtain ⟨z, hz, rfl⟩ : ∃ z, zs[i]? = some z ∧ y' = .str z := by
          cases hq : zs[i]? with
          | none => rw [hq] at hy'; cases hy'
          | some z =>
            rw [hq] at hy'
            exact ⟨z, rfl, (Option.some.inj hy').symm⟩
        have hi' : i < zs.length := (List.getElem?_eq_some_iff.mp hz).1
        have sT := sg.trans (same_new (o := .tup [.int (i : Nat), .str z]) nT')
        refine ⟨T', _, rfl, SqT.of upd_same, rfl, _, _, rfl, _, _, rfl, rfl, ?_⟩
        have ecut : cutV (zs.map V.str) none (some ((i : Nat) : Int)) = (zs.take i).map V.str := by
          rw [cutV_upto (xs := zs.map V.str) (i := i) (by rw [List.length_map]; omega), List.map_take]
        refine ⟨_, rfl, _, rfl, (i : Int), rfl, a, _, rfl, sT.seq hS, fun p np => ?_⟩
        rw [ecut]
        have sp := sT.trans (same_new (o := .lst ((zs.take i).map V.str)) np)
        have hp := upd_same (H := upd H1 T' (.tup [.int (i : Nat), .str z])) (a := p) (o := .lst ((zs.take i).map V.str))
        generalize upd (upd H1 T' (.tup [.int (i : Nat), .str z])) p (.lst ((zs.take i).map V.str)) = H3 at sp hp ⊢
        refine ⟨p, rfl, ⟨_, SqL.of hp⟩, for_list (K := K) (a := p) (xs := (zs.take i).map V.str) (fun j σ H' => H' = H3 ∧ (∀ w ∈ (zs.take i).take j, w ≠ z) ∧ ∃ v3 : Option V, σ = [some (.ref a), some (.int (i : Int)), some (.str z), v3]) ⟨rfl, (fun _ h => by cases h), v3, rfl⟩ (fun j σ H' _ h => h.1 ▸ SqL.of hp) ?_ ?_⟩
        · rintro j w σ H' hj ⟨rfl, hne, v, rfl⟩
          rw [List.getElem?_map] at hj
          obtain ⟨u, hu, rfl⟩ : ∃ u, (zs.take i)[j]? = some u ∧ w = .str u := by
            cases hq : (zs.take i)[j]? with
            | none => rw [hq] at hj; cases hj
            | some u =>
              rw [hq] at hj
              exact ⟨u, rfl, (Option.some.inj hj).symm⟩
          refine ⟨_, rfl, _, rfl, rfl, _, rfl, ite2 (fun e => ?_) fun e => ?_⟩
          · have ez : z = u := V.str.inj (of_decide_eq_true e)
            have hd : ¬ zs.Nodup := fun hn2 => by
              have h1 : (zs.take (i + 1)).Nodup := hn2.sublist (List.take_sublist _ _)
              rw [List.take_add_one, hz] at h1
              exact (List.nodup_append.mp h1).2.2 u (List.mem_of_getElem? hu) z (by simp) ez.symm
            have := k _ sp
            rw [decide_eq_false hd] at this
            exact this
          · refine ⟨rfl, fun v hv => ?_, _, rfl⟩
            rw [List.take_add_one, hu] at hv
            rcases List.mem_append.mp hv with hv | hv
            · exact hne v hv
            · have : v = u := by simpa using hv
              rw [this]
              exact fun ez => e (decide_eq_true (by rw [ez]))
        · rintro σ H' ⟨rfl, hne, v, rfl⟩
          refine ⟨sp, ?_, _, _, _, rfl⟩
          rw [List.length_map, List.take_length] at hne
          rw [List.take_add_one, hz]
          exact List.nodup_append.mpr ⟨hn, by simp, fun w hw w' hw' => by
            have : w' = z := by simpa using hw'
            rw [this]
            exact hne w hw⟩
      · rintro σ H1 ⟨sg, hn, v1, v2, v3, rfl⟩
        rw [List.length_map, List.take_length] at hn
        have := k H1 sg
        rw [decide_eq_true hn] at this
        exact this
    · refine ⟨_, PSs.nox (pss_cons (ps_for PassesOwn.never rfl (pi_enumT (by rfl) T.z_enumerate (pa_cons (pv 0) pa_nil)) (pg_tup rfl (pgs_cons (pg_name (i := 1) sc_has_twins.nd rfl (Or.inl rfl)) (pgs_cons (pg_name (i := 2) sc_has_twins.nd rfl (Or.inl rfl)) pgs_nil)))
  (pss_one (ps_for PassesOwn.never rfl (pi_tup (pe_slice sl_tup (pv 0) po_none (po_some (pv 1)))) (pg_name (i := 3) sc_has_twins.nd rfl (Or.inl rfl))
  (pss_one (ps_if (pt_cmpR op_eq (pv 2) (pv 3) (nomark _)) (pss_one (ps_ret pe_bl))
  pss_nil)))))
  (pss_one (ps_ret pe_bl))), ?_⟩
      refine ⟨_, rfl, a, _, rfl, hS, for_it walk_enumT (fun i σ H' => Same H H' ∧ (zs.take i).Nodup ∧ ∃ v1 v2 v3 : Option V, σ = [some (.ref a), v1, v2, v3]) ⟨Same.refl _, List.nodup_nil, none, none, none, rfl⟩ (fun i σ H' _ h => SqT.ext hS h.1) ?_ ?_⟩
      · rintro i x σ H1 H2 hi ⟨sg, hn, v1, v2, v3, rfl⟩ hy
        obtain ⟨T', x', y', rfl, nT', rfl, hx', hy'⟩ := hy
        cases (Option.some.inj hx')
        replace hy' : (zs.map V.str)[i]? = some y' := hy'
        rw [List.getElem?_map] at hy'
        obtain ⟨z, hz, rfl⟩ : ∃ z, zs[i]? = some z ∧ y' = .str z := by
          cases hq : zs[i]? with
          | none => rw [hq] at hy'; cases hy'
          | some z =>
            rw [hq] at hy'
            exact ⟨z, rfl, (Option.some.inj hy').symm⟩
        have hi' : i < zs.length := (List.getElem?_eq_some_iff.mp hz).1
        have sT := sg.trans (same_new (o := .tup [.int (i : Nat), .str z]) nT')
        refine ⟨T', _, rfl, SqT.of upd_same, rfl, _, _, rfl, _, _, rfl, rfl, ?_⟩
        have ecut : cutV (zs.map V.str) none (some ((i : Nat) : Int)) = (zs.take i).map V.str := by
          rw [cutV_upto (xs := zs.map V.str) (i := i) (by rw [List.length_map]; omega), List.map_take]
        have nw : ¬ (HT.sIx (zs.map V.str).length 0 none = 0 ∧ HT.sIx (zs.map V.str).length (zs.map V.str).length (some (i : Int)) = (zs.map V.str).length) := fun z => by
          have e1 : HT.sIx (zs.map V.str).length (zs.map V.str).length (some (i : Int)) = min i (zs.map V.str).length := HT.sIx_nat ..
          rw [e1, List.length_map] at z
          omega
        refine ⟨_, rfl, _, rfl, (i : Int), rfl, a, _, rfl, SqT.ext hS sT, nw, fun p np => ?_⟩
        rw [ecut]
        have sp := sT.trans (same_new (o := .tup ((zs.take i).map V.str)) np)
        have hp := upd_same (H := upd H1 T' (.tup [.int (i : Nat), .str z])) (a := p) (o := .tup ((zs.take i).map V.str))
        generalize upd (upd H1 T' (.tup [.int (i : Nat), .str z])) p (.tup ((zs.take i).map V.str)) = H3 at sp hp ⊢
        refine ⟨p, rfl, ⟨_, SqT.of hp⟩, for_tup (K := K) (a := p) (xs := (zs.take i).map V.str) (fun j σ H' => H' = H3 ∧ (∀ w ∈ (zs.take i).take j, w ≠ z) ∧ ∃ v3 : Option V, σ = [some (.ref a), some (.int (i : Int)), some (.str z), v3]) ⟨rfl, (fun _ h => by cases h), v3, rfl⟩ (fun j σ H' _ h => h.1 ▸ SqT.of hp) ?_ ?_⟩
        · rintro j w σ H' hj ⟨rfl, hne, v, rfl⟩
          rw [List.getElem?_map] at hj
          obtain ⟨u, hu, rfl⟩ : ∃ u, (zs.take i)[j]? = some u ∧ w = .str u := by
            cases hq : (zs.take i)[j]? with
            | none => rw [hq] at hj; cases hj
            | some u =>
              rw [hq] at hj
              exact ⟨u, rfl, (Option.some.inj hj).symm⟩
          refine ⟨_, rfl, _, rfl, rfl, _, rfl, ite2 (fun e => ?_) fun e => ?_⟩
          · have ez : z = u := V.str.inj (of_decide_eq_true e)
            have hd : ¬ zs.Nodup := fun hn2 => by
              have h1 : (zs.take (i + 1)).Nodup := hn2.sublist (List.take_sublist _ _)
              rw [List.take_add_one, hz] at h1
              exact (List.nodup_append.mp h1).2.2 u (List.mem_of_getElem? hu) z (by simp) ez.symm
            have := k _ sp
            rw [decide_eq_false hd] at this
            exact this
          · refine ⟨rfl, fun v hv => ?_, _, rfl⟩
            rw [List.take_add_one, hu] at hv
            rcases List.mem_append.mp hv with hv | hv
            · exact hne v hv
            · have : v = u := by simpa using hv
              rw [this]
              exact fun ez => e (decide_eq_true (by rw [ez]))
        · rintro σ H' ⟨rfl, hne, v, rfl⟩
          refine ⟨sp, ?_, _, _, _, rfl⟩
          rw [List.length_map, List.take_length] at hne
          rw [List.take_add_one, hz]
          exact List.nodup_append.mpr ⟨hn, by simp, fun w hw w' hw' => by
            have : w' = z := by simpa using hw'
            rw [this]
            exact hne w hw⟩
      · rintro σ H1 ⟨sg, hn, v1, v2, v3, rfl⟩
        rw [List.length_map, List.take_length] at hn
        have := k H1 sg
        rw [decide_eq_true hn] at this
        exact this
theorem inV_str (z : Str) (zs : List Str) : inV (.str z) (zs.map V.str) = decide (z ∈ zs) := by
  rw [Bool.eq_iff_iff, decide_eq_true_eq]
  unfold inV
  rw [List.any_eq_true]
  constructor
  · rintro ⟨y, hy, he⟩
    obtain ⟨w, hw, rfl⟩ := List.mem_map.mp hy
    have : (w == z) = true := he
    rw [← eq_of_beq this]
    exact hw
  · intro h
    exact ⟨.str z, List.mem_map_of_mem h, by show (z == z) = true; simp⟩
theorem flat_str (zs : List Str) : (zs.map V.str).all flatV = true := by
  rw [List.all_map, List.all_eq_true]
  exact fun _ _ => rfl
theorem sc_is_one_of : FnScope ["x", "names"] ["x", "names"] (defScope s_is_one_of) := ⟨rfl, rfl, rfl, by decide +kernel, rfl, by decide +kernel, by decide +kernel⟩
-- slots: 0 x, 1 names
/-- is x one of the texts at t -/
def spOne (K : PySem.W.Frag) : Sp := fun vs H Q _ => ∃ (x : V) (t : Addr) (zs : List Str), vs = [x, .ref t] ∧ SqT K H t (zs.map V.str) ∧ ((∃ z, x = .str z ∧ Q (.bl (decide (z ∈ zs))) H) ∨ (OddS H x ∧ Q (.bl false) H))
theorem ok_is_one_of {fd : FuncData} (F : FnD K ("is_one_of", none) "is_one_of" "is_one_of" s_is_one_of fd) (T : GTxt K mg) : OkF P w K mg base CX0 1 "is_one_of" ["x", "names"] (spOne K) := by
  refine okd F (F.ok sc_is_one_of (fun vs H Q E h => ?_) fun cdv A outer s H vs Q E hr h => ?_) fun _ _ _ _ _ _ us hl => match us, hl with | [_, _], _ => rfl
  · obtain ⟨x, t, zs, rfl, _⟩ := h
    rfl
  · obtain ⟨x, t, zs, rfl, hS, h⟩ := h
    refine ⟨_, PSs.nox (pss_one (ps_ret (pe_and (pe_callB (id := "isinstance") call_isi (by rfl) T.z_isinstance (by decide +kernel) (pa_cons (pv 0) (pa_cons (pe_ty (n := "str") T.z_str (by decide +kernel)) pa_nil))) (pe_one (pe_cmpR op_in_seq (pv 0) (pv 1) rfl))))), ?_⟩
    rcases h with ⟨z, rfl, q⟩ | ⟨o, q⟩
    · refine ⟨_, rfl, .str z, .ty "str", .type "str", .type "str", true, rfl, .ty _, .base (.str _), kit_ty (by decide +kernel), true, rfl, iteT ?_⟩
      refine ⟨_, rfl, _, rfl, t, _, rfl, .inr hS, rfl, flat_str zs, ?_⟩
      show Q (.bl (inV (.str z) (zs.map V.str))) H
      rw [inV_str]
      exact q
    · obtain ⟨n, t1, k1⟩ := oddS_ty K o
      exact ⟨_, rfl, x, .ty "str", .type n, .type "str", false, rfl, .ty _, t1, kit_ty k1, false, rfl, iteF q⟩
end
end K37

set_option Elab.async false
set_option linter.all false
set_option pp.deepTerms.threshold 14
set_option pp.maxSteps 2500
set_option maxRecDepth 100000
set_option maxHeartbeats 2000000
namespace K37
open PySem PySem.Spec PyProof.Rows L2 Vf 
section
variable {P : Program} {w : World} {K : PySem.W.Frag} {mg : Str → Option Value} {base : Heap}
theorem sc_is_choice : FnScope ["ways", "names", "way"] ["ways", "names"] (defScope s_is_choice) := ⟨rfl, rfl, rfl, by decide +kernel, rfl, by decide +kernel, by decide +kernel⟩
-- slots: 0 ways, 1 names, 2 way
def spChoice (K : PySem.W.Frag) : Sp := fun vs H Q _ => ∃ (t n : Addr) (ws zs : List Str), vs = [.ref t, .ref n] ∧ H t = some (.tup (ws.map V.str)) ∧ H n = some (.tup (zs.map V.str)) ∧ (∀ y ∈ ws, y ∈ zs) ∧ ws.Nodup ∧ ws.length ≤ 1000 ∧ ∀ H', Same H H' → Q (.bl true) H'
theorem take_rep (i : Nat) : (List.replicate i true).map V.bl ++ [V.bl true] = (List.replicate (i + 1) true).map V.bl := by
  rw [List.replicate_succ', List.map_append]
  rfl
theorem all_rep (i : Nat) : (List.replicate i true).all id = true := by
  rw [List.all_eq_true]
  intro x hx
  rw [List.mem_replicate] at hx
  rw [hx.2]
  rfl
theorem ok_is_choice {fd : FuncData} (F : FnD K ("is_choice", none) "is_choice" "is_choice" s_is_choice fd) (T : GTxt K mg) (O_is_one_of : OkF P w K mg base CX0 1 "is_one_of" ["x", "names"] (spOne K)) (O_has_twins : OkF P w K mg base CX0 1 "has_twins" ["items"] (spTw K)) : OkF P w K mg base CX0 2 "is_choice" ["ways", "names"] (spChoice K) := by
  refine okd F (F.ok sc_is_choice (fun vs H Q E h => ?_) fun cdv A outer s H vs Q E hr h => ?_) fun _ _ _ _ _ _ us hl => match us, hl with | [_, _], _ => rfl
  · obtain ⟨t, n, ws, zs, rfl, _⟩ := h
    rfl
  · obtain ⟨t, n, ws, zs, rfl, ht, hn, hsub, hnd, hlen, k⟩ := h
    refine ⟨_, PSs.nox (pss_cons (ps_if (PW.pt (pw_or (pt_not (pt_val (pe_callB (id := "isinstance") call_isi (by rfl) T.z_isinstance (by decide +kernel) (pa_cons (pv 0) (pa_cons (pe_ty (n := "tuple") T.z_tuple (by decide +kernel)) pa_nil))))) (pw_or1 (pt_not (pt_val (pe_callB (id := "all") (cr_all rfl) (by rfl) T.z_all (by decide +kernel) (pa_cons (pe_lc (own := [("way", 2)]) (g := gName 2) (tt := tYes) (by rfl) sc_is_choice.nd (pi_tup (pv 0)) (blkOk_by (N := ["ways", "names", "way"]) (sc := defScope s_is_choice) (by decide +kernel)) (fun _ _ _ _ _ => (pg_name (i := 2) sc_is_choice.nd rfl (Or.inl rfl))) (fun _ _ _ _ _ => pts_nil) (fun _ _ _ _ _ => (c_fn O_is_one_of hr (by decide) T.g_is_one_of pass0 (pa_cons (pv 2) (pa_cons (pv 1) pa_nil))))) pa_nil))))))) (pss_one (ps_ret pe_bl))
  pss_nil)
  (pss_one (ps_ret (pe_not (c_fn O_has_twins hr (by decide) T.g_has_twins pass0 (pa_cons (pv 0) pa_nil)))))), ?_⟩
    refine ⟨_, rfl, .ref t, .ty "tuple", .type "tuple", .type "tuple", true, rfl, .ty _, .base (.tup ht), kit_ty (by decide +kernel), true, rfl, iteF ?_⟩
    refine ⟨_, rfl, t, rfl, ⟨_, SqT.of ht⟩, fun D nD => lc_it walk_tup (fun i H' => Same H H' ∧ H' D = some (.lst ((List.replicate i true).map V.bl))) ⟨same_new nD, upd_same⟩ (fun i H' _ h => SqT.ext (SqT.of ht) h.1) ?_ ?_⟩
    · rintro i x H1 H' hi ⟨sg, hD⟩ ⟨rfl, hx⟩
      rw [List.getElem?_map] at hx
      obtain ⟨y, hy, rfl⟩ : ∃ y, ws[i]? = some y ∧ x = .str y := by
        cases hq : ws[i]? with
        | none => rw [hq] at hx; cases hx
        | some y =>
          rw [hq] at hx
          exact ⟨y, rfl, (Option.some.inj hx).symm⟩
      have hin := hsub y (List.mem_of_getElem? hy)
      refine ⟨rfl, _, rfl, _, rfl, .str y, n, zs, rfl, SqT.ext (SqT.of hn) sg, .inl ⟨y, rfl, ?_⟩⟩
      rw [decide_eq_true hin]
      refine ⟨_, hD, ?_, same_app sg (Same.refl _) nD, by rw [upd_same, take_rep]⟩
      rw [List.length_map, List.length_replicate]
      rw [List.length_map] at hi
      exact Nat.lt_of_lt_of_le hi (Nat.le_trans hlen (by decide))
    · rintro H' ⟨sg, hD⟩
      refine ⟨D, _, rfl, SqL.of hD, ?_⟩
      rw [all_rep]
      refine ⟨true, rfl, iteF ⟨_, rfl, t, ws, rfl, hlen, .inr (SqT.ext (SqT.of ht) sg), fun H2 s2 => ?_⟩⟩
      rw [decide_eq_true hnd]
      exact ⟨_, rfl, k H2 (sg.trans s2)⟩
structure Rw where
  z : Str
  l : Int
  m : Int
  b : Bool
  ns : List Str
deriving DecidableEq
/-- a place, the tuple of its nexts, its row -/
abbrev PgE : Type := Addr × Addr × Rw
def zsOf (xs : List PgE) : List Str := xs.map fun x => x.2.2.z
def PlE (K : PySem.W.Frag) (H : Hp) (x : PgE) : Prop := PlA (CP K) H x.1 x.2.2.z x.2.2.l x.2.2.m x.2.2.b
theorem PlE.ext {K : PySem.W.Frag} {H H' : Hp} {x : PgE} (h : PlE K H x) (s : Same H H') : PlE K H' x := PlA.ext h s
theorem getE {xs : List PgE} {f : PgE → V} {i : Nat} {x : V} (h : (xs.map f)[i]? = some x) : ∃ y, xs[i]? = some y ∧ x = f y := by
  rw [List.getElem?_map] at h
  cases hq : xs[i]? with
  | none => rw [hq] at h; cases h
  | some y =>
    rw [hq] at h
    exact ⟨y, rfl, (Option.some.inj h).symm⟩
theorem sc_are_places : FnScope ["places", "place"] ["places"] (defScope s_are_places) := ⟨rfl, rfl, rfl, by decide +kernel, rfl, by decide +kernel, by decide +kernel⟩
-- slots: 0 places, 1 place
def spArePl (K : PySem.W.Frag) : Sp := fun vs H Q _ => ∃ (L : Addr) (xs : List PgE), vs = [.ref L] ∧ (H L = some (.lst (xs.map fun x => V.ref x.1)) ∨ H L = some (.tup (xs.map fun x => V.ref x.1))) ∧ (∀ x ∈ xs, PlE K H x) ∧ 1 ≤ xs.length ∧ xs.length ≤ 6 ∧ (zsOf xs).Nodup ∧ ∀ H', Same H H' → Q (.bl true) H'
theorem ok_are_places {fd : FuncData} (F : FnD K ("are_places", none) "are_places" "are_places" s_are_places fd) (T : GTxt K mg) (O_has_twins : OkF P w K mg base CX0 1 "has_twins" ["items"] (spTw K)) : OkF P w K mg base CX0 2 "are_places" ["places"] (spArePl K) := by
  refine okd F (F.ok sc_are_places (fun vs H Q E h => ?_) fun cdv A outer s H vs Q E hr h => ?_) fun _ _ _ _ _ _ us hl => match us, hl with | [_], _ => rfl
  · obtain ⟨L, xs, rfl, _⟩ := h
    rfl
  · obtain ⟨L, xs, rfl, hL | hL, hp, l1, l6, hnd, k⟩ := h
    · refine ⟨_, PSs.nox (pss_cons (ps_if (PW.pt (pw_or (pt_not (pt_val (pe_callB (id := "isinstance") call_isiT (by rfl) T.z_isinstance (by decide +kernel) (pa_cons (pv 0) (pa_cons (pe_tup (pa_cons (pe_ty (n := "list") T.z_list (by decide +kernel)) (pa_cons (pe_ty (n := "tuple") T.z_tuple (by decide +kernel)) pa_nil))) pa_nil))))) (pw_or1 (pt_not (pt_chain op_le op_le pe_int (pe_callB (id := "len") call_len_seq (by rfl) T.z_len (by decide +kernel) (pa_cons (pv 0) pa_nil)) (c_gint T.i_MOST_PLACES)))))) (pss_one (ps_ret pe_bl))
  pss_nil)
  (pss_cons (ps_if (pt_not (pt_val (pe_callB (id := "all") (cr_all rfl) (by rfl) T.z_all (by decide +kernel) (pa_cons (pe_lc (own := [("place", 1)]) (g := gName 1) (tt := tYes) (by rfl) sc_are_places.nd (pi_list (pv 0)) (blkOk_by (N := ["places", "place"]) (sc := defScope s_are_places) (by decide +kernel)) (fun _ _ _ _ _ => (pg_name (i := 1) sc_are_places.nd rfl (Or.inl rfl))) (fun _ _ _ _ _ => pts_nil) (fun _ _ _ _ _ => (pe_callB (id := "isinstance") (call_isiB (K := K) rfl) (by rfl) T.z_isinstance (by decide +kernel) (pa_cons (pv 1) (pa_cons (pe_cl T.g_Place) pa_nil))))) pa_nil)))) (pss_one (ps_ret pe_bl))
  pss_nil)
  (pss_one (ps_ret (pe_not (c_fn O_has_twins hr (by decide) T.g_has_twins pass0 (pa_cons (pe_lc (own := [("place", 1)]) (g := gName 1) (tt := tYes) (by rfl) sc_are_places.nd (pi_list (pv 0)) (blkOk_by (N := ["places", "place"]) (sc := defScope s_are_places) (by decide +kernel)) (fun _ _ _ _ _ => (pg_name (i := 1) sc_are_places.nd rfl (Or.inl rfl))) (fun _ _ _ _ _ => pts_nil) (fun _ _ _ _ _ => (pe_fldK (K := K) rfl (pv 1) rfl))) pa_nil))))))), ?_⟩
      refine ⟨_, rfl, (by show 2 ≤ sizeLine; decide), fun tp ntp => ⟨.ref L, tp, [.ty "list", .ty "tuple"], .type "list", [.type "list", .type "tuple"], true, rfl, upd_same, .cons (.ty _) (.cons (.ty _) .nil), .base (.lst (same_new ntp _ _ hL)), kitAny_cons (b := true) (kit_ty (by decide +kernel)) (fun z => nomatch z) (fun _ => rfl), true, rfl, iteF ?_⟩⟩
      have s1 := same_new (o := .tup [.ty "list", .ty "tuple"]) ntp
      have hL1 := s1 _ _ hL
      generalize upd H tp (.tup [.ty "list", .ty "tuple"]) = H1 at s1 hL1 ⊢
      clear ntp
      refine ⟨_, rfl, L, _, rfl, .inl (SqL.of hL1), 1, _, rfl, rfl, true, congrArg V.bl (decide_eq_true (by rw [List.length_map]; omega)), iteT ⟨_, 6, rfl, rfl, true, congrArg V.bl (decide_eq_true (by rw [List.length_map]; omega)), iteF ?_⟩⟩
      refine ⟨_, rfl, L, rfl, ⟨_, SqL.of hL1⟩, fun D nD => lc_it walk_list (fun i H' => Same H1 H' ∧ H' D = some (.lst ((List.replicate i true).map V.bl))) ⟨same_new nD, upd_same⟩ (fun i H' _ h => h.1.seq (SqL.of hL1)) ?_ ?_⟩
      · rintro i x H2 H' hi ⟨sg, hD⟩ ⟨rfl, hx⟩
        obtain ⟨y, hy, rfl⟩ := getE hx
        obtain ⟨dy, ey⟩ := (hp y (List.mem_of_getElem? hy)).ext (s1.trans sg)
        refine ⟨rfl, _, rfl, .ref y.1, .ref (CP K), .ref (CP K), .ref (CP K), true, rfl, .own _, .base (.ins ey T.c_Place T.ha T.hn T.ht T.hm), T.k1, ?_⟩
        refine ⟨_, hD, ?_, same_app sg (Same.refl _) nD, by rw [upd_same, take_rep]⟩
        rw [List.length_map, List.length_replicate]
        rw [List.length_map] at hi
        exact Nat.lt_of_lt_of_le hi (Nat.le_trans l6 (by decide))
      · rintro H2 ⟨sg, hD⟩
        refine ⟨D, _, rfl, SqL.of hD, ?_⟩
        rw [all_rep]
        refine ⟨true, rfl, iteF ?_⟩
        have hL2 := sg _ _ hL1
        refine ⟨_, rfl, L, rfl, ⟨_, SqL.of hL2⟩, fun D2 nD2 => lc_it walk_list (fun i H' => Same H2 H' ∧ H' D2 = some (.lst (((zsOf xs).take i).map V.str))) ⟨same_new nD2, upd_same⟩ (fun i H' _ h => h.1.seq (SqL.of hL2)) ?_ ?_⟩
        · rintro i x H3 H' hi ⟨sg3, hD3⟩ ⟨rfl, hx⟩
          obtain ⟨y, hy, rfl⟩ := getE hx
          obtain ⟨dy, ey⟩ := (hp y (List.mem_of_getElem? hy)).ext (s1.trans (sg.trans sg3))
          refine ⟨rfl, _, rfl, y.1, _, dy, _, _, rfl, ey, T.c_Place, T.nN, plf_name .., ?_⟩
          refine ⟨_, hD3, ?_, same_app sg3 (Same.refl _) nD2, ?_⟩
          · rw [List.length_map, List.length_take]
            rw [List.length_map] at hi
            exact Nat.lt_of_le_of_lt (Nat.min_le_left _ _) (Nat.lt_of_lt_of_le hi (Nat.le_trans l6 (by decide)))
          · rw [upd_same, List.take_add_one, List.map_append]
            have : (zsOf xs)[i]? = some y.2.2.z := by
              unfold zsOf
              rw [List.getElem?_map, hy]
              rfl
            rw [this]
            rfl
        · rintro H3 ⟨sg3, hD3⟩
          have hlz : (zsOf xs).length = xs.length := List.length_map ..
          rw [List.length_map, ← hlz, List.take_length] at hD3
          refine ⟨D2, zsOf xs, rfl, by omega, .inl (SqL.of hD3), fun H4 s4 => ?_⟩
          rw [decide_eq_true hnd]
          exact ⟨_, rfl, k H4 (s1.trans (sg.trans (sg3.trans s4)))⟩
    · refine ⟨_, PSs.nox (pss_cons (ps_if (PW.pt (pw_or (pt_not (pt_val (pe_callB (id := "isinstance") call_isiT (by rfl) T.z_isinstance (by decide +kernel) (pa_cons (pv 0) (pa_cons (pe_tup (pa_cons (pe_ty (n := "list") T.z_list (by decide +kernel)) (pa_cons (pe_ty (n := "tuple") T.z_tuple (by decide +kernel)) pa_nil))) pa_nil))))) (pw_or1 (pt_not (pt_chain op_le op_le pe_int (pe_callB (id := "len") call_len_seq (by rfl) T.z_len (by decide +kernel) (pa_cons (pv 0) pa_nil)) (c_gint T.i_MOST_PLACES)))))) (pss_one (ps_ret pe_bl))
  pss_nil)
  (pss_cons (ps_if (pt_not (pt_val (pe_callB (id := "all") (cr_all rfl) (by rfl) T.z_all (by decide +kernel) (pa_cons (pe_lc (own := [("place", 1)]) (g := gName 1) (tt := tYes) (by rfl) sc_are_places.nd (pi_tup (pv 0)) (blkOk_by (N := ["places", "place"]) (sc := defScope s_are_places) (by decide +kernel)) (fun _ _ _ _ _ => (pg_name (i := 1) sc_are_places.nd rfl (Or.inl rfl))) (fun _ _ _ _ _ => pts_nil) (fun _ _ _ _ _ => (pe_callB (id := "isinstance") (call_isiB (K := K) rfl) (by rfl) T.z_isinstance (by decide +kernel) (pa_cons (pv 1) (pa_cons (pe_cl T.g_Place) pa_nil))))) pa_nil)))) (pss_one (ps_ret pe_bl))
  pss_nil)
  (pss_one (ps_ret (pe_not (c_fn O_has_twins hr (by decide) T.g_has_twins pass0 (pa_cons (pe_lc (own := [("place", 1)]) (g := gName 1) (tt := tYes) (by rfl) sc_are_places.nd (pi_tup (pv 0)) (blkOk_by (N := ["places", "place"]) (sc := defScope s_are_places) (by decide +kernel)) (fun _ _ _ _ _ => (pg_name (i := 1) sc_are_places.nd rfl (Or.inl rfl))) (fun _ _ _ _ _ => pts_nil) (fun _ _ _ _ _ => (pe_fldK (K := K) rfl (pv 1) rfl))) pa_nil))))))), ?_⟩
      refine ⟨_, rfl, (by show 2 ≤ sizeLine; decide), fun tp ntp => ⟨.ref L, tp, [.ty "list", .ty "tuple"], .type "tuple", [.type "list", .type "tuple"], true, rfl, upd_same, .cons (.ty _) (.cons (.ty _) .nil), .base (.tup (same_new ntp _ _ hL)), kitAny_cons (b := false) (kit_ty (by decide +kernel)) (fun _ => kitAny_cons (b := true) (kit_ty (by decide +kernel)) (fun z => nomatch z) (fun _ => rfl)) (fun z => nomatch z), true, rfl, iteF ?_⟩⟩
      have s1 := same_new (o := .tup [.ty "list", .ty "tuple"]) ntp
      have hL1 := s1 _ _ hL
      generalize upd H tp (.tup [.ty "list", .ty "tuple"]) = H1 at s1 hL1 ⊢
      clear ntp
      refine ⟨_, rfl, L, _, rfl, .inr (SqT.of hL1), 1, _, rfl, rfl, true, congrArg V.bl (decide_eq_true (by rw [List.length_map]; omega)), iteT ⟨_, 6, rfl, rfl, true, congrArg V.bl (decide_eq_true (by rw [List.length_map]; omega)), iteF ?_⟩⟩
      refine ⟨_, rfl, L, rfl, ⟨_, SqT.of hL1⟩, fun D nD => lc_it walk_tup (fun i H' => Same H1 H' ∧ H' D = some (.lst ((List.replicate i true).map V.bl))) ⟨same_new nD, upd_same⟩ (fun i H' _ h => SqT.ext (SqT.of hL1) h.1) ?_ ?_⟩
      · rintro i x H2 H' hi ⟨sg, hD⟩ ⟨rfl, hx⟩
        obtain ⟨y, hy, rfl⟩ := getE hx
        obtain ⟨dy, ey⟩ := (hp y (List.mem_of_getElem? hy)).ext (s1.trans sg)
        refine ⟨rfl, _, rfl, .ref y.1, .ref (CP K), .ref (CP K), .ref (CP K), true, rfl, .own _, .base (.ins ey T.c_Place T.ha T.hn T.ht T.hm), T.k1, ?_⟩
        refine ⟨_, hD, ?_, same_app sg (Same.refl _) nD, by rw [upd_same, take_rep]⟩
        rw [List.length_map, List.length_replicate]
        rw [List.length_map] at hi
        exact Nat.lt_of_lt_of_le hi (Nat.le_trans l6 (by decide))
      · rintro H2 ⟨sg, hD⟩
        refine ⟨D, _, rfl, SqL.of hD, ?_⟩
        rw [all_rep]
        refine ⟨true, rfl, iteF ?_⟩
        have hL2 := sg _ _ hL1
        refine ⟨_, rfl, L, rfl, ⟨_, SqT.of hL2⟩, fun D2 nD2 => lc_it walk_tup (fun i H' => Same H2 H' ∧ H' D2 = some (.lst (((zsOf xs).take i).map V.str))) ⟨same_new nD2, upd_same⟩ (fun i H' _ h => SqT.ext (SqT.of hL2) h.1) ?_ ?_⟩
        · rintro i x H3 H' hi ⟨sg3, hD3⟩ ⟨rfl, hx⟩
          obtain ⟨y, hy, rfl⟩ := getE hx
          obtain ⟨dy, ey⟩ := (hp y (List.mem_of_getElem? hy)).ext (s1.trans (sg.trans sg3))
          refine ⟨rfl, _, rfl, y.1, _, dy, _, _, rfl, ey, T.c_Place, T.nN, plf_name .., ?_⟩
          refine ⟨_, hD3, ?_, same_app sg3 (Same.refl _) nD2, ?_⟩
          · rw [List.length_map, List.length_take]
            rw [List.length_map] at hi
            exact Nat.lt_of_le_of_lt (Nat.min_le_left _ _) (Nat.lt_of_lt_of_le hi (Nat.le_trans l6 (by decide)))
          · rw [upd_same, List.take_add_one, List.map_append]
            have : (zsOf xs)[i]? = some y.2.2.z := by
              unfold zsOf
              rw [List.getElem?_map, hy]
              rfl
            rw [this]
            rfl
        · rintro H3 ⟨sg3, hD3⟩
          have hlz : (zsOf xs).length = xs.length := List.length_map ..
          rw [List.length_map, ← hlz, List.take_length] at hD3
          refine ⟨D2, zsOf xs, rfl, by omega, .inl (SqL.of hD3), fun H4 s4 => ?_⟩
          rw [decide_eq_true hnd]
          exact ⟨_, rfl, k H4 (s1.trans (sg.trans (sg3.trans s4)))⟩
end
end K37

set_option Elab.async false
set_option linter.all false
set_option pp.deepTerms.threshold 14
set_option pp.maxSteps 2500
set_option maxRecDepth 100000
set_option maxHeartbeats 2000000
namespace K37
open PySem PySem.Spec PyProof.Rows L2 Vf 
section
variable {P : Program} {w : World} {K : PySem.W.Frag} {mg : Str → Option Value} {base : Heap}
theorem dget_of {H : Hp} {N : Addr} {kvs : List (Key × V)} {z : Str} {o : Option V} (hN : H N = some (.dK kvs)) (hv : valV kvs (Sum.inr z) = o) : DGet H N (.str z) o := hv ▸ DGet.k (k := Sum.inr z) hN
/-- the dict at N: for each row the tuple of its nexts -/
def NxA (H : Hp) (N : Addr) (xs : List PgE) : Prop := ∃ kvs, H N = some (.dK kvs) ∧ kvs.length = xs.length ∧ ∀ x ∈ xs, valV kvs (Sum.inr x.2.2.z) = some (.ref x.2.1)
theorem NxA.ext {H H' : Hp} {N : Addr} {xs : List PgE} (h : NxA H N xs) (s : Same H H') : NxA H' N xs := by
  obtain ⟨kvs, h1, h2, h3⟩ := h
  exact ⟨kvs, s _ _ h1, h2, h3⟩
/-- the tuple of a row's nexts -/
def NsE (H : Hp) (zs : List Str) (x : PgE) : Prop := H x.2.1 = some (.tup (x.2.2.ns.map V.str)) ∧ (∀ y ∈ x.2.2.ns, y ∈ zs) ∧ x.2.2.ns.Nodup ∧ x.2.2.ns.length ≤ 1000
theorem NsE.ext {H H' : Hp} {zs : List Str} {x : PgE} (h : NsE H zs x) (s : Same H H') : NsE H' zs x := ⟨s _ _ h.1, h.2⟩
theorem zsAt {xs : List PgE} {i : Nat} {v : V} (h : ((zsOf xs).map V.str)[i]? = some v) : ∃ x, xs[i]? = some x ∧ v = .str x.2.2.z := by
  rw [zsOf, List.map_map] at h
  exact getE h
theorem sc_are_nexts : FnScope ["nexts", "names", "name"] ["nexts", "names"] (defScope s_are_nexts) := ⟨rfl, rfl, rfl, by decide +kernel, rfl, by decide +kernel, by decide +kernel⟩
-- slots: 0 nexts, 1 names, 2 name
def spAreNx (K : PySem.W.Frag) : Sp := fun vs H Q _ => ∃ (N n : Addr) (xs : List PgE), vs = [.ref N, .ref n] ∧ NxA H N xs ∧ H n = some (.tup ((zsOf xs).map V.str)) ∧ (∀ x ∈ xs, NsE H (zsOf xs) x) ∧ xs.length ≤ 6 ∧ ∀ H', Same H H' → Q (.bl true) H'
theorem ok_are_nexts {fd : FuncData} (F : FnD K ("are_nexts", none) "are_nexts" "are_nexts" s_are_nexts fd) (T : GTxt K mg) (O_is_choice : OkF P w K mg base CX0 2 "is_choice" ["ways", "names"] (spChoice K)) : OkF P w K mg base CX0 3 "are_nexts" ["nexts", "names"] (spAreNx K) := by
  refine okd F (F.ok sc_are_nexts (fun vs H Q E h => ?_) fun cdv A outer s H vs Q E hr h => ?_) fun _ _ _ _ _ _ us hl => match us, hl with | [_, _], _ => rfl
  · obtain ⟨N, n, xs, rfl, _⟩ := h
    rfl
  · obtain ⟨N, n, xs, rfl, ⟨kvs, hN, hlen, hv⟩, hn, hns, l6, k⟩ := h
    refine ⟨_, PSs.nox (pss_cons (ps_if (PW.pt (pw_or (pt_not (pt_val (pe_callB (id := "isinstance") call_isi (by rfl) T.z_isinstance (by decide +kernel) (pa_cons (pv 0) (pa_cons (pe_ty (n := "dict") T.z_dict (by decide +kernel)) pa_nil))))) (pw_or1 (pt_cmpR op_ne (pe_callB call_lenD (by rfl) T.z_len (by decide +kernel) (pa_cons (pv 0) pa_nil)) (pe_callB (id := "len") call_len_seq (by rfl) T.z_len (by decide +kernel) (pa_cons (pv 1) pa_nil)) (nomark _))))) (pss_one (ps_ret pe_bl))
  pss_nil)
  (pss_one (ps_ret (pe_callB (id := "all") (cr_all rfl) (by rfl) T.z_all (by decide +kernel) (pa_cons (pe_lc (own := [("name", 2)]) (g := gName 2) (tt := tYes) (by rfl) sc_are_nexts.nd (pi_tup (pv 1)) (blkOk_by (N := ["nexts", "names", "name"]) (sc := defScope s_are_nexts) (by decide +kernel)) (fun _ _ _ _ _ => (pg_name (i := 2) sc_are_nexts.nd rfl (Or.inl rfl))) (fun _ _ _ _ _ => pts_nil) (fun _ _ _ _ _ => (pe_and (pe_cmp (pc_din (hu_of hr) (pv 2) (pv 0)) rfl) (pe_one (c_fn O_is_choice hr (by decide) T.g_is_choice pass0 (pa_cons (pe_dget (hu_of hr) (pv 0) (pv 2) (fun _ _ => rfl)) (pa_cons (pv 1) pa_nil))))))) pa_nil))))), ?_⟩
    have hlz : (zsOf xs).length = xs.length := List.length_map ..
    refine ⟨_, rfl, .ref N, .ty "dict", .type "dict", .type "dict", true, rfl, .ty _, .base (.dK hN), kit_ty (by decide +kernel), true, rfl, iteF ?_⟩
    refine ⟨_, rfl, N, kvs, rfl, hN, _, rfl, n, _, rfl, .inr (SqT.of hn), rfl, false, ?_, iteF ?_⟩
    · rw [List.length_map, hlz, hlen, decide_eq_true rfl]
      rfl
    refine ⟨_, rfl, n, rfl, ⟨_, SqT.of hn⟩, fun D nD => lc_it walk_tup (fun i H' => Same H H' ∧ H' D = some (.lst ((List.replicate i true).map V.bl))) ⟨same_new nD, upd_same⟩ (fun i H' _ h => SqT.ext (SqT.of hn) h.1) ?_ ?_⟩
    · rintro i x H1 H' hi ⟨sg, hD⟩ ⟨rfl, hx⟩
      obtain ⟨y, hy, rfl⟩ := zsAt hx
      have hm := List.mem_of_getElem? hy
      obtain ⟨e1, e2, e3, e4⟩ := (hns y hm).ext sg
      refine ⟨rfl, _, rfl, _, rfl, N, _, rfl, dget_of (sg _ _ hN) (hv y hm), true, rfl, iteT ?_⟩
      refine ⟨_, rfl, _, rfl, N, _, rfl, dget_of (sg _ _ hN) (hv y hm), _, rfl, y.2.1, n, y.2.2.ns, zsOf xs, rfl, e1, sg _ _ hn, e2, e3, e4, fun H2 s2 => ?_⟩
      refine ⟨_, s2 _ _ hD, ?_, same_app sg s2 nD, by rw [upd_same, take_rep]⟩
      rw [List.length_map, List.length_replicate]
      rw [List.length_map, hlz] at hi
      exact Nat.lt_of_lt_of_le hi (Nat.le_trans l6 (by decide))
    · rintro H2 ⟨sg, hD⟩
      refine ⟨D, _, rfl, SqL.of hD, ?_⟩
      rw [all_rep]
      exact k H2 sg
/-! ### a program's fields -/
def pgf (tn : Addr) (st : Str) (dP dN : Addr) : List (Str × V) := putF "_nexts" (.ref dN) (putF "_places" (.ref dP) (putF "start" (.str st) (putF "names" (.ref tn) [])))
section
variable (tn : Addr) (st : Str) (dP dN : Addr)
theorem pgf_names : (pgf tn st dP dN).lookup ("names" : Str) = some (.ref tn) := by
  unfold pgf
  rw [lookup_putF, if_neg (by decide +kernel), lookup_putF, if_neg (by decide +kernel), lookup_putF, if_neg (by decide +kernel), lookup_putF, if_pos rfl]
theorem pgf_start : (pgf tn st dP dN).lookup ("start" : Str) = some (.str st) := by
  unfold pgf
  rw [lookup_putF, if_neg (by decide +kernel), lookup_putF, if_neg (by decide +kernel), lookup_putF, if_pos rfl]
theorem pgf_places : (pgf tn st dP dN).lookup ("_places" : Str) = some (.ref dP) := by
  unfold pgf
  rw [lookup_putF, if_neg (by decide +kernel), lookup_putF, if_pos rfl]
theorem pgf_nexts : (pgf tn st dP dN).lookup ("_nexts" : Str) = some (.ref dN) := by
  unfold pgf
  rw [lookup_putF, if_pos rfl]
end
def kvP (xs : List PgE) : List (Key × V) := xs.map fun x => (Sum.inr x.2.2.z, V.ref x.1)
def kvN (xs : List PgE) : List (Key × V) := xs.map fun x => (Sum.inr x.2.2.z, V.ref x.2.1)
/-- at g a program of the rows xs with the start st -/
structure PgA (K : PySem.W.Frag) (H : Hp) (g : Addr) (xs : List PgE) (st : Str) (dx tn dP dN : Addr) : Prop where
  hg : H g = some (.ins (CG K) dx (pgf tn st dP dN))
  hn : H tn = some (.tup ((zsOf xs).map V.str))
  hP : H dP = some (.dK (kvP xs))
  hN : H dN = some (.dK (kvN xs))
  pl : ∀ x ∈ xs, PlE K H x
  ns : ∀ x ∈ xs, NsE H (zsOf xs) x
  nd : (zsOf xs).Nodup
  l1 : 1 ≤ xs.length
  l6 : xs.length ≤ 6
  nm : ∀ z ∈ zsOf xs, nmB z = true
theorem PgA.ext {K : PySem.W.Frag} {H H' : Hp} {g : Addr} {xs : List PgE} {st : Str} {dx tn dP dN : Addr} (h : PgA K H g xs st dx tn dP dN) (s : Same H H') : PgA K H' g xs st dx tn dP dN :=
  ⟨s _ _ h.hg, s _ _ h.hn, s _ _ h.hP, s _ _ h.hN, fun x hx => (h.pl x hx).ext s, fun x hx => (h.ns x hx).ext s, h.nd, h.l1, h.l6, h.nm⟩
/-- all but what stands at d is as it was -/
def SameX (d : Addr) (H H' : Hp) : Prop := ∀ b o, b ≠ d → H b = some o → H' b = some o
theorem SameX.trans {d : Addr} {H H1 H2 : Hp} (a : SameX d H H1) (b : SameX d H1 H2) : SameX d H H2 := fun c o n h => b c o n (a c o n h)
theorem same_x {d : Addr} {H H' : Hp} (s : Same H H') : SameX d H H' := fun b o _ h => s b o h
theorem SameX.upd {d : Addr} {H : Hp} {o : HO} : SameX d H (upd H d o) := fun b u n h => by rw [upd_ne n]; exact h
/-- keys apart: what a row's name finds -/
theorem val_row {f : PgE → V} : ∀ {xs : List PgE} {i : Nat} {x : PgE}, (zsOf xs).Nodup → xs[i]? = some x → valV (xs.map fun y => ((Sum.inr y.2.2.z : Key), f y)) (Sum.inr x.2.2.z) = some (f x)
  | y :: ys, 0, x, nd, h => by
    cases h
    exact valV_pos rfl
  | y :: ys, i + 1, x, nd, h => by
    have h' : ys[i]? = some x := h
    have nd' : (y.2.2.z :: zsOf ys).Nodup := nd
    rw [List.nodup_cons] at nd'
    rw [List.map_cons, valV_neg fun z => nd'.1 ?_]
    · exact val_row nd'.2 h'
    · have : y.2.2.z = x.2.2.z := Sum.inr.inj z
      rw [this]
      exact List.mem_map_of_mem (List.mem_of_getElem? h')
theorem val_miss {f : PgE → V} {z : Str} : ∀ {xs : List PgE}, z ∉ zsOf xs → valV (xs.map fun y => ((Sum.inr y.2.2.z : Key), f y)) (Sum.inr z) = none
  | [], _ => rfl
  | y :: ys, h => by
    have h1 : ¬ y.2.2.z = z := fun e => h (e ▸ List.mem_cons_self ..)
    rw [List.map_cons, valV_neg (fun e => h1 (Sum.inr.inj e))]
    exact val_miss fun hm => h (List.mem_cons_of_mem _ hm)
theorem put_row {f : PgE → V} {xs : List PgE} {i : Nat} {x : PgE} (nd : (zsOf xs).Nodup) (h : xs[i]? = some x) : putK ((xs.take i).map fun y => ((Sum.inr y.2.2.z : Key), f y)) (Sum.inr x.2.2.z) (f x) = (xs.take (i + 1)).map fun y => ((Sum.inr y.2.2.z : Key), f y) := by
  have hn : x.2.2.z ∉ zsOf (xs.take i) := fun hm => by
    have h1 : (zsOf (xs.take (i + 1))).Nodup := by
      have : zsOf (xs.take (i + 1)) = (zsOf xs).take (i + 1) := List.map_take ..
      rw [this]
      exact nd.sublist (List.take_sublist _ _)
    rw [List.take_add_one, h] at h1
    have h2 : (zsOf (xs.take i) ++ [x.2.2.z]).Nodup := by simpa [zsOf] using h1
    exact (List.nodup_append.mp h2).2.2 _ hm _ (by simp) rfl
  rw [putK_new _ (val_miss hn), List.take_add_one, h, List.map_append]
  rfl
end
end K37

set_option Elab.async false
set_option linter.all false
set_option pp.deepTerms.threshold 14
set_option pp.maxSteps 2500
set_option maxRecDepth 100000
set_option maxHeartbeats 2000000
namespace K37
open PySem PySem.Spec PyProof.Rows L2 Vf 
section
variable {P : Program} {w : World} {K : PySem.W.Frag} {mg : Str → Option Value} {base : Heap}
theorem sc_BadProgram_init : FnScope ["self", "why"] ["self", "why"] (defScope s_BadProgram_init) := ⟨rfl, rfl, rfl, by decide +kernel, rfl, by decide +kernel, by decide +kernel⟩
-- slots: 0 self, 1 why
theorem ok_BadProgram_init {fd : FuncData} (F : FnD K ("BadProgram", some "__init__") "__init__" "BadProgram.__init__" s_BadProgram_init fd) : OkD P w K mg base CX0 1 ("BadProgram", some "__init__") ["self", "why"] [] (spExI K (CBG K) "why") := by
  refine okd F (F.ok sc_BadProgram_init (fun vs H Q E h => ?_) fun cdv A outer s H vs Q E hr h => ⟨tOst K "why" (tVar 0) (tVar 1), PSs.nox ?_, run_exI h⟩) fun _ _ _ _ _ _ us hl => match us, hl with | [_, _], _ => rfl
  · obtain ⟨a, v, rfl, _⟩ := h
    rfl
  · exact pss_one (ps_ost (pv 0) (pv 1))
theorem pl_ne {K : PySem.W.Frag} {H : Hp} {x : PgE} {g dx : Addr} (h : PlE K H x) (hg : H g = some (.ins (CG K) dx [])) : x.1 ≠ g := by
  obtain ⟨dy, e⟩ := h
  refine ne_of e hg fun z => ?_
  injection z with _ _ z
  have := plf_name x.2.2.z x.2.2.l x.2.2.m x.2.2.b
  rw [z] at this
  cases this
/-- the parts of a right program -/
structure PartsOk (K : PySem.W.Frag) (H : Hp) (o : List V → HO) (L N : Addr) (xs : List PgE) : Prop where
  hL : H L = some (o (xs.map fun x => V.ref x.1))
  pl : ∀ x ∈ xs, PlE K H x
  nx : NxA H N xs
  ns : ∀ x ∈ xs, NsE H (zsOf xs) x
  nd : (zsOf xs).Nodup
  l1 : 1 ≤ xs.length
  l6 : xs.length ≤ 6
  nm : ∀ z ∈ zsOf xs, nmB z = true
  ho : o = HO.lst ∨ o = HO.tup
theorem PartsOk.ext {K : PySem.W.Frag} {H H' : Hp} {o : List V → HO} {L N : Addr} {xs : List PgE} (h : PartsOk K H o L N xs) (s : Same H H') : PartsOk K H' o L N xs := ⟨s _ _ h.hL, fun x hx => (h.pl x hx).ext s, h.nx.ext s, fun x hx => (h.ns x hx).ext s, h.nd, h.l1, h.l6, h.nm, h.ho⟩
theorem PartsOk.extX {K : PySem.W.Frag} {H H' : Hp} {o : List V → HO} {L N g dx : Addr} {xs : List PgE} (h : PartsOk K H o L N xs) (hg : H g = some (.ins (CG K) dx [])) (s : SameX g H H') : PartsOk K H' o L N xs := by
  refine ⟨s _ _ (ne_of h.hL hg (by intro z; rcases h.ho with e | e <;> (rw [e] at z; cases z))) h.hL, fun x hx => ?_, ?_, fun x hx => ?_, h.nd, h.l1, h.l6, h.nm, h.ho⟩
  · have n := pl_ne (h.pl x hx) hg
    obtain ⟨dy, e⟩ := h.pl x hx
    exact ⟨dy, s _ _ n e⟩
  · obtain ⟨kvs, h1, h2, h3⟩ := h.nx
    exact ⟨kvs, s _ _ (ne_of h1 hg (by intro z; cases z)) h1, h2, h3⟩
  · obtain ⟨h1, h2⟩ := h.ns x hx
    exact ⟨s _ _ (ne_of h1 hg (by intro z; cases z)) h1, h2⟩
def spPgI (K : PySem.W.Frag) : Sp := fun vs H Q _ => ∃ (g dx L N : Addr) (o : List V → HO) (xs : List PgE) (st : V) (s : Str), vs = [.ref g, .ref L, .ref N, st] ∧ H g = some (.ins (CG K) dx []) ∧ PartsOk K H o L N xs ∧ s ∈ zsOf xs ∧ (st = .str s ∨ (st = .non ∧ (zsOf xs)[0]? = some s)) ∧
  ∀ H' dx tn dP dN, SameX g H H' → PgA K H' g xs s dx tn dP dN → H dP = none → H dN = none → Q .non H'
theorem same_xg {d : Addr} {H H1 H2 : Hp} (a : SameX d H H1) (b : Same H1 H2) : SameX d H H2 := a.trans (same_x b)
theorem sc_Program_init : FnScope ["self", "places", "nexts", "start", "names", "place", "name"] ["self", "places", "nexts", "start"] (defScope s_Program_init) := ⟨rfl, rfl, rfl, by decide +kernel, rfl, by decide +kernel, by decide +kernel⟩
-- slots: 0 self, 1 places, 2 nexts, 3 start, 4 names, 5 place, 6 name
theorem ok_Program_init {fd : FuncData} (F : FunD K "__init__" "Program.__init__" (defArgs s_Program_init) (defBody s_Program_init) (defScope s_Program_init) [] [("start", .non)] (He.fAd K ("Program", some "__init__")) fd) (T : GTxt K mg)
    (O_are_places : OkF P w K mg base CX0 2 "are_places" ["places"] (spArePl K)) (O_are_nexts : OkF P w K mg base CX0 3 "are_nexts" ["nexts", "names"] (spAreNx K)) (O_is_one_of : OkF P w K mg base CX0 1 "is_one_of" ["x", "names"] (spOne K))
    (O_BadProgram_init : OkD P w K mg base CX0 1 ("BadProgram", some "__init__") ["self", "why"] [] (spExI K (CBG K) "why")) :
    FnOk P w K mg base (L2.CX P w) 5 (He.fAd K ("Program", some "__init__")) fd ["self", "places", "nexts", "start"] (spPgI K) := by
  refine F.ok sc_Program_init (fun vs H Q E h => ?_) fun cdv A outer s H vs Q E hr h => ?_
  · obtain ⟨g, dx, L, N, o, xs, st, s, rfl, _⟩ := h
    rfl
  · obtain ⟨g, dx, L, N, o, xs, st, z, rfl, hg, hp, hz, hst, k⟩ := h
    have hpo := hp.ho
    rcases hpo with rfl | rfl
    · refine ⟨_, (pss_cons (ps_if (pt_not (pt_val (c_fn O_are_places hr (by decide) T.g_are_places pass0 (pa_cons (pv 1) pa_nil)))) (pss_one (c_raise T.x_BadProgram O_BadProgram_init hr (by decide) T.g_BadProgram (takes_of rfl rfl rfl rfl) (pa_cons pe_str pa_nil)))
  pss_nil)
  (pss_cons (ps_set (i := 4) sc_Program_init.nd rfl (Or.inl rfl) (pe_callTy call_tuple_of (by rfl) T.z_tuple (by decide +kernel) (pa_cons (pe_lc (own := [("place", 5)]) (g := gName 5) (tt := tYes) (by rfl) sc_Program_init.nd (pi_list (pv 1)) (blkOk_by (N := ["self", "places", "nexts", "start", "names", "place", "name"]) (sc := defScope s_Program_init) (by decide +kernel)) (fun _ _ _ _ _ => (pg_name (i := 5) sc_Program_init.nd rfl (Or.inl rfl))) (fun _ _ _ _ _ => pts_nil) (fun _ _ _ _ _ => (pe_fldK (K := K) rfl (pv 5) rfl))) pa_nil)))
  (pss_cons (ps_if (pt_not (pt_val (c_fn O_are_nexts hr (by decide) T.g_are_nexts pass0 (pa_cons (pv 2) (pa_cons (pv 4) pa_nil))))) (pss_one (c_raise T.x_BadProgram O_BadProgram_init hr (by decide) T.g_BadProgram (takes_of rfl rfl rfl rfl) (pa_cons pe_str pa_nil)))
  pss_nil)
  (pss_cons (ps_if (PW.pt (pw_and (pt_cmpR op_notN (pv 3) pe_non (nomark _)) (pw_and1 (pt_not (pt_val (c_fn O_is_one_of hr (by decide) T.g_is_one_of pass0 (pa_cons (pv 3) (pa_cons (pv 4) pa_nil)))))))) (pss_one (c_raise T.x_BadProgram O_BadProgram_init hr (by decide) T.g_BadProgram (takes_of rfl rfl rfl rfl) (pa_cons pe_str pa_nil)))
  pss_nil)
  (pss_cons (ps_fld (pv 0) (pv 4) rfl)
  (pss_cons (ps_fld (pv 0) (pe_ifExp (pt_cmpR op_isN (pv 3) pe_non (nomark _)) (pe_ix ix_tup (pv 4) pe_int (fun _ _ => rfl)) (pv 3)) rfl)
  (pss_cons (ps_fld (pv 0) (pe_dc (own := [("place", 5)]) (g := gName 5) (tt := tYes) (by rfl) sc_Program_init.nd (pi_list (pv 1)) (blkOk_by (N := ["self", "places", "nexts", "start", "names", "place", "name"]) (sc := defScope s_Program_init) (by decide +kernel)) (fun _ _ _ _ _ => (pg_name (i := 5) sc_Program_init.nd rfl (Or.inl rfl))) (fun _ _ _ _ _ => pts_nil) (fun _ _ _ _ _ => (pe_fldK (K := K) rfl (pv 5) rfl)) (fun _ _ _ _ _ => (pv 5))) rfl)
  (pss_one (ps_fld (pv 0) (pe_dc (own := [("name", 6)]) (g := gName 6) (tt := tYes) (by rfl) sc_Program_init.nd (pi_tup (pv 4)) (blkOk_by (N := ["self", "places", "nexts", "start", "names", "place", "name"]) (sc := defScope s_Program_init) (by decide +kernel)) (fun _ _ _ _ _ => (pg_name (i := 6) sc_Program_init.nd rfl (Or.inl rfl))) (fun _ _ _ _ _ => pts_nil) (fun _ _ _ _ _ => (pv 6)) (fun _ _ _ _ _ => (pe_dget (hu_of hr) (pv 2) (pv 6) (fun _ _ => rfl)))) rfl))))))))), ?_⟩
      have hlz : (zsOf xs).length = xs.length := List.length_map ..
      refine ⟨_, rfl, L, xs, rfl, .inl hp.hL, hp.pl, hp.l1, hp.l6, hp.nd, fun H1 s1 => ⟨true, rfl, iteF ?_⟩⟩
      have hp1 := hp.ext s1
      -- the names
      refine ⟨_, rfl, L, rfl, ⟨_, SqL.of hp1.hL⟩, fun D nD => lc_it walk_list (fun i H' => Same H1 H' ∧ H' D = some (.lst (((zsOf xs).take i).map V.str))) ⟨same_new nD, upd_same⟩ (fun i H' _ h => h.1.seq (SqL.of hp1.hL)) ?_ ?_⟩
      · rintro i x H3 H' hi ⟨sg3, hD3⟩ ⟨rfl, hx⟩
        obtain ⟨y, hy, rfl⟩ := getE hx
        obtain ⟨dy, ey⟩ := (hp1.pl y (List.mem_of_getElem? hy)).ext sg3
        refine ⟨rfl, _, rfl, y.1, _, dy, _, _, rfl, ey, T.c_Place, T.nN, plf_name .., ?_⟩
        refine ⟨_, hD3, ?_, same_app sg3 (Same.refl _) nD, ?_⟩
        · rw [List.length_map, List.length_take]
          rw [List.length_map] at hi
          exact Nat.lt_of_le_of_lt (Nat.min_le_left _ _) (Nat.lt_of_lt_of_le hi (Nat.le_trans hp.l6 (by decide)))
        · rw [upd_same, List.take_add_one, List.map_append]
          have : (zsOf xs)[i]? = some y.2.2.z := by
            unfold zsOf
            rw [List.getElem?_map, hy]
            rfl
          rw [this]
          rfl
      rintro H2 ⟨s12, hD⟩
      rw [List.length_map, ← hlz, List.take_length] at hD
      refine ⟨D, _, rfl, .inl ⟨SqL.of hD, fun tn ntn => ?_⟩⟩
      have s2t := same_new (o := .tup ((zsOf xs).map V.str)) ntn
      have hn : (upd H2 tn (.tup ((zsOf xs).map V.str))) tn = some (.tup ((zsOf xs).map V.str)) := upd_same
      have s3 := s1.trans (s12.trans s2t)
      generalize upd H2 tn (.tup ((zsOf xs).map V.str)) = H3 at hn s3 ⊢
      clear s2t ntn hD nD s12 hp1 s1
      have hp3 := hp.ext s3
      refine ⟨_, rfl, _, rfl, N, tn, xs, rfl, hp3.nx, hn, hp3.ns, hp.l6, fun H4 s34 => ⟨true, rfl, iteF ?_⟩⟩
      have s4 := s3.trans s34
      have hn4 := s34 _ _ hn
      have hg4 := s4 _ _ hg
      have ngt : tn ≠ g := ne_of hn4 hg4 (by intro z; cases z)
      clear hp3 hn s34 s3 H1 H2 H3
      have none_x : ∀ {H5 : Hp} {D : Addr}, SameX g H H5 → D ≠ g → H5 D = none → H D = none := fun {H5 D} x n e => by
        cases q : H D with
        | none => rfl
        | some o =>
          have := x D o n q
          rw [e] at this
          cases this
      have fin : ∀ H5 : Hp, SameX g H H5 → H5 tn = some (.tup ((zsOf xs).map V.str)) → ∀ dP : Addr, H5 dP = some (.dK (kvP xs)) → ∀ dN : Addr, H5 dN = some (.dK (kvN xs)) → H5 g = some (.ins (CG K) dx (pgf tn z dP dN)) → H dP = none → H dN = none → Q .non H5 := fun H5 x5 h1 dP h2 dN h3 h4 h5 h6 => by
        have hq := hp.extX hg x5
        exact k H5 dx tn dP dN x5 ⟨h4, h1, h2, h3, hq.pl, hq.ns, hq.nd, hq.l1, hq.l6, hq.nm⟩ h5 h6
      rcases hst with rfl | ⟨rfl, h0⟩
      · refine ⟨_, rfl, rfl, true, rfl, iteT ⟨_, rfl, _, rfl, .str z, tn, zsOf xs, rfl, SqT.of hn4, .inl ⟨z, rfl, true, by rw [decide_eq_true hz], iteF ?_⟩⟩⟩
        refine ⟨_, rfl, _, rfl, g, _, dx, [], rfl, hg4, T.c_Program, T.nA, (by show 0 < 1000; decide), ?_⟩
        refine ⟨_, rfl, rfl, false, rfl, iteF ⟨_, rfl, _, rfl, g, _, dx, _, rfl, upd_same, T.c_Program, T.nB, (by show 1 < 1000; decide), ?_⟩⟩
        have x5 : SameX g H (upd (upd H4 g (.ins (CG K) dx (putF "names" (.ref tn) []))) g (.ins (CG K) dx (putF "start" (.str z) (putF "names" (.ref tn) [])))) := (same_x s4).trans (SameX.upd.trans SameX.upd)
        have hg5 : (upd (upd H4 g (.ins (CG K) dx (putF "names" (.ref tn) []))) g (.ins (CG K) dx (putF "start" (.str z) (putF "names" (.ref tn) [])))) g = some (.ins (CG K) dx (putF "start" (.str z) (putF "names" (.ref tn) []))) := upd_same
        have hn5 : (upd (upd H4 g (.ins (CG K) dx (putF "names" (.ref tn) []))) g (.ins (CG K) dx (putF "start" (.str z) (putF "names" (.ref tn) [])))) tn = some (.tup ((zsOf xs).map V.str)) := by rw [upd_ne ngt, upd_ne ngt]; exact hn4
        generalize upd (upd H4 g (.ins (CG K) dx (putF "names" (.ref tn) []))) g (.ins (CG K) dx (putF "start" (.str z) (putF "names" (.ref tn) []))) = H5 at x5 hg5 hn5 ⊢
        clear hn4 hg4 s4 H4
        have hp5 := hp.extX hg x5
        refine ⟨_, rfl, L, rfl, ⟨_, SqL.of hp5.hL⟩, fun D nD => dc_it walk_list (fun i H' => Same H5 H' ∧ H' D = some (.dK ((xs.take i).map fun y => ((Sum.inr y.2.2.z : Key), V.ref y.1)))) ⟨same_new nD, by rw [upd_same]; rfl⟩ (fun i H' _ h => h.1.seq (SqL.of hp5.hL)) ?_ ?_⟩
        · rintro i x H6 H' hi ⟨sg, hD⟩ ⟨rfl, hx⟩
          obtain ⟨y, hy, rfl⟩ := getE hx
          obtain ⟨dy, ey⟩ := (hp5.pl y (List.mem_of_getElem? hy)).ext sg
          refine ⟨rfl, _, rfl, y.1, _, dy, _, _, rfl, ey, T.c_Place, T.nN, plf_name .., _, rfl, _, Sum.inr y.2.2.z, rfl, hD, ?_, same_app sg (Same.refl _) nD, ?_⟩
          · rw [List.length_map, List.length_take]
            rw [List.length_map] at hi
            exact Nat.lt_of_le_of_lt (Nat.min_le_left _ _) (Nat.lt_of_lt_of_le hi (Nat.le_trans hp.l6 (by decide)))
          · rw [upd_same, put_row (f := fun y => V.ref y.1) hp.nd hy]
        rintro H6 ⟨s56, hD⟩
        rw [List.length_map, List.take_length] at hD
        have hg6 := s56 _ _ hg5
        have nDg : D ≠ g := ne_of hD hg6 (by intro z; cases z)
        refine ⟨_, rfl, g, _, dx, _, rfl, hg6, T.c_Program, T.nC, (by show 2 < 1000; decide), ?_⟩
        have x7 : SameX g H (upd H6 g (.ins (CG K) dx (putF "_places" (.ref D) (putF "start" (.str z) (putF "names" (.ref tn) []))))) := (x5.trans (same_x s56)).trans SameX.upd
        have hg7 : (upd H6 g (.ins (CG K) dx (putF "_places" (.ref D) (putF "start" (.str z) (putF "names" (.ref tn) []))))) g = some (.ins (CG K) dx (putF "_places" (.ref D) (putF "start" (.str z) (putF "names" (.ref tn) [])))) := upd_same
        have hn7 : (upd H6 g (.ins (CG K) dx (putF "_places" (.ref D) (putF "start" (.str z) (putF "names" (.ref tn) []))))) tn = some (.tup ((zsOf xs).map V.str)) := by rw [upd_ne ngt]; exact s56 _ _ hn5
        have hD7 : (upd H6 g (.ins (CG K) dx (putF "_places" (.ref D) (putF "start" (.str z) (putF "names" (.ref tn) []))))) D = some (.dK (kvP xs)) := by rw [upd_ne nDg]; exact hD
        generalize upd H6 g (.ins (CG K) dx (putF "_places" (.ref D) (putF "start" (.str z) (putF "names" (.ref tn) [])))) = H7 at x7 hg7 hn7 hD7 ⊢
        have nD0 := none_x x5 nDg nD
        clear hg6 hD s56 nD hp5 hn5 hg5 x5 H6 H5
        have hp7 := hp.extX hg x7
        obtain ⟨kvs, hN, hl, hv⟩ := hp7.nx
        refine ⟨_, rfl, tn, rfl, ⟨_, SqT.of hn7⟩, fun D2 nD2 => dc_it walk_tup (fun i H' => Same H7 H' ∧ H' D2 = some (.dK ((xs.take i).map fun y => ((Sum.inr y.2.2.z : Key), V.ref y.2.1)))) ⟨same_new nD2, by rw [upd_same]; rfl⟩ (fun i H' _ h => SqT.ext (SqT.of hn7) h.1) ?_ ?_⟩
        · rintro i x H8 H' hi ⟨sg, hD2⟩ ⟨rfl, hx⟩
          obtain ⟨y, hy, rfl⟩ := zsAt hx
          refine ⟨rfl, _, rfl, _, rfl, _, rfl, N, _, rfl, dget_of (sg _ _ hN) (hv y (List.mem_of_getElem? hy)), _, Sum.inr y.2.2.z, rfl, hD2, ?_, same_app sg (Same.refl _) nD2, ?_⟩
          · rw [List.length_map, List.length_take]
            rw [List.length_map, hlz] at hi
            exact Nat.lt_of_le_of_lt (Nat.min_le_left _ _) (Nat.lt_of_lt_of_le hi (Nat.le_trans hp.l6 (by decide)))
          · rw [upd_same, put_row (f := fun y => V.ref y.2.1) hp.nd hy]
        rintro H8 ⟨s78, hD2⟩
        rw [List.length_map, hlz, List.take_length] at hD2
        have hg8 := s78 _ _ hg7
        have nDg2 : D2 ≠ g := ne_of hD2 hg8 (by intro z; cases z)
        refine ⟨_, rfl, g, _, dx, _, rfl, hg8, T.c_Program, T.nD, (by show 3 < 1000; decide), ?_⟩
        exact fin _ ((x7.trans (same_x s78)).trans SameX.upd) (by rw [upd_ne ngt]; exact s78 _ _ hn7) D (by rw [upd_ne nDg]; exact s78 _ _ hD7) D2 (by rw [upd_ne nDg2]; exact hD2) upd_same nD0 (none_x x7 nDg2 nD2)
      · refine ⟨_, rfl, rfl, false, rfl, iteF ?_⟩
        refine ⟨_, rfl, _, rfl, g, _, dx, [], rfl, hg4, T.c_Program, T.nA, (by show 0 < 1000; decide), ?_⟩
        have a0 : atI ((zsOf xs).map V.str) 0 = some (.str z) := atI_nat (j := 0) (by rw [List.getElem?_map, h0]; rfl)
        have hn4' : (upd H4 g (.ins (CG K) dx (putF "names" (.ref tn) []))) tn = some (.tup ((zsOf xs).map V.str)) := by rw [upd_ne ngt]; exact hn4
        refine ⟨_, rfl, rfl, true, rfl, iteT ⟨_, rfl, tn, _, 0, .str z, rfl, rfl, SqT.of hn4', a0, _, rfl, g, _, dx, _, rfl, upd_same, T.c_Program, T.nB, (by show 1 < 1000; decide), ?_⟩⟩
        clear hn4' a0
        have x5 : SameX g H (upd (upd H4 g (.ins (CG K) dx (putF "names" (.ref tn) []))) g (.ins (CG K) dx (putF "start" (.str z) (putF "names" (.ref tn) [])))) := (same_x s4).trans (SameX.upd.trans SameX.upd)
        have hg5 : (upd (upd H4 g (.ins (CG K) dx (putF "names" (.ref tn) []))) g (.ins (CG K) dx (putF "start" (.str z) (putF "names" (.ref tn) [])))) g = some (.ins (CG K) dx (putF "start" (.str z) (putF "names" (.ref tn) []))) := upd_same
        have hn5 : (upd (upd H4 g (.ins (CG K) dx (putF "names" (.ref tn) []))) g (.ins (CG K) dx (putF "start" (.str z) (putF "names" (.ref tn) [])))) tn = some (.tup ((zsOf xs).map V.str)) := by rw [upd_ne ngt, upd_ne ngt]; exact hn4
        generalize upd (upd H4 g (.ins (CG K) dx (putF "names" (.ref tn) []))) g (.ins (CG K) dx (putF "start" (.str z) (putF "names" (.ref tn) []))) = H5 at x5 hg5 hn5 ⊢
        clear hn4 hg4 s4 H4
        have hp5 := hp.extX hg x5
        refine ⟨_, rfl, L, rfl, ⟨_, SqL.of hp5.hL⟩, fun D nD => dc_it walk_list (fun i H' => Same H5 H' ∧ H' D = some (.dK ((xs.take i).map fun y => ((Sum.inr y.2.2.z : Key), V.ref y.1)))) ⟨same_new nD, by rw [upd_same]; rfl⟩ (fun i H' _ h => h.1.seq (SqL.of hp5.hL)) ?_ ?_⟩
        · rintro i x H6 H' hi ⟨sg, hD⟩ ⟨rfl, hx⟩
          obtain ⟨y, hy, rfl⟩ := getE hx
          obtain ⟨dy, ey⟩ := (hp5.pl y (List.mem_of_getElem? hy)).ext sg
          refine ⟨rfl, _, rfl, y.1, _, dy, _, _, rfl, ey, T.c_Place, T.nN, plf_name .., _, rfl, _, Sum.inr y.2.2.z, rfl, hD, ?_, same_app sg (Same.refl _) nD, ?_⟩
          · rw [List.length_map, List.length_take]
            rw [List.length_map] at hi
            exact Nat.lt_of_le_of_lt (Nat.min_le_left _ _) (Nat.lt_of_lt_of_le hi (Nat.le_trans hp.l6 (by decide)))
          · rw [upd_same, put_row (f := fun y => V.ref y.1) hp.nd hy]
        rintro H6 ⟨s56, hD⟩
        rw [List.length_map, List.take_length] at hD
        have hg6 := s56 _ _ hg5
        have nDg : D ≠ g := ne_of hD hg6 (by intro z; cases z)
        refine ⟨_, rfl, g, _, dx, _, rfl, hg6, T.c_Program, T.nC, (by show 2 < 1000; decide), ?_⟩
        have x7 : SameX g H (upd H6 g (.ins (CG K) dx (putF "_places" (.ref D) (putF "start" (.str z) (putF "names" (.ref tn) []))))) := (x5.trans (same_x s56)).trans SameX.upd
        have hg7 : (upd H6 g (.ins (CG K) dx (putF "_places" (.ref D) (putF "start" (.str z) (putF "names" (.ref tn) []))))) g = some (.ins (CG K) dx (putF "_places" (.ref D) (putF "start" (.str z) (putF "names" (.ref tn) [])))) := upd_same
        have hn7 : (upd H6 g (.ins (CG K) dx (putF "_places" (.ref D) (putF "start" (.str z) (putF "names" (.ref tn) []))))) tn = some (.tup ((zsOf xs).map V.str)) := by rw [upd_ne ngt]; exact s56 _ _ hn5
        have hD7 : (upd H6 g (.ins (CG K) dx (putF "_places" (.ref D) (putF "start" (.str z) (putF "names" (.ref tn) []))))) D = some (.dK (kvP xs)) := by rw [upd_ne nDg]; exact hD
        generalize upd H6 g (.ins (CG K) dx (putF "_places" (.ref D) (putF "start" (.str z) (putF "names" (.ref tn) [])))) = H7 at x7 hg7 hn7 hD7 ⊢
        have nD0 := none_x x5 nDg nD
        clear hg6 hD s56 nD hp5 hn5 hg5 x5 H6 H5
        have hp7 := hp.extX hg x7
        obtain ⟨kvs, hN, hl, hv⟩ := hp7.nx
        refine ⟨_, rfl, tn, rfl, ⟨_, SqT.of hn7⟩, fun D2 nD2 => dc_it walk_tup (fun i H' => Same H7 H' ∧ H' D2 = some (.dK ((xs.take i).map fun y => ((Sum.inr y.2.2.z : Key), V.ref y.2.1)))) ⟨same_new nD2, by rw [upd_same]; rfl⟩ (fun i H' _ h => SqT.ext (SqT.of hn7) h.1) ?_ ?_⟩
        · rintro i x H8 H' hi ⟨sg, hD2⟩ ⟨rfl, hx⟩
          obtain ⟨y, hy, rfl⟩ := zsAt hx
          refine ⟨rfl, _, rfl, _, rfl, _, rfl, N, _, rfl, dget_of (sg _ _ hN) (hv y (List.mem_of_getElem? hy)), _, Sum.inr y.2.2.z, rfl, hD2, ?_, same_app sg (Same.refl _) nD2, ?_⟩
          · rw [List.length_map, List.length_take]
            rw [List.length_map, hlz] at hi
            exact Nat.lt_of_le_of_lt (Nat.min_le_left _ _) (Nat.lt_of_lt_of_le hi (Nat.le_trans hp.l6 (by decide)))
          · rw [upd_same, put_row (f := fun y => V.ref y.2.1) hp.nd hy]
        rintro H8 ⟨s78, hD2⟩
        rw [List.length_map, hlz, List.take_length] at hD2
        have hg8 := s78 _ _ hg7
        have nDg2 : D2 ≠ g := ne_of hD2 hg8 (by intro z; cases z)
        refine ⟨_, rfl, g, _, dx, _, rfl, hg8, T.c_Program, T.nD, (by show 3 < 1000; decide), ?_⟩
        exact fin _ ((x7.trans (same_x s78)).trans SameX.upd) (by rw [upd_ne ngt]; exact s78 _ _ hn7) D (by rw [upd_ne nDg]; exact s78 _ _ hD7) D2 (by rw [upd_ne nDg2]; exact hD2) upd_same nD0 (none_x x7 nDg2 nD2)
    · refine ⟨_, (pss_cons (ps_if (pt_not (pt_val (c_fn O_are_places hr (by decide) T.g_are_places pass0 (pa_cons (pv 1) pa_nil)))) (pss_one (c_raise T.x_BadProgram O_BadProgram_init hr (by decide) T.g_BadProgram (takes_of rfl rfl rfl rfl) (pa_cons pe_str pa_nil)))
  pss_nil)
  (pss_cons (ps_set (i := 4) sc_Program_init.nd rfl (Or.inl rfl) (pe_callTy call_tuple_of (by rfl) T.z_tuple (by decide +kernel) (pa_cons (pe_lc (own := [("place", 5)]) (g := gName 5) (tt := tYes) (by rfl) sc_Program_init.nd (pi_tup (pv 1)) (blkOk_by (N := ["self", "places", "nexts", "start", "names", "place", "name"]) (sc := defScope s_Program_init) (by decide +kernel)) (fun _ _ _ _ _ => (pg_name (i := 5) sc_Program_init.nd rfl (Or.inl rfl))) (fun _ _ _ _ _ => pts_nil) (fun _ _ _ _ _ => (pe_fldK (K := K) rfl (pv 5) rfl))) pa_nil)))
  (pss_cons (ps_if (pt_not (pt_val (c_fn O_are_nexts hr (by decide) T.g_are_nexts pass0 (pa_cons (pv 2) (pa_cons (pv 4) pa_nil))))) (pss_one (c_raise T.x_BadProgram O_BadProgram_init hr (by decide) T.g_BadProgram (takes_of rfl rfl rfl rfl) (pa_cons pe_str pa_nil)))
  pss_nil)
  (pss_cons (ps_if (PW.pt (pw_and (pt_cmpR op_notN (pv 3) pe_non (nomark _)) (pw_and1 (pt_not (pt_val (c_fn O_is_one_of hr (by decide) T.g_is_one_of pass0 (pa_cons (pv 3) (pa_cons (pv 4) pa_nil)))))))) (pss_one (c_raise T.x_BadProgram O_BadProgram_init hr (by decide) T.g_BadProgram (takes_of rfl rfl rfl rfl) (pa_cons pe_str pa_nil)))
  pss_nil)
  (pss_cons (ps_fld (pv 0) (pv 4) rfl)
  (pss_cons (ps_fld (pv 0) (pe_ifExp (pt_cmpR op_isN (pv 3) pe_non (nomark _)) (pe_ix ix_tup (pv 4) pe_int (fun _ _ => rfl)) (pv 3)) rfl)
  (pss_cons (ps_fld (pv 0) (pe_dc (own := [("place", 5)]) (g := gName 5) (tt := tYes) (by rfl) sc_Program_init.nd (pi_tup (pv 1)) (blkOk_by (N := ["self", "places", "nexts", "start", "names", "place", "name"]) (sc := defScope s_Program_init) (by decide +kernel)) (fun _ _ _ _ _ => (pg_name (i := 5) sc_Program_init.nd rfl (Or.inl rfl))) (fun _ _ _ _ _ => pts_nil) (fun _ _ _ _ _ => (pe_fldK (K := K) rfl (pv 5) rfl)) (fun _ _ _ _ _ => (pv 5))) rfl)
  (pss_one (ps_fld (pv 0) (pe_dc (own := [("name", 6)]) (g := gName 6) (tt := tYes) (by rfl) sc_Program_init.nd (pi_tup (pv 4)) (blkOk_by (N := ["self", "places", "nexts", "start", "names", "place", "name"]) (sc := defScope s_Program_init) (by decide +kernel)) (fun _ _ _ _ _ => (pg_name (i := 6) sc_Program_init.nd rfl (Or.inl rfl))) (fun _ _ _ _ _ => pts_nil) (fun _ _ _ _ _ => (pv 6)) (fun _ _ _ _ _ => (pe_dget (hu_of hr) (pv 2) (pv 6) (fun _ _ => rfl)))) rfl))))))))), ?_⟩
      have hlz : (zsOf xs).length = xs.length := List.length_map ..
      refine ⟨_, rfl, L, xs, rfl, .inr hp.hL, hp.pl, hp.l1, hp.l6, hp.nd, fun H1 s1 => ⟨true, rfl, iteF ?_⟩⟩
      have hp1 := hp.ext s1
      -- the names
      refine ⟨_, rfl, L, rfl, ⟨_, SqT.of hp1.hL⟩, fun D nD => lc_it walk_tup (fun i H' => Same H1 H' ∧ H' D = some (.lst (((zsOf xs).take i).map V.str))) ⟨same_new nD, upd_same⟩ (fun i H' _ h => SqT.ext (SqT.of hp1.hL) h.1) ?_ ?_⟩
      · rintro i x H3 H' hi ⟨sg3, hD3⟩ ⟨rfl, hx⟩
        obtain ⟨y, hy, rfl⟩ := getE hx
        obtain ⟨dy, ey⟩ := (hp1.pl y (List.mem_of_getElem? hy)).ext sg3
        refine ⟨rfl, _, rfl, y.1, _, dy, _, _, rfl, ey, T.c_Place, T.nN, plf_name .., ?_⟩
        refine ⟨_, hD3, ?_, same_app sg3 (Same.refl _) nD, ?_⟩
        · rw [List.length_map, List.length_take]
          rw [List.length_map] at hi
          exact Nat.lt_of_le_of_lt (Nat.min_le_left _ _) (Nat.lt_of_lt_of_le hi (Nat.le_trans hp.l6 (by decide)))
        · rw [upd_same, List.take_add_one, List.map_append]
          have : (zsOf xs)[i]? = some y.2.2.z := by
            unfold zsOf
            rw [List.getElem?_map, hy]
            rfl
          rw [this]
          rfl
      rintro H2 ⟨s12, hD⟩
      rw [List.length_map, ← hlz, List.take_length] at hD
      refine ⟨D, _, rfl, .inl ⟨SqL.of hD, fun tn ntn => ?_⟩⟩
      have s2t := same_new (o := .tup ((zsOf xs).map V.str)) ntn
      have hn : (upd H2 tn (.tup ((zsOf xs).map V.str))) tn = some (.tup ((zsOf xs).map V.str)) := upd_same
      have s3 := s1.trans (s12.trans s2t)
      generalize upd H2 tn (.tup ((zsOf xs).map V.str)) = H3 at hn s3 ⊢
      clear s2t ntn hD nD s12 hp1 s1
      have hp3 := hp.ext s3
      refine ⟨_, rfl, _, rfl, N, tn, xs, rfl, hp3.nx, hn, hp3.ns, hp.l6, fun H4 s34 => ⟨true, rfl, iteF ?_⟩⟩
      have s4 := s3.trans s34
      have hn4 := s34 _ _ hn
      have hg4 := s4 _ _ hg
      have ngt : tn ≠ g := ne_of hn4 hg4 (by intro z; cases z)
      clear hp3 hn s34 s3 H1 H2 H3
      have none_x : ∀ {H5 : Hp} {D : Addr}, SameX g H H5 → D ≠ g → H5 D = none → H D = none := fun {H5 D} x n e => by
        cases q : H D with
        | none => rfl
        | some o =>
          have := x D o n q
          rw [e] at this
          cases this
      have fin : ∀ H5 : Hp, SameX g H H5 → H5 tn = some (.tup ((zsOf xs).map V.str)) → ∀ dP : Addr, H5 dP = some (.dK (kvP xs)) → ∀ dN : Addr, H5 dN = some (.dK (kvN xs)) → H5 g = some (.ins (CG K) dx (pgf tn z dP dN)) → H dP = none → H dN = none → Q .non H5 := fun H5 x5 h1 dP h2 dN h3 h4 h5 h6 => by
        have hq := hp.extX hg x5
        exact k H5 dx tn dP dN x5 ⟨h4, h1, h2, h3, hq.pl, hq.ns, hq.nd, hq.l1, hq.l6, hq.nm⟩ h5 h6
      rcases hst with rfl | ⟨rfl, h0⟩
      · refine ⟨_, rfl, rfl, true, rfl, iteT ⟨_, rfl, _, rfl, .str z, tn, zsOf xs, rfl, SqT.of hn4, .inl ⟨z, rfl, true, by rw [decide_eq_true hz], iteF ?_⟩⟩⟩
        refine ⟨_, rfl, _, rfl, g, _, dx, [], rfl, hg4, T.c_Program, T.nA, (by show 0 < 1000; decide), ?_⟩
        refine ⟨_, rfl, rfl, false, rfl, iteF ⟨_, rfl, _, rfl, g, _, dx, _, rfl, upd_same, T.c_Program, T.nB, (by show 1 < 1000; decide), ?_⟩⟩
        have x5 : SameX g H (upd (upd H4 g (.ins (CG K) dx (putF "names" (.ref tn) []))) g (.ins (CG K) dx (putF "start" (.str z) (putF "names" (.ref tn) [])))) := (same_x s4).trans (SameX.upd.trans SameX.upd)
        have hg5 : (upd (upd H4 g (.ins (CG K) dx (putF "names" (.ref tn) []))) g (.ins (CG K) dx (putF "start" (.str z) (putF "names" (.ref tn) [])))) g = some (.ins (CG K) dx (putF "start" (.str z) (putF "names" (.ref tn) []))) := upd_same
        have hn5 : (upd (upd H4 g (.ins (CG K) dx (putF "names" (.ref tn) []))) g (.ins (CG K) dx (putF "start" (.str z) (putF "names" (.ref tn) [])))) tn = some (.tup ((zsOf xs).map V.str)) := by rw [upd_ne ngt, upd_ne ngt]; exact hn4
        generalize upd (upd H4 g (.ins (CG K) dx (putF "names" (.ref tn) []))) g (.ins (CG K) dx (putF "start" (.str z) (putF "names" (.ref tn) []))) = H5 at x5 hg5 hn5 ⊢
        clear hn4 hg4 s4 H4
        have hp5 := hp.extX hg x5
        refine ⟨_, rfl, L, rfl, ⟨_, SqT.of hp5.hL⟩, fun D nD => dc_it walk_tup (fun i H' => Same H5 H' ∧ H' D = some (.dK ((xs.take i).map fun y => ((Sum.inr y.2.2.z : Key), V.ref y.1)))) ⟨same_new nD, by rw [upd_same]; rfl⟩ (fun i H' _ h => SqT.ext (SqT.of hp5.hL) h.1) ?_ ?_⟩
        · rintro i x H6 H' hi ⟨sg, hD⟩ ⟨rfl, hx⟩
          obtain ⟨y, hy, rfl⟩ := getE hx
          obtain ⟨dy, ey⟩ := (hp5.pl y (List.mem_of_getElem? hy)).ext sg
          refine ⟨rfl, _, rfl, y.1, _, dy, _, _, rfl, ey, T.c_Place, T.nN, plf_name .., _, rfl, _, Sum.inr y.2.2.z, rfl, hD, ?_, same_app sg (Same.refl _) nD, ?_⟩
          · rw [List.length_map, List.length_take]
            rw [List.length_map] at hi
            exact Nat.lt_of_le_of_lt (Nat.min_le_left _ _) (Nat.lt_of_lt_of_le hi (Nat.le_trans hp.l6 (by decide)))
          · rw [upd_same, put_row (f := fun y => V.ref y.1) hp.nd hy]
        rintro H6 ⟨s56, hD⟩
        rw [List.length_map, List.take_length] at hD
        have hg6 := s56 _ _ hg5
        have nDg : D ≠ g := ne_of hD hg6 (by intro z; cases z)
        refine ⟨_, rfl, g, _, dx, _, rfl, hg6, T.c_Program, T.nC, (by show 2 < 1000; decide), ?_⟩
        have x7 : SameX g H (upd H6 g (.ins (CG K) dx (putF "_places" (.ref D) (putF "start" (.str z) (putF "names" (.ref tn) []))))) := (x5.trans (same_x s56)).trans SameX.upd
        have hg7 : (upd H6 g (.ins (CG K) dx (putF "_places" (.ref D) (putF "start" (.str z) (putF "names" (.ref tn) []))))) g = some (.ins (CG K) dx (putF "_places" (.ref D) (putF "start" (.str z) (putF "names" (.ref tn) [])))) := upd_same
        have hn7 : (upd H6 g (.ins (CG K) dx (putF "_places" (.ref D) (putF "start" (.str z) (putF "names" (.ref tn) []))))) tn = some (.tup ((zsOf xs).map V.str)) := by rw [upd_ne ngt]; exact s56 _ _ hn5
        have hD7 : (upd H6 g (.ins (CG K) dx (putF "_places" (.ref D) (putF "start" (.str z) (putF "names" (.ref tn) []))))) D = some (.dK (kvP xs)) := by rw [upd_ne nDg]; exact hD
        generalize upd H6 g (.ins (CG K) dx (putF "_places" (.ref D) (putF "start" (.str z) (putF "names" (.ref tn) [])))) = H7 at x7 hg7 hn7 hD7 ⊢
        have nD0 := none_x x5 nDg nD
        clear hg6 hD s56 nD hp5 hn5 hg5 x5 H6 H5
        have hp7 := hp.extX hg x7
        obtain ⟨kvs, hN, hl, hv⟩ := hp7.nx
        refine ⟨_, rfl, tn, rfl, ⟨_, SqT.of hn7⟩, fun D2 nD2 => dc_it walk_tup (fun i H' => Same H7 H' ∧ H' D2 = some (.dK ((xs.take i).map fun y => ((Sum.inr y.2.2.z : Key), V.ref y.2.1)))) ⟨same_new nD2, by rw [upd_same]; rfl⟩ (fun i H' _ h => SqT.ext (SqT.of hn7) h.1) ?_ ?_⟩
        · rintro i x H8 H' hi ⟨sg, hD2⟩ ⟨rfl, hx⟩
          obtain ⟨y, hy, rfl⟩ := zsAt hx
          refine ⟨rfl, _, rfl, _, rfl, _, rfl, N, _, rfl, dget_of (sg _ _ hN) (hv y (List.mem_of_getElem? hy)), _, Sum.inr y.2.2.z, rfl, hD2, ?_, same_app sg (Same.refl _) nD2, ?_⟩
          · rw [List.length_map, List.length_take]
            rw [List.length_map, hlz] at hi
            exact Nat.lt_of_le_of_lt (Nat.min_le_left _ _) (Nat.lt_of_lt_of_le hi (Nat.le_trans hp.l6 (by decide)))
          · rw [upd_same, put_row (f := fun y => V.ref y.2.1) hp.nd hy]
        rintro H8 ⟨s78, hD2⟩
        rw [List.length_map, hlz, List.take_length] at hD2
        have hg8 := s78 _ _ hg7
        have nDg2 : D2 ≠ g := ne_of hD2 hg8 (by intro z; cases z)
        refine ⟨_, rfl, g, _, dx, _, rfl, hg8, T.c_Program, T.nD, (by show 3 < 1000; decide), ?_⟩
        exact fin _ ((x7.trans (same_x s78)).trans SameX.upd) (by rw [upd_ne ngt]; exact s78 _ _ hn7) D (by rw [upd_ne nDg]; exact s78 _ _ hD7) D2 (by rw [upd_ne nDg2]; exact hD2) upd_same nD0 (none_x x7 nDg2 nD2)
      · refine ⟨_, rfl, rfl, false, rfl, iteF ?_⟩
        refine ⟨_, rfl, _, rfl, g, _, dx, [], rfl, hg4, T.c_Program, T.nA, (by show 0 < 1000; decide), ?_⟩
        have a0 : atI ((zsOf xs).map V.str) 0 = some (.str z) := atI_nat (j := 0) (by rw [List.getElem?_map, h0]; rfl)
        have hn4' : (upd H4 g (.ins (CG K) dx (putF "names" (.ref tn) []))) tn = some (.tup ((zsOf xs).map V.str)) := by rw [upd_ne ngt]; exact hn4
        refine ⟨_, rfl, rfl, true, rfl, iteT ⟨_, rfl, tn, _, 0, .str z, rfl, rfl, SqT.of hn4', a0, _, rfl, g, _, dx, _, rfl, upd_same, T.c_Program, T.nB, (by show 1 < 1000; decide), ?_⟩⟩
        clear hn4' a0
        have x5 : SameX g H (upd (upd H4 g (.ins (CG K) dx (putF "names" (.ref tn) []))) g (.ins (CG K) dx (putF "start" (.str z) (putF "names" (.ref tn) [])))) := (same_x s4).trans (SameX.upd.trans SameX.upd)
        have hg5 : (upd (upd H4 g (.ins (CG K) dx (putF "names" (.ref tn) []))) g (.ins (CG K) dx (putF "start" (.str z) (putF "names" (.ref tn) [])))) g = some (.ins (CG K) dx (putF "start" (.str z) (putF "names" (.ref tn) []))) := upd_same
        have hn5 : (upd (upd H4 g (.ins (CG K) dx (putF "names" (.ref tn) []))) g (.ins (CG K) dx (putF "start" (.str z) (putF "names" (.ref tn) [])))) tn = some (.tup ((zsOf xs).map V.str)) := by rw [upd_ne ngt, upd_ne ngt]; exact hn4
        generalize upd (upd H4 g (.ins (CG K) dx (putF "names" (.ref tn) []))) g (.ins (CG K) dx (putF "start" (.str z) (putF "names" (.ref tn) []))) = H5 at x5 hg5 hn5 ⊢
        clear hn4 hg4 s4 H4
        have hp5 := hp.extX hg x5
        refine ⟨_, rfl, L, rfl, ⟨_, SqT.of hp5.hL⟩, fun D nD => dc_it walk_tup (fun i H' => Same H5 H' ∧ H' D = some (.dK ((xs.take i).map fun y => ((Sum.inr y.2.2.z : Key), V.ref y.1)))) ⟨same_new nD, by rw [upd_same]; rfl⟩ (fun i H' _ h => SqT.ext (SqT.of hp5.hL) h.1) ?_ ?_⟩
        · rintro i x H6 H' hi ⟨sg, hD⟩ ⟨rfl, hx⟩
          obtain ⟨y, hy, rfl⟩ := getE hx
          obtain ⟨dy, ey⟩ := (hp5.pl y (List.mem_of_getElem? hy)).ext sg
          refine ⟨rfl, _, rfl, y.1, _, dy, _, _, rfl, ey, T.c_Place, T.nN, plf_name .., _, rfl, _, Sum.inr y.2.2.z, rfl, hD, ?_, same_app sg (Same.refl _) nD, ?_⟩
          · rw [List.length_map, List.length_take]
            rw [List.length_map] at hi
            exact Nat.lt_of_le_of_lt (Nat.min_le_left _ _) (Nat.lt_of_lt_of_le hi (Nat.le_trans hp.l6 (by decide)))
          · rw [upd_same, put_row (f := fun y => V.ref y.1) hp.nd hy]
        rintro H6 ⟨s56, hD⟩
        rw [List.length_map, List.take_length] at hD
        have hg6 := s56 _ _ hg5
        have nDg : D ≠ g := ne_of hD hg6 (by intro z; cases z)
        refine ⟨_, rfl, g, _, dx, _, rfl, hg6, T.c_Program, T.nC, (by show 2 < 1000; decide), ?_⟩
        have x7 : SameX g H (upd H6 g (.ins (CG K) dx (putF "_places" (.ref D) (putF "start" (.str z) (putF "names" (.ref tn) []))))) := (x5.trans (same_x s56)).trans SameX.upd
        have hg7 : (upd H6 g (.ins (CG K) dx (putF "_places" (.ref D) (putF "start" (.str z) (putF "names" (.ref tn) []))))) g = some (.ins (CG K) dx (putF "_places" (.ref D) (putF "start" (.str z) (putF "names" (.ref tn) [])))) := upd_same
        have hn7 : (upd H6 g (.ins (CG K) dx (putF "_places" (.ref D) (putF "start" (.str z) (putF "names" (.ref tn) []))))) tn = some (.tup ((zsOf xs).map V.str)) := by rw [upd_ne ngt]; exact s56 _ _ hn5
        have hD7 : (upd H6 g (.ins (CG K) dx (putF "_places" (.ref D) (putF "start" (.str z) (putF "names" (.ref tn) []))))) D = some (.dK (kvP xs)) := by rw [upd_ne nDg]; exact hD
        generalize upd H6 g (.ins (CG K) dx (putF "_places" (.ref D) (putF "start" (.str z) (putF "names" (.ref tn) [])))) = H7 at x7 hg7 hn7 hD7 ⊢
        have nD0 := none_x x5 nDg nD
        clear hg6 hD s56 nD hp5 hn5 hg5 x5 H6 H5
        have hp7 := hp.extX hg x7
        obtain ⟨kvs, hN, hl, hv⟩ := hp7.nx
        refine ⟨_, rfl, tn, rfl, ⟨_, SqT.of hn7⟩, fun D2 nD2 => dc_it walk_tup (fun i H' => Same H7 H' ∧ H' D2 = some (.dK ((xs.take i).map fun y => ((Sum.inr y.2.2.z : Key), V.ref y.2.1)))) ⟨same_new nD2, by rw [upd_same]; rfl⟩ (fun i H' _ h => SqT.ext (SqT.of hn7) h.1) ?_ ?_⟩
        · rintro i x H8 H' hi ⟨sg, hD2⟩ ⟨rfl, hx⟩
          obtain ⟨y, hy, rfl⟩ := zsAt hx
          refine ⟨rfl, _, rfl, _, rfl, _, rfl, N, _, rfl, dget_of (sg _ _ hN) (hv y (List.mem_of_getElem? hy)), _, Sum.inr y.2.2.z, rfl, hD2, ?_, same_app sg (Same.refl _) nD2, ?_⟩
          · rw [List.length_map, List.length_take]
            rw [List.length_map, hlz] at hi
            exact Nat.lt_of_le_of_lt (Nat.min_le_left _ _) (Nat.lt_of_lt_of_le hi (Nat.le_trans hp.l6 (by decide)))
          · rw [upd_same, put_row (f := fun y => V.ref y.2.1) hp.nd hy]
        rintro H8 ⟨s78, hD2⟩
        rw [List.length_map, hlz, List.take_length] at hD2
        have hg8 := s78 _ _ hg7
        have nDg2 : D2 ≠ g := ne_of hD2 hg8 (by intro z; cases z)
        refine ⟨_, rfl, g, _, dx, _, rfl, hg8, T.c_Program, T.nD, (by show 3 < 1000; decide), ?_⟩
        exact fin _ ((x7.trans (same_x s78)).trans SameX.upd) (by rw [upd_ne ngt]; exact s78 _ _ hn7) D (by rw [upd_ne nDg]; exact s78 _ _ hD7) D2 (by rw [upd_ne nDg2]; exact hD2) upd_same nD0 (none_x x7 nDg2 nD2)
theorem O_Program2k {fd : FuncData} (F : FunD K "__init__" "Program.__init__" (defArgs s_Program_init) (defBody s_Program_init) (defScope s_Program_init) [] [("start", .non)] (He.fAd K ("Program", some "__init__")) fd) (G : FnOk P w K mg base (L2.CX P w) 5 (He.fAd K ("Program", some "__init__")) fd ["self", "places", "nexts", "start"] (spPgI K)) :
    OkK P w K mg base (L2.CX P w) 5 ("Program", some "__init__") ["self", "places", "nexts", "start"] 3 ["start"] (fun vs zs => vs ++ zs) (spPgI K) := by
  obtain ⟨mv, b⟩ := F.kbinds0 (ps := ["self", "places", "nexts", "start"]) 3 ["start"] [] (fun us _ ws => us ++ ws) (by decide) (fun _ h => nomatch h) (fun r1 _ r4 => r1.append r4)
    fun D doc pm an cdv ct us mv ws h1 h3 h4 => match us, mv, ws, h1, h3, h4 with | [_, _, _], [], [_], _, _, _ => rfl
  exact ⟨fd, _, G, b⟩
theorem O_Program2 {fd : FuncData} (F : FunD K "__init__" "Program.__init__" (defArgs s_Program_init) (defBody s_Program_init) (defScope s_Program_init) [] [("start", .non)] (He.fAd K ("Program", some "__init__")) fd) (G : FnOk P w K mg base (L2.CX P w) 5 (He.fAd K ("Program", some "__init__")) fd ["self", "places", "nexts", "start"] (spPgI K)) :
    OkK P w K mg base (L2.CX P w) 5 ("Program", some "__init__") ["self", "places", "nexts", "start"] 3 [] (fun vs _ => vs ++ [.non]) (spPgI K) := by
  obtain ⟨mv, b⟩ := F.kbinds0 (ps := ["self", "places", "nexts", "start"]) 3 [] [("start", .non)] (fun us mv _ => us ++ mv) (by decide) (fun _ h => h) (fun r1 r2 _ => r1.append r2)
    fun D doc pm an cdv ct us mv ws h1 h3 h4 => match us, mv, ws, h1, h3, h4 with | [_, _, _], [_], [], _, _, _ => ⟨_, _, _, _, _, _, rfl, rfl, rfl⟩
  exact ⟨fd, _, G, b⟩
end
end K37

set_option Elab.async false
set_option linter.all false
set_option pp.deepTerms.threshold 14
set_option pp.maxSteps 2500
set_option maxRecDepth 100000
set_option maxHeartbeats 2000000
namespace K37
open PySem PySem.Spec PyProof.Rows L2 Vf 
section
variable {P : Program} {w : World} {K : PySem.W.Frag} {mg : Str → Option Value} {base : Heap}
structure GMeth (K : PySem.W.Frag) : Prop where
  p_eq : Meth K (He.ga K "Place") "__eq__" (He.fAd K ("Place", some "__eq__"))
  p_ne : PySem.W.findIn K (.ref (He.ga K "Place")) "__ne__" = some (some (.builtin "object.__ne__"))
  m_eq : Meth K (He.ga K "Program") "__eq__" (He.fAd K ("Program", some "__eq__"))
  m_ne : PySem.W.findIn K (.ref (He.ga K "Program")) "__ne__" = some (some (.builtin "object.__ne__"))
  m_contains : Meth K (He.ga K "Program") "__contains__" (He.fAd K ("Program", some "__contains__"))
  m_getitem : Meth K (He.ga K "Program") "__getitem__" (He.fAd K ("Program", some "__getitem__"))
  f_getitem : PySem.W.fnIn K (He.fAd K ("Program", some "__getitem__")) = true
theorem sc_NoPlace_init : FnScope ["self", "name"] ["self", "name"] (defScope s_NoPlace_init) := ⟨rfl, rfl, rfl, by decide +kernel, rfl, by decide +kernel, by decide +kernel⟩
-- slots: 0 self, 1 name
abbrev CNP (K : PySem.W.Frag) : Addr := He.ga K "NoPlace"
theorem ok_NoPlace_init {fd : FuncData} (F : FnD K ("NoPlace", some "__init__") "__init__" "NoPlace.__init__" s_NoPlace_init fd) : OkD P w K mg base CX0 1 ("NoPlace", some "__init__") ["self", "name"] [] (spExI K (CNP K) "name") := by
  refine okd F (F.ok sc_NoPlace_init (fun vs H Q E h => ?_) fun cdv A outer s H vs Q E hr h => ⟨tOst K "name" (tVar 0) (tVar 1), PSs.nox ?_, run_exI h⟩) fun _ _ _ _ _ _ us hl => match us, hl with | [_, _], _ => rfl
  · obtain ⟨a, v, rfl, _⟩ := h
    rfl
  · exact pss_one (ps_ost (pv 0) (pv 1))
theorem sc_Program_contains : FnScope ["self", "x"] ["self", "x"] (defScope s_Program_contains) := ⟨rfl, rfl, rfl, by decide +kernel, rfl, by decide +kernel, by decide +kernel⟩
-- slots: 0 self, 1 x
def spCon (K : PySem.W.Frag) : Sp := fun vs H Q _ => ∃ (g : Addr) (x : V) (xs : List PgE) (st : Str) (dx tn dP dN : Addr), vs = [.ref g, x] ∧ PgA K H g xs st dx tn dP dN ∧ ((∃ z, x = .str z ∧ Q (.bl (decide (z ∈ zsOf xs))) H) ∨ (OddS H x ∧ Q (.bl false) H))
theorem ok_Program_contains {fd : FuncData} (F : FnD K ("Program", some "__contains__") "__contains__" "Program.__contains__" s_Program_contains fd) (T : GTxt K mg) (O_is_one_of : OkF P w K mg base CX0 1 "is_one_of" ["x", "names"] (spOne K)) : OkM P w K mg base CX0 2 "Program" "__contains__" ["self", "x"] (spCon K) := by
  refine okd F (F.ok sc_Program_contains (fun vs H Q E h => ?_) fun cdv A outer s H vs Q E hr h => ?_) fun _ _ _ _ _ _ us hl => match us, hl with | [_, _], _ => rfl
  · obtain ⟨g, x, xs, st, dx, tn, dP, dN, rfl, _⟩ := h
    rfl
  · obtain ⟨g, x, xs, st, dx, tn, dP, dN, rfl, hp, h⟩ := h
    refine ⟨_, PSs.nox (pss_one (ps_ret (c_fn O_is_one_of hr (by decide) T.g_is_one_of pass0 (pa_cons (pv 1) (pa_cons (pe_fld (pv 0) rfl) pa_nil))))), ?_⟩
    exact ⟨_, rfl, _, rfl, g, _, dx, _, _, rfl, hp.hg, T.c_Program, T.nA, pgf_names .., x, tn, zsOf xs, rfl, SqT.of hp.hn, h⟩
theorem sc_Program_getitem : FnScope ["self", "at"] ["self", "at"] (defScope s_Program_getitem) := ⟨rfl, rfl, rfl, by decide +kernel, rfl, by decide +kernel, by decide +kernel⟩
-- slots: 0 self, 1 at
def spGet (K : PySem.W.Frag) : Sp := fun vs H Q E => ∃ (g : Addr) (x : V) (xs : List PgE) (st : Str) (dx tn dP dN : Addr), vs = [.ref g, x] ∧ PgA K H g xs st dx tn dP dN ∧
  ((∃ (i : Nat) (y : PgE), xs[i]? = some y ∧ x = .str y.2.2.z ∧ Q (.ref y.1) H) ∨ (((∃ z, x = .str z ∧ z ∉ zsOf xs) ∨ OddS H x) ∧ ∀ d, H d = none → E (.ref (CNP K)) (some d) (upd H d (.xd [("name", x)]))))
theorem ok_Program_getitem {fd : FuncData} (F : FnD K ("Program", some "__getitem__") "__getitem__" "Program.__getitem__" s_Program_getitem fd) (T : GTxt K mg) (M : GMeth K) (O_contains : OkM P w K mg base CX0 2 "Program" "__contains__" ["self", "x"] (spCon K))
    (O_NoPlace_init : OkD P w K mg base CX0 1 ("NoPlace", some "__init__") ["self", "name"] [] (spExI K (CNP K) "name")) : OkM P w K mg base (L2.CX P w) 4 "Program" "__getitem__" ["self", "at"] (spGet K) := by
  refine okd F (F.ok sc_Program_getitem (fun vs H Q E h => ?_) fun cdv A outer s H vs Q E hr h => ?_) fun _ _ _ _ _ _ us hl => match us, hl with | [_, _], _ => rfl
  · obtain ⟨g, x, xs, st, dx, tn, dP, dN, rfl, _⟩ := h
    rfl
  · obtain ⟨g, x, xs, st, dx, tn, dP, dN, rfl, hp, h⟩ := h
    refine ⟨_, (pss_cons (ps_if (pt_cmpR (op_notInO M.m_contains O_contains hr (by decide)) (pv 1) (pv 0) rfl) (pss_one (c_raise T.x_NoPlace O_NoPlace_init hr (by decide) T.g_NoPlace (takes_of rfl rfl rfl rfl) (pa_cons (pv 1) pa_nil)))
  pss_nil)
  (pss_one (ps_ret (pe_dget (hu_of hr) (pe_fld (pv 0) rfl) (pv 1) (fun _ _ => rfl))))), ?_⟩
    rcases h with ⟨i, y, hy, rfl, q⟩ | ⟨hx, q⟩
    · have hm : y.2.2.z ∈ zsOf xs := List.mem_map_of_mem (List.mem_of_getElem? hy)
      refine ⟨_, rfl, _, rfl, g, dx, _, rfl, hp.hg, g, _, xs, st, dx, tn, dP, dN, rfl, hp, .inl ⟨_, rfl, _, rfl, false, by rw [decide_eq_true hm]; rfl, iteF ?_⟩⟩
      exact ⟨_, rfl, g, _, dx, _, _, rfl, hp.hg, T.c_Program, T.nC, pgf_places .., _, rfl, dP, _, rfl, dget_of hp.hP (val_row (f := fun y => V.ref y.1) hp.nd hy), q⟩
    · rcases hx with ⟨z, rfl, hz⟩ | o
      · exact ⟨_, rfl, _, rfl, g, dx, _, rfl, hp.hg, g, _, xs, st, dx, tn, dP, dN, rfl, hp, .inl ⟨_, rfl, _, rfl, true, by rw [decide_eq_false hz]; rfl, iteT ⟨_, rfl, _, rfl, fun d hd => q d hd⟩⟩⟩
      · exact ⟨_, rfl, _, rfl, g, dx, _, rfl, hp.hg, g, _, xs, st, dx, tn, dP, dN, rfl, hp, .inr ⟨o, _, rfl, true, rfl, iteT ⟨_, rfl, _, rfl, fun d hd => q d hd⟩⟩⟩
/-! ### two programs -/
def plOf (xs : List PgE) : List (Str × Int × Int × Bool) := xs.map fun x => (x.2.2.z, x.2.2.l, x.2.2.m, x.2.2.b)
def nsOf (xs : List PgE) : List (List Str) := xs.map fun x => x.2.2.ns
def pgB (xs xs' : List PgE) (st st' : Str) : Bool := decide (zsOf xs = zsOf xs') && (decide (plOf xs = plOf xs') && (decide (nsOf xs = nsOf xs') && decide (st = st')))
def zipAll (f : PgE → PgE → Bool) : List PgE → List PgE → Bool
  | y :: ys, y' :: ys' => f y y' && zipAll f ys ys'
  | _, _ => true
def plE (y y' : PgE) : Bool := plB y.2.2.z y'.2.2.z y.2.2.l y'.2.2.l y.2.2.m y'.2.2.m y.2.2.b y'.2.2.b
def nsE (y y' : PgE) : Bool := decide (y.2.2.ns = y'.2.2.ns)
theorem cons_dec {α : Type} [DecidableEq α] (a a' : α) (l l' : List α) : decide (a :: l = a' :: l') = (decide (a = a') && decide (l = l')) := by
  rw [Bool.eq_iff_iff]
  simp
theorem zip_pl : ∀ {ys ys' : List PgE}, ys.length = ys'.length → zipAll plE ys ys' = decide (plOf ys = plOf ys')
  | [], [], _ => rfl
  | y :: ys, y' :: ys', h => by
    have e : plE y y' = decide ((y.2.2.z, y.2.2.l, y.2.2.m, y.2.2.b) = (y'.2.2.z, y'.2.2.l, y'.2.2.m, y'.2.2.b)) := by
      unfold plE plB
      rw [Bool.eq_iff_iff]
      simp [Prod.ext_iff]
    show (plE y y' && zipAll plE ys ys') = decide ((y.2.2.z, y.2.2.l, y.2.2.m, y.2.2.b) :: plOf ys = (y'.2.2.z, y'.2.2.l, y'.2.2.m, y'.2.2.b) :: plOf ys')
    rw [cons_dec, zip_pl (Nat.succ.inj h), e]
theorem zip_ns : ∀ {ys ys' : List PgE}, ys.length = ys'.length → zipAll nsE ys ys' = decide (nsOf ys = nsOf ys')
  | [], [], _ => rfl
  | y :: ys, y' :: ys', h => by
    show (nsE y y' && zipAll nsE ys ys') = decide (y.2.2.ns :: nsOf ys = y'.2.2.ns :: nsOf ys')
    rw [cons_dec, zip_ns (Nat.succ.inj h)]
    rfl
theorem hits_rows {D : V → V → Bool → Prop} {f : PgE → V} {r : PgE → PgE → Bool} {xs' : List PgE} (nd : (zsOf xs').Nodup) : ∀ {ys ys' : List PgE}, (∀ y ∈ ys', ∃ i : Nat, xs'[i]? = some y) → zsOf ys = zsOf ys' → (∀ y ∈ ys, ∀ y' ∈ ys', D (f y) (f y') (r y y')) →
    DHits D (xs'.map fun y => ((Sum.inr y.2.2.z : Key), f y)) (ys.map fun y => ((Sum.inr y.2.2.z : Key), f y)) (zipAll r ys ys')
  | [], [], _, _, _ => .nil
  | [], _ :: _, _, h, _ => nomatch h
  | _ :: _, [], _, h, _ => nomatch h
  | y :: ys, y' :: ys', hi, hz, hd => by
    have h1 : y.2.2.z = y'.2.2.z := (List.cons.inj hz).1
    have h2 : zsOf ys = zsOf ys' := (List.cons.inj hz).2
    obtain ⟨i, e⟩ := hi y' (List.mem_cons_self ..)
    refine .hit (y := f y') ?_ (hd y (List.mem_cons_self ..) y' (List.mem_cons_self ..)) (hits_rows nd (fun v hv => hi v (List.mem_cons_of_mem _ hv)) h2 fun v hv v' hv' => hd v (List.mem_cons_of_mem _ hv) v' (List.mem_cons_of_mem _ hv'))
    rw [h1]
    exact val_row nd e
def strD (zs : List Str) : PyData := .tuple (zs.map PyData.str)
theorem strs_dp {H : Hp} : ∀ {zs : List Str}, DpAll K H (zs.map V.str) (zs.map PyData.str)
  | [] => .nil
  | _ :: _ => .cons (.str _) strs_dp
theorem strs_eq : ∀ {zs zs' : List Str}, PyData.eqvAll (zs.map PyData.str) (zs'.map PyData.str) = decide (zs = zs')
  | [], [] => rfl
  | [], _ :: _ => rfl
  | _ :: _, [] => rfl
  | z :: zs, z' :: zs' => by
    rw [cons_dec]
    show ((z == z') && PyData.eqvAll (zs.map PyData.str) (zs'.map PyData.str)) = _
    rw [strs_eq]
    rfl
end
end K37

set_option Elab.async false
set_option linter.all false
set_option pp.deepTerms.threshold 14
set_option pp.maxSteps 2500
set_option maxRecDepth 100000
set_option maxHeartbeats 2000000
namespace K37
open PySem PySem.Spec PyProof.Rows L2 Vf 
section
variable {P : Program} {w : World} {K : PySem.W.Frag} {mg : Str → Option Value} {base : Heap}
structure RTxt (K : PySem.W.Frag) (mg : Str → Option Value) : Prop extends GTxt K mg where
  i_MOST_PERIOD : ∃ t, mg "MOST_PERIOD" = some (.int 8 t)
  g_Sampler : mg "Sampler" = some (.ref (He.ga K "Sampler"))
  g_BadSampler : mg "BadSampler" = some (.ref (He.ga K "BadSampler"))
  c_Sampler : Cls K (He.ga K "Sampler")
  m_Sampler : Mk K (He.ga K "Sampler") (He.fAd K ("Sampler", some "__init__"))
  sP : NoAttr K (He.ga K "Sampler") "period"
  sJ : NoAttr K (He.ga K "Sampler") "jitter"
  sF : NoAttr K (He.ga K "Sampler") "phase"
  x_BadSampler : ExI K "BadSampler" "why"
/-! ### a sampler's fields -/
def saf (n i : Int) (f : V) : List (Str × V) := putF "phase" f (putF "jitter" (.int i) (putF "period" (.int n) []))
theorem saf_period (n i : Int) (f : V) : (saf n i f).lookup ("period" : Str) = some (.int n) := by
  unfold saf
  rw [lookup_putF, if_neg (by decide +kernel), lookup_putF, if_neg (by decide +kernel), lookup_putF, if_pos rfl]
theorem saf_jitter (n i : Int) (f : V) : (saf n i f).lookup ("jitter" : Str) = some (.int i) := by
  unfold saf
  rw [lookup_putF, if_neg (by decide +kernel), lookup_putF, if_pos rfl]
theorem saf_phase (n i : Int) (f : V) : (saf n i f).lookup ("phase" : Str) = some f := by
  unfold saf
  rw [lookup_putF, if_pos rfl]
theorem saf_with (n i : Int) (f : V) : (saf n i f).lookup ("with_values" : Str) = none := by
  unfold saf
  rw [lookup_putF, if_neg (by decide +kernel), lookup_putF, if_neg (by decide +kernel), lookup_putF, if_neg (by decide +kernel)]
  rfl
/-- at p a sampler -/
def SaA (C : Addr) (H : Hp) (p : Addr) (n i : Int) (f : V) : Prop := ∃ dx, H p = some (.ins C dx (saf n i f))
theorem SaA.ext {C : Addr} {H H' : Hp} {p : Addr} {n i : Int} {f : V} (h : SaA C H p n i f) (s : Same H H') : SaA C H' p n i f := by
  obtain ⟨dx, e⟩ := h
  exact ⟨dx, s _ _ e⟩
abbrev CS (K : PySem.W.Frag) : Addr := He.ga K "Sampler"
abbrev CBS (K : PySem.W.Frag) : Addr := He.ga K "BadSampler"
theorem sc_BadSampler_init : FnScope ["self", "why"] ["self", "why"] (defScope s_BadSampler_init) := ⟨rfl, rfl, rfl, by decide +kernel, rfl, by decide +kernel, by decide +kernel⟩
-- slots: 0 self, 1 why
theorem ok_BadSampler_init {fd : FuncData} (F : FnD K ("BadSampler", some "__init__") "__init__" "BadSampler.__init__" s_BadSampler_init fd) : OkD P w K mg base CX0 1 ("BadSampler", some "__init__") ["self", "why"] [] (spExI K (CBS K) "why") := by
  refine okd F (F.ok sc_BadSampler_init (fun vs H Q E h => ?_) fun cdv A outer s H vs Q E hr h => ⟨tOst K "why" (tVar 0) (tVar 1), PSs.nox ?_, run_exI h⟩) fun _ _ _ _ _ _ us hl => match us, hl with | [_, _], _ => rfl
  · obtain ⟨a, v, rfl, _⟩ := h
    rfl
  · exact pss_one (ps_ost (pv 0) (pv 1))
/-- an int or another value -/
def Any (H : Hp) (x : V) : Prop := (∃ q : Int, x = .int q) ∨ Odd H x
theorem Any.ext {H H' : Hp} {x : V} (o : Any H x) (s : Same H H') : Any H' x := o.imp id fun o => o.ext s
/-- what a sampler is refused for -/
inductive SaIn (H : Hp) (x j f : V) : Str → Prop where
  | period (h : NotFr H x 1 8) : SaIn H x j f "period"
  | jitter (n : Int) (hx : x = .int n) (n1 : 1 ≤ n) (n2 : n ≤ 8) (h : NotFr H j 0 (n - 1)) : SaIn H x j f "jitter"
  | phase (n i : Int) (hx : x = .int n) (n1 : 1 ≤ n) (n2 : n ≤ 8) (hj : j = .int i) (i0 : 0 ≤ i) (i1 : i ≤ n - 1) (hf : f ≠ .non) (h : NotFr H f 0 (n - 1)) : SaIn H x j f "phase"
def PhOk (f : V) (n : Int) : Prop := f = .non ∨ ∃ q : Int, f = .int q ∧ 0 ≤ q ∧ q ≤ n - 1
/-- the parts of a sampler that is made -/
def SaOk (x j f : V) (n i : Int) : Prop := x = .int n ∧ 1 ≤ n ∧ n ≤ 8 ∧ j = .int i ∧ 0 ≤ i ∧ i ≤ n - 1 ∧ PhOk f n
theorem SaIn.ext {H H' : Hp} {x j f : V} {w : Str} (h : SaIn H x j f w) (s : Same H H') : SaIn H' x j f w := by
  cases h with
  | period h => exact .period (h.ext s)
  | jitter n hx n1 n2 h => exact .jitter n hx n1 n2 (h.ext s)
  | phase n i hx n1 n2 hj i0 i1 hf h => exact .phase n i hx n1 n2 hj i0 i1 hf (h.ext s)
def spSaI (K : PySem.W.Frag) : Sp := fun vs H Q E => ∃ (p dx : Addr) (x j f : V), vs = [.ref p, x, j, f] ∧ H p = some (.ins (CS K) dx []) ∧
  ((∃ w, SaIn H x j f w ∧ ∀ d, H d = none → E (.ref (CBS K)) (some d) (upd H d (.xd [("why", .str w)]))) ∨
   (∃ n i, SaOk x j f n i ∧ Q .non (upd H p (.ins (CS K) dx (saf n i f)))))
theorem sc_Sampler_init : FnScope ["self", "period", "jitter", "phase"] ["self", "period", "jitter", "phase"] (defScope s_Sampler_init) := ⟨rfl, rfl, rfl, by decide +kernel, rfl, by decide +kernel, by decide +kernel⟩
-- slots: 0 self, 1 period, 2 jitter, 3 phase
theorem ok_Sampler_init {fd : FuncData} (F : FunD K "__init__" "Sampler.__init__" (defArgs s_Sampler_init) (defBody s_Sampler_init) (defScope s_Sampler_init) [.int 0] [("phase", .int 0)] (He.fAd K ("Sampler", some "__init__")) fd) (T : RTxt K mg)
    (O_is_integer_from : OkF P w K mg base CX0 2 "is_integer_from" ["x", "low", "high"] spFr)
    (O_BadSampler_init : OkD P w K mg base CX0 1 ("BadSampler", some "__init__") ["self", "why"] [] (spExI K (CBS K) "why")) :
    FnOk P w K mg base (L2.CX P w) 4 (He.fAd K ("Sampler", some "__init__")) fd ["self", "period", "jitter", "phase"] (spSaI K) := by
  refine F.ok sc_Sampler_init (fun vs H Q E h => ?_) fun cdv A outer s H vs Q E hr h => ?_
  · obtain ⟨p, dx, x, j, f, rfl, _⟩ := h
    rfl
  · obtain ⟨p, dx, x, j, f, rfl, hp, h⟩ := h
    refine ⟨_, (pss_cons (ps_if (pt_not (pt_val (c_fn O_is_integer_from hr (by decide) T.g_is_integer_from pass0 (pa_cons (pv 1) (pa_cons pe_int (pa_cons (c_gint T.i_MOST_PERIOD) pa_nil)))))) (pss_one (c_raise T.x_BadSampler O_BadSampler_init hr (by decide) T.g_BadSampler (takes_of rfl rfl rfl rfl) (pa_cons pe_str pa_nil)))
  pss_nil)
  (pss_cons (ps_if (pt_not (pt_val (c_fn O_is_integer_from hr (by decide) T.g_is_integer_from pass0 (pa_cons (pv 2) (pa_cons pe_int (pa_cons (pe_op op_sub (pv 1) pe_int) pa_nil)))))) (pss_one (c_raise T.x_BadSampler O_BadSampler_init hr (by decide) T.g_BadSampler (takes_of rfl rfl rfl rfl) (pa_cons pe_str pa_nil)))
  pss_nil)
  (pss_cons (ps_if (PW.pt (pw_and (pt_cmpR op_notN (pv 3) pe_non (nomark _)) (pw_and1 (pt_not (pt_val (c_fn O_is_integer_from hr (by decide) T.g_is_integer_from pass0 (pa_cons (pv 3) (pa_cons pe_int (pa_cons (pe_op op_sub (pv 1) pe_int) pa_nil))))))))) (pss_one (c_raise T.x_BadSampler O_BadSampler_init hr (by decide) T.g_BadSampler (takes_of rfl rfl rfl rfl) (pa_cons pe_str pa_nil)))
  pss_nil)
  (pss_cons (ps_fld (pv 0) (pv 1) rfl)
  (pss_cons (ps_fld (pv 0) (pv 2) rfl)
  (pss_one (ps_fld (pv 0) (pv 3) rfl))))))), ?_⟩
    rcases h with ⟨w, hi, k⟩ | ⟨n, i, ⟨rfl, n1, n2, rfl, i0, i1, hf⟩, k⟩
    · cases hi with
      | period h => exact ⟨_, rfl, _, _, _, rfl, .inr ⟨h, false, rfl, iteT ⟨_, rfl, fun d hd => k d hd⟩⟩⟩
      | jitter n hx n1 n2 h =>
        subst hx
        refine ⟨_, rfl, _, _, _, rfl, .inl ⟨n, rfl, n1, n2, true, rfl, iteF ?_⟩⟩
        exact ⟨_, rfl, _, rfl, n, 1, rfl, rfl, _, _, _, rfl, .inr ⟨h, false, rfl, iteT ⟨_, rfl, fun d hd => k d hd⟩⟩⟩
      | phase n i hx n1 n2 hj i0 i1 hf h =>
        subst hx hj
        refine ⟨_, rfl, _, _, _, rfl, .inl ⟨n, rfl, n1, n2, true, rfl, iteF ?_⟩⟩
        refine ⟨_, rfl, _, rfl, n, 1, rfl, rfl, _, _, _, rfl, .inl ⟨i, rfl, i0, i1, true, rfl, iteF ?_⟩⟩
        exact ⟨_, rfl, rfl, true, by rw [decide_eq_false hf]; rfl, iteT ⟨_, rfl, _, rfl, n, 1, rfl, rfl, _, _, _, rfl, .inr ⟨h, false, rfl, iteT ⟨_, rfl, fun d hd => k d hd⟩⟩⟩⟩
    · refine ⟨_, rfl, _, _, _, rfl, .inl ⟨n, rfl, n1, n2, true, rfl, iteF ?_⟩⟩
      refine ⟨_, rfl, _, rfl, n, 1, rfl, rfl, _, _, _, rfl, .inl ⟨i, rfl, i0, i1, true, rfl, iteF ?_⟩⟩
      rcases hf with rfl | ⟨q, rfl, q0, q1⟩
      · refine ⟨_, rfl, rfl, false, rfl, iteF ?_⟩
        refine ⟨_, rfl, _, rfl, p, _, dx, [], rfl, hp, T.c_Sampler, T.sP, (by show 0 < 1000; decide), ?_⟩
        refine ⟨_, rfl, _, rfl, p, _, dx, _, rfl, upd_same, T.c_Sampler, T.sJ, (by show 1 < 1000; decide), ?_⟩
        rw [upd_upd]
        refine ⟨_, rfl, _, rfl, p, _, dx, _, rfl, upd_same, T.c_Sampler, T.sF, (by show 2 < 1000; decide), ?_⟩
        rw [upd_upd]
        exact k
      · refine ⟨_, rfl, rfl, true, rfl, iteT ⟨_, rfl, _, rfl, n, 1, rfl, rfl, _, _, _, rfl, .inl ⟨q, rfl, q0, q1, true, rfl, iteF ?_⟩⟩⟩
        refine ⟨_, rfl, _, rfl, p, _, dx, [], rfl, hp, T.c_Sampler, T.sP, (by show 0 < 1000; decide), ?_⟩
        refine ⟨_, rfl, _, rfl, p, _, dx, _, rfl, upd_same, T.c_Sampler, T.sJ, (by show 1 < 1000; decide), ?_⟩
        rw [upd_upd]
        refine ⟨_, rfl, _, rfl, p, _, dx, _, rfl, upd_same, T.c_Sampler, T.sF, (by show 2 < 1000; decide), ?_⟩
        rw [upd_upd]
        exact k
/-- Sampler(period, jitter, phase=f), Sampler(period) -/
theorem O_Sampler2k {fd : FuncData} (F : FunD K "__init__" "Sampler.__init__" (defArgs s_Sampler_init) (defBody s_Sampler_init) (defScope s_Sampler_init) [.int 0] [("phase", .int 0)] (He.fAd K ("Sampler", some "__init__")) fd) (G : FnOk P w K mg base (L2.CX P w) 4 (He.fAd K ("Sampler", some "__init__")) fd ["self", "period", "jitter", "phase"] (spSaI K)) :
    OkK P w K mg base (L2.CX P w) 4 ("Sampler", some "__init__") ["self", "period", "jitter", "phase"] 3 ["phase"] (fun vs zs => vs ++ zs) (spSaI K) := by
  obtain ⟨its, mv, b⟩ := F.kbinds (ps := ["self", "period", "jitter", "phase"]) 3 ["phase"] [] (fun us _ _ ws => us ++ ws) (by decide) (by decide) (fun _ h => nomatch h) (fun r1 _ _ r4 => r1.append r4)
    fun T D doc pm an cdv ct us its mv ws h1 h2 h3 h4 => match us, its, mv, ws, h1, h2, h3, h4 with | [_, _, _], [_], [], [_], _, _, _, _ => ⟨_, rfl, rfl⟩
  exact ⟨fd, _, G, b⟩
theorem O_Sampler1 {fd : FuncData} (F : FunD K "__init__" "Sampler.__init__" (defArgs s_Sampler_init) (defBody s_Sampler_init) (defScope s_Sampler_init) [.int 0] [("phase", .int 0)] (He.fAd K ("Sampler", some "__init__")) fd) (G : FnOk P w K mg base (L2.CX P w) 4 (He.fAd K ("Sampler", some "__init__")) fd ["self", "period", "jitter", "phase"] (spSaI K)) :
    OkK P w K mg base (L2.CX P w) 4 ("Sampler", some "__init__") ["self", "period", "jitter", "phase"] 2 [] (fun vs _ => vs ++ [.int 0, .int 0]) (spSaI K) := by
  obtain ⟨its, mv, b⟩ := F.kbinds (ps := ["self", "period", "jitter", "phase"]) 2 [] [("phase", .int 0)] (fun us its mv _ => us ++ (its ++ mv)) (by decide) (by decide) (fun _ h => h) (fun r1 r2 r3 _ => r1.append (r2.append r3))
    fun T D doc pm an cdv ct us its mv ws h1 h2 h3 h4 => match us, its, mv, ws, h1, h2, h3, h4 with | [_, _], [_], [_], [], _, _, _, _ => ⟨_, rfl, _, _, _, _, _, _, rfl, rfl, rfl⟩
  exact ⟨fd, _, G, b⟩
end
end K37

set_option Elab.async false
set_option linter.all false
set_option pp.deepTerms.threshold 14
set_option pp.maxSteps 2500
set_option maxRecDepth 100000
set_option maxHeartbeats 2000000
namespace K37
open PySem PySem.Spec PyProof.Rows L2 Vf 
section
variable {P : Program} {w : World} {K : PySem.W.Frag} {mg : Str → Option Value} {base : Heap}
theorem sc_Program_nexts : FnScope ["self", "name"] ["self"] (defScope s_Program_nexts) := ⟨rfl, rfl, rfl, by decide +kernel, rfl, by decide +kernel, by decide +kernel⟩
-- slots: 0 self, 1 name
/-- the table of nexts, new -/
def spNxT (K : PySem.W.Frag) : Sp := fun vs H Q _ => ∃ (g : Addr) (xs : List PgE) (st : Str) (dx tn dP dN : Addr), vs = [.ref g] ∧ PgA K H g xs st dx tn dP dN ∧ ∀ H' D, Same H H' → H D = none → H' D = some (.dK (kvN xs)) → Q (.ref D) H'
theorem ok_Program_nexts {fd : FuncData} (F : FunD K "nexts" "Program.nexts" (defArgs s_Program_nexts) (defBody s_Program_nexts) (defScope s_Program_nexts) [] [] (gAd K "Program" "nexts") fd) (pr : PropOf K (He.ga K "Program") "nexts" (He.ma K (He.ga K "Program") "nexts") (gAd K "Program" "nexts")) (T : GTxt K mg) : OkG P w K mg base CX0 1 "Program" "nexts" (spNxT K) := by
  refine ⟨⟨fd, F.ok sc_Program_nexts (fun vs H Q E h => ?_) fun cdv A outer s H vs Q E hr h => ?_, F.bindsN fun _ _ _ _ _ _ us hl => match us, hl with | [_], _ => rfl⟩, pr⟩
  · obtain ⟨g, xs, st, dx, tn, dP, dN, rfl, _⟩ := h
    rfl
  · obtain ⟨g, xs, st, dx, tn, dP, dN, rfl, hp, k⟩ := h
    refine ⟨_, PSs.nox (pss_one (ps_ret (pe_dc (own := [("name", 1)]) (g := gName 1) (tt := tYes) (by rfl) sc_Program_nexts.nd (pi_tup (pe_fld (pv 0) rfl)) (blkOk_by (N := ["self", "name"]) (sc := defScope s_Program_nexts) (by decide +kernel)) (fun _ _ _ _ _ => (pg_name (i := 1) sc_Program_nexts.nd rfl (Or.inl rfl))) (fun _ _ _ _ _ => pts_nil) (fun _ _ _ _ _ => (pv 1)) (fun _ _ _ _ _ => (pe_dget (hu_of hr) (pe_fldK (K := K) rfl (pv 0) rfl) (pv 1) (fun _ _ => rfl)))))), ?_⟩
    have hlz : (zsOf xs).length = xs.length := List.length_map ..
    refine ⟨_, rfl, g, _, dx, _, _, rfl, hp.hg, T.c_Program, T.nA, pgf_names .., tn, rfl, ⟨_, SqT.of hp.hn⟩, fun D nD => dc_it walk_tup (fun i H' => Same H H' ∧ H' D = some (.dK ((xs.take i).map fun y => ((Sum.inr y.2.2.z : Key), V.ref y.2.1)))) ⟨same_new nD, by rw [upd_same]; rfl⟩ (fun i H' _ h => SqT.ext (SqT.of hp.hn) h.1) ?_ ?_⟩
    · rintro i x H8 H' hi ⟨sg, hD2⟩ ⟨rfl, hx⟩
      obtain ⟨y, hy, rfl⟩ := zsAt hx
      have hq := hp.ext sg
      refine ⟨rfl, _, rfl, _, rfl, g, _, dx, _, _, rfl, hq.hg, T.c_Program, T.nD, pgf_nexts .., _, rfl, dN, _, rfl, dget_of hq.hN (val_row (f := fun y => V.ref y.2.1) hp.nd hy), _, Sum.inr y.2.2.z, rfl, hD2, ?_, same_app sg (Same.refl _) nD, ?_⟩
      · rw [List.length_map, List.length_take]
        rw [List.length_map, hlz] at hi
        exact Nat.lt_of_le_of_lt (Nat.min_le_left _ _) (Nat.lt_of_lt_of_le hi (Nat.le_trans hp.l6 (by decide)))
      · rw [upd_same, put_row (f := fun y => V.ref y.2.1) hp.nd hy]
    rintro H8 ⟨s78, hD2⟩
    rw [List.length_map, hlz, List.take_length] at hD2
    exact k H8 D s78 nD hD2
def lkV : Option Int → V
  | none => .non
  | some q => .int q
theorem find_row {xs : List PgE} (nd : (zsOf xs).Nodup) {i : Nat} {x : PgE} (h : xs[i]? = some x) : xs.find? (fun y => y.2.2.z == x.2.2.z) = some x := by
  induction xs generalizing i with
  | nil => cases h
  | cons a xs ih =>
    have nd' : a.2.2.z ∉ zsOf xs ∧ (zsOf xs).Nodup := List.nodup_cons.mp nd
    cases i with
    | zero =>
      cases h
      rw [List.find?_cons, beq_self_eq_true]
    | succ i =>
      have hm : x.2.2.z ∈ zsOf xs := List.mem_map_of_mem (List.mem_of_getElem? h)
      rw [List.find?_cons, show (a.2.2.z == x.2.2.z) = false from beq_eq_false_iff_ne.mpr fun e => nd'.1 (e ▸ hm)]
      exact ih nd'.2 h
theorem paired_imp {α β : Type} {R S : α → β → Prop} (h : ∀ a b, R a b → S a b) : ∀ {xs : List α} {ys : List β}, Paired R xs ys → Paired S xs ys
  | _, _, .nil => .nil
  | _, _, .cons r p => .cons (h _ _ r) (paired_imp h p)
theorem paired_snoc {α β : Type} {R : α → β → Prop} {a : α} {b : β} (r : R a b) : ∀ {xs : List α} {ys : List β}, Paired R xs ys → Paired R (xs ++ [a]) (ys ++ [b])
  | _, _, .nil => .cons r .nil
  | _, _, .cons q p => .cons q (paired_snoc r p)
theorem row_of {xs : List PgE} {z : Str} (h : z ∈ zsOf xs) : ∃ (i : Nat) (y : PgE), xs[i]? = some y ∧ y.2.2.z = z := by
  obtain ⟨y, hy, e⟩ := List.mem_map.mp h
  obtain ⟨i, hi⟩ := List.mem_iff_getElem?.mp hy
  exact ⟨i, y, hi, e⟩
theorem paired_at {α β : Type} {R : α → β → Prop} : ∀ {xs : List α} {ys : List β} {i : Nat} {x : α}, Paired R xs ys → xs[i]? = some x → ∃ y, ys[i]? = some y ∧ R x y
  | _, _, i, _, .nil, h => by cases h
  | _, _, 0, _, .cons r _, h => by cases h; exact ⟨_, rfl, r⟩
  | _, _, i + 1, _, .cons _ p, h => paired_at (i := i) p h
theorem paired_at2 {α β : Type} {R : α → β → Prop} : ∀ {xs : List α} {ys : List β} {i : Nat} {y : β}, Paired R xs ys → ys[i]? = some y → ∃ x, xs[i]? = some x ∧ R x y
  | _, _, i, _, .nil, h => by cases h
  | _, _, 0, _, .cons r _, h => by cases h; exact ⟨_, rfl, r⟩
  | _, _, i + 1, _, .cons _ p, h => paired_at2 (i := i) p h
theorem none_of {H H1 : Hp} {a : Addr} (s : Same H H1) (n : H1 a = none) : H a = none := by
  cases e : H a with
  | none => rfl
  | some o =>
    have := s _ _ e
    rw [n] at this
    cases this
end
end K37

set_option Elab.async false
set_option linter.all false
set_option pp.deepTerms.threshold 14
set_option pp.maxSteps 2500
set_option maxRecDepth 100000
set_option maxHeartbeats 2000000
namespace K37
open PySem PySem.Spec PyProof.Rows L2 Vf 
section
variable {P : Program} {w : World} {K : PySem.W.Frag} {mg : Str → Option Value} {base : Heap}
def DIG : Str := "0123456789"
structure TTxt (K : PySem.W.Frag) (mg : Str → Option Value) : Prop extends RTxt K mg where
  i_MOST_TEXT : ∃ t, mg "MOST_TEXT" = some (.int 1000 t)
  i_DIGITS : ∃ t, mg "DIGITS" = some (.str DIG t)
  g_write : mg "write" = some (.ref (He.ga K "write"))
  g_read : mg "read" = some (.ref (He.ga K "read"))
  g_lines_of : mg "lines_of" = some (.ref (He.ga K "lines_of"))
  g_check_end : mg "check_end" = some (.ref (He.ga K "check_end"))
  g_with_names : mg "with_names" = some (.ref (He.ga K "with_names"))
  g_program_with : mg "program_with" = some (.ref (He.ga K "program_with"))
  g_start_line : mg "start_line" = some (.ref (He.ga K "start_line"))
  g_place_line : mg "place_line" = some (.ref (He.ga K "place_line"))
  g_sampler_line : mg "sampler_line" = some (.ref (He.ga K "sampler_line"))
  g_digit_of : mg "digit_of" = some (.ref (He.ga K "digit_of"))
  g_start_told : mg "start_told" = some (.ref (He.ga K "start_told"))
  g_place_told : mg "place_told" = some (.ref (He.ga K "place_told"))
  g_sampler_told : mg "sampler_told" = some (.ref (He.ga K "sampler_told"))
  g_BadText : mg "BadText" = some (.ref (He.ga K "BadText"))
  x_BadText : ExI K "BadText" "line"
theorem sc_BadText_init : FnScope ["self", "line"] ["self", "line"] (defScope s_BadText_init) := ⟨rfl, rfl, rfl, by decide +kernel, rfl, by decide +kernel, by decide +kernel⟩
-- slots: 0 self, 1 line
theorem ok_BadText_init {fd : FuncData} (F : FnD K ("BadText", some "__init__") "__init__" "BadText.__init__" s_BadText_init fd) : OkD P w K mg base CX0 1 ("BadText", some "__init__") ["self", "line"] [] (spExI K (He.ga K "BadText") "line") := by
  refine okd F (F.ok sc_BadText_init (fun vs H Q E h => ?_) fun cdv A outer s H vs Q E hr h => ⟨tOst K "line" (tVar 0) (tVar 1), PSs.nox ?_, run_exI h⟩) fun _ _ _ _ _ _ us hl => match us, hl with | [_, _], _ => rfl
  · obtain ⟨a, v, rfl, _⟩ := h
    rfl
  · exact pss_one (ps_ost (pv 0) (pv 1))
/-! ### splitting what was joined -/
def jnC (c : Nat) : List (List Nat) → List Nat
  | [] => []
  | [x] => x
  | x :: y :: r => x ++ c :: jnC c (y :: r)
theorem jnC_of (c : Nat) : ∀ ls : List Str, (Str.join ⟨#[c]⟩ ls).cps.toList = jnC c (ls.map fun s => s.cps.toList)
  | [] => rfl
  | [x] => rfl
  | x :: y :: r => by
    show (x ++ (⟨#[c]⟩ : Str) ++ Str.join ⟨#[c]⟩ (y :: r)).cps.toList = _
    rw [Str.cps_append, Str.cps_append, Array.toList_append, Array.toList_append, jnC_of c (y :: r), List.append_assoc]
    rfl
theorem app_uniq {c : Nat} : ∀ {x y u v : List Nat}, c ∉ x → c ∉ y → x ++ c :: u = y ++ c :: v → x = y ∧ u = v
  | [], [], _, _, _, _, e => ⟨rfl, (List.cons.inj e).2⟩
  | [], b :: y, _, _, _, hy, e => absurd (show c ∈ b :: y by rw [← (List.cons.inj e).1]; exact List.mem_cons_self) hy
  | a :: x, [], _, _, hx, _, e => absurd (show c ∈ a :: x by rw [(List.cons.inj e).1]; exact List.mem_cons_self) hx
  | a :: x, b :: y, _, _, hx, hy, e => by
    obtain ⟨e1, e2⟩ := List.cons.inj e
    obtain ⟨e3, e4⟩ := app_uniq (fun z => hx (List.mem_cons_of_mem _ z)) (fun z => hy (List.mem_cons_of_mem _ z)) e2
    exact ⟨by rw [e1, e3], e4⟩
theorem jnC_uniq {c : Nat} : ∀ {A B : List (List Nat)}, A ≠ [] → B ≠ [] → (∀ x ∈ A, c ∉ x) → (∀ x ∈ B, c ∉ x) → jnC c A = jnC c B → A = B
  | [], _, h, _, _, _, _ => absurd rfl h
  | _ :: _, [], _, h, _, _, _ => absurd rfl h
  | [x], [y], _, _, _, _, e => by rw [show x = y from e]
  | [x], y :: z :: r, _, _, ha, _, e => absurd (show c ∈ x by rw [show x = y ++ c :: jnC c (z :: r) from e]; simp) (ha x List.mem_cons_self)
  | x :: z :: r, [y], _, _, _, hb, e => absurd (show c ∈ y by rw [show y = x ++ c :: jnC c (z :: r) from e.symm]; simp) (hb y List.mem_cons_self)
  | x :: x2 :: r, y :: y2 :: q, _, _, ha, hb, e => by
    obtain ⟨e1, e2⟩ := app_uniq (ha x List.mem_cons_self) (hb y List.mem_cons_self) (show x ++ c :: jnC c (x2 :: r) = y ++ c :: jnC c (y2 :: q) from e)
    rw [e1, jnC_uniq (A := x2 :: r) (B := y2 :: q) (List.cons_ne_nil _ _) (List.cons_ne_nil _ _) (fun z hz => ha z (List.mem_cons_of_mem _ hz)) (fun z hz => hb z (List.mem_cons_of_mem _ hz)) e2]
theorem jnC_out {c d : Nat} (h : c ≠ d) : ∀ {A : List (List Nat)}, (∀ x ∈ A, c ∉ x) → c ∉ jnC d A
  | [], _ => fun z => nomatch z
  | [x], ha => ha x List.mem_cons_self
  | x :: y :: r, ha => by
    show c ∉ x ++ d :: jnC d (y :: r)
    rw [List.mem_append, List.mem_cons]
    rintro (z | z | z)
    · exact ha x List.mem_cons_self z
    · exact h z
    · exact jnC_out h (fun z hz => ha z (List.mem_cons_of_mem _ hz)) z
theorem str_inj {a b : Str} (e : a.cps.toList = b.cps.toList) : a = b := Str.ext' (Array.toList_inj.mp e)
theorem cps_inj : ∀ {xs ys : List Str}, xs.map (fun s => s.cps.toList) = ys.map (fun s => s.cps.toList) → xs = ys
  | [], [], _ => rfl
  | [], _ :: _, h => nomatch h
  | _ :: _, [], h => nomatch h
  | x :: xs, y :: ys, h => by
    obtain ⟨h1, h2⟩ := List.cons.inj h
    rw [str_inj h1, cps_inj h2]
theorem join_cps (c : Nat) (ls : List Str) : (Txt.join ⟨#[c]⟩ ls).cps.toList = jnC c (ls.map fun s => s.cps.toList) := by
  have e0 : Txt.join ⟨#[c]⟩ ls = Str.join ⟨#[c]⟩ ls := PySem.StrLaws.glued_eq_join _ _
  rw [e0, jnC_of]
theorem split_join (c : Nat) {ls : List Str} (h0 : ls ≠ []) (h : ∀ s ∈ ls, c ∉ s.cps.toList) : Txt.split (Txt.join ⟨#[c]⟩ ls) ⟨#[c]⟩ = ls := by
  have e2 := congrArg (fun s : Str => s.cps.toList) (PySem.StrLaws.join_split (Txt.join ⟨#[c]⟩ ls) ⟨#[c]⟩)
  rw [jnC_of, join_cps] at e2
  refine cps_inj (jnC_uniq ?_ (fun z => h0 (List.map_eq_nil_iff.mp z)) ?_ ?_ e2)
  · intro z
    have h1 := PyProof.Rows.split_pos (Txt.join ⟨#[c]⟩ ls) ⟨#[c]⟩
    rw [List.map_eq_nil_iff.mp z] at h1
    exact absurd h1 (by decide)
  · intro x hx
    obtain ⟨s, hs, rfl⟩ := List.mem_map.mp hx
    exact PySem.StrLaws.split_free _ c s hs
  · intro x hx
    obtain ⟨s, hs, rfl⟩ := List.mem_map.mp hx
    exact h s hs
theorem spc : (" " : Str) = ⟨#[32]⟩ := by decide +kernel
theorem nlc : ("\n" : Str) = ⟨#[10]⟩ := by decide +kernel
/-- the signs of a digit, of a letter -/
theorem dg_free : ∀ m : Fin 10, 32 ∉ (Str.ofString (toString (m.val : Int))).cps.toList ∧ 10 ∉ (Str.ofString (toString (m.val : Int))).cps.toList ∧ (Str.ofString (toString (m.val : Int))).length = 1 ∧ Txt.find DIG (Str.ofString (toString (m.val : Int))) = (m.val : Int) ∧ Str.ofString (toString (m.val : Int)) ≠ "-" := by decide +kernel
theorem dgI {n : Int} (h0 : 0 ≤ n) (h9 : n ≤ 9) : 32 ∉ (Str.ofString (toString n)).cps.toList ∧ 10 ∉ (Str.ofString (toString n)).cps.toList ∧ (Str.ofString (toString n)).length = 1 ∧ Txt.find DIG (Str.ofString (toString n)) = n ∧ Str.ofString (toString n) ≠ "-" := by
  obtain ⟨m, rfl⟩ : ∃ m : Nat, n = (m : Int) := ⟨n.toNat, by omega⟩
  exact dg_free ⟨m, by omega⟩
theorem nm_free {z : Str} (h : nmB z = true) : 32 ∉ z.cps.toList ∧ 10 ∉ z.cps.toList ∧ z.length ≤ 8 ∧ z ≠ "-" := by
  unfold nmB at h
  simp only [Bool.and_eq_true, decide_eq_true_eq] at h
  obtain ⟨h1, h2, h3, h4⟩ := h
  have hm : ∀ c ∈ z.cps.toList, c ∈ LET.cps.toList := fun c hc => of_decide_eq_true (List.all_eq_true.mp h4 c hc)
  refine ⟨fun h => absurd (hm _ h) (by decide +kernel), fun h => absurd (hm _ h) (by decide +kernel), h2, fun e => ?_⟩
  rw [e] at hm
  exact absurd (hm 45 (by decide +kernel)) (by decide +kernel)
theorem join_len (sep : Str) (ls : List Str) : (Txt.join sep ls).length ≤ (ls.map (·.length)).sum + ls.length * sep.length := by
  have e0 : Txt.join sep ls = Str.join sep ls := PySem.StrLaws.glued_eq_join _ _
  rw [e0]
  exact PySem.StrLaws.join_length_le sep ls
theorem sum_le {α : Type} {f : α → Nat} {k : Nat} : ∀ {xs : List α}, (∀ x ∈ xs, f x ≤ k) → (xs.map f).sum ≤ k * xs.length
  | [], _ => Nat.zero_le _
  | x :: xs, h => by
    have h1 := h x List.mem_cons_self
    have h2 := sum_le (xs := xs) fun y hy => h y (List.mem_cons_of_mem _ hy)
    rw [List.map_cons, List.sum_cons, List.length_cons, Nat.mul_succ]
    omega
theorem sc_digit_of : FnScope ["word"] ["word"] (defScope s_digit_of) := ⟨rfl, rfl, rfl, by decide +kernel, rfl, by decide +kernel, by decide +kernel⟩
-- slots: 0 word
def spDig : Sp := fun vs H Q _ => ∃ z : Str, vs = [.str z] ∧ z.length ≤ sizeLine ∧ ∀ n : Int, (z.length = 1 → n = Txt.find DIG z) → (z.length ≠ 1 → n = -1) → Q (.int n) H
theorem ok_digit_of {fd : FuncData} (F : FnD K ("digit_of", none) "digit_of" "digit_of" s_digit_of fd) (T : TTxt K mg) : OkF P w K mg base CX0 1 "digit_of" ["word"] spDig := by
  refine okd F (F.ok sc_digit_of (fun vs H Q E h => ?_) fun cdv A outer s H vs Q E hr h => ?_) fun _ _ _ _ _ _ us hl => match us, hl with | [_], _ => rfl
  · obtain ⟨z, rfl, _⟩ := h
    rfl
  · obtain ⟨z, rfl, hz, k⟩ := h
    refine ⟨_, PSs.nox (pss_one (ps_ret (pe_ifExpB (pt_cmpR op_eq (pe_callB call_len_str (by rfl) T.z_len (by decide +kernel) (pa_cons (pv 0) pa_nil)) pe_int (nomark _)) (pe_m1 PySem.F.slot_str_find PySem.F.type_str_find mt_find (c_gstr T.i_DIGITS) (pv 0)) (pe_un un_neg pe_int)))), ?_⟩
    refine ⟨_, rfl, z, rfl, hz, rfl, _, rfl, ?_⟩
    by_cases h1 : z.length = 1
    · refine ⟨.int (Txt.find DIG z), (· = H), fun _ => ?_, fun e => ?_, fun H2 e => ?_⟩
      · exact ⟨⟨_, rfl⟩, _, rfl, DIG, z, rfl, rfl, rfl, rfl⟩
      · rw [h1] at e
        cases e
      · exact e ▸ k _ (fun _ => rfl) (fun e => absurd h1 e)
    · refine ⟨.int (-1), (· = H), fun e => ?_, fun _ => ?_, fun H2 e => ?_⟩
      · exact absurd (V.int.inj (of_decide_eq_true e)) (by omega)
      · exact ⟨1, rfl, rfl, rfl⟩
      · exact e ▸ k _ (fun e => absurd e h1) (fun _ => rfl)
def ErT (K : PySem.W.Frag) (E : XK) (H : Hp) (n : Int) : Prop := ∀ H1 d, Same H H1 → H1 d = none → E (.ref (He.ga K "BadText")) (some d) (upd H1 d (.xd [("line", .int n)]))
theorem ErT.up {K : PySem.W.Frag} {E : XK} {H H' : Hp} {n : Int} (h : ErT K E H n) (s : Same H H') : ErT K E H' n := fun H1 d s1 nd => h H1 d (s.trans s1) nd
theorem sc_lines_of : FnScope ["text", "most"] ["text", "most"] (defScope s_lines_of) := ⟨rfl, rfl, rfl, by decide +kernel, rfl, by decide +kernel, by decide +kernel⟩
-- slots: 0 text, 1 most
def spLno (K : PySem.W.Frag) : Sp := fun vs H Q E => ∃ (x : V) (most : Int), vs = [x, .int most] ∧
  ((∃ z : Str, x = .str z ∧ z.length + 2 ≤ sizeLine ∧ (((z.length : Int) ≤ most ∧ ∀ H' p, Same H H' → H p = none → H' p = some (.lst ((Txt.split z "\n").map V.str)) → Q (.ref p) H') ∨ (most < (z.length : Int) ∧ ErT K E H 0))) ∨ (OddS H x ∧ ErT K E H 0))
theorem ok_lines_of {fd : FuncData} (F : FnD K ("lines_of", none) "lines_of" "lines_of" s_lines_of fd) (T : TTxt K mg) (O_BadText_init : OkD P w K mg base CX0 1 ("BadText", some "__init__") ["self", "line"] [] (spExI K (He.ga K "BadText") "line")) : OkF P w K mg base (L2.CX P w) 3 "lines_of" ["text", "most"] (spLno K) := by
  refine okd F (F.ok sc_lines_of (fun vs H Q E h => ?_) fun cdv A outer s H vs Q E hr h => ?_) fun _ _ _ _ _ _ us hl => match us, hl with | [_, _], _ => rfl
  · obtain ⟨x, most, rfl, _⟩ := h
    rfl
  · obtain ⟨x, most, rfl, h⟩ := h
    refine ⟨_, (pss_cons (ps_if (PW.pt (pw_orB (pt_not (pt_val (pe_callB (id := "isinstance") call_isi (by rfl) T.z_isinstance (by decide +kernel) (pa_cons (pv 0) (pa_cons (pe_ty (n := "str") T.z_str (by decide +kernel)) pa_nil))))) (pw_or1 (pt_cmpR op_gt (pe_callB call_len_str (by rfl) T.z_len (by decide +kernel) (pa_cons (pv 0) pa_nil)) (pv 1) (nomark _))))) (pss_one (c_raise T.x_BadText O_BadText_init hr (by decide) T.g_BadText (takes_of rfl rfl rfl rfl) (pa_cons pe_int pa_nil)))
  pss_nil)
  (pss_one (ps_ret (pe_m1 PySem.F.slot_str_split PySem.F.type_str_split mt_split (pv 0) pe_str)))), ?_⟩
    rcases h with ⟨z, rfl, hz, h⟩ | ⟨o, k⟩
    · refine ⟨_, rfl, .str z, .ty "str", .type "str", .type "str", true, rfl, .ty _, .base (.str _), kit_ty (by decide +kernel), true, rfl, decide (most < (z.length : Int)), (· = H), fun _ => ⟨_, rfl, z, rfl, by omega, _, rfl, _, _, rfl, rfl, _, rfl, rfl, rfl⟩, (fun c => Bool.noConfusion c), fun H1 e => ?_⟩
      subst e
      rcases h with ⟨hm, k⟩ | ⟨hm, k⟩
      · rw [decide_eq_false (by omega)]
        exact iteF ⟨_, rfl, ⟨_, rfl⟩, z, "\n", rfl, rfl, by decide, hz, fun p np => k _ p (same_new np) np upd_same⟩
      · rw [decide_eq_true hm]
        exact iteT ⟨_, rfl, fun d nd => k _ d (Same.refl _) nd⟩
    · obtain ⟨n, t1, k1⟩ := oddS_ty K o
      refine ⟨_, rfl, x, .ty "str", .type n, .type "str", false, rfl, .ty _, t1, kit_ty k1, false, rfl, false, (· = H), (fun c => Bool.noConfusion c), fun _ => rfl, fun H1 e => ?_⟩
      subst e
      exact iteT ⟨_, rfl, fun d nd => k _ d (Same.refl _) nd⟩
theorem sc_check_end : FnScope ["lines", "number"] ["lines", "number"] (defScope s_check_end) := ⟨rfl, rfl, rfl, by decide +kernel, rfl, by decide +kernel, by decide +kernel⟩
-- slots: 0 lines, 1 number
def spCke (K : PySem.W.Frag) : Sp := fun vs H Q E => ∃ (a : Addr) (xs : List V) (n : Int), vs = [.ref a, .int n] ∧ H a = some (.lst xs) ∧ ((xs.length : Int) ≤ n → Q .non H) ∧ (n < (xs.length : Int) → ErT K E H (n + 1))
theorem ok_check_end {fd : FuncData} (F : FnD K ("check_end", none) "check_end" "check_end" s_check_end fd) (T : TTxt K mg) (O_BadText_init : OkD P w K mg base CX0 1 ("BadText", some "__init__") ["self", "line"] [] (spExI K (He.ga K "BadText") "line")) : OkF P w K mg base (L2.CX P w) 3 "check_end" ["lines", "number"] (spCke K) := by
  refine okd F (F.ok sc_check_end (fun vs H Q E h => ?_) fun cdv A outer s H vs Q E hr h => ?_) fun _ _ _ _ _ _ us hl => match us, hl with | [_, _], _ => rfl
  · obtain ⟨a, xs, n, rfl, _⟩ := h
    rfl
  · obtain ⟨a, xs, n, rfl, ha, k1, k2⟩ := h
    refine ⟨_, (pss_one (ps_if (pt_cmpR op_lt (pv 1) (pe_callB (id := "len") call_len_seq (by rfl) T.z_len (by decide +kernel) (pa_cons (pv 0) pa_nil)) (nomark _)) (pss_one (c_raise T.x_BadText O_BadText_init hr (by decide) T.g_BadText (takes_of rfl rfl rfl rfl) (pa_cons (pe_op op_add (pv 1) pe_int) pa_nil)))
  pss_nil)), ?_⟩
    refine ⟨_, rfl, _, rfl, a, xs, rfl, .inl (SqL.of ha), _, _, rfl, rfl, _, rfl, ?_⟩
    by_cases hn : n < (xs.length : Int)
    · rw [decide_eq_true hn]
      exact iteT ⟨_, rfl, _, _, rfl, rfl, _, rfl, fun d nd => k2 hn _ d (Same.refl _) nd⟩
    · rw [decide_eq_false hn]
      exact iteF (k1 (by omega))
/-! ### the lines of a program's text -/
def dgS (n : Int) : Str := Str.ofString (toString n)
def kdS (b : Bool) : Str := if b then "open" else "closed"
def nsW : List Str → List Str
  | [] => ["end"]
  | z :: zs => "to" :: z :: zs
def plW (r : Rw) : List Str := [("" : Str), "", r.z, kdS r.b, dgS r.l, dgS r.m] ++ nsW r.ns
def plL (r : Rw) : Str := Txt.join " " (plW r)
def phS : V → Str
  | .int n => dgS n
  | _ => "any"
def smW (n i : Int) (f : V) : List Str := ["sampler", "period", dgS n, "jitter", dgS i, "phase", phS f]
def smL (n i : Int) (f : V) : Str := Txt.join " " (smW n i f)
def stL (z : Str) : Str := ("program start " : Str) ++ z
def pgT (z : Str) (rs : List Rw) (n i : Int) (f : V) : Str := Txt.join "\n" (stL z :: (rs.map plL ++ [smL n i f]))
/-- a row that a text tells -/
def RwOk (r : Rw) : Prop := nmB r.z = true ∧ 1 ≤ r.l ∧ r.l ≤ r.m ∧ r.m ≤ 6 ∧ (∀ v ∈ r.ns, nmB v = true) ∧ r.ns.Nodup ∧ r.ns.length ≤ 1000
theorem jnC_app {c : Nat} {B : List (List Nat)} (hB : B ≠ []) : ∀ {A : List (List Nat)}, A ≠ [] → jnC c (A ++ B) = jnC c A ++ c :: jnC c B
  | [], h => absurd rfl h
  | [x], _ => by
    cases B with
    | nil => exact absurd rfl hB
    | cons b r => rfl
  | x :: y :: r, _ => by
    show x ++ c :: jnC c (y :: r ++ B) = (x ++ c :: jnC c (y :: r)) ++ c :: jnC c B
    rw [jnC_app hB (List.cons_ne_nil _ _), List.append_assoc]
    rfl
theorem nsW_ne (ns : List Str) : nsW ns ≠ [] := by cases ns <;> exact List.cons_ne_nil _ _
theorem str_e : ("" : Str).cps.toList = [] := by decide +kernel
theorem str_s : (" " : Str).cps.toList = [32] := by decide +kernel
theorem str_ss : ("  " : Str).cps.toList = [32, 32] := by decide +kernel
theorem plL_eq (r : Rw) : plL r = ("  " : Str) ++ r.z ++ " " ++ kdS r.b ++ " " ++ dgS r.l ++ " " ++ dgS r.m ++ " " ++ Txt.join " " (nsW r.ns) := by
  apply str_inj
  unfold plL plW
  rw [spc, join_cps, List.map_append, jnC_app (by simpa using nsW_ne r.ns) (by simp), ← spc]
  simp only [Str.cps_append, Array.toList_append, str_s, str_ss]
  rw [spc, join_cps]
  simp [jnC, str_e]
theorem to_join {z : Str} {zs : List Str} : Txt.join " " (nsW (z :: zs)) = ("to " : Str) ++ Txt.join " " (z :: zs) := by
  apply str_inj
  rw [Str.cps_append, Array.toList_append, spc, join_cps, join_cps]
  have e : ("to " : Str).cps.toList = ("to" : Str).cps.toList ++ [32] := by decide +kernel
  rw [e]
  simp [nsW, jnC]
theorem smL_eq (n i : Int) (f : V) : smL n i f = ("sampler period " : Str) ++ dgS n ++ " jitter " ++ dgS i ++ " phase " ++ phS f := by
  apply str_inj
  unfold smL smW
  rw [spc, join_cps]
  simp only [Str.cps_append, Array.toList_append]
  have e1 : ("sampler period " : Str).cps.toList = ("sampler" : Str).cps.toList ++ 32 :: (("period" : Str).cps.toList ++ [32]) := by decide +kernel
  have e2 : (" jitter " : Str).cps.toList = 32 :: (("jitter" : Str).cps.toList ++ [32]) := by decide +kernel
  have e3 : (" phase " : Str).cps.toList = 32 :: (("phase" : Str).cps.toList ++ [32]) := by decide +kernel
  rw [e1, e2, e3]
  simp [jnC]
theorem stL_eq (z : Str) : stL z = Txt.join " " ["program", "start", z] := by
  apply str_inj
  unfold stL
  rw [spc, join_cps]
  simp only [Str.cps_append, Array.toList_append]
  have e1 : ("program start " : Str).cps.toList = ("program" : Str).cps.toList ++ 32 :: (("start" : Str).cps.toList ++ [32]) := by decide +kernel
  rw [e1]
  simp [jnC]
theorem kd_free (b : Bool) : 32 ∉ (kdS b).cps.toList ∧ 10 ∉ (kdS b).cps.toList ∧ (kdS b).length ≤ 6 := by cases b <;> decide +kernel
/-- no space, no new line, short -/
def okW1 (w : Str) : Prop := 32 ∉ w.cps.toList ∧ 10 ∉ w.cps.toList ∧ w.length ≤ 8
theorem okW1_nm {z : Str} (h : nmB z = true) : okW1 z := ⟨(nm_free h).1, (nm_free h).2.1, (nm_free h).2.2.1⟩
theorem okW1_dg {n : Int} (h0 : 0 ≤ n) (h9 : n ≤ 9) : okW1 (dgS n) := ⟨(dgI h0 h9).1, (dgI h0 h9).2.1, by show (Str.ofString (toString n)).length ≤ 8; rw [(dgI h0 h9).2.2.1]; decide⟩
theorem okW1_c {w : Str} (h : decide (32 ∉ w.cps.toList ∧ 10 ∉ w.cps.toList ∧ w.length ≤ 8) = true) : okW1 w := (of_decide_eq_true h : 32 ∉ w.cps.toList ∧ 10 ∉ w.cps.toList ∧ w.length ≤ 8)
theorem plW_ok {r : Rw} (h : RwOk r) : ∀ w ∈ plW r, okW1 w := by
  obtain ⟨h1, h2, h3, h4, h5, _⟩ := h
  intro w hw
  rcases List.mem_append.mp hw with hw | hw
  · have hw : w = "" ∨ w = "" ∨ w = r.z ∨ w = kdS r.b ∨ w = dgS r.l ∨ w = dgS r.m := by simpa using hw
    rcases hw with rfl | rfl | rfl | rfl | rfl | rfl
    · exact okW1_c (by decide +kernel)
    · exact okW1_c (by decide +kernel)
    · exact okW1_nm h1
    · exact ⟨(kd_free _).1, (kd_free _).2.1, Nat.le_trans (kd_free _).2.2 (by decide)⟩
    · exact okW1_dg (by omega) (by omega)
    · exact okW1_dg (by omega) (by omega)
  · cases hn : r.ns with
    | nil =>
      rw [hn] at hw
      have hw : w = "end" := by simpa [nsW] using hw
      rw [hw]
      exact okW1_c (by decide +kernel)
    | cons z zs =>
      rw [hn] at hw h5
      rcases List.mem_cons.mp hw with rfl | hw
      · exact okW1_c (by decide +kernel)
      · exact okW1_nm (h5 w hw)
theorem phS_ok {f : V} {n : Int} (h : PhOk f n) (hn : n ≤ 8) : okW1 (phS f) := by
  rcases h with rfl | ⟨q, rfl, h0, h1⟩
  · exact okW1_c (by decide +kernel)
  · exact okW1_dg h0 (by omega)
theorem smW_ok {n i : Int} {f : V} (h1 : 1 ≤ n) (h2 : n ≤ 8) (h3 : 0 ≤ i) (h4 : i ≤ n - 1) (h5 : PhOk f n) : ∀ w ∈ smW n i f, okW1 w := by
  intro w hw
  have hw : w = "sampler" ∨ w = "period" ∨ w = dgS n ∨ w = "jitter" ∨ w = dgS i ∨ w = "phase" ∨ w = phS f := by simpa [smW] using hw
  rcases hw with rfl | rfl | rfl | rfl | rfl | rfl | rfl
  · exact okW1_c (by decide +kernel)
  · exact okW1_c (by decide +kernel)
  · exact okW1_dg (by omega) (by omega)
  · exact okW1_c (by decide +kernel)
  · exact okW1_dg (by omega) (by omega)
  · exact okW1_c (by decide +kernel)
  · exact phS_ok h5 h2
theorem okW_split {ws : List Str} (h0 : ws ≠ []) (h : ∀ w ∈ ws, okW1 w) : Txt.split (Txt.join " " ws) " " = ws := by
  rw [spc]
  exact split_join 32 h0 fun w hw => (h w hw).1
theorem okW_out {ws : List Str} (h : ∀ w ∈ ws, okW1 w) : 10 ∉ (Txt.join " " ws).cps.toList := by
  rw [spc, join_cps]
  refine jnC_out (by decide) fun x hx => ?_
  obtain ⟨w, hw, rfl⟩ := List.mem_map.mp hx
  exact (h w hw).2.1
theorem okW_len {ws : List Str} (h : ∀ w ∈ ws, okW1 w) : (Txt.join " " ws).length ≤ 9 * ws.length := by
  have h1 := join_len " " ws
  have h2 := sum_le (f := fun w : Str => w.length) (k := 8) (xs := ws) fun w hw => (h w hw).2.2
  have e1 : (" " : Str).length = 1 := by decide +kernel
  rw [e1] at h1
  omega
theorem nsW_len (ns : List Str) : (nsW ns).length ≤ ns.length + 1 := by cases ns <;> simp [nsW]
theorem plL_lenG {r : Rw} (h : RwOk r) : (plL r).length ≤ 63 + 9 * r.ns.length := by
  have h1 := okW_len (plW_ok h)
  have h2 := nsW_len r.ns
  have e : (plW r).length = 6 + (nsW r.ns).length := by simp [plW]; omega
  unfold plL
  omega
theorem plL_len {r : Rw} (h : RwOk r) : (plL r).length ≤ 9063 := by
  have h1 := plL_lenG h
  have h3 := h.2.2.2.2.2.2
  omega
theorem smL_len {n i : Int} {f : V} (h1 : 1 ≤ n) (h2 : n ≤ 8) (h3 : 0 ≤ i) (h4 : i ≤ n - 1) (h5 : PhOk f n) : (smL n i f).length ≤ 63 := okW_len (smW_ok h1 h2 h3 h4 h5)
theorem stW_ok {z : Str} (h : nmB z = true) : ∀ w ∈ [("program" : Str), "start", z], okW1 w := by
  intro w hw
  have hw : w = "program" ∨ w = "start" ∨ w = z := by simpa using hw
  rcases hw with rfl | rfl | rfl
  · exact okW1_c (by decide +kernel)
  · exact okW1_c (by decide +kernel)
  · exact okW1_nm h
theorem pgT_split {z : Str} {rs : List Rw} {n i : Int} {f : V} (hz : nmB z = true) (hr : ∀ r ∈ rs, RwOk r) (h1 : 1 ≤ n) (h2 : n ≤ 8) (h3 : 0 ≤ i) (h4 : i ≤ n - 1) (h5 : PhOk f n) : Txt.split (pgT z rs n i f) "\n" = stL z :: (rs.map plL ++ [smL n i f]) := by
  unfold pgT
  rw [nlc]
  refine split_join 10 (List.cons_ne_nil _ _) fun w hw => ?_
  rcases List.mem_cons.mp hw with rfl | hw
  · rw [stL_eq]
    exact okW_out (stW_ok hz)
  · rcases List.mem_append.mp hw with hw | hw
    · obtain ⟨r, h, rfl⟩ := List.mem_map.mp hw
      exact okW_out (plW_ok (hr r h))
    · rw [List.mem_singleton.mp hw]
      exact okW_out (smW_ok h1 h2 h3 h4 h5)
theorem pgT_len {z : Str} {rs : List Rw} {n i : Int} {f : V} (hz : nmB z = true) (hr : ∀ r ∈ rs, RwOk r) (l6 : rs.length ≤ 6) (h1 : 1 ≤ n) (h2 : n ≤ 8) (h3 : 0 ≤ i) (h4 : i ≤ n - 1) (h5 : PhOk f n) :
    ((stL z :: (rs.map plL ++ [smL n i f])).map (·.length)).sum ≤ 54500 ∧ (pgT z rs n i f).length ≤ 54510 := by
  have a1 : (stL z).length ≤ 27 := by
    rw [stL_eq]
    exact okW_len (stW_ok hz)
  have a2 := smL_len h1 h2 h3 h4 h5
  have a3 := sum_le (f := fun r => (plL r).length) (k := 9063) (xs := rs) fun r h => plL_len (hr r h)
  have e : (rs.map ((fun x : Str => x.length) ∘ plL)).sum = (rs.map fun r => (plL r).length).sum := rfl
  have b1 : ((stL z :: (rs.map plL ++ [smL n i f])).map (·.length)).sum ≤ 54500 := by
    simp only [List.map_cons, List.map_append, List.map_map, List.map_nil, List.sum_cons, List.sum_append, List.sum_nil]
    omega
  refine ⟨b1, ?_⟩
  have b2 := join_len "\n" (stL z :: (rs.map plL ++ [smL n i f]))
  have e2 : ("\n" : Str).length = 1 := by decide +kernel
  rw [e2, List.length_cons, List.length_append, List.length_map, List.length_singleton] at b2
  unfold pgT
  omega
theorem pgT_len6 {z : Str} {rs : List Rw} {n i : Int} {f : V} (hz : nmB z = true) (hr : ∀ r ∈ rs, RwOk r) (l6 : rs.length ≤ 6) (n6 : ∀ r ∈ rs, r.ns.length ≤ 6) (h1 : 1 ≤ n) (h2 : n ≤ 8) (h3 : 0 ≤ i) (h4 : i ≤ n - 1) (h5 : PhOk f n) :
    ((stL z :: (rs.map plL ++ [smL n i f])).map (·.length)).sum ≤ 800 ∧ (pgT z rs n i f).length ≤ 1000 := by
  have a1 : (stL z).length ≤ 27 := by
    rw [stL_eq]
    exact okW_len (stW_ok hz)
  have a2 := smL_len h1 h2 h3 h4 h5
  have a3 := sum_le (f := fun r => (plL r).length) (k := 117) (xs := rs) fun r h => by have h1 := plL_lenG (hr r h); have h2 := n6 r h; omega
  have e : (rs.map ((fun x : Str => x.length) ∘ plL)).sum = (rs.map fun r => (plL r).length).sum := rfl
  have b1 : ((stL z :: (rs.map plL ++ [smL n i f])).map (·.length)).sum ≤ 800 := by
    simp only [List.map_cons, List.map_append, List.map_map, List.map_nil, List.sum_cons, List.sum_append, List.sum_nil]
    omega
  refine ⟨b1, ?_⟩
  have b2 := join_len "\n" (stL z :: (rs.map plL ++ [smL n i f]))
  have e2 : ("\n" : Str).length = 1 := by decide +kernel
  rw [e2, List.length_cons, List.length_append, List.length_map, List.length_singleton] at b2
  unfold pgT
  omega
end
end K37

set_option Elab.async false
set_option linter.all false
set_option pp.deepTerms.threshold 14
set_option pp.maxSteps 2500
set_option maxRecDepth 100000
set_option maxHeartbeats 2000000
namespace K37
open PySem PySem.Spec PyProof.Rows L2 Vf 
section
variable {P : Program} {w : World} {K : PySem.W.Frag} {mg : Str → Option Value} {base : Heap}
theorem sc_start_line : FnScope ["start"] ["start"] (defScope s_start_line) := ⟨rfl, rfl, rfl, by decide +kernel, rfl, by decide +kernel, by decide +kernel⟩
-- slots: 0 start
def spSln : Sp := fun vs H Q _ => ∃ z : Str, vs = [.str z] ∧ z.length ≤ 8 ∧ Q (.str (stL z)) H
theorem ok_start_line {fd : FuncData} (F : FnD K ("start_line", none) "start_line" "start_line" s_start_line fd) (T : TTxt K mg) : OkF P w K mg base CX0 1 "start_line" ["start"] spSln := by
  refine okd F (F.ok sc_start_line (fun vs H Q E h => ?_) fun cdv A outer s H vs Q E hr h => ?_) fun _ _ _ _ _ _ us hl => match us, hl with | [_], _ => rfl
  · obtain ⟨z, rfl, _⟩ := h
    rfl
  · obtain ⟨z, rfl, hz, k⟩ := h
    refine ⟨_, PSs.nox (pss_one (ps_ret (pe_joined (PJ.cons pe_str (PJ.cons (pe_fmt (pv 0)) PJ.nil))))), ?_⟩
    have e1 : ("program start " : Str).length = 14 := by decide +kernel
    have big : 100000 ≤ sizeLine := by decide
    refine ⟨_, rfl, ?_, _, rfl, .inl ⟨z, rfl, by omega, _, rfl, ?_, k⟩⟩
    · decide +kernel
    · rw [Str.length_append]
      exact Nat.le_trans (Nat.add_le_add_left hz _) (by decide +kernel)
theorem sc_place_line : FnScope ["place", "ways", "kind", "end"] ["place", "ways"] (defScope s_place_line) := ⟨rfl, rfl, rfl, by decide +kernel, rfl, by decide +kernel, by decide +kernel⟩
-- slots: 0 place, 1 ways, 2 kind, 3 end
def spPln (K : PySem.W.Frag) : Sp := fun vs H Q _ => ∃ (p t : Addr) (r : Rw), vs = [.ref p, .ref t] ∧ PlA (CP K) H p r.z r.l r.m r.b ∧ H t = some (.tup (r.ns.map V.str)) ∧ RwOk r ∧ ∀ H', Same H H' → Q (.str (plL r)) H'
theorem ok_place_line {fd : FuncData} (F : FnD K ("place_line", none) "place_line" "place_line" s_place_line fd) (T : TTxt K mg) : OkF P w K mg base CX0 1 "place_line" ["place", "ways"] (spPln K) := by
  refine okd F (F.ok sc_place_line (fun vs H Q E h => ?_) fun cdv A outer s H vs Q E hr h => ?_) fun _ _ _ _ _ _ us hl => match us, hl with | [_, _], _ => rfl
  · obtain ⟨p, t, r, rfl, _⟩ := h
    rfl
  · obtain ⟨p, t, r, rfl, ⟨dx, hp⟩, ht, hr, k⟩ := h
    refine ⟨_, PSs.nox (pss_cons (ps_set (i := 2) sc_place_line.nd rfl (Or.inl rfl) (pe_ifExpB (pt_val (pe_fld (pv 0) rfl)) pe_str pe_str))
  (pss_cons (ps_set (i := 3) sc_place_line.nd rfl (Or.inl rfl) (pe_ifExpB (pt_cmpR op_eq (pe_callB (id := "len") call_len_seq (by rfl) T.z_len (by decide +kernel) (pa_cons (pv 1) pa_nil)) pe_int (nomark _)) pe_str (pe_m1 PySem.F.slot_str_join PySem.F.type_str_join mt_join pe_str (pe_op op_cat (pe_lst (pa_cons pe_str pa_nil)) (pe_callTy call_list_of (by rfl) T.z_list (by decide +kernel) (pa_cons (pv 1) pa_nil))))))
  (pss_one (ps_ret (pe_joined (PJ.cons pe_str (PJ.cons (pe_fmt (pe_fld (pv 0) rfl)) (PJ.cons pe_str (PJ.cons (pe_fmt (pv 2)) (PJ.cons pe_str (PJ.cons (pe_fmt (pe_fld (pv 0) rfl)) (PJ.cons pe_str (PJ.cons (pe_fmt (pe_fld (pv 0) rfl)) (PJ.cons pe_str (PJ.cons (pe_fmt (pv 3)) PJ.nil))))))))))))))), ?_⟩
    have hz8 := (nm_free hr.1).2.2.1
    have big : 100000 ≤ sizeLine := by decide
    have hk := (kd_free r.b).2.2
    have hdl : (dgS r.l).length = 1 := (dgI (n := r.l) (by have := hr.2.1; omega) (by have := hr.2.2.1; have := hr.2.2.2.1; omega)).2.2.1
    have hdm : (dgS r.m).length = 1 := (dgI (n := r.m) (by have := hr.2.1; have := hr.2.2.1; omega) (by have := hr.2.2.2.1; omega)).2.2.1
    have e2 : ("  " : Str).length = 2 := by decide +kernel
    have e1 : (" " : Str).length = 1 := by decide +kernel
    have e0 : Str.empty.length = 0 := rfl
    have nv : ∀ w ∈ nsW r.ns, okW1 w := fun w hw => plW_ok hr w (List.mem_append_right _ hw)
    have hj := okW_len nv
    have hj2 := nsW_len r.ns
    have hn6 := hr.2.2.2.2.2.2
    rw [plL_eq] at k
    refine ⟨_, rfl, p, _, dx, _, _, rfl, hp, T.c_Place, T.nT, plf_let .., r.b, rfl, .str (kdS r.b), (· = H), fun e => ⟨by rw [e]; rfl, rfl⟩, fun e => ⟨by rw [e]; rfl, rfl⟩, fun H1 e1' => ?_⟩
    subst e1'
    refine ⟨_, rfl, t, _, rfl, .inr (SqT.of ht), rfl, _, rfl, .str (Txt.join " " (nsW r.ns)), fun H' => Same H1 H', fun e => ?_, fun e => ?_, fun H2 s2 => ?_⟩
    · have e := V.int.inj (of_decide_eq_true e)
      rw [List.length_map] at e
      have e : r.ns = [] := List.length_eq_zero_iff.mp (by omega)
      rw [e]
      exact ⟨rfl, Same.refl _⟩
    · have hne : nsW r.ns = ("to" : Str) :: r.ns := by
        cases hn : r.ns with
        | nil =>
          rw [hn] at e
          exact absurd rfl (of_decide_eq_false e)
        | cons z zs => rfl
      rw [hne] at hj hj2 ⊢
      refine ⟨⟨_, rfl⟩, (by show 1 ≤ sizeLine; decide), fun L nL => ?_⟩
      have s1 := same_new (o := .lst [.str "to"]) nL
      have hL := upd_same (H := H1) (a := L) (o := .lst [.str "to"])
      generalize upd H1 L (.lst [.str "to"]) = H2 at s1 hL ⊢
      refine ⟨_, rfl, t, _, rfl, .inr (SqT.of (s1 _ _ ht)), fun l nl => ?_⟩
      have s2 := same_new (o := .lst (r.ns.map V.str)) nl
      refine ⟨L, l, _, _, rfl, rfl, s2 _ _ hL, upd_same, ?_, fun J nJ => ⟨" ", J, ("to" : Str) :: r.ns, rfl, rfl, .inl (SqL.of upd_same), ?_, rfl, s1.trans (s2.trans (same_new nJ))⟩⟩
      · rw [List.length_map]
        exact Nat.le_trans (show 1 + r.ns.length ≤ 100000 by omega) big
      · have h1 := sum_le (f := fun w : Str => w.length) (k := 8) (xs := ("to" : Str) :: r.ns) fun w hw => (nv w (by rw [hne]; exact hw)).2.2
        rw [e1]
        rw [List.length_cons] at h1 ⊢
        omega
    · have hp2 := s2 _ _ hp
      generalize Txt.join " " (nsW r.ns) = en at k hj
      refine ⟨_, rfl, ?_, _, rfl, p, _, dx, _, _, rfl, hp2, T.c_Place, T.nN, plf_name .., .inl ⟨_, rfl, by omega, _, rfl, ?_, _, rfl, ?_, _, rfl, .inl ⟨_, rfl, by omega, _, rfl, ?_, _, rfl, ?_, _, rfl, p, _, dx, _, _, rfl, hp2, T.c_Place, T.nL, plf_least .., .inr ⟨_, rfl, ?_, _, rfl, ?_, _, rfl, ?_, _, rfl, p, _, dx, _, _, rfl, hp2, T.c_Place, T.nM, plf_most .., .inr ⟨_, rfl, ?_, _, rfl, ?_, _, rfl, ?_, _, rfl, .inl ⟨_, rfl, by omega, _, rfl, ?_, k _ s2⟩⟩⟩⟩⟩⟩
      all_goals
        first
        | exact Nat.lt_of_le_of_lt (Nat.log2_le_self _) (by have := hr.2.1; have := hr.2.2.1; have := hr.2.2.2.1; omega)
        | (simp only [Str.length_append, e0, e1, e2, show (Str.ofString (toString r.l)).length = 1 from hdl, show (Str.ofString (toString r.m)).length = 1 from hdm]; omega)
theorem sc_sampler_line : FnScope ["sampler", "phase"] ["sampler"] (defScope s_sampler_line) := ⟨rfl, rfl, rfl, by decide +kernel, rfl, by decide +kernel, by decide +kernel⟩
-- slots: 0 sampler, 1 phase
def spSml (K : PySem.W.Frag) : Sp := fun vs H Q _ => ∃ (p : Addr) (n i : Int) (f : V), vs = [.ref p] ∧ SaA (CS K) H p n i f ∧ 1 ≤ n ∧ n ≤ 8 ∧ 0 ≤ i ∧ i ≤ n - 1 ∧ PhOk f n ∧ Q (.str (smL n i f)) H
theorem ok_sampler_line {fd : FuncData} (F : FnD K ("sampler_line", none) "sampler_line" "sampler_line" s_sampler_line fd) (T : TTxt K mg) : OkF P w K mg base CX0 1 "sampler_line" ["sampler"] (spSml K) := by
  refine okd F (F.ok sc_sampler_line (fun vs H Q E h => ?_) fun cdv A outer s H vs Q E hr h => ?_) fun _ _ _ _ _ _ us hl => match us, hl with | [_], _ => rfl
  · obtain ⟨p, n, i, f, rfl, _⟩ := h
    rfl
  · obtain ⟨p, n, i, f, rfl, ⟨dx, hp⟩, n1, n8, i0, i1, hf, k⟩ := h
    refine ⟨_, PSs.nox (pss_cons (ps_set (i := 1) sc_sampler_line.nd rfl (Or.inl rfl) (pe_ifExpB (pt_cmpR op_isN (pe_fld (pv 0) rfl) pe_non (nomark _)) pe_str (pe_fld (pv 0) rfl)))
  (pss_one (ps_ret (pe_joined (PJ.cons pe_str (PJ.cons (pe_fmt (pe_fld (pv 0) rfl)) (PJ.cons pe_str (PJ.cons (pe_fmt (pe_fld (pv 0) rfl)) (PJ.cons pe_str (PJ.cons (pe_fmt (pv 1)) PJ.nil)))))))))), ?_⟩
    have e1 : ("sampler period " : Str).length = 15 := by decide +kernel
    have e2 : (" jitter " : Str).length = 8 := by decide +kernel
    have e3 : (" phase " : Str).length = 7 := by decide +kernel
    have e0 : Str.empty.length = 0 := rfl
    have big : 100000 ≤ sizeLine := by decide
    have hdn : (Str.ofString (toString n)).length = 1 := (dgI (n := n) (by omega) (by omega)).2.2.1
    have hdi : (Str.ofString (toString i)).length = 1 := (dgI (n := i) i0 (by omega)).2.2.1
    have hph := (phS_ok hf n8).2.2
    rw [smL_eq] at k
    obtain ⟨v, hv, hfv⟩ : ∃ v : V, v = (if f = .non then .str "any" else f) ∧ ((v = .str (phS f)) ∨ (∃ q : Int, v = .int q ∧ 0 ≤ q ∧ q ≤ 9 ∧ phS f = Str.ofString (toString q))) := by
      rcases hf with rfl | ⟨q, rfl, q0, q1⟩
      · exact ⟨_, rfl, .inl rfl⟩
      · exact ⟨_, rfl, .inr ⟨q, rfl, q0, by omega, rfl⟩⟩
    refine ⟨_, rfl, p, _, dx, _, _, rfl, hp, T.c_Sampler, T.sF, saf_phase .., rfl, _, rfl, v, (· = H), fun e => ?_, fun e => ?_, fun H2 e => ?_⟩
    · exact ⟨by rw [hv, if_pos (of_decide_eq_true e)], rfl⟩
    · exact ⟨_, rfl, p, _, dx, _, _, rfl, hp, T.c_Sampler, T.sF, saf_phase .., by rw [hv, if_neg (of_decide_eq_false e)], rfl⟩
    subst e
    refine ⟨_, rfl, ?_, _, rfl, p, _, dx, _, _, rfl, hp, T.c_Sampler, T.sP, saf_period .., .inr ⟨_, rfl, ?_, _, rfl, ?_, _, rfl, ?_, _, rfl, p, _, dx, _, _, rfl, hp, T.c_Sampler, T.sJ, saf_jitter .., .inr ⟨_, rfl, ?_, _, rfl, ?_, _, rfl, ?_, _, rfl, ?_⟩⟩⟩
    rotate_right
    · rcases hfv with h | ⟨q, h, q0, q9, eq⟩
      · refine .inl ⟨_, h, by omega, _, rfl, ?_, k⟩
        simp only [Str.length_append, e0, e1, e2, e3, hdn, hdi]
        omega
      · rw [eq] at k
        refine .inr ⟨q, h, Nat.lt_of_le_of_lt (Nat.log2_le_self _) (by omega), _, rfl, ?_, k⟩
        simp only [Str.length_append, e0, e1, e2, e3, hdn, hdi, (dgI q0 q9).2.2.1]
        omega
    all_goals
      first
      | exact Nat.lt_of_le_of_lt (Nat.log2_le_self _) (by omega)
      | (simp only [Str.length_append, e0, e1, e2, e3, hdn, hdi]; omega)
end
end K37

set_option Elab.async false
set_option linter.all false
set_option pp.deepTerms.threshold 14
set_option pp.maxSteps 2500
set_option maxRecDepth 100000
set_option maxHeartbeats 2000000
namespace K37
open PySem PySem.Spec PyProof.Rows L2 Vf 
section
variable {P : Program} {w : World} {K : PySem.W.Frag} {mg : Str → Option Value} {base : Heap}
theorem cutV_frI {xs : List V} {r : Int} (h0 : 0 ≤ r) (h : r.toNat ≤ xs.length) : cutV xs (some r) none = xs.drop r.toNat := by
  obtain ⟨i, rfl⟩ : ∃ i : Nat, r = (i : Int) := ⟨r.toNat, by omega⟩
  unfold cutV
  have e1 : HT.sIx xs.length 0 (some (i : Int)) = i := by
    rw [HT.sIx_nat]
    omega
  have e2 : HT.sIx xs.length xs.length none = xs.length := rfl
  rw [e1, e2]
  exact List.take_of_length_le (by rw [List.length_drop]; exact Nat.le_refl _)
theorem cutV_frD {xs : List V} {r : Int} (h0 : 0 ≤ r) : cutV xs (some r) none = xs.drop r.toNat := by
  obtain ⟨i, rfl⟩ : ∃ i : Nat, r = (i : Int) := ⟨r.toNat, by omega⟩
  unfold cutV
  have e2 : HT.sIx xs.length xs.length none = xs.length := rfl
  rw [HT.sIx_nat, e2]
  by_cases h : i ≤ xs.length
  · rw [Nat.min_eq_left h]
    exact List.take_of_length_le (by rw [List.length_drop]; exact Nat.le_refl _)
  · rw [Nat.min_eq_right (by omega), List.drop_eq_nil_of_le (Nat.le_refl _), List.drop_eq_nil_of_le (show xs.length ≤ ((i : Int)).toNat by omega), List.take_nil]
theorem atI_last {α : Type} {ys : List α} {x : α} : atI (ys ++ [x]) (-1) = some x := by
  have e : ixN (ys ++ [x]).length (-1) = some ys.length := by
    unfold ixN
    rw [if_neg (by omega), if_pos (by rw [List.length_append, List.length_singleton]; omega)]
    congr 1
    rw [List.length_append, List.length_singleton]
    omega
  unfold atI
  rw [e]
  show (ys ++ [x])[ys.length]? = _
  rw [List.getElem?_append_right (Nat.le_refl _), Nat.sub_self]
  rfl
/-- the number that a word of one digit tells -/
def dgV (w : Str) : Int := if w.length = 1 then Txt.find DIG w else -1
theorem dgV_of {w : Str} {n : Int} (h1 : w.length = 1 → n = Txt.find DIG w) (h2 : w.length ≠ 1 → n = -1) : n = dgV w := by
  unfold dgV
  by_cases h : w.length = 1
  · rw [if_pos h, h1 h]
  · rw [if_neg h, h2 h]
theorem dgV_dg {n : Int} (h0 : 0 ≤ n) (h9 : n ≤ 9) : dgV (dgS n) = n := by
  obtain ⟨_, _, h3, h4, _⟩ := dgI h0 h9
  have h3' : (dgS n).length = 1 := h3
  unfold dgV
  rw [if_pos h3']
  exact h4
theorem stL_split {s : Str} (h : nmB s = true) : Txt.split (stL s) " " = [("program" : Str), "start", s] := by
  rw [stL_eq]
  exact okW_split (List.cons_ne_nil _ _) (stW_ok h)
theorem sc_start_told : FnScope ["line", "start"] ["line"] (defScope s_start_told) := ⟨rfl, rfl, rfl, by decide +kernel, rfl, by decide +kernel, by decide +kernel⟩
-- slots: 0 line, 1 start
def spSto : Sp := fun vs H Q _ => ∃ z : Str, vs = [.str z] ∧ z.length ≤ 1000 ∧ ((∃ s, z = stL s ∧ nmB s = true ∧ ∀ H', Same H H' → Q (.str s) H') ∨ ((∀ s, z = stL s → nmB s = false) ∧ ∀ H', Same H H' → Q .non H'))
theorem ok_start_told {fd : FuncData} (F : FnD K ("start_told", none) "start_told" "start_told" s_start_told fd) (T : TTxt K mg) (O_is_name : OkF P w K mg base CX0 1 "is_name" ["x"] spName) (O_start_line : OkF P w K mg base CX0 1 "start_line" ["start"] spSln) : OkF P w K mg base CX0 2 "start_told" ["line"] spSto := by
  refine okd F (F.ok sc_start_told (fun vs H Q E h => ?_) fun cdv A outer s H vs Q E hr h => ?_) fun _ _ _ _ _ _ us hl => match us, hl with | [_], _ => rfl
  · obtain ⟨z, rfl, _⟩ := h
    rfl
  · obtain ⟨z, rfl, hz, h⟩ := h
    refine ⟨_, PSs.nox (pss_cons (ps_set (i := 1) sc_start_told.nd rfl (Or.inl rfl) (pe_ix ix_list (pe_m1 PySem.F.slot_str_split PySem.F.type_str_split mt_split (pv 0) pe_str) (pe_un un_neg pe_int) (fun _ _ => rfl)))
  (pss_one (ps_ret (pe_ifExpB (PW.pt (pw_andB (pt_val (c_fn O_is_name hr (by decide) T.g_is_name pass0 (pa_cons (pv 1) pa_nil))) (pw_and1 (pt_cmpR op_eq (c_fn O_start_line hr (by decide) T.g_start_line pass0 (pa_cons (pv 1) pa_nil)) (pv 0) (nomark _))))) (pv 1) pe_non)))), ?_⟩
    have big : 100000 ≤ sizeLine := by decide
    refine ⟨_, rfl, ⟨_, rfl⟩, z, " ", rfl, rfl, by decide, by omega, fun p1 n1 => ?_⟩
    obtain ⟨ys, x, hsp⟩ : ∃ ys x, Txt.split z " " = ys ++ [x] := by
      have h := PyProof.Rows.split_pos z " "
      have hne : Txt.split z " " ≠ [] := fun e => by rw [e] at h; exact absurd h (by decide)
      exact ⟨_, _, (List.dropLast_concat_getLast hne).symm⟩
    have hx : x.length ≤ 1000 := by
      have := PyProof.Rows.part_short (x := z) (y := " ") (a := x) (by rw [hsp]; simp)
      omega
    rw [hsp, List.map_append]
    have sA := same_new (o := .lst (ys.map V.str ++ [x].map V.str)) n1
    have hA := upd_same (H := H) (a := p1) (o := .lst (ys.map V.str ++ [x].map V.str))
    generalize upd H p1 (.lst (ys.map V.str ++ [x].map V.str)) = HA at sA hA ⊢
    have hex : ∀ s, z = stL s → nmB s = true → x = s := fun s e hs => by
      rw [e, stL_split hs] at hsp
      have := congrArg List.getLast? hsp
      rw [List.getLast?_append] at this
      exact (Option.some.inj this).symm
    refine ⟨_, rfl, p1, _, -1, .str x, rfl, rfl, SqL.of hA, atI_last, ?_⟩
    refine ⟨_, rfl, _, rfl, .inl ⟨x, rfl, by omega, fun H6 s6 => ⟨_, rfl, ?_⟩⟩⟩
    by_cases hok : nmB x = true ∧ z = stL x
    · refine ⟨true, (· = H6), fun _ => ⟨_, rfl, x, rfl, (nm_free hok.1).2.2.1, _, rfl, rfl, _, rfl, decide_eq_true (by rw [hok.2]), rfl⟩, (fun e => absurd hok.1 (by rw [e]; decide)), fun H7 e => ?_⟩
      rw [hok.1]
      refine ⟨.str x, (· = H6), fun _ => ⟨_, rfl, rfl, e⟩, (fun z => nomatch z), fun H8 e => ?_⟩
      rcases h with ⟨s, e1, hs, k⟩ | ⟨hno, k⟩
      · rw [hex s e1 hs]
        exact e ▸ k _ (sA.trans s6)
      · exact absurd (hno _ hok.2) (by rw [hok.1]; decide)
    · have hk : ∀ H', Same H6 H' → Q .non H' := fun H' s7 => by
        rcases h with ⟨s, e1, hs, k⟩ | ⟨hno, k⟩
        · obtain rfl := hex s e1 hs
          exact absurd ⟨hs, e1⟩ hok
        · exact k _ (sA.trans (s6.trans s7))
      cases hn : nmB x with
      | false =>
        refine ⟨false, (· = H6), (fun c => Bool.noConfusion c), fun _ => rfl, fun H7 e => ?_⟩
        exact ⟨.non, (· = H7), (fun c => Bool.noConfusion c), fun _ => ⟨rfl, rfl⟩, fun H8 e2 => hk _ (e2 ▸ e ▸ Same.refl _)⟩
      | true =>
        refine ⟨false, (· = H6), fun _ => ⟨_, rfl, x, rfl, (nm_free hn).2.2.1, _, rfl, rfl, _, rfl, decide_eq_false (fun e => hok ⟨hn, (V.str.inj e).symm⟩), rfl⟩, (fun c => Bool.noConfusion c), fun H7 e => ?_⟩
        exact ⟨.non, (· = H7), (fun c => Bool.noConfusion c), fun _ => ⟨rfl, rfl⟩, fun H8 e2 => hk _ (e2 ▸ e ▸ Same.refl _)⟩
/-- z is the line of a sampler -/
def SmV (z : Str) (n i : Int) (f : V) : Prop := z = smL n i f ∧ 1 ≤ n ∧ n ≤ 8 ∧ 0 ≤ i ∧ i ≤ n - 1 ∧ PhOk f n
theorem smL_split {n i : Int} {f : V} (h1 : 1 ≤ n) (h2 : n ≤ 8) (h3 : 0 ≤ i) (h4 : i ≤ n - 1) (h5 : PhOk f n) : Txt.split (smL n i f) " " = smW n i f := okW_split (List.cons_ne_nil _ _) (smW_ok h1 h2 h3 h4 h5)
/-- the phase that a word tells -/
def phV (w : Str) : V := if w = "any" then .non else .int (dgV w)
theorem phV_ph {f : V} {n : Int} (h : PhOk f n) (h8 : n ≤ 8) : phV (phS f) = f := by
  rcases h with rfl | ⟨q, rfl, q0, q1⟩
  · unfold phV phS
    rw [if_pos rfl]
  · have e := dgV_dg (n := q) q0 (by omega)
    have hd := (dgI (n := q) q0 (by omega)).2.2.1
    unfold phV
    show (if dgS q = "any" then V.non else .int (dgV (dgS q))) = .int q
    rw [if_neg fun e2 => ?_, e]
    have : (dgS q).length = 1 := hd
    rw [e2] at this
    exact absurd this (by decide +kernel)
/-- seven words, and what they tell -/
theorem smV_of {z : Str} {a0 a1 a2 a3 a4 a5 a6 : Str} (hsp : Txt.split z " " = [a0, a1, a2, a3, a4, a5, a6]) {n i : Int} {f : V} (h : SmV z n i f) : dgV a2 = n ∧ dgV a4 = i ∧ phV a6 = f := by
  obtain ⟨rfl, h1, h2, h3, h4, h5⟩ := h
  rw [smL_split h1 h2 h3 h4 h5] at hsp
  unfold smW at hsp
  injection hsp with e0 hsp
  injection hsp with e1 hsp
  injection hsp with e2 hsp
  injection hsp with e3 hsp
  injection hsp with e4 hsp
  injection hsp with e5 hsp
  injection hsp with e6 hsp
  exact ⟨by rw [← e2]; exact dgV_dg (by omega) (by omega), by rw [← e4]; exact dgV_dg h3 (by omega), by rw [← e6]; exact phV_ph h5 h2⟩
theorem sc_sampler_told : FnScope ["line", "words", "phase", "sampler"] ["line"] (defScope s_sampler_told) := ⟨rfl, rfl, rfl, by decide +kernel, rfl, by decide +kernel, by decide +kernel⟩
-- slots: 0 line, 1 words, 2 phase, 3 sampler
def spSmt (K : PySem.W.Frag) : Sp := fun vs H Q _ => ∃ z : Str, vs = [.str z] ∧ z.length ≤ 1000 ∧ ((∃ (n i : Int) (f : V), SmV z n i f ∧ ∀ H' p, Same H H' → SaA (CS K) H' p n i f → Q (.ref p) H') ∨ ((∀ n i f, ¬ SmV z n i f) ∧ ∀ H', Same H H' → Q .non H'))
theorem ok_sampler_told {fd : FuncData} (F : FnD K ("sampler_told", none) "sampler_told" "sampler_told" s_sampler_told fd) (T : TTxt K mg) (XT : PySem.W.exmOne K (.ref (He.ga K "BadSampler")) (.ref (He.ga K "BadSampler")) = some true) (O_digit_of : OkF P w K mg base CX0 1 "digit_of" ["word"] spDig) (O_sampler_line : OkF P w K mg base CX0 1 "sampler_line" ["sampler"] (spSml K))
    (O_Sampler_init2k : OkK P w K mg base (L2.CX P w) 4 ("Sampler", some "__init__") ["self", "period", "jitter", "phase"] 3 ["phase"] (fun vs zs => vs ++ zs) (spSaI K)) : OkF P w K mg base CX0 6 "sampler_told" ["line"] (spSmt K) := by
  refine okd F (F.ok sc_sampler_told (fun vs H Q E h => ?_) fun cdv A outer s H vs Q E hr h => ?_) fun _ _ _ _ _ _ us hl => match us, hl with | [_], _ => rfl
  · obtain ⟨z, rfl, _⟩ := h
    rfl
  · obtain ⟨z, rfl, hz, h⟩ := h
    refine ⟨_, PSs.nox (pss_cons (ps_set (i := 1) sc_sampler_told.nd rfl (Or.inl rfl) (pe_m1 PySem.F.slot_str_split PySem.F.type_str_split mt_split (pv 0) pe_str))
  (pss_cons (ps_if (pt_cmpR op_ne (pe_callB (id := "len") call_len_seq (by rfl) T.z_len (by decide +kernel) (pa_cons (pv 1) pa_nil)) pe_int (nomark _)) (pss_one (ps_ret pe_non))
  pss_nil)
  (pss_cons (ps_set (i := 2) sc_sampler_told.nd rfl (Or.inl rfl) (pe_ifExpB (pt_cmpR op_eq (pe_ix (ix_listK (K := K) rfl) (pv 1) pe_int (fun _ _ => rfl)) pe_str (nomark _)) pe_non (c_fn O_digit_of hr (by decide) T.g_digit_of pass0 (pa_cons (pe_ix (ix_listK (K := K) rfl) (pv 1) pe_int (fun _ _ => rfl)) pa_nil))))
  (pss_cons (ps_try_only (Wout := fun _ _ _ _ => False) rfl rfl ⟨rfl, by decide, Or.inl T.g_BadSampler⟩ takes0 (fun W pn xe tk _ => (pss_one (ps_set (i := 3) sc_sampler_told.nd rfl (Or.inl rfl) (c_mkK T.m_Sampler O_Sampler_init2k hr (by decide) T.g_Sampler (passAny 4 tk) (pa_cons (c_fn O_digit_of hr (by decide) T.g_digit_of pass0 (pa_cons (pe_ix (ix_listK (K := K) rfl) (pv 1) pe_int (fun _ _ => rfl)) pa_nil)) (pa_cons (c_fn O_digit_of hr (by decide) T.g_digit_of pass0 (pa_cons (pe_ix (ix_listK (K := K) rfl) (pv 1) pe_int (fun _ _ => rfl)) pa_nil)) pa_nil)) (pk_cons (pv 2) pk_nil))))) (fun a oe cls d pn hz hf => (pss_one (ps_ret pe_non))))
  (pss_one (ps_ret (pe_ifExpB (pt_cmpR op_eq (c_fn O_sampler_line hr (by decide) T.g_sampler_line pass0 (pa_cons (pv 3) pa_nil)) (pv 0) (nomark _)) (pv 3) pe_non))))))), ?_⟩
    have big : 100000 ≤ sizeLine := by decide
    have hw8 : ∀ w ∈ Txt.split z " ", w.length ≤ sizeLine := fun w hw => by
      have := PyProof.Rows.part_short hw
      omega
    refine ⟨_, rfl, ⟨_, rfl⟩, z, " ", rfl, rfl, by decide, by omega, fun p1 n1 => ?_⟩
    have sA := same_new (o := .lst ((Txt.split z " ").map V.str)) n1
    have hA := upd_same (H := H) (a := p1) (o := .lst ((Txt.split z " ").map V.str))
    generalize upd H p1 (.lst ((Txt.split z " ").map V.str)) = HA at sA hA ⊢
    refine ⟨_, rfl, p1, _, rfl, .inl (SqL.of hA), rfl, _, rfl, ?_⟩
    rw [List.length_map]
    by_cases h7 : (Txt.split z " ").length = 7
    · obtain ⟨a0, a1, a2, a3, a4, a5, a6, hsp⟩ : ∃ a0 a1 a2 a3 a4 a5 a6, Txt.split z " " = [a0, a1, a2, a3, a4, a5, a6] := by
        match Txt.split z " ", h7 with
        | [a, b, c, d, e, f, g], _ => exact ⟨a, b, c, d, e, f, g, rfl⟩
      have hv := fun n i f => smV_of hsp (n := n) (i := i) (f := f)
      rw [hsp] at hA hw8 ⊢
      have hA : HA p1 = some (.lst [.str a0, .str a1, .str a2, .str a3, .str a4, .str a5, .str a6]) := hA
      refine iteF ?_
      refine ⟨_, rfl, p1, _, 6, .str a6, rfl, rfl, SqL.of hA, atI_nat (j := 6) rfl, rfl, _, rfl, phV a6, (· = HA), fun e => ?_, fun e => ?_, fun H2 e => ?_⟩
      · unfold phV
        rw [if_pos (V.str.inj (of_decide_eq_true e))]
        exact ⟨rfl, rfl⟩
      · refine ⟨_, rfl, p1, _, 6, .str a6, rfl, rfl, SqL.of hA, atI_nat (j := 6) rfl, _, rfl, hw8 _ (by simp), fun m g1 g2 => ⟨?_, rfl⟩⟩
        unfold phV
        rw [if_neg fun e2 => of_decide_eq_false e (by rw [e2]), dgV_of g1 g2]
      subst e
      refine ⟨_, rfl, p1, _, 2, .str a2, rfl, rfl, SqL.of hA, atI_nat (j := 2) rfl, _, rfl, hw8 _ (by simp), fun n2 g2 g2' => ⟨_, rfl, p1, _, 4, .str a4, rfl, rfl, SqL.of hA, atI_nat (j := 4) rfl, _, rfl, hw8 _ (by simp), fun n4 g4 g4' => ⟨_, rfl, rfl, rfl, fun p dx np ndx ne => ?_⟩⟩⟩
      have en2 : dgV a2 = n2 := (dgV_of g2 g2').symm
      have en4 : dgV a4 = n4 := (dgV_of g4 g4').symm
      generalize ef : phV a6 = f at hv
      rw [en2, en4] at hv
      have sM := same_make (o1 := .own p) (o2 := .ins (CS K) dx []) np ndx
      have hff : f = .non ∨ ∃ q : Int, f = .int q := by
        rw [← ef]
        unfold phV
        by_cases e : a6 = "any"
        · rw [if_pos e]
          exact .inl rfl
        · rw [if_neg e]
          exact .inr ⟨_, rfl⟩
      by_cases hok : 1 ≤ n2 ∧ n2 ≤ 8 ∧ 0 ≤ n4 ∧ n4 ≤ n2 - 1 ∧ PhOk f n2
      · obtain ⟨c1, c2, c3, c4, c5⟩ := hok
        refine ⟨p, dx, .int n2, .int n4, f, rfl, upd_same, .inr ⟨n2, n4, ⟨rfl, c1, c2, rfl, c3, c4, c5⟩, rfl, ?_⟩⟩
        have sM := same_make2 (o1 := .own p) (o2 := .ins (CS K) dx []) (o3 := .ins (CS K) dx (saf n2 n4 f)) np ndx
        have hSa : SaA (CS K) (upd (upd (upd H2 dx (.own p)) p (.ins (CS K) dx [])) p (.ins (CS K) dx (saf n2 n4 f))) p n2 n4 f := ⟨dx, upd_same⟩
        refine ⟨_, rfl, p, n2, n4, f, rfl, hSa, c1, c2, c3, c4, c5, _, rfl, rfl, _, rfl, ?_⟩
        by_cases hz2 : z = smL n2 n4 f
        · rw [decide_eq_true (by rw [← hz2])]
          refine ⟨.ref p, (· = _), fun _ => ⟨_, rfl, rfl, rfl⟩, (fun c => Bool.noConfusion c), fun H3 e => ?_⟩
          rcases h with ⟨n, i, g, hs, k⟩ | ⟨hno, k⟩
          · obtain ⟨rfl, rfl, rfl⟩ := hv n i g hs
            exact e ▸ k _ p (sA.trans sM) hSa
          · exact absurd ⟨hz2, c1, c2, c3, c4, c5⟩ (hno n2 n4 f)
        · rw [decide_eq_false fun e => hz2 (V.str.inj e).symm]
          refine ⟨.non, (· = _), (fun c => Bool.noConfusion c), fun _ => ⟨rfl, rfl⟩, fun H3 e => ?_⟩
          rcases h with ⟨n, i, g, hs, k⟩ | ⟨hno, k⟩
          · obtain ⟨rfl, rfl, rfl⟩ := hv n i g hs
            exact absurd hs.1 hz2
          · exact e ▸ k _ (sA.trans sM)
      · obtain ⟨w, hw⟩ : ∃ w, SaIn (upd (upd H2 dx (.own p)) p (.ins (CS K) dx [])) (.int n2) (.int n4) f w := by
          by_cases c1 : 1 ≤ n2 ∧ n2 ≤ 8
          · by_cases c2 : 0 ≤ n4 ∧ n4 ≤ n2 - 1
            · rcases hff with rfl | ⟨q, rfl⟩
              · exact absurd ⟨c1.1, c1.2, c2.1, c2.2, .inl rfl⟩ hok
              · exact ⟨_, .phase n2 n4 rfl c1.1 c1.2 rfl c2.1 c2.2 (fun z => nomatch z) (.inl ⟨q, rfl, fun hq => hok ⟨c1.1, c1.2, c2.1, c2.2, .inr ⟨q, rfl, hq.1, hq.2⟩⟩⟩)⟩
            · exact ⟨_, .jitter n2 rfl c1.1 c1.2 (.inl ⟨n4, rfl, c2⟩)⟩
          · exact ⟨_, .period (.inl ⟨n2, rfl, c1⟩)⟩
        refine ⟨p, dx, .int n2, .int n4, f, rfl, upd_same, .inl ⟨w, hw, fun d nd σ hσ => ⟨true, XT, fun _ a na => ?_, fun z => Bool.noConfusion z⟩⟩⟩
        rcases h with ⟨n, i, g, hs, k⟩ | ⟨hno, k⟩
        · obtain ⟨rfl, rfl, rfl⟩ := hv n i g hs
          exact absurd hs.2 hok
        · exact k _ (sA.trans (sM.trans (same_new nd)))
    · have hd : (!decide (V.int ((Txt.split z " ").length : Int) = .int 7)) = true := by
        rw [decide_eq_false (fun e => h7 (by have := V.int.inj e; omega))]
        rfl
      rw [hd]
      refine iteT ?_
      rcases h with ⟨n, i, g, hs, k⟩ | ⟨hno, k⟩
      · rw [hs.1, smL_split hs.2.1 hs.2.2.1 hs.2.2.2.1 hs.2.2.2.2.1 hs.2.2.2.2.2] at h7
        exact absurd rfl h7
      · exact k _ sA
end
end K37

set_option Elab.async false
set_option linter.all false
set_option pp.deepTerms.threshold 14
set_option pp.maxSteps 2500
set_option maxRecDepth 100000
set_option maxHeartbeats 2000000
namespace K37
open PySem PySem.Spec PyProof.Rows L2 Vf 
section
variable {P : Program} {w : World} {K : PySem.W.Frag} {mg : Str → Option Value} {base : Heap}
/-- z is the line of a place -/
def PlV (z : Str) (r : Rw) : Prop := z = plL r ∧ RwOk r
theorem plL_split {r : Rw} (h : RwOk r) : Txt.split (plL r) " " = plW r := okW_split (by simp [plW]) (plW_ok h)
theorem plW_7 (r : Rw) : ∃ a6 : Str, plW r = ("" : Str) :: "" :: r.z :: kdS r.b :: dgS r.l :: dgS r.m :: a6 :: r.ns ∧ (a6 = if r.ns = [] then ("end" : Str) else "to") := by
  obtain ⟨z, l, m, b, ns⟩ := r
  cases ns with
  | nil => exact ⟨"end", rfl, rfl⟩
  | cons v vs => exact ⟨"to", rfl, rfl⟩
theorem kdS_b (b : Bool) : decide (kdS b = "open") = b := by cases b <;> decide +kernel
/-- what seven and more words tell -/
def rwW (a2 a3 a4 a5 : Str) (ws : List Str) : Rw := ⟨a2, dgV a4, dgV a5, decide (a3 = "open"), ws⟩
theorem plV_of {z : Str} {a0 a1 a2 a3 a4 a5 a6 : Str} {ws : List Str} (hsp : Txt.split z " " = a0 :: a1 :: a2 :: a3 :: a4 :: a5 :: a6 :: ws) {r : Rw} (h : PlV z r) : rwW a2 a3 a4 a5 ws = r := by
  obtain ⟨rfl, hr⟩ := h
  rw [plL_split hr] at hsp
  obtain ⟨b6, e, _⟩ := plW_7 r
  rw [e] at hsp
  injection hsp with e0 hsp
  injection hsp with e1 hsp
  injection hsp with e2 hsp
  injection hsp with e3 hsp
  injection hsp with e4 hsp
  injection hsp with e5 hsp
  injection hsp with e6 hsp
  have h1 := hr.2.1
  have h2 := hr.2.2.1
  have h3 := hr.2.2.2.1
  unfold rwW
  rw [← e2, ← e3, ← e4, ← e5, ← hsp, kdS_b, dgV_dg (by omega) (by omega), dgV_dg (by omega) (by omega)]
theorem take_snoc {α β : Type} (f : α → β) {xs : List α} {j : Nat} {x : α} (h : xs[j]? = some x) : (xs.take (j + 1)).map f = (xs.take j).map f ++ [f x] := by
  rw [List.take_add_one, h, List.map_append]
  rfl
theorem sc_place_told : FnScope ["line", "words", "ways", "way", "place"] ["line"] (defScope s_place_told) := ⟨rfl, rfl, rfl, by decide +kernel, rfl, by decide +kernel, by decide +kernel⟩
-- slots: 0 line, 1 words, 2 ways, 3 way, 4 place
def spPlt (K : PySem.W.Frag) : Sp := fun vs H Q _ => ∃ z : Str, vs = [.str z] ∧ z.length ≤ 1000 ∧ ((∃ r, PlV z r ∧ ∀ H' t p q, Same H H' → H' t = some (.tup [.ref p, .ref q]) → PlA (CP K) H' p r.z r.l r.m r.b → H' q = some (.tup (r.ns.map V.str)) → Q (.ref t) H') ∨ ((∀ r, ¬ PlV z r) ∧ ∀ H', Same H H' → Q .non H'))
theorem ok_place_told {fd : FuncData} (F : FnD K ("place_told", none) "place_told" "place_told" s_place_told fd) (T : TTxt K mg) (XT : PySem.W.exmOne K (.ref (He.ga K "BadPlace")) (.ref (He.ga K "BadPlace")) = some true) (O_is_name : OkF P w K mg base CX0 1 "is_name" ["x"] spName) (O_has_twins : OkF P w K mg base CX0 1 "has_twins" ["items"] (spTw K)) (O_digit_of : OkF P w K mg base CX0 1 "digit_of" ["word"] spDig) (O_place_line : OkF P w K mg base CX0 1 "place_line" ["place", "ways"] (spPln K))
    (O_Place_init3k : OkK P w K mg base (L2.CX P w) 4 ("Place", some "__init__") ["self", "name", "least", "most", "let"] 4 ["let"] (fun vs zs => vs ++ zs) (spPlI K)) : OkF P w K mg base CX0 6 "place_told" ["line"] (spPlt K) := by
  refine okd F (F.ok sc_place_told (fun vs H Q E h => ?_) fun cdv A outer s H vs Q E hr h => ?_) fun _ _ _ _ _ _ us hl => match us, hl with | [_], _ => rfl
  · obtain ⟨z, rfl, _⟩ := h
    rfl
  · obtain ⟨z, rfl, hz, h⟩ := h
    refine ⟨_, PSs.nox (pss_cons (ps_set (i := 1) sc_place_told.nd rfl (Or.inl rfl) (pe_m1 PySem.F.slot_str_split PySem.F.type_str_split mt_split (pv 0) pe_str))
  (pss_cons (ps_set (i := 2) sc_place_told.nd rfl (Or.inl rfl) (pe_callTy call_tuple_of (by rfl) T.z_tuple (by decide +kernel) (pa_cons (pe_slice sl_list (pv 1) (po_some pe_int) po_none) pa_nil)))
  (pss_cons (ps_if (PW.pt (pw_orB (pt_cmpR op_lt (pe_callB (id := "len") call_len_seq (by rfl) T.z_len (by decide +kernel) (pa_cons (pv 1) pa_nil)) pe_int (nomark _)) (pw_orB (pt_not (pt_val (pe_callB (id := "all") (cr_all rfl) (by rfl) T.z_all (by decide +kernel) (pa_cons (pe_lc (own := [("way", 3)]) (g := gName 3) (tt := tYes) (by rfl) sc_place_told.nd (pi_tup (pv 2)) (blkOk_by (N := ["line", "words", "ways", "way", "place"]) (sc := defScope s_place_told) (by decide +kernel)) (fun _ _ _ _ _ => (pg_name (i := 3) sc_place_told.nd rfl (Or.inl rfl))) (fun _ _ _ _ _ => pts_nil) (fun _ _ _ _ _ => (c_fn O_is_name hr (by decide) T.g_is_name pass0 (pa_cons (pv 3) pa_nil)))) pa_nil)))) (pw_or1 (pt_val (c_fn O_has_twins hr (by decide) T.g_has_twins pass0 (pa_cons (pv 2) pa_nil))))))) (pss_one (ps_ret pe_non))
  pss_nil)
  (pss_cons (ps_try_only (Wout := fun _ _ _ _ => False) rfl rfl ⟨rfl, by decide, Or.inl T.g_BadPlace⟩ takes0 (fun W pn xe tk _ => (pss_one (ps_set (i := 4) sc_place_told.nd rfl (Or.inl rfl) (c_mkK T.m_Place O_Place_init3k hr (by decide) T.g_Place (passAny 5 tk) (pa_cons (pe_ix (ix_listK (K := K) rfl) (pv 1) pe_int (fun _ _ => rfl)) (pa_cons (c_fn O_digit_of hr (by decide) T.g_digit_of pass0 (pa_cons (pe_ix (ix_listK (K := K) rfl) (pv 1) pe_int (fun _ _ => rfl)) pa_nil)) (pa_cons (c_fn O_digit_of hr (by decide) T.g_digit_of pass0 (pa_cons (pe_ix (ix_listK (K := K) rfl) (pv 1) pe_int (fun _ _ => rfl)) pa_nil)) pa_nil))) (pk_cons (pe_cmpR op_eq (pe_ix (ix_listK (K := K) rfl) (pv 1) pe_int (fun _ _ => rfl)) pe_str (nomark _)) pk_nil))))) (fun a oe cls d pn hz hf => (pss_one (ps_ret pe_non))))
  (pss_one (ps_ret (pe_weak (pe_ifExp (pt_cmpR op_eq (c_fn O_place_line hr (by decide) T.g_place_line pass0 (pa_cons (pv 4) (pa_cons (pv 2) pa_nil))) (pv 0) (nomark _)) (pe_tup (pa_cons (pv 4) (pa_cons (pv 2) pa_nil))) pe_non)))))))), ?_⟩
    have big : 100000 ≤ sizeLine := by decide
    have hw8 : ∀ w ∈ Txt.split z " ", w.length ≤ 1000 := fun w hw => by
      have := PyProof.Rows.part_short hw
      omega
    have hwl : (Txt.split z " ").length ≤ 1002 := by
      have := PyProof.Rows.split_le z " "
      omega
    refine ⟨_, rfl, ⟨_, rfl⟩, z, " ", rfl, rfl, by decide, by omega, fun p1 n1 => ?_⟩
    have hsp0 : ∀ r, PlV z r → Txt.split z " " = plW r := fun r h => by rw [h.1]; exact plL_split h.2
    generalize hsp : Txt.split z " " = W at hw8 hwl hsp0 ⊢
    have sA := same_new (o := .lst (W.map V.str)) n1
    have hA := upd_same (H := H) (a := p1) (o := .lst (W.map V.str))
    generalize upd H p1 (.lst (W.map V.str)) = HA at sA hA ⊢
    refine ⟨_, rfl, 7, rfl, p1, _, rfl, SqL.of hA, fun p2 n2 => ?_⟩
    rw [cutV_frD (r := 7) (by decide)]
    have e7 : (W.map V.str).drop (7 : Int).toNat = (W.drop 7).map V.str := List.map_drop.symm
    rw [e7]
    generalize hns : W.drop 7 = ns
    have hnl : ns.length ≤ 995 := by
      rw [← hns, List.length_drop]
      omega
    have hn8 : ∀ w ∈ ns, w.length ≤ 1000 := fun w hw => hw8 w (List.mem_of_mem_drop (hns ▸ hw))
    have sB := same_new (o := .lst (ns.map V.str)) n2
    refine ⟨p2, _, rfl, .inl ⟨SqL.of upd_same, fun q nq => ?_⟩⟩
    have sC := sB.trans (same_new (o := .tup (ns.map V.str)) nq)
    have hq := upd_same (H := upd HA p2 (.lst (ns.map V.str))) (a := q) (o := .tup (ns.map V.str))
    have hC := sC _ _ hA
    replace sC := sA.trans sC
    generalize upd (upd HA p2 (.lst (ns.map V.str))) q (.tup (ns.map V.str)) = HC at sC hq hC ⊢
    have no : (∀ r, ¬ PlV z r) → ∀ H', Same H H' → Q .non H' := fun hno H' s => by
      rcases h with ⟨r, hr2, _⟩ | ⟨_, k⟩
      · exact absurd hr2 (hno r)
      · exact k _ s
    have bad : (W.length < 7 ∨ ns.all nmB = false ∨ ¬ ns.Nodup) → ∀ r, ¬ PlV z r := fun hb r hp => by
      have e := hsp0 r hp
      obtain ⟨a6, e2, _⟩ := plW_7 r
      rw [e2] at e
      rw [e] at hb hns
      have en : ns = r.ns := hns.symm
      rcases hb with hb | hb | hb
      · simp at hb
        omega
      · rw [en] at hb
        rw [List.all_eq_true.mpr hp.2.2.2.2.2.1] at hb
        cases hb
      · exact hb (en ▸ hp.2.2.2.2.2.2.1)
    refine ⟨_, rfl, p1, _, rfl, .inl (SqL.of hC), _, _, rfl, rfl, _, rfl, ?_⟩
    rw [List.length_map]
    by_cases h7 : W.length < 7
    · rw [show decide ((W.length : Int) < 7) = true from decide_eq_true (by omega)]
      refine ⟨true, (· = HC), (fun c => Bool.noConfusion c), fun _ => rfl, fun H6 e => ?_⟩
      subst e
      exact iteT (no (bad (.inl h7)) _ sC)
    rw [show decide ((W.length : Int) < 7) = false from decide_eq_false (by omega)]
    refine ⟨!(ns.all nmB) || !decide ns.Nodup, fun H' => Same HC H', fun _ => ?_, (fun c => Bool.noConfusion c), fun H6 s6 => ?_⟩
    · refine ⟨_, rfl, q, rfl, ⟨_, SqT.of hq⟩, fun D nD => lc_it walk_tup (fun j H' => Same HC H' ∧ H' D = some (.lst (((ns.take j).map nmB).map V.bl))) ⟨same_new nD, upd_same⟩ (fun j H' _ h => SqT.of (h.1 _ _ hq)) ?_ ?_⟩
      · rintro j x H6 H' hj ⟨sg, hD⟩ ⟨rfl, hx⟩
        rw [List.length_map] at hj
        have hoj : ns[j]? = some ns[j] := List.getElem?_eq_getElem hj
        generalize ns[j] = v at hoj
        obtain rfl : x = .str v := by
          rw [List.getElem?_map, hoj] at hx
          exact (Option.some.inj hx).symm
        have hv := hn8 v (List.mem_of_getElem? hoj)
        refine ⟨rfl, _, rfl, _, rfl, .inl ⟨v, rfl, by omega, fun H7 s7 => ⟨_, s7 _ _ hD, ?_, same_app (sg.trans s7) (Same.refl _) nD, ?_⟩⟩⟩
        · rw [List.length_map, List.length_map, List.length_take]
          exact Nat.lt_of_le_of_lt (show _ ≤ 2001 by omega) (by decide)
        · rw [upd_same, List.take_add_one, hoj, List.map_append, List.map_append]
          rfl
      · rintro H6 ⟨s6, hD⟩
        rw [List.length_map, List.take_length] at hD
        refine ⟨D, ns.map nmB, rfl, SqL.of hD, _, rfl, ?_⟩
        have ea : (ns.map nmB).all id = ns.all nmB := by
          rw [List.all_map]
          rfl
        rw [ea]
        cases hall : ns.all nmB with
        | true => exact ⟨!decide ns.Nodup, fun H' => Same HC H', fun _ => ⟨_, rfl, q, ns, rfl, by omega, .inr (SqT.of (s6 _ _ hq)), fun H7 s7 => ⟨_, rfl, rfl, s6.trans s7⟩⟩, (fun c => Bool.noConfusion c), fun H7 s7 => ⟨rfl, s7⟩⟩
        | false => exact ⟨true, (· = H6), (fun c => Bool.noConfusion c), fun _ => rfl, fun H7 e => ⟨rfl, e ▸ s6⟩⟩
    have q6 := s6 _ _ hq
    have sD := sC.trans s6
    cases hall : ns.all nmB with
    | false => exact iteT (no (bad (.inr (.inl hall))) _ sD)
    | true =>
    by_cases hnd : ¬ ns.Nodup
    · rw [decide_eq_false hnd]
      exact iteT (no (bad (.inr (.inr hnd))) _ sD)
    replace hnd : ns.Nodup := Decidable.of_not_not hnd
    rw [decide_eq_true hnd]
    refine iteF ?_
    obtain ⟨a0, a1, a2, a3, a4, a5, a6, rfl⟩ : ∃ a0 a1 a2 a3 a4 a5 a6, W = a0 :: a1 :: a2 :: a3 :: a4 :: a5 :: a6 :: ns := by
      match W, h7, hns with
      | a :: b :: c :: d :: e :: f :: g :: r, _, hns => exact ⟨a, b, c, d, e, f, g, by rw [← hns]; rfl⟩
      | [], h, _ => exact absurd (show ([] : List Str).length < 7 by decide) h
      | [_], h, _ => exact absurd (by simp) h
      | [_, _], h, _ => exact absurd (by simp) h
      | [_, _, _], h, _ => exact absurd (by simp) h
      | [_, _, _, _], h, _ => exact absurd (by simp) h
      | [_, _, _, _, _], h, _ => exact absurd (by simp) h
      | [_, _, _, _, _, _], h, _ => exact absurd (by simp) h
    have hex := fun r => plV_of hsp (r := r)
    have hA6 : H6 p1 = some (.lst (.str a0 :: .str a1 :: .str a2 :: .str a3 :: .str a4 :: .str a5 :: .str a6 :: ns.map V.str)) := s6 _ _ hC
    have l2 : a2.length ≤ 1000 := hw8 a2 (by simp)
    have l4 : a4.length ≤ 1000 := hw8 a4 (by simp)
    have l5 : a5.length ≤ 1000 := hw8 a5 (by simp)
    refine ⟨_, rfl, p1, _, 2, .str a2, rfl, rfl, SqL.of hA6, atI_nat (j := 2) rfl, _, rfl, p1, _, 4, .str a4, rfl, rfl, SqL.of hA6, atI_nat (j := 4) rfl, _, rfl, by omega, fun nl gl gl' => ⟨_, rfl, p1, _, 5, .str a5, rfl, rfl, SqL.of hA6, atI_nat (j := 5) rfl, _, rfl, by omega, fun nm gm gm' => ⟨_, rfl, p1, _, 3, .str a3, rfl, rfl, SqL.of hA6, atI_nat (j := 3) rfl, rfl, rfl, rfl, fun p dx np ndx ne => ?_⟩⟩⟩
    have enl : dgV a4 = nl := (dgV_of gl gl').symm
    have enm : dgV a5 = nm := (dgV_of gm gm').symm
    have eb : decide (V.str a3 = .str "open") = decide (a3 = "open") := decide_eq_decide.mpr ⟨V.str.inj, congrArg V.str⟩
    unfold rwW at hex
    rw [enl, enm] at hex
    generalize decide (a3 = "open") = b at hex eb
    rw [eb]
    clear gl gl' gm gm' enl enm eb bad
    have sM := same_make (o1 := .own p) (o2 := .ins (CP K) dx []) np ndx
    by_cases hok : nmB a2 = true ∧ 1 ≤ nl ∧ nl ≤ nm ∧ nm ≤ 6
    · obtain ⟨k1, k2, k3, k4⟩ := hok
      have hr2 : RwOk ⟨a2, nl, nm, b, ns⟩ := ⟨k1, k2, k3, k4, fun v hv => List.all_eq_true.mp hall v hv, hnd, by show ns.length ≤ 1000; omega⟩
      refine ⟨p, dx, .str a2, .int nl, .int nm, _, rfl, upd_same, .inr ⟨a2, nl, nm, b, ⟨rfl, by omega, k1, rfl, k2, k3, k4, .inl rfl, rfl⟩, fun H7 s7 => ⟨rfl, ?_⟩⟩⟩
      have sP := same_app (o := .ins (CP K) dx (plf a2 nl nm b)) sM s7 np
      have hP : PlA (CP K) (upd H7 p (.ins (CP K) dx (plf a2 nl nm b))) p a2 nl nm b := ⟨dx, upd_same⟩
      have qP := sP _ _ q6
      generalize upd H7 p (.ins (CP K) dx (plf a2 nl nm b)) = HP at sP hP qP ⊢
      refine ⟨fun y Hx => (z = plL ⟨a2, nl, nm, b, ns⟩ ∧ ∃ t, y = .ref t ∧ Same HP Hx ∧ Hx t = some (.tup [.ref p, .ref q])) ∨ (z ≠ plL ⟨a2, nl, nm, b, ns⟩ ∧ y = .non ∧ Same HP Hx), ⟨_, rfl, _, rfl, p, q, ⟨a2, nl, nm, b, ns⟩, rfl, hP, qP, hr2, fun H8 s8 => ⟨_, rfl, rfl, _, rfl, ?_⟩⟩, ?_⟩
      · by_cases hz2 : z = plL ⟨a2, nl, nm, b, ns⟩
        · rw [decide_eq_true (by rw [← hz2])]
          exact iteT ⟨_, rfl, _, rfl, (by show 2 ≤ sizeLine; decide), fun t nt => .inl ⟨hz2, t, rfl, s8.trans (same_new nt), upd_same⟩⟩
        · rw [decide_eq_false fun e => hz2 (V.str.inj e).symm]
          exact iteF (.inr ⟨hz2, rfl, s8⟩)
      · rintro y Hx (⟨hz2, t, rfl, sx, ht⟩ | ⟨hz2, rfl, sx⟩)
        · rcases h with ⟨r, hp, k⟩ | ⟨hno, k⟩
          · obtain rfl := hex r hp
            exact k _ t p q (sD.trans (sP.trans sx)) ht (hP.ext sx) (sx _ _ qP)
          · exact absurd ⟨hz2, hr2⟩ (hno _)
        · refine no (fun r hp => ?_) _ (sD.trans (sP.trans sx))
          obtain rfl := hex r hp
          exact hz2 hp.1
    · obtain ⟨w, hw⟩ : ∃ w, PlIn (upd (upd H6 dx (.own p)) p (.ins (CP K) dx [])) (.str a2) (.int nl) (.int nm) (.bl b) w := by
        cases c1 : nmB a2 with
        | false => exact ⟨_, .name (.inl ⟨a2, rfl, by omega, c1⟩)⟩
        | true =>
          by_cases c2 : 1 ≤ nl ∧ nl ≤ 6
          · exact ⟨_, .most a2 rfl (by omega) c1 nl rfl c2.1 c2.2 (fun z => nomatch z) (.inl ⟨nm, rfl, fun c3 => hok ⟨c1, c2.1, c3.1, c3.2⟩⟩)⟩
          · exact ⟨_, .least a2 rfl (by omega) c1 (.inl ⟨nl, rfl, c2⟩)⟩
      refine ⟨p, dx, .str a2, .int nl, .int nm, _, rfl, upd_same, .inl ⟨w, hw, fun H7 d s7 nd σ hσ => ⟨true, XT, fun _ a na => ?_, fun z => Bool.noConfusion z⟩⟩⟩
      refine no (fun r hp => ?_) _ (sD.trans (sM.trans (s7.trans (same_new nd))))
      obtain rfl := hex r hp
      exact hok ⟨hp.2.1, hp.2.2.1, hp.2.2.2.1, hp.2.2.2.2.1⟩
end
end K37

set_option Elab.async false
set_option linter.all false
set_option pp.deepTerms.threshold 14
set_option pp.maxSteps 2500
set_option maxRecDepth 100000
set_option maxHeartbeats 2000000
namespace K37
open PySem PySem.Spec PyProof.Rows L2 Vf 
section
variable {P : Program} {w : World} {K : PySem.W.Frag} {mg : Str → Option Value} {base : Heap}
theorem nodup_add1 {α : Type} {l : List α} {a : α} (h : l.Nodup) (n : a ∉ l) : (l ++ [a]).Nodup := List.nodup_append.mpr ⟨h, by simp, fun x hx y hy => by
  rw [List.mem_singleton] at hy
  rw [hy]
  exact fun e => n (e ▸ hx)⟩
def wN (zs : List Str) : List Str → List Str
  | [] => zs
  | m :: ms => wN (if m ∈ zs then zs else zs ++ [m]) ms
theorem wN_snoc : ∀ {ms zs : List Str} {m : Str}, wN zs (ms ++ [m]) = (if m ∈ wN zs ms then wN zs ms else wN zs ms ++ [m])
  | [], _, _ => rfl
  | k :: ms, zs, m => by
    show wN (if k ∈ zs then zs else zs ++ [k]) (ms ++ [m]) = _
    rw [wN_snoc]
    rfl
theorem wN_len : ∀ {ms zs : List Str}, (wN zs ms).length ≤ zs.length + ms.length
  | [], _ => Nat.le_refl _
  | k :: ms, zs => by
    have h := wN_len (ms := ms) (zs := if k ∈ zs then zs else zs ++ [k])
    show (wN (if k ∈ zs then zs else zs ++ [k]) ms).length ≤ _
    by_cases hk : k ∈ zs
    · rw [if_pos hk] at h ⊢
      rw [List.length_cons]
      omega
    · rw [if_neg hk] at h ⊢
      rw [List.length_append] at h
      simp at h
      rw [List.length_cons]
      omega
theorem wN_nd : ∀ {ms zs : List Str}, zs.Nodup → (wN zs ms).Nodup
  | [], _, h => h
  | k :: ms, zs, h => by
    show (wN (if k ∈ zs then zs else zs ++ [k]) ms).Nodup
    by_cases hk : k ∈ zs
    · rw [if_pos hk]
      exact wN_nd h
    · rw [if_neg hk]
      exact wN_nd (nodup_add1 h hk)
theorem wN_mem : ∀ {ms zs : List Str} {v : Str}, v ∈ wN zs ms ↔ v ∈ zs ∨ v ∈ ms
  | [], zs, v => by simp [wN]
  | k :: ms, zs, v => by
    show v ∈ wN (if k ∈ zs then zs else zs ++ [k]) ms ↔ _
    rw [wN_mem]
    by_cases hk : k ∈ zs
    · rw [if_pos hk, List.mem_cons]
      constructor
      · rintro (h | h)
        · exact .inl h
        · exact .inr (.inr h)
      · rintro (h | rfl | h)
        · exact .inl h
        · exact .inl hk
        · exact .inr h
    · rw [if_neg hk, List.mem_append, List.mem_singleton, List.mem_cons]
      constructor
      · rintro ((h | h) | h)
        · exact .inl h
        · exact .inr (.inl h)
        · exact .inr (.inr h)
      · rintro (h | h | h)
        · exact .inl (.inl h)
        · exact .inl (.inr h)
        · exact .inr h
theorem sc_with_names : FnScope ["names", "more", "found", "name"] ["names", "more"] (defScope s_with_names) := ⟨rfl, rfl, rfl, by decide +kernel, rfl, by decide +kernel, by decide +kernel⟩
-- slots: 0 names, 1 more, 2 found, 3 name
def spWn : Sp := fun vs H Q _ => ∃ (L M : Addr) (zs ms : List Str), vs = [.ref L, .ref M] ∧ H L = some (.lst (zs.map V.str)) ∧ H M = some (.tup (ms.map V.str)) ∧ zs.length + ms.length ≤ 2000 ∧ ∀ H' F, Same H H' → H F = none → H' F = some (.lst ((wN zs ms).map V.str)) → Q (.ref F) H'
theorem ok_with_names {fd : FuncData} (F : FnD K ("with_names", none) "with_names" "with_names" s_with_names fd) (T : TTxt K mg) : OkF P w K mg base CX0 1 "with_names" ["names", "more"] spWn := by
  refine okd F (F.ok sc_with_names (fun vs H Q E h => ?_) fun cdv A outer s H vs Q E hr h => ?_) fun _ _ _ _ _ _ us hl => match us, hl with | [_, _], _ => rfl
  · obtain ⟨L, M, zs, ms, rfl, _⟩ := h
    rfl
  · obtain ⟨L, M, zs, ms, rfl, hL, hM, hlen, k⟩ := h
    refine ⟨_, PSs.nox (pss_cons (ps_set (i := 2) sc_with_names.nd rfl (Or.inl rfl) (pe_callTy call_list_of (by rfl) T.z_list (by decide +kernel) (pa_cons (pv 0) pa_nil)))
  (pss_cons (ps_for PassesOwn.never rfl (pi_tup (pv 1)) (pg_name (i := 3) sc_with_names.nd rfl (Or.inl rfl))
  (pss_one (ps_if (pt_cmpR op_notIn_seq (pv 3) (pv 2) rfl) (pss_one (ps_expr (pe_bm PySem.F.plainAttrs_list PySem.F.slot_list_append PySem.F.type_list_append mt_append (pv 2) (pa_cons (pv 3) pa_nil))))
  pss_nil)))
  (pss_one (ps_ret (pv 2))))), ?_⟩
    refine ⟨_, rfl, L, _, rfl, .inl (SqL.of hL), fun F nF => ?_⟩
    have s1 := same_new (o := .lst (zs.map V.str)) nF
    have hF1 := upd_same (H := H) (a := F) (o := .lst (zs.map V.str))
    generalize upd H F (.lst (zs.map V.str)) = H1 at s1 hF1 ⊢
    refine ⟨_, rfl, M, rfl, ⟨_, SqT.of (s1 _ _ hM)⟩, for_it walk_tup (fun j σ H' => Same H H' ∧ H' F = some (.lst ((wN zs (ms.take j)).map V.str)) ∧ ∃ v3 : Option V, σ = [some (.ref L), some (.ref M), some (.ref F), v3]) ⟨s1, hF1, none, rfl⟩ (fun j σ H' _ h => SqT.of (h.1 _ _ hM)) ?_ ?_⟩
    · rintro j x σ H6 H' hj ⟨sg, hF, v3, rfl⟩ ⟨rfl, hx⟩
      rw [List.length_map] at hj
      have hoj : ms[j]? = some ms[j] := List.getElem?_eq_getElem hj
      generalize ms[j] = m at hoj
      obtain rfl : x = .str m := by
        rw [List.getElem?_map, hoj] at hx
        exact (Option.some.inj hx).symm
      have et : ms.take (j + 1) = ms.take j ++ [m] := by rw [List.take_add_one, hoj]; rfl
      refine ⟨_, rfl, _, rfl, _, _, rfl, .inl (SqL.of hF), rfl, flat_str _, _, rfl, ?_⟩
      rw [inV_str, et, wN_snoc]
      by_cases hm : m ∈ wN zs (ms.take j)
      · rw [decide_eq_true hm, if_pos hm]
        exact iteF ⟨sg, hF, _, rfl⟩
      · rw [decide_eq_false hm, if_neg hm]
        refine iteT ⟨_, rfl, .inl ⟨rfl, _, SqL.of hF⟩, _, rfl, F, _, _, rfl, rfl, hF, ?_, same_app sg (Same.refl _) nF, ?_, _, rfl⟩
        · have := wN_len (zs := zs) (ms := ms.take j)
          rw [List.length_take] at this
          rw [List.length_map]
          exact Nat.lt_of_le_of_lt (show _ ≤ 2000 by omega) (by decide)
        · rw [upd_same, List.map_append]
          rfl
    · rintro σ H6 ⟨sg, hF, v3, rfl⟩
      rw [List.length_map, List.take_length] at hF
      exact ⟨_, rfl, k _ F sg nF hF⟩
abbrev PgT : Type := PgE × Addr
def zsY (ys : List PgT) : List Str := ys.map fun y => y.1.2.2.z
def kvY (ys : List PgT) : List (Key × V) := ys.map fun y => ((Sum.inr y.1.2.2.z : Key), V.ref y.2)
theorem zsY_of (ys : List PgT) : zsOf (ys.map (·.1)) = zsY ys := by
  unfold zsOf zsY
  rw [List.map_map]
  rfl
theorem valY : ∀ {ys : List PgT} {i : Nat} {y : PgT}, (zsY ys).Nodup → ys[i]? = some y → valV (kvY ys) (Sum.inr y.1.2.2.z) = some (.ref y.2)
  | u :: ys, 0, y, nd, h => by
    cases h
    exact valV_pos rfl
  | u :: ys, i + 1, y, nd, h => by
    have h' : ys[i]? = some y := h
    have nd' : (u.1.2.2.z :: zsY ys).Nodup := nd
    rw [List.nodup_cons] at nd'
    show valV ((Sum.inr u.1.2.2.z, V.ref u.2) :: kvY ys) _ = _
    rw [valV_neg fun z => nd'.1 ?_]
    · exact valY nd'.2 h'
    · have : u.1.2.2.z = y.1.2.2.z := Sum.inr.inj z
      rw [this]
      exact List.mem_map_of_mem (List.mem_of_getElem? h')
theorem missY {z : Str} : ∀ {ys : List PgT}, z ∉ zsY ys → valV (kvY ys) (Sum.inr z) = none
  | [], _ => rfl
  | y :: ys, h => by
    have h1 : ¬ y.1.2.2.z = z := fun e => h (e ▸ List.mem_cons_self ..)
    show valV ((Sum.inr y.1.2.2.z, V.ref y.2) :: kvY ys) _ = _
    rw [valV_neg (fun e => h1 (Sum.inr.inj e))]
    exact missY fun hm => h (List.mem_cons_of_mem _ hm)
theorem putY {ys : List PgT} {y : PgT} (h : y.1.2.2.z ∉ zsY ys) : putK (kvY ys) (Sum.inr y.1.2.2.z) (.ref y.2) = kvY (ys ++ [y]) := by
  rw [putK_new _ (missY h)]
  unfold kvY
  rw [List.map_append]
  rfl
theorem unlock {H H' : Hp} {D : Addr} {u : HO} {od : Obj} (hD : H D = some u) (s : Same (upd H D (.frz od u)) H') : Same H (upd H' D u) := fun p o e => by
  by_cases h : p = D
  · subst h
    rw [upd_same]
    rw [hD] at e
    exact e
  · rw [upd_ne h]
    exact s p o (by rw [upd_ne h]; exact e)
/-- at D the rows that were read: names to (place, nexts) -/
structure RdA (K : PySem.W.Frag) (H : Hp) (D : Addr) (ys : List PgT) : Prop where
  hD : H D = some (.dK (kvY ys))
  tp : ∀ y ∈ ys, H y.2 = some (.tup [.ref y.1.1, .ref y.1.2.1])
  pl : ∀ y ∈ ys, PlE K H y.1
  ns : ∀ y ∈ ys, H y.1.2.1 = some (.tup (y.1.2.2.ns.map V.str))
theorem RdA.ext {K : PySem.W.Frag} {H H' : Hp} {D : Addr} {ys : List PgT} (h : RdA K H D ys) (s : Same H H') : RdA K H' D ys := ⟨s _ _ h.hD, fun y hy => s _ _ (h.tp y hy), fun y hy => (h.pl y hy).ext s, fun y hy => s _ _ (h.ns y hy)⟩
theorem takeY {α : Type} (f : PgT → α) {ys : List PgT} {j : Nat} {y : PgT} (h : ys[j]? = some y) : (ys.take (j + 1)).map f = (ys.take j).map f ++ [f y] := by
  rw [List.take_add_one, h, List.map_append]
  rfl
theorem sc_program_with : FnScope ["rows", "start", "name"] ["rows", "start"] (defScope s_program_with) := ⟨rfl, rfl, rfl, by decide +kernel, rfl, by decide +kernel, by decide +kernel⟩
-- slots: 0 rows, 1 start, 2 name
def spPgw (K : PySem.W.Frag) : Sp := fun vs H Q _ => ∃ (D : Addr) (ys : List PgT) (s : Str), vs = [.ref D, .str s] ∧ RdA K H D ys ∧ (zsY ys).Nodup ∧ 1 ≤ ys.length ∧ ys.length ≤ 6 ∧ s ∈ zsY ys ∧ (∀ y ∈ ys, RwOk y.1.2.2 ∧ ∀ v ∈ y.1.2.2.ns, v ∈ zsY ys) ∧
  ∀ H' g dx tn dP dN, Same H H' → PgA K H' g (ys.map (·.1)) s dx tn dP dN → H dP = none → H dN = none → Q (.ref g) H'
theorem ok_program_with {fd : FuncData} (F : FnD K ("program_with", none) "program_with" "program_with" s_program_with fd) (T : TTxt K mg) (O_Program_init2k : OkK P w K mg base (L2.CX P w) 5 ("Program", some "__init__") ["self", "places", "nexts", "start"] 3 ["start"] (fun vs zs => vs ++ zs) (spPgI K)) : OkF P w K mg base (L2.CX P w) 7 "program_with" ["rows", "start"] (spPgw K) := by
  refine okd F (F.ok sc_program_with (fun vs H Q E h => ?_) fun cdv A outer s H vs Q E hr h => ?_) fun _ _ _ _ _ _ us hl => match us, hl with | [_, _], _ => rfl
  · obtain ⟨D, ys, s, rfl, _⟩ := h
    rfl
  · obtain ⟨D, ys, st, rfl, hR, nd, l1, l6, hst, hrow, k⟩ := h
    refine ⟨_, (pss_one (ps_ret (c_mkK T.m_Program O_Program_init2k hr (by decide) T.g_Program passL (pa_cons (pe_lock (pe_lc (own := [("name", 2)]) (g := gName 2) (tt := tYes) (by rfl) sc_program_with.nd (pi_keys (pv 0)) (blkOk_by (N := ["rows", "start", "name"]) (sc := defScope s_program_with) (by decide +kernel)) (fun _ _ _ _ _ => (pg_name (i := 2) sc_program_with.nd rfl (Or.inl rfl))) (fun _ _ _ _ _ => pts_nil) (fun _ _ _ _ _ => (pe_ix (ix_tupK (K := K) rfl) (pe_dget (hu_of hr) (pv 0) (pv 2) (fun _ _ => rfl)) pe_int (fun _ _ => rfl))))) (pa_cons (pe_lock (pe_dc (own := [("name", 2)]) (g := gName 2) (tt := tYes) (by rfl) sc_program_with.nd (pi_keys (pv 0)) (blkOk_by (N := ["rows", "start", "name"]) (sc := defScope s_program_with) (by decide +kernel)) (fun _ _ _ _ _ => (pg_name (i := 2) sc_program_with.nd rfl (Or.inl rfl))) (fun _ _ _ _ _ => pts_nil) (fun _ _ _ _ _ => (pv 2)) (fun _ _ _ _ _ => (pe_ix (ix_tupK (K := K) rfl) (pe_dget (hu_of hr) (pv 0) (pv 2) (fun _ _ => rfl)) pe_int (fun _ _ => rfl))))) pa_nil)) (pk_cons (pv 1) pk_nil)))), ?_⟩
    refine ⟨D, _, hR.hD, trivial, fun od => ?_⟩
    have hDf := upd_same (H := H) (a := D) (o := .frz od (.dK (kvY ys)))
    have nt : ∀ {p : Addr} {xs : List V}, H p = some (.tup xs) → p ≠ D := fun h e => by
      rw [e, hR.hD] at h
      cases h
    have htF : ∀ y ∈ ys, (upd H D (.frz od (.dK (kvY ys)))) y.2 = some (.tup [.ref y.1.1, .ref y.1.2.1]) := fun y hy => by
      rw [upd_ne (nt (hR.tp y hy))]
      exact hR.tp y hy
    have unl : ∀ {H'}, Same (upd H D (.frz od (.dK (kvY ys)))) H' → Same H (upd H' D (.dK (kvY ys))) := fun s => unlock hR.hD s
    generalize upd H D (.frz od (.dK (kvY ys))) = Hf at hDf htF unl ⊢
    refine ⟨_, rfl, D, od, rfl, .inl ⟨_, hDf, fun P nP => lc_it walk_keys (fun j H' => Same Hf H' ∧ H' P = some (.lst ((ys.take j).map fun y => V.ref y.1.1))) ⟨same_new nP, upd_same⟩ (fun j H' _ h => h.1 _ _ hDf) ?_ ?_⟩⟩
    · rintro j x H6 H' hj ⟨sg, hP⟩ ⟨rfl, kk, v, hkv, rfl⟩
      unfold kvY at hkv
      rw [List.getElem?_map] at hkv
      obtain ⟨y, hy, e⟩ := Option.map_eq_some_iff.mp hkv
      obtain ⟨rfl, rfl⟩ := Prod.mk.inj e
      refine ⟨rfl, _, rfl, _, rfl, D, V.ref y.2, rfl, .inl ⟨_, Sum.inr y.1.2.2.z, .inr ⟨od, sg _ _ hDf⟩, rfl, (valY nd hy).symm⟩, y.2, _, 0, .ref y.1.1, rfl, rfl, SqT.of (sg _ _ (htF y (List.mem_of_getElem? hy))), atI0, _, hP, ?_, same_app sg (Same.refl _) nP, ?_⟩
      · rw [List.length_map, List.length_take]
        exact Nat.lt_of_le_of_lt (show _ ≤ 1000 by omega) (by decide)
      · rw [upd_same, takeY _ hy]
    · rintro H6 ⟨s6, hP⟩
      have eT : ys.take (kvY ys).length = ys := by
        unfold kvY
        rw [List.length_map, List.take_length]
      rw [eT] at hP
      refine ⟨s6 _ _ hDf, ?_⟩
      have nPD : P ≠ D := (ne_of_none hDf nP).symm
      have s7 := unl s6
      have hP7 : (upd H6 D (.dK (kvY ys))) P = some (.lst (ys.map fun y => V.ref y.1.1)) := by
        rw [upd_ne nPD]
        exact hP
      have nP0 : H P = none := by
        cases e : H P with
        | none => rfl
        | some o =>
          have := unl (Same.refl _) _ _ e
          rw [upd_ne nPD, nP] at this
          cases this
      generalize upd H6 D (.dK (kvY ys)) = H7 at s7 hP7 ⊢
      clear hDf htF unl nP s6 hP nt
      have hR7 := hR.ext s7
      refine ⟨D, _, hR7.hD, trivial, fun od2 => ?_⟩
      have hDf := upd_same (H := H7) (a := D) (o := .frz od2 (.dK (kvY ys)))
      have htF : ∀ y ∈ ys, (upd H7 D (.frz od2 (.dK (kvY ys)))) y.2 = some (.tup [.ref y.1.1, .ref y.1.2.1]) := fun y hy => by
        have h := hR7.tp y hy
        rw [upd_ne fun e => ?_]
        · exact h
        · rw [e, hR7.hD] at h
          cases h
      have unl : ∀ {H'}, Same (upd H7 D (.frz od2 (.dK (kvY ys)))) H' → Same H7 (upd H' D (.dK (kvY ys))) := fun s => unlock hR7.hD s
      have none7 : ∀ {p : Addr}, (upd H7 D (.frz od2 (.dK (kvY ys)))) p = none → H7 p = none := fun {p} n => by
        by_cases e : p = D
        · rw [e, upd_same] at n
          cases n
        · rw [upd_ne e] at n
          exact n
      generalize upd H7 D (.frz od2 (.dK (kvY ys))) = Hf at hDf htF unl none7 ⊢
      have ndx : (zsOf (ys.map (·.1))).Nodup := by
        rw [zsY_of]
        exact nd
      refine ⟨_, rfl, D, od2, rfl, .inl ⟨_, hDf, fun N nN => dc_it walk_keys (fun j H' => Same Hf H' ∧ H' N = some (.dK (((ys.map (·.1)).take j).map fun y => ((Sum.inr y.2.2.z : Key), V.ref y.2.1)))) ⟨same_new nN, upd_same⟩ (fun j H' _ h => h.1 _ _ hDf) ?_ ?_⟩⟩
      · rintro j x H6 H' hj ⟨sg, hN⟩ ⟨rfl, kk, v, hkv, rfl⟩
        unfold kvY at hkv
        rw [List.getElem?_map] at hkv
        obtain ⟨y, hy, e⟩ := Option.map_eq_some_iff.mp hkv
        obtain ⟨rfl, rfl⟩ := Prod.mk.inj e
        have hy1 : (ys.map (·.1))[j]? = some y.1 := by rw [List.getElem?_map, hy]; rfl
        refine ⟨rfl, _, rfl, _, rfl, _, rfl, D, V.ref y.2, rfl, .inl ⟨_, Sum.inr y.1.2.2.z, .inr ⟨od2, sg _ _ hDf⟩, rfl, (valY nd hy).symm⟩, y.2, _, 1, .ref y.1.2.1, rfl, rfl, SqT.of (sg _ _ (htF y (List.mem_of_getElem? hy))), atI1, _, Sum.inr y.1.2.2.z, rfl, hN, ?_, same_app sg (Same.refl _) nN, ?_⟩
        · rw [List.length_map, List.length_take, List.length_map]
          exact Nat.lt_of_le_of_lt (show _ ≤ 1000 by omega) (by decide)
        · rw [upd_same, put_row (f := fun y => V.ref y.2.1) ndx hy1]
      · rintro H6 ⟨s6, hN⟩
        have eT : (ys.map (·.1)).take (kvY ys).length = ys.map (·.1) := by
          unfold kvY
          rw [List.length_map, ← List.length_map (f := fun y : PgT => y.1), List.take_length]
        rw [eT] at hN
        refine ⟨s6 _ _ hDf, ?_⟩
        have nND : N ≠ D := (ne_of_none hDf nN).symm
        have nN7 := none7 nN
        have nPN : P ≠ N := ne_of_none hP7 nN7
        have s8 := unl s6
        have hN8 : (upd H6 D (.dK (kvY ys))) N = some (.dK (kvN (ys.map (·.1)))) := by
          rw [upd_ne nND]
          exact hN
        generalize upd H6 D (.dK (kvY ys)) = H8 at s8 hN8 ⊢
        have hP8 := s8 _ _ hP7
        have s08 := s7.trans s8
        have hR8 := hR.ext s08
        have memY : ∀ x ∈ ys.map (·.1), ∃ y ∈ ys, y.1 = x := fun x hx => by
          obtain ⟨y, hy, e⟩ := List.mem_map.mp hx
          exact ⟨y, hy, e⟩
        have hPO : PartsOk K H8 .lst P N (ys.map (·.1)) := by
          refine ⟨?_, fun x hx => ?_, ⟨_, hN8, List.length_map .., fun x hx => ?_⟩, fun x hx => ?_, ndx, by rw [List.length_map]; exact l1, by rw [List.length_map]; exact l6, fun z hz => ?_, .inl rfl⟩
          · rw [hP8, List.map_map]
            rfl
          · obtain ⟨y, hy, rfl⟩ := memY x hx
            exact hR8.pl y hy
          · obtain ⟨i, hi⟩ := List.mem_iff_getElem?.mp hx
            exact val_row (f := fun y => V.ref y.2.1) ndx hi
          · obtain ⟨y, hy, rfl⟩ := memY x hx
            obtain ⟨hr, hv⟩ := hrow y hy
            rw [zsY_of]
            exact ⟨hR8.ns y hy, hv, hr.2.2.2.2.2.1, by have := hr.2.2.2.2.2.2; omega⟩
          · rw [zsY_of] at hz
            obtain ⟨y, hy, rfl⟩ := List.mem_map.mp hz
            exact (hrow y hy).1.1
        refine ⟨_, rfl, rfl, rfl, fun g dx ng ndx' ne => ?_⟩
        have sM := same_make (o1 := .own g) (o2 := .ins (CG K) dx []) ng ndx'
        exact ⟨g, dx, P, N, .lst, ys.map (·.1), .str st, st, rfl, upd_same, hPO.ext sM, (by rw [zsY_of]; exact hst), .inl rfl, fun H9 dx9 tn dP dN x9 hpg nP nN => ⟨rfl, k H9 g dx9 tn dP dN (fun b o e => x9 b o (ne_of_none (s08 _ _ e) ng) (sM _ _ (s08 _ _ e))) hpg (none_of (s08.trans sM) nP) (none_of (s08.trans sM) nN)⟩⟩
end
end K37

set_option Elab.async false
set_option linter.all false
set_option pp.deepTerms.threshold 14
set_option pp.maxSteps 2500
set_option maxRecDepth 100000
set_option maxHeartbeats 2000000
namespace K37
open PySem PySem.Spec PyProof.Rows L2 Vf 
section
variable {P : Program} {w : World} {K : PySem.W.Frag} {mg : Str → Option Value} {base : Heap}
theorem sc_write : FnScope ["program", "sampler", "nexts", "lines", "name"] ["program", "sampler"] (defScope s_write) := ⟨rfl, rfl, rfl, by decide +kernel, rfl, by decide +kernel, by decide +kernel⟩
-- slots: 0 program, 1 sampler, 2 nexts, 3 lines, 4 name
def spWt (K : PySem.W.Frag) : Sp := fun vs H Q _ => ∃ (g p : Addr) (xs : List PgE) (st : Str) (dx tn dP dN : Addr) (n i : Int) (f : V), vs = [.ref g, .ref p] ∧ PgA K H g xs st dx tn dP dN ∧ st ∈ zsOf xs ∧ (∀ x ∈ xs, RwOk x.2.2) ∧ SaA (CS K) H p n i f ∧ 1 ≤ n ∧ n ≤ 8 ∧ 0 ≤ i ∧ i ≤ n - 1 ∧ PhOk f n ∧
  ∀ H', Same H H' → Q (.str (pgT st (xs.map (·.2.2)) n i f)) H'
theorem ok_write {fd : FuncData} (F : FnD K ("write", none) "write" "write" s_write fd) (T : TTxt K mg) (M : GMeth K) (O_getitem : OkM P w K mg base (L2.CX P w) 4 "Program" "__getitem__" ["self", "at"] (spGet K)) (O_nexts : OkG P w K mg base CX0 1 "Program" "nexts" (spNxT K)) (O_start_line : OkF P w K mg base CX0 1 "start_line" ["start"] spSln)
    (O_place_line : OkF P w K mg base CX0 1 "place_line" ["place", "ways"] (spPln K)) (O_sampler_line : OkF P w K mg base CX0 1 "sampler_line" ["sampler"] (spSml K)) : OkF P w K mg base (L2.CX P w) 6 "write" ["program", "sampler"] (spWt K) := by
  refine okd F (F.ok sc_write (fun vs H Q E h => ?_) fun cdv A outer s H vs Q E hr h => ?_) fun _ _ _ _ _ _ us hl => match us, hl with | [_, _], _ => rfl
  · obtain ⟨g, p, xs, st, dx, tn, dP, dN, n, i, f, rfl, _⟩ := h
    rfl
  · obtain ⟨g, p, xs, st, dx, tn, dP, dN, n, i, f, rfl, hg, hst, hrow, hp, n1, n8, i0, i1, hf, k⟩ := h
    refine ⟨_, (pss_cons (ps_set (i := 2) sc_write.nd rfl (Or.inr rfl) (pe_propG (pv 0) T.c_Program O_nexts hr (by decide) rfl))
  (pss_cons (ps_set (i := 3) sc_write.nd rfl (Or.inl rfl) (pe_lst (pa_cons (c_fn O_start_line hr (by decide) T.g_start_line pass0 (pa_cons (pe_fld (pv 0) rfl) pa_nil)) pa_nil)))
  (pss_cons (ps_expr (pe_bm PySem.F.plainAttrs_list PySem.F.slot_list_extend PySem.F.type_list_extend mt_extend (pv 3) (pa_cons (pe_lc (own := [("name", 4)]) (g := gName 4) (tt := tYes) (by rfl) sc_write.nd (pi_tup (pe_fld (pv 0) rfl)) (blkOk_by (N := ["program", "sampler", "nexts", "lines", "name"]) (sc := defScope s_write) (by decide +kernel)) (fun _ _ _ _ _ => (pg_name (i := 4) sc_write.nd rfl (Or.inl rfl))) (fun _ _ _ _ _ => pts_nil) (fun _ _ _ _ _ => (c_fn O_place_line hr (by decide) T.g_place_line pass0 (pa_cons (pe_subO (pv 0) (pv 4) M.m_getitem M.f_getitem O_getitem hr (by decide) passL) (pa_cons (pe_dget (hu_of hr) (pv 2) (pv 4) (fun _ _ => rfl)) pa_nil))))) pa_nil)))
  (pss_cons (ps_expr (pe_bm PySem.F.plainAttrs_list PySem.F.slot_list_append PySem.F.type_list_append mt_append (pv 3) (pa_cons (c_fn O_sampler_line hr (by decide) T.g_sampler_line pass0 (pa_cons (pv 1) pa_nil)) pa_nil)))
  (pss_one (ps_ret (pe_m1 PySem.F.slot_str_join PySem.F.type_str_join mt_join pe_str (pv 3)))))))), ?_⟩
    have hlz : (zsOf xs).length = xs.length := List.length_map ..
    have hnst := hg.nm st hst
    refine ⟨_, rfl, g, dx, _, rfl, hg.hg, g, xs, st, dx, tn, dP, dN, rfl, hg, fun H1 N s1 nN hN => ?_⟩
    have hg1 := hg.ext s1
    have hp1 := hp.ext s1
    refine ⟨_, rfl, g, _, dx, _, _, rfl, hg1.hg, T.c_Program, T.nB, pgf_start .., st, rfl, (nm_free hnst).2.2.1, (by show 1 ≤ sizeLine; decide), fun L nL => ?_⟩
    have nL0 := none_of s1 nL
    have s2 := same_new (o := .lst [.str (stL st)]) nL
    have hL2 := upd_same (H := H1) (a := L) (o := .lst [.str (stL st)])
    have hg2 := hg1.ext s2
    have hp2 := hp1.ext s2
    have hN2 := s2 _ _ hN
    replace s2 := s1.trans s2
    generalize upd H1 L (.lst [.str (stL st)]) = H2 at s2 hL2 hg2 hp2 hN2 ⊢
    refine ⟨_, rfl, .inl ⟨rfl, _, SqL.of hL2⟩, _, rfl, g, _, dx, _, _, rfl, hg2.hg, T.c_Program, T.nA, pgf_names .., tn, rfl, ⟨_, SqT.of hg2.hn⟩, fun D nD => lc_it walk_tup (fun j H' => Same H2 H' ∧ H' D = some (.lst (((xs.take j).map fun x => plL x.2.2).map V.str))) ⟨same_new nD, upd_same⟩ (fun j H' _ h => SqT.of (h.1 _ _ hg2.hn)) ?_ ?_⟩
    · rintro j x H6 H' hj ⟨sg, hD⟩ ⟨rfl, hx⟩
      obtain ⟨y, hy, rfl⟩ := zsAt hx
      have hg6 := hg2.ext sg
      have hym := List.mem_of_getElem? hy
      rw [List.length_map, hlz] at hj
      refine ⟨rfl, _, rfl, _, rfl, g, dx, _, rfl, hg6.hg, g, _, xs, st, dx, tn, dP, dN, rfl, hg6, .inl ⟨j, y, hy, rfl, ?_⟩⟩
      refine ⟨_, rfl, _, rfl, N, _, rfl, dget_of (sg _ _ hN2) (val_row (f := fun y => V.ref y.2.1) hg.nd hy), y.1, y.2.1, y.2.2, rfl, hg6.pl y hym, (hg6.ns y hym).1, hrow y hym, fun H7 s7 => ⟨_, s7 _ _ hD, ?_, same_app (sg.trans s7) (Same.refl _) nD, ?_⟩⟩
      · rw [List.length_map, List.length_map, List.length_take]
        exact Nat.lt_of_le_of_lt (show _ ≤ 1000 by have := hg.l6; omega) (by decide)
      · rw [upd_same, List.take_add_one, hy, List.map_append, List.map_append]
        rfl
    · rintro H6 ⟨s6, hD⟩
      rw [List.length_map, hlz, List.take_length] at hD
      refine ⟨L, D, _, _, rfl, rfl, s6 _ _ hL2, hD, ?_, ?_⟩
      · rw [List.length_map, List.length_map]
        exact Nat.le_trans (show 1 + xs.length ≤ 1000 by have := hg.l6; omega) (by decide)
      have nLp : p ≠ L := by
        obtain ⟨d0, e⟩ := hp1
        exact ne_of_none e nL
      have hL7 := upd_same (H := H6) (a := L) (o := .lst ([.str (stL st)] ++ (xs.map fun x => plL x.2.2).map V.str))
      have hp7 : SaA (CS K) (upd H6 L (.lst ([.str (stL st)] ++ (xs.map fun x => plL x.2.2).map V.str))) p n i f := by
        obtain ⟨d0, e⟩ := hp2
        exact ⟨d0, by rw [upd_ne nLp]; exact s6 _ _ e⟩
      have s7 : Same H (upd H6 L (.lst ([.str (stL st)] ++ (xs.map fun x => plL x.2.2).map V.str))) := same_app s2 s6 nL0
      generalize upd H6 L (.lst ([.str (stL st)] ++ (xs.map fun x => plL x.2.2).map V.str)) = H7 at hL7 hp7 s7 ⊢
      refine ⟨_, rfl, .inl ⟨rfl, _, SqL.of hL7⟩, _, rfl, p, n, i, f, rfl, hp7, n1, n8, i0, i1, hf, L, _, _, rfl, rfl, hL7, ?_, ?_⟩
      · rw [List.length_append, List.length_map, List.length_map]
        exact Nat.lt_of_le_of_lt (show 1 + xs.length ≤ 1000 by have := hg.l6; omega) (by decide)
      have e9 : ([.str (stL st)] ++ (xs.map fun x => plL x.2.2).map V.str ++ [V.str (smL n i f)] : List V) = (stL st :: ((xs.map (·.2.2)).map plL ++ [smL n i f])).map V.str := by
        rw [List.map_cons, List.map_append, List.map_map (f := fun x : PgE => x.2.2)]
        rfl
      rw [e9]
      have hl := pgT_len (rs := xs.map (·.2.2)) hnst (fun r hr => by obtain ⟨x, hx, rfl⟩ := List.mem_map.mp hr; exact hrow x hx) (by rw [List.length_map]; exact hg.l6) n1 n8 i0 i1 hf
      refine ⟨⟨_, rfl⟩, _, rfl, "\n", L, _, rfl, rfl, .inl (SqL.of upd_same), ?_, k _ (same_app s7 (Same.refl _) nL0)⟩
      have e1 : ("\n" : Str).length = 1 := by decide +kernel
      have hl1 := hl.1
      have l6 := hg.l6
      have big : 100000 ≤ sizeLine := by decide
      rw [e1, List.length_cons, List.length_append, List.length_map, List.length_map, List.length_singleton]
      omega
theorem nodup_le1 {α : Type} [DecidableEq α] : ∀ {l u : List α}, l.Nodup → (∀ x ∈ l, x ∈ u) → l.length ≤ u.length
  | [], _, _, _ => Nat.zero_le _
  | a :: l, u, nd, h => by
    rw [List.nodup_cons] at nd
    have ha := h a (List.mem_cons_self ..)
    have h2 : ∀ x ∈ l, x ∈ u.erase a := fun x hx => by
      have hne : x ≠ a := fun e => nd.1 (e ▸ hx)
      exact (List.mem_erase_of_ne hne).mpr (h x (List.mem_cons_of_mem _ hx))
    have := nodup_le1 nd.2 h2
    rw [List.length_erase_of_mem ha] at this
    have hp : 0 < u.length := List.length_pos_of_mem ha
    rw [List.length_cons]
    omega
/-- the names that are known behind these rows -/
def nmL (st : Str) (rs : List Rw) : List Str := rs.foldl (fun acc r => wN acc (r.z :: r.ns)) [st]
theorem nmL_add {st : Str} {rs : List Rw} {r : Rw} : nmL st (rs ++ [r]) = wN (nmL st rs) (r.z :: r.ns) := by
  unfold nmL
  rw [List.foldl_append]
  rfl
theorem wNs : ∀ (rs : List Rw) (acc : List Str), acc.Nodup → (rs.foldl (fun acc r => wN acc (r.z :: r.ns)) acc).Nodup ∧ ∀ v, v ∈ rs.foldl (fun acc r => wN acc (r.z :: r.ns)) acc ↔ v ∈ acc ∨ ∃ r ∈ rs, v = r.z ∨ v ∈ r.ns
  | [], acc, h => ⟨h, fun v => by simp⟩
  | r :: rs, acc, h => by
    obtain ⟨h1, h2⟩ := wNs rs (wN acc (r.z :: r.ns)) (wN_nd h)
    refine ⟨h1, fun v => (h2 v).trans ?_⟩
    rw [wN_mem, List.mem_cons]
    constructor
    · rintro ((h | h | h) | ⟨q, hq, h⟩)
      · exact .inl h
      · exact .inr ⟨r, List.mem_cons_self, .inl h⟩
      · exact .inr ⟨r, List.mem_cons_self, .inr h⟩
      · exact .inr ⟨q, List.mem_cons_of_mem _ hq, h⟩
    · rintro (h | ⟨q, hq, h⟩)
      · exact .inl (.inl h)
      · rcases List.mem_cons.mp hq with rfl | hq
        · exact .inl (.inr h)
        · exact .inr ⟨q, hq, h⟩
theorem nmL_nd (st : Str) (rs : List Rw) : (nmL st rs).Nodup := (wNs rs [st] (by simp)).1
theorem nmL_in {st : Str} {rs qs : List Rw} (hst : st ∈ rs.map (·.z)) (hns : ∀ r ∈ rs, ∀ v ∈ r.ns, v ∈ rs.map (·.z)) (hq : ∀ r ∈ qs, r ∈ rs) : (nmL st qs).length ≤ rs.length := by
  rw [← List.length_map (f := fun r : Rw => r.z)]
  refine nodup_le1 (nmL_nd st qs) fun v hv => ?_
  rcases ((wNs qs [st] (by simp)).2 v).mp hv with h | ⟨r, hr, rfl | h⟩
  · rw [List.mem_singleton.mp h]
    exact hst
  · exact List.mem_map_of_mem (hq r hr)
  · exact hns r (hq r hr) v h
theorem nmL_all {st : Str} {rs : List Rw} (nd : (rs.map (·.z)).Nodup) (hst : st ∈ rs.map (·.z)) (hns : ∀ r ∈ rs, ∀ v ∈ r.ns, v ∈ rs.map (·.z)) : (nmL st rs).length = rs.length := by
  refine Nat.le_antisymm (nmL_in hst hns fun r h => h) ?_
  rw [← List.length_map (f := fun r : Rw => r.z)]
  refine nodup_le1 nd fun v hv => ?_
  obtain ⟨r, hr, rfl⟩ := List.mem_map.mp hv
  exact ((wNs rs [st] (by simp)).2 _).mpr (.inr ⟨r, hr, .inl rfl⟩)
theorem RdA.put {K : PySem.W.Frag} {H : Hp} {R : Addr} {ys : List PgT} {x : PgE} {t : Addr} (h : RdA K H R ys) (ht : H t = some (.tup [.ref x.1, .ref x.2.1])) (hp : PlE K H x) (hq : H x.2.1 = some (.tup (x.2.2.ns.map V.str))) (hz : x.2.2.z ∉ zsY ys) :
    RdA K (upd H R (.dK (putK (kvY ys) (Sum.inr x.2.2.z) (.ref t)))) R (ys ++ [(x, t)]) := by
  have ap : ∀ {p : Addr} {o : HO}, H p = some o → (∀ kvs, o ≠ .dK kvs) → ∀ u, (upd H R u) p = some o := fun {p o} e hn u => by
    rw [upd_ne fun z => ?_]
    · exact e
    · rw [z, h.hD] at e
      exact hn _ (Option.some.inj e).symm
  refine ⟨by rw [upd_same, putY (y := (x, t)) hz], fun y hy => ?_, fun y hy => ?_, fun y hy => ?_⟩
  · refine ap (o := .tup [.ref y.1.1, .ref y.1.2.1]) ?_ (fun _ z => nomatch z) _
    rcases List.mem_append.mp hy with hy | hy
    · exact h.tp y hy
    · rw [List.mem_singleton.mp hy]
      exact ht
  · have : PlE K H y.1 := by
      rcases List.mem_append.mp hy with hy | hy
      · exact h.pl y hy
      · rw [List.mem_singleton.mp hy]
        exact hp
    obtain ⟨d0, e⟩ := this
    exact ⟨d0, ap e (fun _ z => nomatch z) _⟩
  · refine ap (o := .tup (y.1.2.2.ns.map V.str)) ?_ (fun _ z => nomatch z) _
    rcases List.mem_append.mp hy with hy | hy
    · exact h.ns y hy
    · rw [List.mem_singleton.mp hy]
      exact hq

theorem passUp {X : Cx} {E : XK} (hs : X.stack = X.env :: X.outer) (hf : X.env.frame = some X.env.locals) (hex : X.ex = []) {E₁ : Value → Shared → Prop}
    (hx : X.xe = fun e s' => wpAny (model X.prog X.w) X.A (leaving X.env e) (fun _ s'' => L2.CX X.prog X.w X.outer X.H_0 X.s_0 E e s'') E₁ s') : Passes (L2.CX X.prog X.w) X E := passes_call (takes_of hs hf hex hx) fun _ _ _ _ h => h
theorem plV_uniq {z : Str} {r q : Rw} (h : PlV z r) (g : PlV z q) : r = q := by
  obtain ⟨a6, e, _⟩ := plW_7 r
  have hs : Txt.split z " " = plW r := by rw [h.1]; exact plL_split h.2
  rw [e] at hs
  rw [← plV_of hs h, ← plV_of hs g]
def isPl (l : Str) : Prop := ∃ r, PlV l r
def isSm (l : Str) : Prop := ∃ n i f, SmV l n i f
theorem sm_not_pl {l : Str} (h : isSm l) : ¬ isPl l := by
  obtain ⟨n, i, f, rfl, h1, h2, h3, h4, h5⟩ := h
  rintro ⟨r, e, hr⟩
  have h1 := smL_split h1 h2 h3 h4 h5
  obtain ⟨a6, e2, _⟩ := plW_7 r
  rw [e, plL_split hr, e2] at h1
  exact absurd (List.cons.inj h1).1 (by decide +kernel)
open Classical in
/-- the row, the start that a line tells -/
noncomputable def rwO (l : Str) : Option Rw := if h : ∃ r, PlV l r then some h.choose else none
theorem rwO_some {l : Str} {r : Rw} (h : PlV l r) : rwO l = some r := by
  have hx : ∃ r, PlV l r := ⟨r, h⟩
  unfold rwO
  rw [dif_pos hx, plV_uniq hx.choose_spec h]
theorem rwO_none {l : Str} (h : ¬ isPl l) : rwO l = none := dif_neg h
theorem rwO_of {l : Str} {r : Rw} (h : rwO l = some r) : PlV l r := by
  unfold rwO at h
  by_cases hx : ∃ r, PlV l r
  · rw [dif_pos hx] at h
    rw [← Option.some.inj h]
    exact hx.choose_spec
  · rw [dif_neg hx] at h
    cases h
def StV (l s : Str) : Prop := l = stL s ∧ nmB s = true
theorem stV_uniq {l s t : Str} (h : StV l s) (g : StV l t) : s = t := by
  have h1 := stL_split h.2
  rw [← h.1, g.1, stL_split g.2] at h1
  have := congrArg (fun l : List Str => l[2]?) h1
  exact (Option.some.inj this).symm
open Classical in
noncomputable def stO (l : Str) : Option Str := if h : ∃ s, StV l s then some h.choose else none
theorem stO_some {l s : Str} (h : StV l s) : stO l = some s := by
  have hx : ∃ s, StV l s := ⟨s, h⟩
  unfold stO
  rw [dif_pos hx, stV_uniq hx.choose_spec h]
theorem stO_none {l : Str} (h : ¬ ∃ s, StV l s) : stO l = none := dif_neg h
open Classical in
/-- the number of the line that is wrong; k lines stand before, hs are the places told, kn the names known -/
noncomputable def wrF : Nat → List Str → List Str → List Str → Option Nat
  | k, _, _, [] => some (k + 1)
  | k, hs, kn, l :: r => match rwO l with
    | none => if isSm l ∧ hs.length = kn.length then (if r = [] then none else some (k + 2)) else some (k + 1)
    | some q => if q.z ∈ hs ∨ 6 < (wN kn (q.z :: q.ns)).length then some (k + 1) else wrF (k + 1) (hs ++ [q.z]) (wN kn (q.z :: q.ns)) r
noncomputable def wrL : List Str → Option Nat
  | [] => some 1
  | l :: r => match stO l with
    | none => some 1
    | some s => wrF 1 [] [s] r
noncomputable def wrZ (z : Str) : Option Nat := if 1000 < z.length then some 0 else wrL (Txt.split z "\n")
theorem wrF_no {k : Nat} {hs kn : List Str} {l : Str} {r : List Str} (h : ¬ isPl l) (g : ¬ (isSm l ∧ hs.length = kn.length)) : wrF k hs kn (l :: r) = some (k + 1) := by
  rw [wrF, rwO_none h]
  exact if_neg g
open Classical in
theorem wrF_end {k : Nat} {hs kn : List Str} {l : Str} (h : isSm l) (g : hs.length = kn.length) : wrF k hs kn [l] = none := by
  rw [wrF, rwO_none (sm_not_pl h)]
  show (if isSm l ∧ hs.length = kn.length then (if ([] : List Str) = [] then none else some (k + 2)) else some (k + 1)) = none
  rw [if_pos ⟨h, g⟩, if_pos rfl]
open Classical in
theorem wrF_more {k : Nat} {hs kn : List Str} {l : Str} {r : List Str} (h : isSm l) (g : hs.length = kn.length) (hr : r ≠ []) : wrF k hs kn (l :: r) = some (k + 2) := by
  rw [wrF, rwO_none (sm_not_pl h)]
  show (if isSm l ∧ hs.length = kn.length then (if r = [] then none else some (k + 2)) else some (k + 1)) = some (k + 2)
  rw [if_pos ⟨h, g⟩, if_neg hr]
theorem wrF_bad {k : Nat} {hs kn : List Str} {l : Str} {r : List Str} {q : Rw} (h : PlV l q) (g : q.z ∈ hs ∨ 6 < (wN kn (q.z :: q.ns)).length) : wrF k hs kn (l :: r) = some (k + 1) := by
  rw [wrF, rwO_some h]
  exact if_pos g
theorem wrF_pl {k : Nat} {hs kn : List Str} {l : Str} {r : List Str} {q : Rw} (h : PlV l q) (g : ¬ (q.z ∈ hs ∨ 6 < (wN kn (q.z :: q.ns)).length)) : wrF k hs kn (l :: r) = wrF (k + 1) (hs ++ [q.z]) (wN kn (q.z :: q.ns)) r := by
  rw [wrF, rwO_some h]
  exact if_neg g
/-- what read tells of z -/
structure RdOk (z st : Str) (rs : List Rw) (n i : Int) (f : V) : Prop where
  e : z = pgT st rs n i f
  hr : ∀ r ∈ rs, RwOk r
  hst : st ∈ rs.map (·.z)
  n1 : 1 ≤ n
  n8 : n ≤ 8
  i0 : 0 ≤ i
  i1 : i ≤ n - 1
  hf : PhOk f n
theorem nmL_mem {st : Str} {rs : List Rw} {v : Str} : v ∈ nmL st rs ↔ v = st ∨ ∃ r ∈ rs, v = r.z ∨ v ∈ r.ns := by
  have := (wNs rs [st] (by simp)).2 v
  rw [List.mem_singleton] at this
  exact this
/-- as many names as places: each is a place -/
theorem nmL_eq {st : Str} {rs : List Rw} (nd : (rs.map (·.z)).Nodup) (e : rs.length = (nmL st rs).length) {v : Str} (h : v ∈ nmL st rs) : v ∈ rs.map (·.z) := by
  by_cases hv : v ∈ rs.map (·.z)
  · exact hv
  · have h1 : (v :: rs.map (·.z)).Nodup := List.nodup_cons.mpr ⟨hv, nd⟩
    have h2 := nodup_le1 h1 (u := nmL st rs) fun x hx => by
      rcases List.mem_cons.mp hx with rfl | hx
      · exact h
      · obtain ⟨r, hr, rfl⟩ := List.mem_map.mp hx
        exact nmL_mem.mpr (.inr ⟨r, hr, .inl rfl⟩)
    rw [List.length_cons, List.length_map] at h2
    omega
theorem sc_read : FnScope ["text", "lines", "start", "rows", "names", "number", "line", "sampler", "row"] ["text"] (defScope s_read) := ⟨rfl, rfl, rfl, by decide +kernel, rfl, by decide +kernel, by decide +kernel⟩
-- slots: 0 text, 1 lines, 2 start, 3 rows, 4 names, 5 number, 6 line, 7 sampler, 8 row
def spRd (K : PySem.W.Frag) : Sp := fun vs H Q E => ∃ x, vs = [x] ∧ ((OddS H x ∧ ErT K E H 0) ∨ ∃ z : Str, x = .str z ∧ z.length + 2 ≤ sizeLine ∧ (∀ n, wrZ z = some n → ErT K E H (n : Int)) ∧
  (wrZ z = none → ∀ st rs n i f, RdOk z st rs n i f → ∀ H' t g p xs dx tn dP dN, Same H H' → H t = none → H' t = some (.tup [.ref g, .ref p]) → PgA K H' g xs st dx tn dP dN → xs.map (·.2.2) = rs → SaA (CS K) H' p n i f → Q (.ref t) H'))
theorem ok_read {fd : FuncData} (F : FnD K ("read", none) "read" "read" s_read fd) (T : TTxt K mg) (O_lines_of : OkF P w K mg base (L2.CX P w) 3 "lines_of" ["text", "most"] (spLno K)) (O_start_told : OkF P w K mg base CX0 2 "start_told" ["line"] spSto) (O_sampler_told : OkF P w K mg base CX0 6 "sampler_told" ["line"] (spSmt K)) (O_check_end : OkF P w K mg base (L2.CX P w) 3 "check_end" ["lines", "number"] (spCke K))
    (O_place_told : OkF P w K mg base CX0 6 "place_told" ["line"] (spPlt K)) (O_program_with : OkF P w K mg base (L2.CX P w) 7 "program_with" ["rows", "start"] (spPgw K)) (O_with_names : OkF P w K mg base CX0 1 "with_names" ["names", "more"] spWn) (O_BadText_init : OkD P w K mg base CX0 1 ("BadText", some "__init__") ["self", "line"] [] (spExI K (He.ga K "BadText") "line")) : OkF P w K mg base (L2.CX P w) 8 "read" ["text"] (spRd K) := by
  refine okd F (F.ok sc_read (fun vs H Q E h => ?_) fun cdv A outer s H vs Q E hr h => ?_) fun _ _ _ _ _ _ us hl => match us, hl with | [_], _ => rfl
  · obtain ⟨x, rfl, _⟩ := h
    rfl
  · obtain ⟨x, rfl, h⟩ := h
    refine ⟨_, (pss_cons (ps_set (i := 1) sc_read.nd rfl (Or.inl rfl) (c_fn O_lines_of hr (by decide) T.g_lines_of (passUp rfl rfl rfl rfl) (pa_cons (pv 0) (pa_cons (c_gint T.i_MOST_TEXT) pa_nil))))
  (pss_cons (ps_set (i := 2) sc_read.nd rfl (Or.inl rfl) (c_fn O_start_told hr (by decide) T.g_start_told pass0 (pa_cons (pe_ix ix_list (pv 1) pe_int (fun _ _ => rfl)) pa_nil)))
  (pss_cons (ps_if (pt_cmpR op_isN (pv 2) pe_non (nomark _)) (pss_one (c_raise T.x_BadText O_BadText_init hr (by decide) T.g_BadText (takes_of rfl rfl rfl rfl) (pa_cons pe_int pa_nil)))
  pss_nil)
  (pss_cons (ps_set (i := 3) sc_read.nd rfl (Or.inl rfl) pe_dnewK)
  (pss_cons (ps_set (i := 4) sc_read.nd rfl (Or.inl rfl) (pe_lst (pa_cons (pv 2) pa_nil)))
  (pss_cons (ps_for (passes_of rfl) rfl (pi_enumS (by rfl) T.z_enumerate (pa_cons (pe_slice sl_list (pv 1) (po_some pe_int) po_none) pa_nil) (pk_cons pe_int pk_nil)) (pg_tup rfl (pgs_cons (pg_name (i := 5) sc_read.nd rfl (Or.inl rfl)) (pgs_cons (pg_name (i := 6) sc_read.nd rfl (Or.inl rfl)) pgs_nil)))
  (pss_cons (ps_set (i := 7) sc_read.nd rfl (Or.inl rfl) (c_fn O_sampler_told hr (by decide) T.g_sampler_told pass0 (pa_cons (pv 6) pa_nil)))
  (pss_cons (ps_if (PW.pt (pw_andB (pt_cmpR op_notN (pv 7) pe_non (nomark _)) (pw_and1 (pt_cmpR op_eq (pe_callB call_lenD (by rfl) T.z_len (by decide +kernel) (pa_cons (pv 3) pa_nil)) (pe_callB (id := "len") call_len_seq (by rfl) T.z_len (by decide +kernel) (pa_cons (pv 4) pa_nil)) (nomark _))))) (pss_cons (ps_expr (c_fn O_check_end hr (by decide) T.g_check_end (passUp rfl rfl rfl rfl) (pa_cons (pv 1) (pa_cons (pv 5) pa_nil))))
  (pss_one (ps_ret (pe_tup (pa_cons (c_fn O_program_with hr (by decide) T.g_program_with passL (pa_cons (pv 3) (pa_cons (pv 2) pa_nil))) (pa_cons (pv 7) pa_nil))))))
  pss_nil)
  (pss_cons (ps_set (i := 8) sc_read.nd rfl (Or.inl rfl) (c_fn O_place_told hr (by decide) T.g_place_told pass0 (pa_cons (pv 6) pa_nil)))
  (pss_cons (ps_if (PW.pt (pw_orB (pt_cmpR op_isN (pv 8) pe_non (nomark _)) (pw_or1 (pt_cmp (pc_din (hu_of hr) (pe_fld (pe_ix ix_tup (pv 8) pe_int (fun _ _ => rfl)) rfl) (pv 3)) rfl)))) (pss_one (c_raise T.x_BadText O_BadText_init hr (by decide) T.g_BadText (takes_of rfl rfl rfl rfl) (pa_cons (pv 5) pa_nil)))
  pss_nil)
  (pss_cons (ps_dput (hu_of hr) (pv 3) (pe_fld (pe_ix ix_tup (pv 8) pe_int (fun _ _ => rfl)) rfl) (pv 8) rfl)
  (pss_cons (ps_set (i := 4) sc_read.nd rfl (Or.inl rfl) (c_fn O_with_names hr (by decide) T.g_with_names pass0 (pa_cons (pv 4) (pa_cons (pe_op op_catA (pe_tup (pa_cons (pe_fld (pe_ix ix_tup (pv 8) pe_int (fun _ _ => rfl)) rfl) pa_nil)) (pe_ix ix_tup (pv 8) pe_int (fun _ _ => rfl))) pa_nil))))
  (pss_one (ps_if (pt_cmpR op_gt (pe_callB (id := "len") call_len_seq (by rfl) T.z_len (by decide +kernel) (pa_cons (pv 4) pa_nil)) (c_gint T.i_MOST_PLACES) (nomark _)) (pss_one (c_raise T.x_BadText O_BadText_init hr (by decide) T.g_BadText (takes_of rfl rfl rfl rfl) (pa_cons (pv 5) pa_nil)))
  pss_nil)))))))))
  (pss_one (c_raise T.x_BadText O_BadText_init hr (by decide) T.g_BadText (takes_of rfl rfl rfl rfl) (pa_cons (pe_op op_add (pe_callB (id := "len") call_len_seq (by rfl) T.z_len (by decide +kernel) (pa_cons (pv 1) pa_nil)) pe_int) pa_nil))))))))), ?_⟩
    rcases h with ⟨o, kE⟩ | ⟨z, rfl, hz, kE, k⟩
    · exact ⟨_, rfl, x, 1000, rfl, .inr ⟨o, kE⟩⟩
    by_cases hlong : 1000 < z.length
    · exact ⟨_, rfl, .str z, 1000, rfl, .inl ⟨z, rfl, hz, .inr ⟨by omega, kE 0 (by unfold wrZ; rw [if_pos hlong])⟩⟩⟩
    have ez1 : wrZ z = wrL (Txt.split z "\n") := by
      unfold wrZ
      rw [if_neg hlong]
    refine ⟨_, rfl, .str z, 1000, rfl, .inl ⟨z, rfl, hz, .inl ⟨by omega, fun H1 LI sm1 nLI hLI => ?_⟩⟩⟩
    have hsh : ∀ w ∈ Txt.split z "\n", w.length ≤ 1000 := fun w hw => by
      have := PyProof.Rows.part_short hw
      omega
    have hj := PySem.StrLaws.join_split z "\n"
    obtain ⟨l0, r, hsp⟩ : ∃ l0 r, Txt.split z "\n" = l0 :: r := by
      cases e : Txt.split z "\n" with
      | nil =>
        have := PyProof.Rows.split_pos z "\n"
        rw [e] at this
        exact absurd this (by decide)
      | cons a b => exact ⟨a, b, rfl⟩
    have hrl : r.length ≤ 1001 := by
      have := PyProof.Rows.split_le z "\n"
      rw [hsp, List.length_cons] at this
      omega
    rw [hsp] at hLI hsh hj ez1
    have h0 := hsh l0 List.mem_cons_self
    have big : 100000 ≤ sizeLine := by decide
    refine ⟨_, rfl, LI, _, 0, .str l0, rfl, rfl, SqL.of hLI, atI0, l0, rfl, h0, ?_⟩
    rcases Classical.em (∃ s, StV l0 s) with ⟨st, hst⟩ | hph
    · have ez : wrZ z = wrF 1 [] [st] r := by rw [ez1, wrL, stO_some hst]
      refine .inl ⟨st, hst.1, hst.2, fun H2 sm2 => ?_⟩
      refine ⟨_, rfl, rfl, false, rfl, iteF fun R nR => ?_⟩
      have hLI2 := sm2 _ _ hLI
      replace sm2 := sm1.trans sm2
      have nR0 := none_of sm2 nR
      have nLR : LI ≠ R := ne_of_none hLI2 nR
      have hR3 : RdA K (upd H2 R (.dK [])) R [] := ⟨upd_same, (fun _ h => nomatch h), (fun _ h => nomatch h), fun _ h => nomatch h⟩
      have sm3 := sm2.trans (same_new (o := .dK []) nR)
      have hLI3 := same_new (o := .dK []) nR _ _ hLI2
      generalize upd H2 R (.dK []) = H3 at hR3 sm3 hLI3 ⊢
      clear sm1 sm2 hLI hLI2 nR nLI
      refine ⟨_, rfl, (by show 1 ≤ sizeLine; decide), fun F0 nF0 => ?_⟩
      have nRF0 : R ≠ F0 := ne_of_none hR3.hD nF0
      have s4 := same_new (o := .lst [.str st]) nF0
      have hF4 := upd_same (H := H3) (a := F0) (o := .lst [.str st])
      have hR4 := hR3.ext s4
      have hLI4 := s4 _ _ hLI3
      have sm4 := sm3.trans s4
      generalize upd H3 F0 (.lst [.str st]) = H4 at s4 hF4 hR4 hLI4 sm4 ⊢
      clear sm3 hLI3 hR3 nF0 s4 H3 H1
      refine ⟨_, rfl, 1, rfl, LI, _, rfl, SqL.of hLI4, fun PL nPL => ?_⟩
      have ecut : cutV (List.map V.str (l0 :: r)) (some 1) none = r.map V.str := by
        have := cutV_frI (xs := List.map V.str (l0 :: r)) (r := 1) (by decide) (by rw [List.length_map, List.length_cons]; exact Nat.le_add_left 1 _)
        exact this
      rw [ecut]
      have s5 := same_new (o := .lst (r.map V.str)) nPL
      have hPL := upd_same (H := H4) (a := PL) (o := .lst (r.map V.str))
      have nPR : PL ≠ R := (ne_of_none hR4.hD nPL).symm
      have hLI5 := s5 _ _ hLI4
      have hR5 := hR4.ext s5
      have hF5 := s5 _ _ hF4
      have sm5 := sm4.trans s5
      show ∃ a xs c, _
      generalize upd H4 PL (.lst (r.map V.str)) = H5 at sm5 hPL hLI5 hR5 hF5 ⊢
      clear s5 hLI4 hR4 hF4 sm4 nPL H4
      refine ⟨PL, _, 2, rfl, rfl, by decide, by decide, SqL.of hPL, for_it walk_enumS (fun j σ H' => j ≤ r.length ∧ SameX R H5 H' ∧ ∃ (ys : List PgT) (F : Addr), RdA K H' R ys ∧ ys.length = j ∧ r.take j = (ys.map (·.1.2.2)).map plL ∧ (∀ y ∈ ys, RwOk y.1.2.2) ∧ (zsY ys).Nodup ∧ (nmL st (ys.map (·.1.2.2))).length ≤ 6 ∧ H' F = some (.lst ((nmL st (ys.map (·.1.2.2))).map V.str)) ∧ F ≠ R ∧ wrF 1 [] [st] r = wrF (1 + j) (zsY ys) (nmL st (ys.map (·.1.2.2))) (r.drop j) ∧ ∃ v5 v6 v7 v8 : Option V, σ = [some (.str z), some (.ref LI), some (.str st), some (.ref R), some (.ref F), v5, v6, v7, v8]) ⟨Nat.zero_le _, fun _ _ _ e => e, [], F0, hR5, rfl, rfl, (fun _ h => nomatch h), List.nodup_nil, (by show 1 ≤ 6; decide), hF5, nRF0.symm, rfl, none, none, none, none, rfl⟩ (fun j σ H' _ h => SqL.of (h.2.1 _ _ nPR hPL)) ?_ ?_⟩
      · rintro j x σ H6 H7 hj' ⟨hjs, sx, ys, F, hR6, hyl, htk, hok, hnd, h6, hF6, nFR, hw, v5, v6, v7, v8, rfl⟩ hy
        rw [List.length_map] at hj'
        obtain ⟨T', x', y', rfl, nT', rfl, hx', hz'⟩ := hy
        cases (Option.some.inj hx')
        replace hz' : (r.map V.str)[j]? = some y' := hz'
        have hlj : r[j]? = some r[j] := List.getElem?_eq_getElem hj'
        have hdr : r.drop j = r[j] :: r.drop (j + 1) := List.drop_eq_getElem_cons hj'
        generalize r[j] = l at hlj hdr
        obtain rfl : y' = .str l := by
          rw [List.getElem?_map, hlj] at hz'
          exact (Option.some.inj hz').symm
        have hll := hsh l (List.mem_cons_of_mem _ (List.mem_of_getElem? hlj))
        have sT0 := same_new (o := .tup [.int (2 + (j : Nat)), .str l]) nT'
        have hT := upd_same (H := H6) (a := T') (o := .tup [.int (2 + (j : Nat)), .str l])
        have sx7 : SameX R H5 (upd H6 T' (.tup [.int (2 + (j : Nat)), .str l])) := sx.trans (same_x sT0)
        have hR7 := hR6.ext sT0
        have hF7 := sT0 _ _ hF6
        generalize upd H6 T' (.tup [.int (2 + (j : Nat)), .str l]) = H7 at hT sx7 hR7 hF7 ⊢
        clear sT0 nT' sx hR6 hF6 hx' H6
        refine ⟨T', _, rfl, SqT.of hT, rfl, _, _, rfl, _, _, rfl, rfl, ?_⟩
        show tSeq _ _ _ [some (.str z), some (.ref LI), some (.str st), some (.ref R), some (.ref F), some (.int (2 + (j : Nat))), some (.str l), v7, v8] H7
        have hsame : ∀ {X}, SameX R H5 X → Same H X := fun sx p o e => sx _ _ (ne_of_none e nR0) (sm5 _ _ e)
        have upE : ∀ {X n}, SameX R H5 X → ErT K E H n → ErT K E X n := fun sx e => e.up (hsame sx)
        rw [hdr] at hw
        have hkl : (kvY ys).length = j := by
          unfold kvY
          rw [List.length_map, hyl]
        have hzl : (zsY ys).length = j := by
          unfold zsY
          rw [List.length_map, hyl]
        -- what no place is
        have wrong : ¬ isPl l → ¬ (isSm l ∧ j = (nmL st (ys.map (·.1.2.2))).length) → wrZ z = some (1 + j + 1) := fun a b => by
          rw [ez, hw]
          exact wrF_no a (by rw [hzl]; exact b)
        generalize hkn : nmL st (ys.map (·.1.2.2)) = kn at hF7 hw h6 wrong
        by_cases hpl : isPl l
        · obtain ⟨q, hq⟩ := hpl
          have hok2 := hq.2
          refine ⟨_, rfl, l, rfl, hll, .inr ⟨fun n i f h => sm_not_pl ⟨n, i, f, h⟩ ⟨q, hq⟩, fun H8 s8 => ?_⟩⟩
          refine ⟨_, rfl, rfl, false, rfl, false, (· = H8), (fun c => Bool.noConfusion c), fun _ => rfl, fun H9 e => ?_⟩
          subst e
          refine iteF ?_
          refine ⟨_, rfl, l, rfl, hll, .inl ⟨q, hq, fun H10 t p u s10 ht hp hu => ?_⟩⟩
          have s710 := s8.trans s10
          have hR10 := hR7.ext s710
          have hF10 := s710 _ _ hF7
          have sx10 := sx7.trans (same_x s710)
          obtain ⟨dxp, hp0⟩ := id hp
          by_cases hzn : q.z ∈ zsY ys
          · obtain ⟨y, hy, ey⟩ := List.mem_map.mp hzn
            obtain ⟨iy, hiy⟩ := List.mem_iff_getElem?.mp hy
            have hval := valY hnd hiy
            have ey : y.1.2.2.z = q.z := ey
            rw [ey] at hval
            have hw : wrZ z = some (1 + j + 1) := by rw [ez, hw]; exact wrF_bad hq (.inl hzn)
            refine ⟨_, rfl, rfl, false, rfl, true, (· = H10), fun _ => ⟨_, rfl, t, _, 0, .ref p, rfl, rfl, SqT.of ht, atI0, p, _, dxp, _, _, rfl, hp0, T.c_Place, T.nN, plf_name .., _, rfl, R, some (.ref y.2), rfl, .inl ⟨_, Sum.inr q.z, .inl hR10.hD, rfl, hval.symm⟩, true, rfl, rfl, rfl⟩, (fun c => Bool.noConfusion c), fun H11 e => ?_⟩
            subst e
            refine iteT ⟨_, rfl, _, rfl, fun d nd => ?_⟩
            have := upE sx10 (kE _ hw) _ d (Same.refl _) nd
            rw [show ((1 + j + 1 : Nat) : Int) = 2 + (j : Int) by omega] at this
            exact this
          · refine ⟨_, rfl, rfl, false, rfl, false, (· = H10), fun _ => ⟨_, rfl, t, _, 0, .ref p, rfl, rfl, SqT.of ht, atI0, p, _, dxp, _, _, rfl, hp0, T.c_Place, T.nN, plf_name .., _, rfl, R, none, rfl, .inl ⟨_, Sum.inr q.z, .inl hR10.hD, rfl, (missY hzn).symm⟩, false, rfl, rfl, rfl⟩, (fun c => Bool.noConfusion c), fun H11 e => ?_⟩
            subst e
            refine iteF ?_
            refine ⟨_, rfl, _, rfl, _, rfl, t, _, 0, .ref p, rfl, rfl, SqT.of ht, atI0, p, _, dxp, _, _, rfl, hp0, T.c_Place, T.nN, plf_name .., R, _, rfl, .inl ⟨_, Sum.inr q.z, hR10.hD, rfl, ?_, rfl⟩, ?_⟩
            · rw [hkl]
              exact Nat.lt_of_le_of_lt (show j ≤ 2000 by omega) (by decide)
            have hR12 := hR10.put (x := (p, u, q)) (t := t) ht hp hu hzn
            have ntR : t ≠ R := fun e => by rw [e, hR10.hD] at ht; cases ht
            have nuR : u ≠ R := fun e => by rw [e, hR10.hD] at hu; cases hu
            have npR : p ≠ R := fun e => by rw [e, hR10.hD] at hp0; cases hp0
            have ht12 : (upd H11 R (.dK (putK (kvY ys) (Sum.inr q.z) (.ref t)))) t = some (.tup [.ref p, .ref u]) := by rw [upd_ne ntR]; exact ht
            have hu12 : (upd H11 R (.dK (putK (kvY ys) (Sum.inr q.z) (.ref t)))) u = some (.tup (q.ns.map V.str)) := by rw [upd_ne nuR]; exact hu
            have hp12 : (upd H11 R (.dK (putK (kvY ys) (Sum.inr q.z) (.ref t)))) p = some (.ins (CP K) dxp (plf q.z q.l q.m q.b)) := by rw [upd_ne npR]; exact hp0
            have hF12 : (upd H11 R (.dK (putK (kvY ys) (Sum.inr q.z) (.ref t)))) F = some (.lst (kn.map V.str)) := by rw [upd_ne nFR]; exact hF10
            have sx12 : SameX R H5 (upd H11 R (.dK (putK (kvY ys) (Sum.inr q.z) (.ref t)))) := sx10.trans SameX.upd
            generalize upd H11 R (.dK (putK (kvY ys) (Sum.inr q.z) (.ref t))) = H12 at hR12 ht12 hu12 hp12 hF12 sx12 ⊢
            have fin : ∀ {H14 : Hp} {F2 : Addr}, Same H12 H14 → H12 F2 = none → H14 F2 = some (.lst ((wN kn (q.z :: q.ns)).map V.str)) → F2 ≠ R := fun s n h e => by rw [e, hR12.hD] at n; cases n
            have hlw : kn.length + (q.z :: q.ns).length ≤ 2000 := by
              have h2 := hok2.2.2.2.2.2.2
              rw [List.length_cons]
              omega
            have hnew : ¬ 6 < (wN kn (q.z :: q.ns)).length → ∀ {H14 : Hp} {F2 : Addr}, Same H12 H14 → F2 ≠ R → H14 F2 = some (.lst ((wN kn (q.z :: q.ns)).map V.str)) → j + 1 ≤ r.length ∧ SameX R H5 H14 ∧ ∃ (ys' : List PgT) (F' : Addr), RdA K H14 R ys' ∧ ys'.length = j + 1 ∧ r.take (j + 1) = (ys'.map (·.1.2.2)).map plL ∧ (∀ y ∈ ys', RwOk y.1.2.2) ∧ (zsY ys').Nodup ∧ (nmL st (ys'.map (·.1.2.2))).length ≤ 6 ∧ H14 F' = some (.lst ((nmL st (ys'.map (·.1.2.2))).map V.str)) ∧ F' ≠ R ∧ wrF 1 [] [st] r = wrF (1 + (j + 1)) (zsY ys') (nmL st (ys'.map (·.1.2.2))) (r.drop (j + 1)) ∧ F' = F2 := fun hn6 H14 F2 s14 nF2 hF2 => by
              have e1 : (ys ++ [((p, u, q), t)]).map (fun y : PgT => y.1.2.2) = ys.map (·.1.2.2) ++ [q] := by rw [List.map_append]; rfl
              have e2 : nmL st ((ys ++ [((p, u, q), t)]).map (fun y : PgT => y.1.2.2)) = wN kn (q.z :: q.ns) := by rw [e1, nmL_add, hkn]
              have e3 : zsY (ys ++ [((p, u, q), t)]) = zsY ys ++ [q.z] := by unfold zsY; rw [List.map_append]; rfl
              refine ⟨hj', sx12.trans (same_x s14), ys ++ [((p, u, q), t)], F2, hR12.ext s14, by rw [List.length_append, hyl]; rfl, ?_, ?_, ?_, ?_, ?_, nF2, ?_, rfl⟩
              · rw [List.take_add_one, hlj, htk, e1, List.map_append, hq.1]
                rfl
              · intro y hy
                rcases List.mem_append.mp hy with hy | hy
                · exact hok y hy
                · rw [List.mem_singleton.mp hy]
                  exact hok2
              · rw [e3]
                exact nodup_add1 hnd hzn
              · rw [e2]
                omega
              · rw [e2]
                exact hF2
              · rw [hw, wrF_pl hq (fun h => h.elim hzn hn6), e2, e3]
                rfl
            clear hF7 hR7 hR10 hF10 hp hp0 ht hu hT
            refine ⟨_, rfl, _, rfl, t, _, 0, .ref p, rfl, rfl, SqT.of ht12, atI0, p, _, dxp, _, _, rfl, hp12, T.c_Place, T.nN, plf_name .., (by show 1 ≤ sizeLine; decide), fun u1 nu1 => ?_⟩
            have s13 := same_new (o := .tup [.str q.z]) nu1
            have hu13 := upd_same (H := H12) (a := u1) (o := .tup [.str q.z])
            have ht13 := s13 _ _ ht12
            have hq13 := s13 _ _ hu12
            have hF13 := s13 _ _ hF12
            generalize upd H12 u1 (.tup [.str q.z]) = H13 at s13 hu13 ht13 hq13 hF13 ⊢
            refine ⟨_, rfl, t, _, 1, .ref u, rfl, rfl, SqT.of ht13, atI1, ?_⟩
            refine ⟨u1, u, [.str q.z], q.ns.map V.str, rfl, rfl, SqT.of hu13, SqT.of hq13, ?_, (fun e => by cases e), fun _ e => ?_, fun _ _ u2 nu2 => ?_⟩
            · rw [List.length_map]
              exact Nat.le_trans (show 1 + q.ns.length ≤ 2000 by have := hok2.2.2.2.2.2.2; omega) (by decide)
            · have hu : H13 u1 = some (.tup ((q.z :: q.ns).map V.str)) := by
                rw [hu13, List.map_cons, e]
              refine ⟨F, u1, kn, q.z :: q.ns, rfl, hF13, hu, hlw, fun H14 F2 s14 nF2 hF2 => ?_⟩
              have nF2' := fin (s13.trans s14) (none_of s13 nF2) hF2
              replace s14 := s13.trans s14
              refine ⟨_, rfl, F2, _, rfl, .inl (SqL.of hF2), _, _, rfl, rfl, _, rfl, ?_⟩
              rw [List.length_map]
              by_cases hn6 : 6 < (wN kn (q.z :: q.ns)).length
              · rw [decide_eq_true (by omega)]
                have hw : wrZ z = some (1 + j + 1) := by rw [ez, hw]; exact wrF_bad hq (.inr hn6)
                refine iteT ⟨_, rfl, _, rfl, fun d nd => ?_⟩
                have := upE (sx12.trans (same_x s14)) (kE _ hw) _ d (Same.refl _) nd
                rw [show ((1 + j + 1 : Nat) : Int) = 2 + (j : Int) by omega] at this
                exact this
              · rw [decide_eq_false (by omega)]
                obtain ⟨g1, g2, ys', F', g3, g4, g5, g6, g7, g8, g9, g10, g11, rfl⟩ := hnew hn6 s14 nF2' hF2
                exact iteF ⟨g1, g2, ys', F', g3, g4, g5, g6, g7, g8, g9, g10, g11, _, _, _, _, rfl⟩
            · have s15 := same_new (o := .tup ([.str q.z] ++ q.ns.map V.str)) nu2
              have hu : (upd H13 u2 (.tup ([.str q.z] ++ q.ns.map V.str))) u2 = some (.tup ((q.z :: q.ns).map V.str)) := by
                rw [upd_same, List.map_cons]
                rfl
              have hF15 := s15 _ _ hF13
              replace s13 := s13.trans s15
              generalize upd H13 u2 (.tup ([.str q.z] ++ q.ns.map V.str)) = H15 at hu hF15 s13 ⊢
              refine ⟨F, u2, kn, q.z :: q.ns, rfl, hF15, hu, hlw, fun H14 F2 s14 nF2 hF2 => ?_⟩
              have nF2' := fin (s13.trans s14) (none_of s13 nF2) hF2
              replace s14 := s13.trans s14
              refine ⟨_, rfl, F2, _, rfl, .inl (SqL.of hF2), _, _, rfl, rfl, _, rfl, ?_⟩
              rw [List.length_map]
              by_cases hn6 : 6 < (wN kn (q.z :: q.ns)).length
              · rw [decide_eq_true (by omega)]
                have hw : wrZ z = some (1 + j + 1) := by rw [ez, hw]; exact wrF_bad hq (.inr hn6)
                refine iteT ⟨_, rfl, _, rfl, fun d nd => ?_⟩
                have := upE (sx12.trans (same_x s14)) (kE _ hw) _ d (Same.refl _) nd
                rw [show ((1 + j + 1 : Nat) : Int) = 2 + (j : Int) by omega] at this
                exact this
              · rw [decide_eq_false (by omega)]
                obtain ⟨g1, g2, ys', F', g3, g4, g5, g6, g7, g8, g9, g10, g11, rfl⟩ := hnew hn6 s14 nF2' hF2
                exact iteF ⟨g1, g2, ys', F', g3, g4, g5, g6, g7, g8, g9, g10, g11, _, _, _, _, rfl⟩
        · have noplace : ∀ r, ¬ PlV l r := fun r h => hpl ⟨r, h⟩
          by_cases hsm : isSm l
          · obtain ⟨n, i, f, hs⟩ := hsm
            refine ⟨_, rfl, l, rfl, hll, .inl ⟨n, i, f, hs, fun H8 p s8 hp => ?_⟩⟩
            have hR8 := hR7.ext s8
            have hF8 := s8 _ _ hF7
            have sx8 := sx7.trans (same_x s8)
            refine ⟨_, rfl, rfl, true, rfl, decide (V.int ((kvY ys).length : Int) = .int ((kn.map V.str).length : Int)), (· = H8), fun _ => ⟨_, rfl, R, _, rfl, hR8.hD, _, rfl, F, _, rfl, .inl (SqL.of hF8), rfl, _, rfl, rfl, rfl⟩, (fun c => Bool.noConfusion c), fun H9 e => ?_⟩
            subst e
            rw [hkl, List.length_map]
            by_cases hjk : j = kn.length
            · rw [decide_eq_true (by rw [hjk])]
              refine iteT ⟨_, rfl, _, rfl, LI, _, 2 + (j : Int), rfl, sx8 _ _ nLR hLI5, fun hle => ?_, fun hgt => ?_⟩
              · rw [List.length_map, List.length_cons] at hle
                have hnil : r.drop (j + 1) = [] := List.drop_eq_nil_of_le (by omega)
                rw [hnil] at hw
                have hw : wrZ z = none := by rw [ez, hw]; exact wrF_end ⟨n, i, f, hs⟩ (by rw [hzl]; exact hjk)
                have ezs : zsY ys = (ys.map (·.1.2.2)).map (·.z) := by
                  unfold zsY
                  rw [List.map_map]
                  rfl
                have hall : ∀ v ∈ kn, v ∈ zsY ys := fun v hv => by
                  rw [ezs]
                  exact nmL_eq (st := st) (by rw [← ezs]; exact hnd) (by rw [hkn, List.length_map, hyl]; exact hjk) (by rw [hkn]; exact hv)
                have hstm : st ∈ zsY ys := hall _ (by rw [← hkn]; exact nmL_mem.mpr (.inl rfl))
                have hz : z = pgT st (ys.map (·.1.2.2)) n i f := by
                  have h1 : r = (ys.map (·.1.2.2)).map plL ++ [smL n i f] := by
                    rw [← htk, ← hs.1]
                    have := (List.take_append_drop j r).symm
                    rw [hdr, hnil] at this
                    exact this
                  rw [← hj, h1, hst.1]
                  exact (PySem.StrLaws.glued_eq_join _ _).symm
                have hj1 : 1 ≤ j := by
                  have : 0 < (zsY ys).length := List.length_pos_of_mem hstm
                  omega
                refine ⟨_, rfl, _, rfl, R, ys, st, rfl, hR8, hnd, by omega, by omega, hstm, fun y hy => ⟨hok y hy, fun v hv => hall v ?_⟩, fun H10 g dx tn dP dN s10 hg nP nN => ?_⟩
                · rw [← hkn]
                  exact nmL_mem.mpr (.inr ⟨y.1.2.2, List.mem_map_of_mem hy, .inr hv⟩)
                · refine ⟨_, rfl, (by show 2 ≤ sizeLine; decide), fun t nt => ?_⟩
                  have s11 := same_new (o := .tup [.ref g, .ref p]) nt
                  have sH := (hsame sx8).trans s10
                  exact k hw st (ys.map (·.1.2.2)) n i f ⟨hz, (fun r hr => by obtain ⟨y, hy, rfl⟩ := List.mem_map.mp hr; exact hok y hy), by rw [← ezs]; exact hstm, hs.2.1, hs.2.2.1, hs.2.2.2.1, hs.2.2.2.2.1, hs.2.2.2.2.2⟩ _ t g p (ys.map (·.1)) dx tn dP dN (sH.trans s11) (none_of sH nt) upd_same (hg.ext s11) (by rw [List.map_map]; rfl) ((hp.ext s10).ext s11)
              · rw [List.length_map, List.length_cons] at hgt
                have hne : r.drop (j + 1) ≠ [] := fun e => by
                  have := congrArg List.length e
                  rw [List.length_drop] at this
                  simp at this
                  omega
                have hw : wrZ z = some (1 + j + 2) := by rw [ez, hw]; exact wrF_more ⟨n, i, f, hs⟩ (by rw [hzl]; exact hjk) hne
                have := upE sx8 (kE _ hw)
                rw [show ((1 + j + 2 : Nat) : Int) = 2 + (j : Int) + 1 by omega] at this
                exact this
            · rw [decide_eq_false (fun e => hjk (by have := V.int.inj e; omega))]
              refine iteF ?_
              refine ⟨_, rfl, l, rfl, hll, .inr ⟨noplace, fun H10 s10 => ?_⟩⟩
              refine ⟨_, rfl, rfl, true, rfl, true, (· = H10), (fun c => Bool.noConfusion c), fun _ => rfl, fun H11 e => ?_⟩
              subst e
              refine iteT ⟨_, rfl, _, rfl, fun d nd => ?_⟩
              have := upE (sx8.trans (same_x s10)) (kE _ (wrong hpl fun h => hjk h.2)) _ d (Same.refl _) nd
              rw [show ((1 + j + 1 : Nat) : Int) = 2 + (j : Int) by omega] at this
              exact this
          · refine ⟨_, rfl, l, rfl, hll, .inr ⟨fun n i f h => hsm ⟨n, i, f, h⟩, fun H8 s8 => ?_⟩⟩
            refine ⟨_, rfl, rfl, false, rfl, false, (· = H8), (fun c => Bool.noConfusion c), fun _ => rfl, fun H9 e => ?_⟩
            subst e
            refine iteF ?_
            refine ⟨_, rfl, l, rfl, hll, .inr ⟨noplace, fun H10 s10 => ?_⟩⟩
            refine ⟨_, rfl, rfl, true, rfl, true, (· = H10), (fun c => Bool.noConfusion c), fun _ => rfl, fun H11 e => ?_⟩
            subst e
            refine iteT ⟨_, rfl, _, rfl, fun d nd => ?_⟩
            have := upE (sx7.trans (same_x (s8.trans s10))) (kE _ (wrong hpl fun h => hsm h.1)) _ d (Same.refl _) nd
            rw [show ((1 + j + 1 : Nat) : Int) = 2 + (j : Int) by omega] at this
            exact this
      · rintro σ H6 ⟨hjs, sx, ys, F, _, hyl, _, _, _, _, _, _, hw, v5, v6, v7, v8, rfl⟩
        rw [List.length_map] at hw
        rw [List.drop_length] at hw
        have hw : wrZ z = some (1 + r.length + 1) := by rw [ez, hw]; rfl
        refine ⟨_, rfl, LI, _, rfl, .inl (SqL.of (sx _ _ nLR hLI5)), _, _, rfl, rfl, _, rfl, fun d nd => ?_⟩
        have e := (kE _ hw).up (fun p o e => sx _ _ (ne_of_none e nR0) (sm5 _ _ e)) _ d (Same.refl _) nd
        rw [show ((1 + r.length + 1 : Nat) : Int) = ((List.map V.str (l0 :: r)).length : Int) + 1 by rw [List.length_map, List.length_cons]; omega] at e
        exact e
    · have ez : wrZ z = some 1 := by
        rw [ez1, wrL, stO_none hph]
      refine .inr ⟨fun s e => ?_, fun H2 s2 => ?_⟩
      · cases hn : nmB s with
        | false => rfl
        | true => exact absurd ⟨s, e, hn⟩ hph
      · refine ⟨_, rfl, rfl, true, rfl, iteT ⟨_, rfl, fun d nd => ?_⟩⟩
        exact kE 1 ez _ d (sm1.trans s2) nd
end
end K37

set_option Elab.async false
set_option linter.all false
set_option pp.deepTerms.threshold 14
set_option pp.maxSteps 2500
set_option maxRecDepth 100000
set_option maxHeartbeats 2000000
namespace K37
open PySem PySem.Spec PyProof.Rows L2 Vf 
section
variable {P : Program} {w : World} {K : PySem.W.Frag} {mg : Str → Option Value} {base : Heap}
structure Txt (K : PySem.W.Frag) (mg : Str → Option Value) : Prop extends TTxt K mg where
  z_range : mg "range" = none
  g_law_cell : mg "_law_cell" = some (.ref (He.ga K "_law_cell"))
  g_law_take : mg "_law_take" = some (.ref (He.ga K "_law_take"))
  g_law_name : mg "_law_name" = some (.ref (He.ga K "_law_name"))
  g_law_rows : mg "_law_rows" = some (.ref (He.ga K "_law_rows"))
  g_law_spec : mg "_law_spec" = some (.ref (He.ga K "_law_spec"))
  g_law_text : mg "_law_text" = some (.ref (He.ga K "_law_text"))
  g_law_number : mg "_law_number" = some (.ref (He.ga K "_law_number"))
  g_law_is_name : mg "_law_is_name" = some (.ref (He.ga K "_law_is_name"))
  g_law_is_sampler : mg "_law_is_sampler" = some (.ref (He.ga K "_law_is_sampler"))
  g_law_place_line : mg "_law_place_line" = some (.ref (He.ga K "_law_place_line"))
  g_law_wrong_line : mg "_law_wrong_line" = some (.ref (He.ga K "_law_wrong_line"))
  g_law_read : mg "_law_read" = some (.ref (He.ga K "_law_read"))
  g_law_signs : mg "_law_signs" = some (.ref (He.ga K "_law_signs"))
  g_law_lines : mg "_law_lines" = some (.ref (He.ga K "_law_lines"))
  g_law_words : mg "_law_words" = some (.ref (He.ga K "_law_words"))
  g_law_spoiled : mg "_law_spoiled" = some (.ref (He.ga K "_law_spoiled"))
theorem sc_law_take : FnScope ["_law_draw", "_law_size", "_law_taken"] ["_law_draw", "_law_size"] (defScope s_law_take) := ⟨rfl, rfl, rfl, by decide +kernel, rfl, by decide +kernel, by decide +kernel⟩
-- slots: 0 _law_draw, 1 _law_size, 2 _law_taken
theorem ok_law_take {fd : FuncData} (F : FnD K ("_law_take", none) "_law_take" "_law_take" s_law_take fd) (T : Txt K mg) : OkF P w K mg base CX0 1 "_law_take" ["_law_draw", "_law_size"] spTake := by
  refine okd F (F.ok sc_law_take (fun vs H Q E h => ?_) fun cdv A outer s H vs Q E hr h => ?_) fun _ _ _ _ _ _ us hl => match us, hl with | [_, _], _ => rfl
  · obtain ⟨d, n, s, rfl, _⟩ := h
    rfl
  · obtain ⟨d, n, s, rfl, hd, s0, s1, q⟩ := h
    refine ⟨_, PSs.nox (pss_cons (ps_set (i := 2) sc_law_take.nd rfl (Or.inl rfl) (pe_op op_mod (pe_callTy call_int1 (by rfl) T.z_int (by decide +kernel) (pa_cons (pe_ix ix_list (pv 0) pe_int (fun _ _ => rfl)) pa_nil)) (pv 1)))
  (pss_cons (ps_asg (pe_op op_fdiv (pe_ix ix_list (pv 0) pe_int (fun _ _ => rfl)) (pv 1)) (pg_sub (pv 0) pe_int set_list))
  (pss_one (ps_ret (pv 2))))), ?_⟩
    refine ⟨_, rfl, d, [.int n], 0, .int n, rfl, rfl, SqL.of hd, atI0, .inl ⟨n, rfl, _, rfl, n, s, rfl, rfl, s0, ?_⟩⟩
    refine ⟨_, rfl, d, [.int n], 0, .int n, rfl, rfl, SqL.of hd, atI0, _, rfl, n, s, rfl, rfl, ⟨s0, s1⟩, ?_⟩
    refine ⟨_, rfl, d, [.int n], 0, 0, rfl, rfl, hd, ixN0, _, rfl, ?_⟩
    exact q (n % s) (n / s) (Int.emod_nonneg n (by omega)) (Int.emod_lt_of_pos n s0)
theorem sc_law_cell : FnScope ["_law_script", "_law_k", "_law_cell_here", "_law_number_here", "_law_total", "_law_step"] ["_law_script", "_law_k"] (defScope s_law_cell) := ⟨rfl, rfl, rfl, by decide +kernel, rfl, by decide +kernel, by decide +kernel⟩
-- slots: 0 _law_script, 1 _law_k, 2 _law_cell_here, 3 _law_number_here, 4 _law_total, 5 _law_step
theorem ok_law_cell {fd : FuncData} (F : FnD K ("_law_cell", none) "_law_cell" "_law_cell" s_law_cell fd) (T : Txt K mg) : OkF P w K mg base CX0 1 "_law_cell" ["_law_script", "_law_k"] (Vf.spCell K) := by
  refine okd F (F.ok sc_law_cell (fun vs H Q E h => ?_) fun cdv A outer s H vs Q E hr h => ?_) fun _ _ _ _ _ _ us hl => match us, hl with | [_, _], _ => rfl
  · obtain ⟨l, ns, j, rfl, _⟩ := h
    rfl
  · obtain ⟨l, ns, j, rfl, hS, hj, q⟩ := h
    refine ⟨_, PSs.nox (pss_cons (ps_set (i := 2) sc_law_cell.nd rfl (Or.inl rfl) pe_int)
  (C8.pss_cut (ps_if (pt_cmpR op_lt (pv 1) (pe_callB (id := "len") call_len_seq (by rfl) T.z_len (by decide +kernel) (pa_cons (pv 0) pa_nil)) (nomark _)) (pss_one (ps_set (i := 2) sc_law_cell.nd rfl (Or.inl rfl) (pe_ix ix_list (pv 0) (pv 1) (fun _ _ => rfl))))
  pss_nil)
  (pss_cons (ps_if (pt_cmpR op_ge (pv 2) (pe_op op_pow pe_int pe_int) (nomark _)) (pss_one (ps_ret (pv 2)))
  pss_nil)
  (pss_cons (ps_set (i := 3) sc_law_cell.nd rfl (Or.inl rfl) (pe_op op_mod (pe_callTy call_int1 (by rfl) T.z_int (by decide +kernel) (pa_cons (pe_op op_add (pe_op op_add (pe_op op_mul (pv 2) pe_int) (pe_op op_mul (pv 1) pe_int)) pe_int) pa_nil)) pe_int))
  (pss_cons (ps_set (i := 4) sc_law_cell.nd rfl (Or.inl rfl) pe_int)
  (pss_cons (ps_for PassesOwn.never rfl (pi_range1 rfl T.z_range (pa_cons pe_int pa_nil)) (pg_name (i := 5) sc_law_cell.nd rfl (Or.inl rfl))
  (pss_cons (ps_set (i := 3) sc_law_cell.nd rfl (Or.inl rfl) (pe_op op_mod (pe_callTy call_int1 (by rfl) T.z_int (by decide +kernel) (pa_cons (pe_op op_add (pe_op op_add (pe_op op_mul (pv 3) pe_int) (pe_op op_mul (pv 5) pe_int)) pe_int) pa_nil)) pe_int))
  (pss_cons (ps_set (i := 3) sc_law_cell.nd rfl (Or.inl rfl) (pe_op op_mod (pe_callTy call_int1 (by rfl) T.z_int (by decide +kernel) (pa_cons (pe_op op_mul (pv 3) (pe_op op_add (pe_op op_fdiv (pv 3) pe_int) pe_int)) pa_nil)) pe_int))
  (pss_one (ps_set (i := 4) sc_law_cell.nd rfl (Or.inl rfl) (pe_op op_add (pe_op op_mul (pv 4) pe_int) (pv 3)))))))
  (pss_one (ps_ret (pv 4))))))))), ?_⟩
    refine ⟨fun σ' H' => H' = H ∧ ∃ c : Int, σ' = [some (.ref l), some (.int (j : Int)), some (.int c), none, none, none], ?_, ?_⟩
    · refine ⟨_, rfl, _, rfl, l, _, rfl, .inl hS, _, _, rfl, rfl, _, rfl, ite2 (fun hlt => ?_) fun _ => ⟨rfl, 0, rfl⟩⟩
      have hj2 : j < ns.length := by
        have := of_decide_eq_true hlt
        rw [List.length_map] at this
        omega
      refine ⟨_, rfl, _, rfl, l, _, (j : Int), .int ns[j], rfl, rfl, hS, atI_nat ?_, rfl, _, rfl⟩
      rw [List.getElem?_map, List.getElem?_eq_getElem hj2]
      rfl
    rintro σ' H' ⟨rfl, c, rfl⟩
    refine ⟨_, rfl, 10, 18, rfl, rfl, ⟨by decide, by decide, by decide⟩, _, _, rfl, rfl, _, rfl, ite2 (fun _ => ⟨_, rfl, q c⟩) fun _ => ?_⟩
    refine ⟨_, rfl, c, 7, rfl, rfl, .inr ⟨by decide, by decide⟩, _, rfl, (j : Int), 7919, rfl, rfl, .inr ⟨by decide, by decide⟩, _, _, rfl, rfl, _, _, rfl, rfl, .inl ⟨_, rfl, _, 2147483647, rfl, rfl, (by show (0 : Int) < 2147483647; decide), ?_⟩⟩
    refine ⟨8, rfl, by decide, by decide, for_range (lo := 0) (n := 8) (fun i σ H1 => H1 = H' ∧ ∃ (num tot : Int) (v : Option V), 0 ≤ num ∧ num < 2147483647 ∧ σ = [some (.ref l), some (.int (j : Int)), some (.int c), some (.int num), some (.int tot), v]) ?_ ?_ ?_⟩
    · exact ⟨rfl, _, 0, none, Int.emod_nonneg _ (by decide), Int.emod_lt_of_pos _ (by decide), rfl⟩
    · rintro i σ H1 hi ⟨rfl, num, tot, v, h0, h1, rfl⟩
      refine ⟨_, rfl, num, 48271, rfl, rfl, .inr ⟨by decide, by decide⟩, _, rfl, _, 30103, rfl, rfl, .inr ⟨by decide, by decide⟩, _, _, rfl, rfl, _, 11, rfl, rfl, .inl ⟨_, rfl, _, 2147483647, rfl, rfl, (by show (0 : Int) < 2147483647; decide), ?_⟩⟩
      have b0 := Int.emod_nonneg (num * 48271 + (0 + (i : Int)) * 30103 + 11) (b := 2147483647) (by decide)
      have b1 := Int.emod_lt_of_pos (num * 48271 + (0 + (i : Int)) * 30103 + 11) (b := 2147483647) (by decide)
      refine ⟨_, rfl, _, rfl, _, 1009, rfl, rfl, ⟨by decide, by decide⟩, _, 69621, rfl, rfl, _, _, rfl, rfl, .inl ⟨by omega, by omega⟩, .inl ⟨_, rfl, _, 2147483629, rfl, rfl, (by show (0 : Int) < 2147483629; decide), ?_⟩⟩
      refine ⟨_, rfl, tot, 2147483629, rfl, rfl, .inr ⟨by decide, by decide⟩, _, rfl, _, _, rfl, rfl, ?_⟩
      exact ⟨rfl, _, _, _, Int.emod_nonneg _ (by decide), Int.lt_trans (Int.emod_lt_of_pos _ (by decide)) (by decide), rfl⟩
    · rintro σ H1 ⟨rfl, num, tot, v, h0, h1, rfl⟩
      exact ⟨_, rfl, q tot⟩
theorem sc_law_name : FnScope ["_law_draw", "_law_used", "_law_letters", "_law_word", "_law_k", "_law_letter"] ["_law_draw", "_law_used"] (defScope s_law_name) := ⟨rfl, rfl, rfl, by decide +kernel, rfl, by decide +kernel, by decide +kernel⟩
-- slots: 0 _law_draw, 1 _law_used, 2 _law_letters, 3 _law_word, 4 _law_k, 5 _law_letter
/-- a name apart from the used ones -/
def spNam : Sp := fun vs H Q _ => ∃ (d u : Addr) (n : Int) (us : List Str), vs = [.ref d, .ref u] ∧ H d = some (.lst [.int n]) ∧ H u = some (.lst (us.map V.str)) ∧ u ≠ d ∧ us.length ≤ 6 ∧ ∀ H' (m : Int) z, SameX d H H' → H' d = some (.lst [.int m]) → nmB z = true → z.length ≤ 8 → z ∉ us → Q (.str z) H'
def okW (z : Str) (i : Nat) : Prop := z.length = i ∧ ∀ c ∈ z.cps.toList, c ∈ LET.cps.toList
theorem okW_nm {z : Str} {i : Nat} (h : okW z i) (h1 : 1 ≤ i) (h2 : i ≤ 8) (hk : inV (.str z) (KEPT.map V.str) = false) : nmB z = true := by
  unfold nmB
  rw [hk, h.1, decide_eq_true h1, decide_eq_true h2]
  simp only [Bool.true_and, Bool.not_false]
  rw [List.all_eq_true]
  exact fun c hc => decide_eq_true (h.2 c hc)
theorem okW_add {z : Str} {i c : Nat} (h : okW z i) (hc : c ∈ LET.cps.toList) : okW (z ++ ⟨#[c]⟩) (i + 1) := by
  have e : (z ++ (⟨#[c]⟩ : Str)).cps.toList = z.cps.toList ++ [c] := by
    show (z.cps ++ #[c]).toList = _
    simp
  refine ⟨?_, fun y hy => ?_⟩
  · show (z.cps ++ #[c]).size = i + 1
    rw [Array.size_append]
    have := h.1
    simp only [Str.length] at this
    simp [this]
  · rw [e] at hy
    rcases List.mem_append.mp hy with hy | hy
    · exact h.2 y hy
    · rw [List.mem_singleton] at hy
      rw [hy]
      exact hc
theorem let_nm {c : Nat} (h : c ∈ LET.cps.toList) : nmB ⟨#[c]⟩ = true := by
  have a : (LET.cps.toList.all fun c => nmB ⟨#[c]⟩) = true := by decide +kernel
  exact List.all_eq_true.mp a c h
theorem nodup_le {α : Type} [DecidableEq α] : ∀ {l u : List α}, l.Nodup → (∀ x ∈ l, x ∈ u) → l.length ≤ u.length
  | [], _, _, _ => Nat.zero_le _
  | a :: l, u, nd, h => by
    rw [List.nodup_cons] at nd
    have ha := h a (List.mem_cons_self ..)
    have h2 : ∀ x ∈ l, x ∈ u.erase a := fun x hx => by
      have hne : x ≠ a := fun e => nd.1 (e ▸ hx)
      exact (List.mem_erase_of_ne hne).mpr (h x (List.mem_cons_of_mem _ hx))
    have := nodup_le nd.2 h2
    rw [List.length_erase_of_mem ha] at this
    have hp : 0 < u.length := List.length_pos_of_mem ha
    rw [List.length_cons]
    omega
theorem some_letter {us : List Str} (h : us.length ≤ 6) : ¬ ∀ c ∈ LET.cps.toList, (⟨#[c]⟩ : Str) ∈ us := fun hall => by
  have nd : (LET.cps.toList.map fun c => (⟨#[c]⟩ : Str)).Nodup := by decide +kernel
  have := nodup_le nd (u := us) fun x hx => by
    obtain ⟨c, hc, rfl⟩ := List.mem_map.mp hx
    exact hall c hc
  rw [List.length_map] at this
  have e : LET.cps.toList.length = 26 := by decide +kernel
  omega
theorem ok_law_name {fd : FuncData} (F : FnD K ("_law_name", none) "_law_name" "_law_name" s_law_name fd) (T : Txt K mg) (O_law_take : OkF P w K mg base CX0 1 "_law_take" ["_law_draw", "_law_size"] spTake) : OkF P w K mg base CX0 2 "_law_name" ["_law_draw", "_law_used"] spNam := by
  refine okd F (F.ok sc_law_name (fun vs H Q E h => ?_) fun cdv A outer s H vs Q E hr h => ?_) fun _ _ _ _ _ _ us hl => match us, hl with | [_, _], _ => rfl
  · obtain ⟨d, u, n, us, rfl, _⟩ := h
    rfl
  · obtain ⟨d, u, n, us, rfl, hd, hu, nud, hus, k⟩ := h
    refine ⟨_, PSs.nox (pss_cons (ps_set (i := 2) sc_law_name.nd rfl (Or.inl rfl) pe_str)
  (pss_cons (ps_set (i := 3) sc_law_name.nd rfl (Or.inl rfl) pe_str)
  (pss_cons (ps_for PassesOwn.never rfl (pi_range1 rfl T.z_range (pa_cons (pe_op op_add pe_int (c_fn O_law_take hr (by decide) T.g_law_take pass0 (pa_cons (pv 0) (pa_cons pe_int pa_nil)))) pa_nil)) (pg_name (i := 4) sc_law_name.nd rfl (Or.inl rfl))
  (pss_one (ps_set (i := 3) sc_law_name.nd rfl (Or.inl rfl) (pe_op op_add_str (pv 3) (pe_ix ix_str (pv 2) (c_fn O_law_take hr (by decide) T.g_law_take pass0 (pa_cons (pv 0) (pa_cons pe_int pa_nil))) (fun _ _ => rfl))))))
  (pss_cons (ps_if (PW.pt (pw_and (pt_cmpR op_notIn_seq (pv 3) (pv 1) rfl) (pw_and1 (pt_cmpR op_notIn_seq (pv 3) (pe_lst (pa_cons pe_str (pa_cons pe_str (pa_cons pe_str (pa_cons pe_str (pa_cons pe_str pa_nil)))))) rfl)))) (pss_one (ps_ret (pv 3)))
  pss_nil)
  (pss_cons (ps_for PassesOwn.never rfl (pi_str (pv 2)) (pg_name (i := 5) sc_law_name.nd rfl (Or.inl rfl))
  (pss_one (ps_if (pt_cmpR op_notIn_seq (pv 5) (pv 1) rfl) (pss_one (ps_ret (pv 5)))
  pss_nil)))
  (pss_one (ps_ret (pv 3)))))))), ?_⟩
    refine ⟨_, rfl, d, n, 8, rfl, hd, by decide, by decide, fun r m r0 r1 => ⟨1, r, rfl, rfl, 1 + r, rfl, by omega, by omega, ?_⟩⟩
    refine for_range (lo := 0) (n := (1 + r).toNat) (fun i σ H' => SameX d H H' ∧ ∃ (m : Int) (z : Str) (v : Option V), H' d = some (.lst [.int m]) ∧ okW z i ∧ σ = [some (.ref d), some (.ref u), some (.str LET), some (.str z), v, none]) ⟨SameX.upd, m, "", none, upd_same, ⟨rfl, fun _ h => nomatch h⟩, rfl⟩ ?_ ?_
    · rintro i σ H' hi ⟨sg, m, z, v, hd', hw, rfl⟩
      refine ⟨_, rfl, _, rfl, _, rfl, d, m, 26, rfl, hd', by decide, by decide, fun q m2 q0 q1 => ?_⟩
      have hl26 : LET.cps.toList.length = 26 := by decide +kernel
      have hq : q.toNat < LET.cps.toList.length := by omega
      refine ⟨LET, q, LET.cps.toList[q.toNat], rfl, rfl, by decide +kernel, ?_, z, ⟨#[LET.cps.toList[q.toNat]]⟩, rfl, rfl, ?_, ?_⟩
      · have h := atI_nat (List.getElem?_eq_getElem hq)
        rw [Int.toNat_of_nonneg q0] at h
        exact h
      · have := hw.1
        have h1 : (⟨#[LET.cps.toList[q.toNat]]⟩ : Str).length = 1 := rfl
        rw [h1, this]
        exact Nat.le_trans (show i + 1 ≤ 9 by omega) (by decide)
      · exact ⟨sg.trans SameX.upd, m2, _, _, upd_same, okW_add hw (List.getElem_mem hq), rfl⟩
    · rintro σ H' ⟨sg, m, z, v, hd', hw, rfl⟩
      have hu' := sg _ _ nud hu
      have fin := fun H2 z' (s2 : Same H' H2) => k H2 m z' (sg.trans (same_x s2)) (s2 _ _ hd')
      -- the letters
      have letters : ∀ H2 : Hp, Same H' H2 → ∀ v : Option V, ∃ W : Nat → Nat → L2.St → Hp → Prop, True := fun _ _ _ => ⟨fun _ _ _ _ => True, trivial⟩
      clear letters
      refine ⟨_, rfl, _, rfl, u, _, rfl, .inl (SqL.of hu'), rfl, flat_str us, _, rfl, ?_⟩
      rw [inV_str]
      by_cases hz : z ∈ us
      · rw [decide_eq_true hz]
        refine iteF ⟨_, rfl, LET, rfl, for_it walk_str (fun i σ' H2 => H2 = H' ∧ (∀ j c, j < i → LET.cps[j]? = some c → (⟨#[c]⟩ : Str) ∈ us) ∧ ∃ v2, σ' = [some (.ref d), some (.ref u), some (.str LET), some (.str z), v, v2]) ⟨rfl, (fun j c h => absurd h (Nat.not_lt_zero _)), _, rfl⟩ (fun _ _ _ _ _ => trivial) ?_ ?_⟩
        · rintro i x σ' H2 H3 hi ⟨rfl, hin, v2, rfl⟩ ⟨rfl, c, hc, rfl⟩
          have hcm : c ∈ LET.cps.toList := by
            have : LET.cps.toList[i]? = some c := by simpa using hc
            exact List.mem_of_getElem? this
          refine ⟨_, rfl, _, rfl, u, _, rfl, .inl (SqL.of hu'), rfl, flat_str us, _, rfl, ?_⟩
          rw [inV_str]
          by_cases hcu : (⟨#[c]⟩ : Str) ∈ us
          · rw [decide_eq_true hcu]
            refine iteF ⟨rfl, fun j c' hj hc' => ?_, _, rfl⟩
            by_cases hji : j = i
            · subst hji
              rw [hc] at hc'
              cases hc'
              exact hcu
            · exact hin j c' (by omega) hc'
          · rw [decide_eq_false hcu]
            exact iteT ⟨_, rfl, fin _ _ (Same.refl _) (let_nm hcm) (show 1 ≤ 8 by decide) hcu⟩
        · rintro σ' H2 ⟨rfl, hin, v2, rfl⟩
          refine absurd (fun c hc => ?_) (some_letter hus)
          obtain ⟨j, hj⟩ := List.mem_iff_getElem?.mp hc
          have hj2 : LET.cps[j]? = some c := by simpa using hj
          exact hin j c (Array.getElem?_eq_some_iff.mp hj2).1 hj2
      · rw [decide_eq_false hz]
        refine iteT ⟨_, rfl, (by show 5 ≤ sizeLine; decide), fun L nL => ⟨L, KEPT.map V.str, rfl, .inl (SqL.of upd_same), rfl, by decide +kernel, _, rfl, ?_⟩⟩
        have sL := same_new (o := .lst (KEPT.map V.str)) nL
        cases hv : inV (.str z) (KEPT.map V.str) with
        | false => exact iteT ⟨_, rfl, fin _ _ sL (okW_nm hw (by omega) (by omega) hv) (by rw [hw.1]; omega) hz⟩
        | true =>
          have hu2 := sL _ _ hu'
          refine iteF ⟨_, rfl, LET, rfl, for_it walk_str (fun i σ' H2 => H2 = upd H' L (.lst (KEPT.map V.str)) ∧ (∀ j c, j < i → LET.cps[j]? = some c → (⟨#[c]⟩ : Str) ∈ us) ∧ ∃ v2, σ' = [some (.ref d), some (.ref u), some (.str LET), some (.str z), v, v2]) ⟨rfl, (fun j c h => absurd h (Nat.not_lt_zero _)), _, rfl⟩ (fun _ _ _ _ _ => trivial) ?_ ?_⟩
          · rintro i x σ' H2 H3 hi ⟨rfl, hin, v2, rfl⟩ ⟨rfl, c, hc, rfl⟩
            have hcm : c ∈ LET.cps.toList := by
              have : LET.cps.toList[i]? = some c := by simpa using hc
              exact List.mem_of_getElem? this
            refine ⟨_, rfl, _, rfl, u, _, rfl, .inl (SqL.of hu2), rfl, flat_str us, _, rfl, ?_⟩
            rw [inV_str]
            by_cases hcu : (⟨#[c]⟩ : Str) ∈ us
            · rw [decide_eq_true hcu]
              refine iteF ⟨rfl, fun j c' hj hc' => ?_, _, rfl⟩
              by_cases hji : j = i
              · subst hji
                rw [hc] at hc'
                cases hc'
                exact hcu
              · exact hin j c' (by omega) hc'
            · rw [decide_eq_false hcu]
              exact iteT ⟨_, rfl, fin _ _ sL (let_nm hcm) (show 1 ≤ 8 by decide) hcu⟩
          · rintro σ' H2 ⟨rfl, hin, v2, rfl⟩
            refine absurd (fun c hc => ?_) (some_letter hus)
            obtain ⟨j, hj⟩ := List.mem_iff_getElem?.mp hc
            have hj2 : LET.cps[j]? = some c := by simpa using hj
            exact hin j c (Array.getElem?_eq_some_iff.mp hj2).1 hj2
end
end K37

set_option Elab.async false
set_option linter.all false
set_option pp.deepTerms.threshold 14
set_option pp.maxSteps 2500
set_option maxRecDepth 100000
set_option maxHeartbeats 2000000
namespace K37
open PySem PySem.Spec PyProof.Rows L2 Vf 
section
variable {P : Program} {w : World} {K : PySem.W.Frag} {mg : Str → Option Value} {base : Heap}
/-- all but what stands at d and at e is as it was -/
def Same2 (d e : Addr) (H H' : Hp) : Prop := ∀ b o, b ≠ d → b ≠ e → H b = some o → H' b = some o
theorem Same2.x {d e : Addr} {H H1 H2 : Hp} (a : Same2 d e H H1) (b : SameX d H1 H2) : Same2 d e H H2 := fun c o n m h => b c o n (a c o n m h)
theorem Same2.y {d e : Addr} {H H1 H2 : Hp} (a : Same2 d e H H1) (b : SameX e H1 H2) : Same2 d e H H2 := fun c o n m h => b c o m (a c o n m h)
theorem Same2.s {d e : Addr} {H H1 H2 : Hp} (a : Same2 d e H H1) (b : Same H1 H2) : Same2 d e H H2 := fun c o n m h => b c o (a c o n m h)
/-- a row's list and the tuple of its nexts -/
def RowA (H : Hp) (y : PgE) : Prop := H y.1 = some (.lst [.str y.2.2.z, .int y.2.2.l, .int y.2.2.m, .bl y.2.2.b, .ref y.2.1]) ∧ H y.2.1 = some (.tup (y.2.2.ns.map V.str))
/-- the list at R: rows -/
structure RowsA (H : Hp) (R : Addr) (ys : List PgE) : Prop where
  hR : H R = some (.lst (ys.map fun y => V.ref y.1))
  row : ∀ y ∈ ys, RowA H y
theorem ref_int {ys : List PgE} {n : Int} : HO.lst (ys.map fun y => V.ref y.1) ≠ HO.lst [.int n] := fun z => by
  injection z with z
  cases ys with
  | nil => cases z
  | cons y ys => cases z
theorem RowA.ne_int {H : Hp} {y : PgE} {d : Addr} {n : Int} (h : RowA H y) (hd : H d = some (.lst [.int n])) : y.1 ≠ d ∧ y.2.1 ≠ d := ⟨ne_of h.1 hd (by intro z; cases z), ne_of h.2 hd (by intro z; cases z)⟩
theorem RowA.ne_R {H : Hp} {y : PgE} {R : Addr} {ys : List PgE} (h : RowA H y) (hR : H R = some (.lst (ys.map fun y => V.ref y.1))) : y.1 ≠ R ∧ y.2.1 ≠ R := by
  refine ⟨ne_of h.1 hR fun z => ?_, ne_of h.2 hR (by intro z; cases z)⟩
  injection z with z
  cases ys with
  | nil => cases z
  | cons y ys => cases z
theorem RowA.ext {H H' : Hp} {y : PgE} (h : RowA H y) (s : Same H H') : RowA H' y := ⟨s _ _ h.1, s _ _ h.2⟩
theorem RowsA.ext {H H' : Hp} {R : Addr} {ys : List PgE} (h : RowsA H R ys) (s : Same H H') : RowsA H' R ys := ⟨s _ _ h.hR, fun y hy => (h.row y hy).ext s⟩
theorem RowsA.extX {H H' : Hp} {R d : Addr} {n : Int} {ys : List PgE} (h : RowsA H R ys) (hd : H d = some (.lst [.int n])) (s : SameX d H H') : RowsA H' R ys := by
  refine ⟨s _ _ (ne_of h.hR hd ref_int) h.hR, fun y hy => ?_⟩
  have r := h.row y hy
  exact ⟨s _ _ (r.ne_int hd).1 r.1, s _ _ (r.ne_int hd).2 r.2⟩
theorem RowsA.add {H : Hp} {R a t : Addr} {r : Rw} {ys : List PgE} (h : RowsA H R ys) (hr : RowA H (a, t, r)) : RowsA (upd H R (.lst ((ys.map fun y => V.ref y.1) ++ [.ref a]))) R (ys ++ [(a, t, r)]) := by
  refine ⟨by rw [upd_same, List.map_append]; rfl, fun y hy => ?_⟩
  have hy' : RowA H y := by
    rcases List.mem_append.mp hy with hy | hy
    · exact h.row y hy
    · rw [List.mem_singleton] at hy
      rw [hy]
      exact hr
  exact ⟨by rw [upd_ne (hy'.ne_R h.hR).1]; exact hy'.1, by rw [upd_ne (hy'.ne_R h.hR).2]; exact hy'.2⟩
/-- a row whose list is made anew in place -/
theorem RowsA.put {H : Hp} {R : Addr} {k : Nat} {t : Addr} {y : PgE} {r : Rw} {ys : List PgE} (h : RowsA H R ys) (nd : (ys.map (·.1)).Nodup) (hk : ys[k]? = some y) (ht : H t = some (.tup (r.ns.map V.str))) (hz : t ≠ y.1) :
    RowsA (upd H y.1 (.lst [.str r.z, .int r.l, .int r.m, .bl r.b, .ref t])) R (ys.set k (y.1, t, r)) := by
  have hy := h.row y (List.mem_of_getElem? hk)
  have hlt : k < ys.length := (List.getElem?_eq_some_iff.mp hk).1
  refine ⟨?_, fun v hv => ?_⟩
  · rw [upd_ne (hy.ne_R h.hR).1.symm, h.hR]
    congr 2
    refine List.ext_getElem? fun i => ?_
    rw [List.getElem?_map, List.getElem?_map, List.getElem?_set]
    by_cases e : k = i
    · subst e
      rw [if_pos rfl, if_pos hlt, hk]
      rfl
    · rw [if_neg e]
  · obtain ⟨i, hi⟩ := List.mem_iff_getElem?.mp hv
    rw [List.getElem?_set] at hi
    by_cases e : k = i
    · subst e
      rw [if_pos rfl, if_pos hlt] at hi
      cases hi
      exact ⟨upd_same, by rw [upd_ne hz]; exact ht⟩
    · rw [if_neg e] at hi
      have hv' := h.row v (List.mem_of_getElem? hi)
      have hne : v.1 ≠ y.1 := fun q => by
        have h1 : (ys.map (·.1))[i]? = some v.1 := by rw [List.getElem?_map, hi]; rfl
        have h2 : (ys.map (·.1))[k]? = some v.1 := by rw [List.getElem?_map, hk, q]; rfl
        have hlt2 : k < (ys.map (·.1)).length := by rw [List.length_map]; exact hlt
        exact e ((List.getElem?_inj hlt2 nd).mp (h2.trans h1.symm))
      exact ⟨by rw [upd_ne hne]; exact hv'.1, by rw [upd_ne (ne_of hv'.2 hy.1 (by intro z; cases z))]; exact hv'.2⟩
theorem set_zs {ys : List PgE} {k : Nat} {y : PgE} {t : Addr} {r : Rw} (hk : ys[k]? = some y) (hz : r.z = y.2.2.z) : zsOf (ys.set k (y.1, t, r)) = zsOf ys := by
  unfold zsOf
  refine List.ext_getElem? fun i => ?_
  have hlt : k < ys.length := (List.getElem?_eq_some_iff.mp hk).1
  rw [List.getElem?_map, List.getElem?_map, List.getElem?_set]
  by_cases e : k = i
  · subst e
    rw [if_pos rfl, if_pos hlt, hk]
    show some r.z = some y.2.2.z
    rw [hz]
  · rw [if_neg e]
theorem set_ad {ys : List PgE} {k : Nat} {y : PgE} {t : Addr} {r : Rw} (hk : ys[k]? = some y) : (ys.set k (y.1, t, r)).map (·.1) = ys.map (·.1) := by
  refine List.ext_getElem? fun i => ?_
  have hlt : k < ys.length := (List.getElem?_eq_some_iff.mp hk).1
  rw [List.getElem?_map, List.getElem?_map, List.getElem?_set]
  by_cases e : k = i
  · subst e
    rw [if_pos rfl, if_pos hlt, hk]
    rfl
  · rw [if_neg e]
/-- what a row keeps: its name, its stay -/
def RowK (r : Rw) : Prop := nmB r.z = true ∧ r.z.length ≤ 8 ∧ 1 ≤ r.l ∧ r.l ≤ r.m ∧ r.m ≤ 6
structure RowsOk (ys : List PgE) : Prop where
  nd : (zsOf ys).Nodup
  l1 : 1 ≤ ys.length
  l6 : ys.length ≤ 6
  kp : ∀ y ∈ ys, RowK y.2.2
  ns : ∀ y ∈ ys, (∀ v ∈ y.2.2.ns, v ∈ zsOf ys) ∧ y.2.2.ns.Nodup
theorem mod_inj {n s w a b : Int} (hn : 1 ≤ n) (hn6 : n ≤ 6) (hw : w = 1 ∨ w = -1) (a0 : 0 ≤ a) (a1 : a < n) (b0 : 0 ≤ b) (b1 : b < n) (h : (s + w * a) % n = (s + w * b) % n) : a = b := by
  have h6 : n = 1 ∨ n = 2 ∨ n = 3 ∨ n = 4 ∨ n = 5 ∨ n = 6 := by omega
  rcases hw with rfl | rfl <;> rcases h6 with rfl | rfl | rfl | rfl | rfl | rfl <;> omega
theorem RowsA.extF {H H' : Hp} {R F : Addr} {ys : List PgE} {fs : List Str} (h : RowsA H R ys) (hn : ys ≠ []) (hF : H F = some (.lst (fs.map V.str))) (s : SameX F H H') : RowsA H' R ys := by
  refine ⟨s _ _ (ne_of h.hR hF fun z => ?_) h.hR, fun y hy => ?_⟩
  · injection z with z
    cases ys with
    | nil => exact hn rfl
    | cons y ys =>
      cases fs with
      | nil => cases z
      | cons f fs => cases z
  · have r := h.row y hy
    refine ⟨s _ _ (ne_of r.1 hF fun z => ?_) r.1, s _ _ (ne_of r.2 hF (by intro z; cases z)) r.2⟩
    injection z with z
    cases fs with
    | nil => cases z
    | cons f fs =>
      cases fs with
      | nil => cases z
      | cons g gs => cases z
theorem int_str {n : Int} {fs : List Str} : HO.lst [.int n] ≠ HO.lst (fs.map V.str) := fun z => by
  injection z with z
  cases fs with
  | nil => cases z
  | cons f fs => cases z
theorem ixN4 {n : Nat} : ixN (n + 5) 4 = some 4 := by
  unfold ixN
  rw [if_pos (by omega), if_pos (by omega)]
  all_goals rfl
theorem sc_law_rows : FnScope ["_law_draw", "_law_words_here", "_law_many", "_law_longest", "_law_rows_here", "_law_k", "_law_word", "_law_row", "_law_low", "_law_shift", "_law_way", "_law_found", "_law_j"] ["_law_draw", "_law_words_here", "_law_many", "_law_longest"] (defScope s_law_rows) := ⟨rfl, rfl, rfl, by decide +kernel, rfl, by decide +kernel, by decide +kernel⟩
-- slots: 0 _law_draw, 1 _law_words_here, 2 _law_many, 3 _law_longest, 4 _law_rows_here, 5 _law_k, 6 _law_word, 7 _law_row, 8 _law_low, 9 _law_shift, 10 _law_way, 11 _law_found, 12 _law_j
def spRows : Sp := fun vs H Q _ => ∃ (d e : Addr) (n n' mn lg : Int), vs = [.ref d, .ref e, .int mn, .int lg] ∧ H d = some (.lst [.int n]) ∧ H e = some (.lst [.int n']) ∧ d ≠ e ∧ 1 ≤ mn ∧ mn ≤ 6 ∧ 1 ≤ lg ∧ lg ≤ 6 ∧
  ∀ H' R ys, Same2 d e H H' → (∃ m : Int, H' d = some (.lst [.int m])) → RowsA H' R ys → RowsOk ys → (ys.map (·.1)).Nodup → H R = none → Q (.ref R) H'
theorem zs_add {ys : List PgE} {y : PgE} : zsOf (ys ++ [y]) = zsOf ys ++ [y.2.2.z] := List.map_append ..
theorem nodup_add {α : Type} {l : List α} {a : α} (h : l.Nodup) (n : a ∉ l) : (l ++ [a]).Nodup := List.nodup_append.mpr ⟨h, by simp, fun x hx y hy => by
  rw [List.mem_singleton] at hy
  rw [hy]
  exact fun e => n (e ▸ hx)⟩
theorem ok_law_rows {fd : FuncData} (F : FnD K ("_law_rows", none) "_law_rows" "_law_rows" s_law_rows fd) (T : Txt K mg) (O_law_take : OkF P w K mg base CX0 1 "_law_take" ["_law_draw", "_law_size"] spTake) (O_law_name : OkF P w K mg base CX0 2 "_law_name" ["_law_draw", "_law_used"] spNam) : OkF P w K mg base CX0 3 "_law_rows" ["_law_draw", "_law_words_here", "_law_many", "_law_longest"] spRows := by
  refine okd F (F.ok sc_law_rows (fun vs H Q E h => ?_) fun cdv A outer s H vs Q E hr h => ?_) fun _ _ _ _ _ _ us hl => match us, hl with | [_, _, _, _], _ => rfl
  · obtain ⟨d, e, n, n', mn, lg, rfl, _⟩ := h
    rfl
  · obtain ⟨d, e, n, n', mn, lg, rfl, hd, he, nde, m1, m6, g1, g6, k⟩ := h
    refine ⟨_, PSs.nox (pss_cons (ps_set (i := 4) sc_law_rows.nd rfl (Or.inl rfl) (pe_lst pa_nil))
  (pss_cons (ps_for PassesOwn.never rfl (pi_range1 rfl T.z_range (pa_cons (pe_op op_add pe_int (c_fn O_law_take hr (by decide) T.g_law_take pass0 (pa_cons (pv 0) (pa_cons (pv 2) pa_nil)))) pa_nil)) (pg_name (i := 5) sc_law_rows.nd rfl (Or.inl rfl))
  (pss_cons (ps_set (i := 6) sc_law_rows.nd rfl (Or.inl rfl) (c_fn O_law_name hr (by decide) T.g_law_name pass0 (pa_cons (pv 1) (pa_cons (pe_lc (own := [("_law_row", 7)]) (g := gName 7) (tt := tYes) (by rfl) sc_law_rows.nd (pi_list (pv 4)) (blkOk_by (N := ["_law_draw", "_law_words_here", "_law_many", "_law_longest", "_law_rows_here", "_law_k", "_law_word", "_law_row", "_law_low", "_law_shift", "_law_way", "_law_found", "_law_j"]) (sc := defScope s_law_rows) (by decide +kernel)) (fun _ _ _ _ _ => (pg_name (i := 7) sc_law_rows.nd rfl (Or.inl rfl))) (fun _ _ _ _ _ => pts_nil) (fun _ _ _ _ _ => (pe_ix (ix_listK (K := K) rfl) (pv 7) pe_int (fun _ _ => rfl)))) pa_nil))))
  (pss_cons (ps_set (i := 8) sc_law_rows.nd rfl (Or.inl rfl) (pe_op op_add pe_int (c_fn O_law_take hr (by decide) T.g_law_take pass0 (pa_cons (pv 0) (pa_cons (pv 3) pa_nil)))))
  (pss_one (ps_expr (pe_bm PySem.F.plainAttrs_list PySem.F.slot_list_append PySem.F.type_list_append mt_append (pv 4) (pa_cons (pe_lst (pa_cons (pv 6) (pa_cons (pv 8) (pa_cons (pe_op op_add (pv 8) (c_fn O_law_take hr (by decide) T.g_law_take pass0 (pa_cons (pv 0) (pa_cons (pe_op op_sub (pe_op op_add (pv 3) pe_int) (pv 8)) pa_nil)))) (pa_cons (pe_cmpR op_gt (c_fn O_law_take hr (by decide) T.g_law_take pass0 (pa_cons (pv 0) (pa_cons pe_int pa_nil))) pe_int (nomark _)) (pa_cons (pe_tup pa_nil) pa_nil)))))) pa_nil)))))))
  (pss_cons (ps_for PassesOwn.never rfl (pi_range1 rfl T.z_range (pa_cons (pe_callB (id := "len") call_len_seq (by rfl) T.z_len (by decide +kernel) (pa_cons (pv 4) pa_nil)) pa_nil)) (pg_name (i := 5) sc_law_rows.nd rfl (Or.inl rfl))
  (pss_cons (ps_set (i := 9) sc_law_rows.nd rfl (Or.inl rfl) (c_fn O_law_take hr (by decide) T.g_law_take pass0 (pa_cons (pv 0) (pa_cons (pe_callB (id := "len") call_len_seq (by rfl) T.z_len (by decide +kernel) (pa_cons (pv 4) pa_nil)) pa_nil))))
  (pss_cons (ps_set (i := 10) sc_law_rows.nd rfl (Or.inl rfl) (pe_op op_sub pe_int (pe_op op_mul pe_int (c_fn O_law_take hr (by decide) T.g_law_take pass0 (pa_cons (pv 0) (pa_cons pe_int pa_nil))))))
  (pss_cons (ps_set (i := 11) sc_law_rows.nd rfl (Or.inl rfl) (pe_lst pa_nil))
  (pss_cons (ps_for PassesOwn.never rfl (pi_range1 rfl T.z_range (pa_cons (pe_callB (id := "len") call_len_seq (by rfl) T.z_len (by decide +kernel) (pa_cons (pv 4) pa_nil)) pa_nil)) (pg_name (i := 12) sc_law_rows.nd rfl (Or.inl rfl))
  (pss_one (ps_if (pt_cmpR op_gt (c_fn O_law_take hr (by decide) T.g_law_take pass0 (pa_cons (pv 0) (pa_cons pe_int pa_nil))) pe_int (nomark _)) (pss_one (ps_expr (pe_bm PySem.F.plainAttrs_list PySem.F.slot_list_append PySem.F.type_list_append mt_append (pv 11) (pa_cons (pe_ix ix_list (pe_ix ix_list (pv 4) (pe_op op_mod (pe_op op_add (pv 9) (pe_op op_mul (pv 10) (pv 12))) (pe_callB (id := "len") call_len_seq (by rfl) T.z_len (by decide +kernel) (pa_cons (pv 4) pa_nil))) (fun _ _ => rfl)) pe_int (fun _ _ => rfl)) pa_nil))))
  pss_nil)))
  (pss_cons (ps_set (i := 7) sc_law_rows.nd rfl (Or.inl rfl) (pe_ix ix_list (pv 4) (pv 5) (fun _ _ => rfl)))
  (pss_one (ps_asg (pe_callTy call_tuple_of (by rfl) T.z_tuple (by decide +kernel) (pa_cons (pv 11) pa_nil)) (pg_sub (pv 7) pe_int set_list)))))))))
  (pss_one (ps_ret (pv 4)))))), ?_⟩
    refine ⟨(by show 0 ≤ sizeLine; decide), fun R nR => ?_⟩
    have nRd : R ≠ d := (ne_of_none hd nR).symm
    have nRe : R ≠ e := (ne_of_none he nR).symm
    have hd0 := same_new (o := .lst []) nR _ _ hd
    have he0 := same_new (o := .lst []) nR _ _ he
    have s0 : Same2 d e H (upd H R (.lst [])) := fun b o _ _ h => same_new nR _ _ h
    have hR0 : (upd H R (.lst [])) R = some (.lst []) := upd_same
    generalize upd H R (.lst []) = H0 at hd0 he0 s0 hR0 ⊢
    refine ⟨_, rfl, _, rfl, d, n, mn, rfl, hd0, by omega, by omega, fun r m r0 r1 => ⟨1, r, rfl, rfl, 1 + r, rfl, by omega, by omega, ?_⟩⟩
    have hRm : (upd H0 d (.lst [.int m])) R = some (.lst []) := by rw [upd_ne nRd]; exact hR0
    have hem : (upd H0 d (.lst [.int m])) e = some (.lst [.int n']) := by rw [upd_ne nde.symm]; exact he0
    refine for_range (lo := 0) (n := (1 + r).toNat) (fun i σ H' => Same2 d e H H' ∧ (∃ m : Int, H' d = some (.lst [.int m])) ∧ (∃ m : Int, H' e = some (.lst [.int m])) ∧ ∃ (ys : List PgE) (v5 v6 v8 : Option V), RowsA H' R ys ∧ ys.length = i ∧ (zsOf ys).Nodup ∧ (ys.map (·.1)).Nodup ∧ (∀ y ∈ ys, RowK y.2.2 ∧ y.2.2.ns = []) ∧ (∀ a ∈ ys.map (·.1), H a = none) ∧
      σ = [some (.ref d), some (.ref e), some (.int mn), some (.int lg), some (.ref R), v5, v6, none, v8, none, none, none, none]) ⟨s0.x SameX.upd, ⟨m, upd_same⟩, ⟨n', hem⟩, [], none, none, none, ⟨hRm, fun _ h => nomatch h⟩, rfl, List.nodup_nil, List.nodup_nil, (fun _ h => nomatch h), (fun _ h => nomatch h), rfl⟩ ?_ ?_
    · clear hRm hem hR0 s0 he0 hd0 hd he H0 n n' m
      rintro i σ H1 hi ⟨sg, ⟨m, hd⟩, ⟨m', he⟩, ys, v5, v6, v8, hR, hl, hz, ha, hk, hfr, rfl⟩
      have hi6 : ys.length ≤ 5 := by omega
      have hlz : (zsOf ys).length = ys.length := List.length_map ..
      -- the used names
      refine ⟨_, rfl, _, rfl, R, rfl, ⟨_, SqL.of hR.hR⟩, fun D nD => lc_it walk_list (fun i H' => Same H1 H' ∧ H' D = some (.lst (((zsOf ys).take i).map V.str))) ⟨same_new nD, upd_same⟩ (fun i H' _ h => h.1.seq (SqL.of hR.hR)) ?_ ?_⟩
      · rintro j x H3 H' hj ⟨sg3, hD3⟩ ⟨rfl, hx⟩
        obtain ⟨y, hy, rfl⟩ := getE hx
        have hyr := ((hR.ext sg3).row y (List.mem_of_getElem? hy)).1
        refine ⟨rfl, _, rfl, y.1, _, 0, .str y.2.2.z, rfl, rfl, SqL.of hyr, atI0, ?_⟩
        refine ⟨_, hD3, ?_, same_app sg3 (Same.refl _) nD, ?_⟩
        · rw [List.length_map, List.length_take]
          rw [List.length_map] at hj
          exact Nat.lt_of_le_of_lt (Nat.min_le_left _ _) (Nat.lt_of_lt_of_le hj (Nat.le_trans hi6 (by decide)))
        · rw [upd_same, List.take_add_one, List.map_append]
          have : (zsOf ys)[j]? = some y.2.2.z := by
            unfold zsOf
            rw [List.getElem?_map, hy]
            rfl
          rw [this]
          rfl
      rintro H2 ⟨s12, hD⟩
      rw [List.length_map, ← hlz, List.take_length] at hD
      have hd2 := s12 _ _ hd
      have he2 := s12 _ _ he
      have hR2 := hR.ext s12
      have nDe : D ≠ e := (ne_of_none he nD).symm
      refine ⟨e, D, m', zsOf ys, rfl, he2, hD, nDe, by omega, fun H3 m3 z x3 he3 hz1 hz8 hzn => ?_⟩
      have hd3 := x3 _ _ nde hd2
      have hR3 := hR2.extX he2 x3
      have sg3 := (sg.s s12).y x3
      clear hR2 he2 hd2 x3 nDe hD s12 nD hR he hd sg H1 H2
      -- the stay
      refine ⟨_, rfl, _, rfl, d, m, lg, rfl, hd3, by omega, by omega, fun lo m4 lo0 lo1 => ⟨1, lo, rfl, rfl, ?_⟩⟩
      have hd4 : (upd H3 d (.lst [.int m4])) d = some (.lst [.int m4]) := upd_same
      have he4 : (upd H3 d (.lst [.int m4])) e = some (.lst [.int m3]) := by rw [upd_ne nde.symm]; exact he3
      have hR4 := hR3.extX hd3 (SameX.upd (o := .lst [.int m4]))
      have sg4 := sg3.x (SameX.upd (d := d) (H := H3) (o := .lst [.int m4]))
      generalize upd H3 d (.lst [.int m4]) = H4 at hd4 he4 hR4 sg4 ⊢
      clear hR3 he3 hd3 sg3 H3
      refine ⟨_, rfl, .inl ⟨rfl, _, SqL.of hR4.hR⟩, _, rfl, _, rfl, _, rfl, _, rfl, _, rfl, lg, 1, rfl, rfl, _, rfl, lg + 1, 1 + lo, rfl, rfl, d, m4, lg + 1 - (1 + lo), rfl, hd4, by omega, by omega, fun q m5 q0 q1 => ⟨1 + lo, q, rfl, rfl, _, rfl, d, m5, 3, rfl, upd_same, by decide, by decide, fun q' m6 q0' q1' => ⟨q', 0, rfl, rfl, (by show 0 ≤ sizeLine; decide), fun t nt => ⟨(by show 5 ≤ sizeLine; decide), fun a na => ?_⟩⟩⟩⟩
      have x5 : SameX d H4 (upd (upd H4 d (.lst [.int m5])) d (.lst [.int m6])) := SameX.upd.trans SameX.upd
      have hd5 : (upd (upd H4 d (.lst [.int m5])) d (.lst [.int m6])) d = some (.lst [.int m6]) := upd_same
      have he5 := x5 _ _ nde.symm he4
      have hR5 := hR4.extX hd4 x5
      have sg5 := sg4.x x5
      generalize upd (upd H4 d (.lst [.int m5])) d (.lst [.int m6]) = H5 at hd5 he5 hR5 sg5 nt na ⊢
      clear x5 hR4 he4 hd4 sg4 H4
      have st := same_new (o := .tup []) nt
      have sa := same_new (o := .lst [.str z, .int (1 + lo), .int (1 + lo + q), .bl (decide (q' > 0)), .ref t]) na
      have hrow : RowA (upd (upd H5 t (.tup [])) a (.lst [.str z, .int (1 + lo), .int (1 + lo + q), .bl (decide (q' > 0)), .ref t])) (a, t, ⟨z, 1 + lo, 1 + lo + q, decide (q' > 0), []⟩) := ⟨upd_same, sa _ _ upd_same⟩
      have hd6 := sa _ _ (st _ _ hd5)
      have he6 := sa _ _ (st _ _ he5)
      have hR6 := hR5.ext (st.trans sa)
      have sg6 := sg5.s (st.trans sa)
      have nad : a ≠ d := (ne_of_none (st _ _ hd5) na).symm
      have nae : a ≠ e := (ne_of_none (st _ _ he5) na).symm
      have na0 : H a = none := by
        cases q : H a with
        | none => rfl
        | some o =>
          have := st _ _ (sg5 a o nad nae q)
          rw [na] at this
          cases this
      have nas : a ∉ ys.map (·.1) := fun hm => by
        obtain ⟨y, hy, e⟩ := List.mem_map.mp hm
        have := st _ _ (hR5.row y hy).1
        rw [e, na] at this
        cases this
      generalize hG : upd (upd H5 t (.tup [])) a (.lst [.str z, .int (1 + lo), .int (1 + lo + q), .bl (decide (q' > 0)), .ref t]) = H6 at hrow hd6 he6 hR6 sg6 ⊢
      clear hG sa st na nt hR5 he5 hd5 sg5 H5
      refine ⟨R, _, .ref a, rfl, rfl, hR6.hR, ?_, ?_⟩
      · rw [List.length_map]
        exact Nat.lt_of_le_of_lt hi6 (by decide)
      have hR7 := hR6.add hrow
      have nRd' : d ≠ R := nRd.symm
      refine ⟨fun b o h1 h2 h3 => ?_, ⟨m6, by rw [upd_ne nRd']; exact hd6⟩, ⟨m3, by rw [upd_ne nRe.symm]; exact he6⟩, ys ++ [(a, t, ⟨z, 1 + lo, 1 + lo + q, decide (q' > 0), []⟩)], _, _, _, hR7, by rw [List.length_append, hl]; rfl, ?_, ?_, ?_, ?_, rfl⟩
      · rw [upd_ne (ne_of_none h3 nR)]
        exact sg6 b o h1 h2 h3
      · rw [zs_add]
        exact nodup_add hz hzn
      · rw [List.map_append]
        exact nodup_add ha nas
      · intro y hy
        rcases List.mem_append.mp hy with hy | hy
        · exact hk y hy
        · rw [List.mem_singleton] at hy
          rw [hy]
          exact ⟨⟨hz1, hz8, by show 1 ≤ 1 + lo; omega, by show 1 + lo ≤ 1 + lo + q; omega, by show 1 + lo + q ≤ 6; omega⟩, rfl⟩
      · intro b hb
        rw [List.map_append] at hb
        rcases List.mem_append.mp hb with hb | hb
        · exact hfr b hb
        · have : b = a := by simpa using hb
          rw [this]
          exact na0
    · clear hRm hem hR0 s0 he0 hd0 H0 m
      rintro σ H1 ⟨sg, ⟨m, hd1⟩, ⟨me, he1⟩, ys, v5, v6, v8, hR, hl, hz, ha, hk, hfr, rfl⟩
      have hn1 : 1 ≤ ys.length := by omega
      have hn6 : ys.length ≤ 6 := by omega
      have hlz : (zsOf ys).length = ys.length := List.length_map ..
      refine ⟨_, rfl, R, _, rfl, .inl (SqL.of hR.hR), _, rfl, by rw [List.length_map]; omega, by rw [List.length_map]; omega, ?_⟩
      rw [List.length_map]
      refine for_range (lo := 0) (n := (ys.length : Int).toNat) (fun i σ H' => Same2 d e H H' ∧ (∃ m : Int, H' d = some (.lst [.int m])) ∧ (∃ m : Int, H' e = some (.lst [.int m])) ∧ ∃ (ys' : List PgE) (v5 v7 v9 v10 v11 v12 : Option V), RowsA H' R ys' ∧ ys'.length = ys.length ∧ zsOf ys' = zsOf ys ∧ ys'.map (·.1) = ys.map (·.1) ∧ (∀ y ∈ ys', RowK y.2.2) ∧ (∀ y ∈ ys', (∀ v ∈ y.2.2.ns, v ∈ zsOf ys) ∧ y.2.2.ns.Nodup) ∧
        σ = [some (.ref d), some (.ref e), some (.int mn), some (.int lg), some (.ref R), v5, v6, v7, v8, v9, v10, v11, v12]) ⟨sg, ⟨m, hd1⟩, ⟨me, he1⟩, ys, _, none, none, none, none, none, hR, rfl, rfl, rfl, (fun y hy => (hk y hy).1), (fun y hy => by rw [(hk y hy).2]; exact ⟨(fun _ h => nomatch h), List.nodup_nil⟩), rfl⟩ ?_ ?_
      · clear hR hd1 he1 sg m me hk H1
        rintro i σ H1 hi ⟨sg, ⟨m, hd1⟩, ⟨me, he1⟩, ys', v5, v7, v9, v10, v11, v12, hR, hl', hz', ha', hk, hns, rfl⟩
        have hne : ys' ≠ [] := fun z => by rw [z] at hl'; simp at hl'; omega
        refine ⟨_, rfl, _, rfl, R, _, rfl, .inl (SqL.of hR.hR), d, m, _, rfl, hd1, by rw [List.length_map, hl']; omega, by rw [List.length_map, hl']; omega, fun sh m2 sh0 sh1 => ?_⟩
        rw [List.length_map, hl'] at sh1
        refine ⟨_, rfl, d, m2, 2, rfl, upd_same, by decide, by decide, fun q m3 q0 q1 => ⟨2, q, rfl, rfl, .inl ⟨by decide, by decide⟩, 1, 2 * q, rfl, rfl, (by show 0 ≤ sizeLine; decide), fun F nF => ?_⟩⟩
        have hw : 1 - 2 * q = 1 ∨ 1 - 2 * q = -1 := by omega
        have x2 : SameX d H1 (upd (upd H1 d (.lst [.int m2])) d (.lst [.int m3])) := SameX.upd.trans SameX.upd
        have hd2 : (upd (upd H1 d (.lst [.int m2])) d (.lst [.int m3])) d = some (.lst [.int m3]) := upd_same
        have hR2 := hR.extX hd1 x2
        have sg2 := sg.x x2
        generalize upd (upd H1 d (.lst [.int m2])) d (.lst [.int m3]) = H2 at nF x2 hd2 hR2 sg2 ⊢
        have he2 := x2 _ _ nde.symm he1
        have nFd : F ≠ d := (ne_of_none hd2 nF).symm
        have nFe : F ≠ e := (ne_of_none he2 nF).symm
        have nF0 : H F = none := by
          cases hF : H F with
          | none => rfl
          | some o =>
            have := sg2 F o nFd nFe hF
            rw [nF] at this
            cases this
        have sF := same_new (o := .lst []) nF
        have hF3 : (upd H2 F (.lst [])) F = some (.lst ([] : List V)) := upd_same
        have hd3 := sF _ _ hd2
        have he3 := sF _ _ he2
        have hR3 := hR2.ext sF
        have sg3 := sg2.s sF
        generalize upd H2 F (.lst []) = H3 at hF3 hd3 he3 hR3 sg3 ⊢
        clear sF sg2 hR2 hd2 he2 x2 nF hR hd1 he1 sg H2
        refine ⟨_, rfl, R, _, rfl, .inl (SqL.of hR3.hR), _, rfl, by rw [List.length_map]; omega, by rw [List.length_map]; omega, ?_⟩
        rw [List.length_map, hl']
        refine for_range (lo := 0) (n := (ys.length : Int).toNat) (fun j σ H' => Same2 d e H H' ∧ (∃ m : Int, H' d = some (.lst [.int m])) ∧ (∃ m : Int, H' e = some (.lst [.int m])) ∧ RowsA H' R ys' ∧ ∃ (fs : List Str) (v12 : Option V), H' F = some (.lst (fs.map V.str)) ∧ fs.Nodup ∧ fs.length ≤ j ∧ (∀ y ∈ fs, ∃ j' i : Nat, j' < j ∧ (i : Int) = (sh + (1 - 2 * q) * (j' : Int)) % (ys.length : Int) ∧ (zsOf ys)[i]? = some y) ∧
          σ = [some (.ref d), some (.ref e), some (.int mn), some (.int lg), some (.ref R), some (.int (0 + (i : Int))), v6, v7, v8, some (.int sh), some (.int (1 - 2 * q)), some (.ref F), v12]) ⟨sg3, ⟨m3, hd3⟩, ⟨me, he3⟩, hR3, [], v12, hF3, List.nodup_nil, Nat.zero_le _, (fun _ h => nomatch h), rfl⟩ ?_ ?_
        · clear hF3 hd3 he3 hR3 sg3 H3
          rintro j σ H3 hj ⟨sg, ⟨m, hd⟩, ⟨me, he⟩, hR, fs, v12, hF, hfn, hfl, hfs, rfl⟩
          refine ⟨_, rfl, d, m, 3, rfl, hd, by decide, by decide, fun q3 m' q30 q31 => ⟨q3, 0, rfl, rfl, _, rfl, ?_⟩⟩
          have x4 := SameX.upd (d := d) (H := H3) (o := .lst [.int m'])
          have hR4 := hR.extX hd x4
          have hF4 := x4 _ _ nFd hF
          have he4 := x4 _ _ nde.symm he
          have hd4 : (upd H3 d (.lst [.int m'])) d = some (.lst [.int m']) := upd_same
          have sg4 := sg.x x4
          generalize upd H3 d (.lst [.int m']) = H4 at hR4 hF4 he4 hd4 sg4 ⊢
          refine ite2 (fun _ => ?_) fun _ => ?_
          · have hz0 : (0 : Int) < ys.length := by omega
            have b0 := Int.emod_nonneg (sh + (1 - 2 * q) * (0 + (j : Int))) (b := (ys.length : Int)) (by omega)
            have b1 := Int.emod_lt_of_pos (sh + (1 - 2 * q) * (0 + (j : Int))) hz0
            obtain ⟨x, hx⟩ : ∃ x : Nat, (x : Int) = (sh + (1 - 2 * q) * (0 + (j : Int))) % (ys.length : Int) := ⟨((sh + (1 - 2 * q) * (0 + (j : Int))) % (ys.length : Int)).toNat, by omega⟩
            have hxl : x < ys'.length := by omega
            have hyx : ys'[x]? = some ys'[x] := List.getElem?_eq_getElem hxl
            generalize ys'[x] = y at hyx
            have hya := (hR4.row y (List.mem_of_getElem? hyx)).1
            have a1 : atI (ys'.map fun y => V.ref y.1) ((sh + (1 - 2 * q) * (0 + (j : Int))) % (((ys'.map fun y => V.ref y.1).length : Nat) : Int)) = some (.ref y.1) := by
              rw [List.length_map, hl', ← hx]
              exact atI_nat (by rw [List.getElem?_map, hyx]; rfl)
            have hzx : (zsOf ys)[x]? = some y.2.2.z := by
              rw [← hz', zsOf, List.getElem?_map, hyx]
              rfl
            refine ⟨_, rfl, .inl ⟨rfl, _, SqL.of hF4⟩, _, rfl, _, rfl, _, rfl, _, rfl, 1 - 2 * q, _, rfl, rfl, .inl ⟨by rcases hw with h | h <;> rw [h] <;> decide, by rcases hw with h | h <;> rw [h] <;> decide⟩, sh, _, rfl, rfl, _, rfl, R, _, rfl, .inl (SqL.of hR4.hR), _, _, rfl, rfl, (by show (0 : Int) < ((ys'.map fun y => V.ref y.1).length : Nat); rw [List.length_map, hl']; exact hz0), R, _, _, .ref y.1, rfl, rfl, SqL.of hR4.hR, a1, y.1, _, 0, .str y.2.2.z, rfl, rfl, SqL.of hya, atI0, F, _, .str y.2.2.z, rfl, rfl, hF4, ?_, ?_⟩
            · rw [List.length_map]
              exact Nat.lt_of_le_of_lt (show fs.length ≤ 6 by omega) (by decide)
            have hnot : y.2.2.z ∉ fs := fun hm => by
              obtain ⟨j', i', h1, h2, h3⟩ := hfs _ hm
              have hlt2 : x < (zsOf ys).length := by omega
              have e1 : x = i' := (List.getElem?_inj hlt2 hz).mp (hzx.trans h3.symm)
              have e2 : (sh + (1 - 2 * q) * (j' : Int)) % (ys.length : Int) = (sh + (1 - 2 * q) * (j : Int)) % (ys.length : Int) := by
                rw [← h2, ← e1, hx, Int.zero_add]
              have e3 := mod_inj (by omega) (by omega) hw (by omega) (by omega) (by omega) (by omega) e2
              omega
            refine ⟨fun b o h1 h2 h3 => ?_, ⟨m', by rw [upd_ne nFd.symm]; exact hd4⟩, ⟨me, by rw [upd_ne nFe.symm]; exact he4⟩, hR4.extF hne hF4 SameX.upd, fs ++ [y.2.2.z], _, by rw [upd_same, List.map_append]; rfl, nodup_add hfn hnot, by rw [List.length_append]; exact Nat.succ_le_succ hfl, fun v hv => ?_, rfl⟩
            · rw [upd_ne (ne_of_none h3 nF0)]
              exact sg4 b o h1 h2 h3
            · rcases List.mem_append.mp hv with hv | hv
              · obtain ⟨j', i', h1, h2, h3⟩ := hfs v hv
                exact ⟨j', i', by omega, h2, h3⟩
              · rw [List.mem_singleton] at hv
                rw [hv]
                refine ⟨j, x, by omega, ?_, hzx⟩
                rw [hx, Int.zero_add]
          · exact ⟨sg4, ⟨m', hd4⟩, ⟨me, he4⟩, hR4, fs, _, hF4, hfn, by omega, fun y hy => by
              obtain ⟨j', i', h1, h2, h3⟩ := hfs y hy
              exact ⟨j', i', by omega, h2, h3⟩, rfl⟩
        · clear hF3 hd3 he3 hR3 sg3 H3
          rintro σ H3 ⟨sg, ⟨m, hd⟩, ⟨me, he⟩, hR, fs, v12, hF, hfn, hfl, hfs, rfl⟩
          have hil : i < ys'.length := by omega
          have hyi : ys'[i]? = some ys'[i] := List.getElem?_eq_getElem hil
          generalize ys'[i] = y at hyi
          have a1 : atI (ys'.map fun y => V.ref y.1) (0 + (i : Int)) = some (.ref y.1) := by
            rw [Int.zero_add]
            exact atI_nat (by rw [List.getElem?_map, hyi]; rfl)
          refine ⟨_, rfl, _, rfl, R, _, _, .ref y.1, rfl, rfl, SqL.of hR.hR, a1, ?_⟩
          refine ⟨_, rfl, F, _, rfl, .inl ⟨SqL.of hF, fun t nt => ?_⟩⟩
          have st := same_new (o := .tup (fs.map V.str)) nt
          have ht : (upd H3 t (.tup (fs.map V.str))) t = some (.tup (fs.map V.str)) := upd_same
          have hR4 := hR.ext st
          have hd4 := st _ _ hd
          have he4 := st _ _ he
          have sg4 := sg.s st
          generalize upd H3 t (.tup (fs.map V.str)) = H4 at ht hR4 hd4 he4 sg4 ⊢
          have hya := (hR4.row y (List.mem_of_getElem? hyi)).1
          have nyd := (RowA.ne_int (hR4.row y (List.mem_of_getElem? hyi)) hd4).1
          have nye := (RowA.ne_int (hR4.row y (List.mem_of_getElem? hyi)) he4).1
          have nty : t ≠ y.1 := ne_of ht hya (by intro z; cases z)
          refine ⟨_, rfl, y.1, _, 4, 4, rfl, rfl, hya, ixN4, ?_⟩
          have hput := hR4.put (r := ⟨y.2.2.z, y.2.2.l, y.2.2.m, y.2.2.b, fs⟩) (by rw [ha']; exact ha) hyi ht nty
          have ny0 : H y.1 = none := hfr _ (ha' ▸ List.mem_map_of_mem (List.mem_of_getElem? hyi))
          refine ⟨fun b o h1 h2 h3 => ?_, ⟨m, by rw [upd_ne nyd.symm]; exact hd4⟩, ⟨me, by rw [upd_ne nye.symm]; exact he4⟩, _, _, _, _, _, _, _, hput, by rw [List.length_set]; exact hl', (set_zs (r := ⟨y.2.2.z, y.2.2.l, y.2.2.m, y.2.2.b, fs⟩) hyi rfl).trans hz', (set_ad hyi).trans ha', fun v hv => ?_, fun v hv => ?_, rfl⟩
          · rw [upd_ne (ne_of_none h3 ny0)]
            exact sg4 b o h1 h2 h3
          · rcases List.mem_or_eq_of_mem_set hv with hv | rfl
            · exact hk v hv
            · exact hk y (List.mem_of_getElem? hyi)
          · rcases List.mem_or_eq_of_mem_set hv with hv | rfl
            · exact hns v hv
            · refine ⟨fun x hx => ?_, hfn⟩
              obtain ⟨_, i', _, _, h3⟩ := hfs x hx
              exact List.mem_of_getElem? h3
      · rintro σ H2 ⟨sg, hd2, _, ys', v5, v7, v9, v10, v11, v12, hR, hl', hz', ha', hk, hns, rfl⟩
        exact ⟨_, rfl, k H2 R ys' sg hd2 hR ⟨by rw [hz']; exact hz, by omega, by omega, hk, fun y hy => by rw [hz']; exact hns y hy⟩ (by rw [ha']; exact ha) nR⟩
end
end K37

set_option Elab.async false
set_option linter.all false
set_option pp.deepTerms.threshold 14
set_option pp.maxSteps 2500
set_option maxRecDepth 100000
set_option maxHeartbeats 2000000
namespace K37
open PySem PySem.Spec PyProof.Rows L2 Vf 
section
variable {P : Program} {w : World} {K : PySem.W.Frag} {mg : Str → Option Value} {base : Heap}
structure SpA (H : Hp) (s : Addr) (n i : Int) (f : V) : Prop where
  hs : H s = some (.lst [.int n, .int i, f])
  n1 : 1 ≤ n
  n8 : n ≤ 8
  i0 : 0 ≤ i
  i1 : i ≤ n - 1
  hf : PhOk f n
theorem SpA.ext {H H' : Hp} {s : Addr} {n i : Int} {f : V} (h : SpA H s n i f) (e : Same H H') : SpA H' s n i f := ⟨e _ _ h.hs, h.n1, h.n8, h.i0, h.i1, h.hf⟩
theorem ixN2 {n : Nat} : ixN (n + 3) 2 = some 2 := by
  unfold ixN
  rw [if_pos (by omega), if_pos (by omega)]
  rfl
theorem sc_law_spec : FnScope ["_law_draw", "_law_longest", "_law_spec_here", "_law_shift"] ["_law_draw", "_law_longest"] (defScope s_law_spec) := ⟨rfl, rfl, rfl, by decide +kernel, rfl, by decide +kernel, by decide +kernel⟩
-- slots: 0 _law_draw, 1 _law_longest, 2 _law_spec_here, 3 _law_shift
def spSpec : Sp := fun vs H Q _ => ∃ (d : Addr) (n lg : Int), vs = [.ref d, .int lg] ∧ H d = some (.lst [.int n]) ∧ 1 ≤ lg ∧ lg ≤ 8 ∧ ∀ (H' : Hp) (s : Addr) (m p i : Int) (f : V), SameX d H H' → H' d = some (.lst [.int m]) → H s = none → SpA H' s p i f → p ≤ lg → Q (.ref s) H'
theorem ok_law_spec {fd : FuncData} (F : FnD K ("_law_spec", none) "_law_spec" "_law_spec" s_law_spec fd) (T : Txt K mg) (O_law_take : OkF P w K mg base CX0 1 "_law_take" ["_law_draw", "_law_size"] spTake) : OkF P w K mg base CX0 2 "_law_spec" ["_law_draw", "_law_longest"] spSpec := by
  refine okd F (F.ok sc_law_spec (fun vs H Q E h => ?_) fun cdv A outer s H vs Q E hr h => ?_) fun _ _ _ _ _ _ us hl => match us, hl with | [_, _], _ => rfl
  · obtain ⟨d, n, lg, rfl, _⟩ := h
    rfl
  · obtain ⟨d, n, lg, rfl, hd, l1, l8, k⟩ := h
    refine ⟨_, PSs.nox (pss_cons (ps_set (i := 2) sc_law_spec.nd rfl (Or.inl rfl) (pe_lst (pa_cons (pe_op op_add pe_int (c_fn O_law_take hr (by decide) T.g_law_take pass0 (pa_cons (pv 0) (pa_cons (pv 1) pa_nil)))) pa_nil)))
  (pss_cons (ps_expr (pe_bm PySem.F.plainAttrs_list PySem.F.slot_list_append PySem.F.type_list_append mt_append (pv 2) (pa_cons (c_fn O_law_take hr (by decide) T.g_law_take pass0 (pa_cons (pv 0) (pa_cons (pe_ix ix_list (pv 2) pe_int (fun _ _ => rfl)) pa_nil))) pa_nil)))
  (pss_cons (ps_set (i := 3) sc_law_spec.nd rfl (Or.inl rfl) (c_fn O_law_take hr (by decide) T.g_law_take pass0 (pa_cons (pv 0) (pa_cons (pe_op op_add (pe_ix ix_list (pv 2) pe_int (fun _ _ => rfl)) pe_int) pa_nil))))
  (pss_cons (ps_expr (pe_bm PySem.F.plainAttrs_list PySem.F.slot_list_append PySem.F.type_list_append mt_append (pv 2) (pa_cons (pv 3) pa_nil)))
  (C8.pss_cut (ps_if (pt_cmpR op_eq (pv 3) (pe_ix ix_list (pv 2) pe_int (fun _ _ => rfl)) (nomark _)) (pss_one (ps_asg pe_non (pg_sub (pv 2) pe_int set_list)))
  pss_nil)
  (pss_one (ps_ret (pv 2)))))))), ?_⟩
    refine ⟨_, rfl, _, rfl, d, n, lg, rfl, hd, by omega, by omega, fun q m q0 q1 => ⟨1, q, rfl, rfl, (by show 1 ≤ sizeLine; decide), fun s ns => ?_⟩⟩
    have x1 : SameX d H (upd H d (.lst [.int m])) := SameX.upd
    have hd1 : (upd H d (.lst [.int m])) d = some (.lst [.int m]) := upd_same
    generalize upd H d (.lst [.int m]) = H1 at x1 hd1 ns ⊢
    have nsd : s ≠ d := (ne_of_none hd1 ns).symm
    have s2 := same_new (o := .lst [.int (1 + q)]) ns
    have hs2 : (upd H1 s (.lst [.int (1 + q)])) s = some (.lst [.int (1 + q)]) := upd_same
    have hd2 := s2 _ _ hd1
    have x2 := x1.trans (same_x (d := d) s2)
    have nH : H s = none := by
      cases e : H s with
      | none => rfl
      | some o =>
        have := x1 _ _ nsd e
        rw [ns] at this
        cases this
    generalize upd H1 s (.lst [.int (1 + q)]) = H2 at hs2 hd2 x2 ⊢
    clear s2 ns x1 hd1
    refine ⟨_, rfl, .inl ⟨rfl, _, SqL.of hs2⟩, _, rfl, _, rfl, s, _, 0, .int (1 + q), rfl, rfl, SqL.of hs2, atI0, d, m, 1 + q, rfl, hd2, by omega, by omega, fun i m2 i0 i1 => ?_⟩
    have hs3 : (upd H2 d (.lst [.int m2])) s = some (.lst [.int (1 + q)]) := by rw [upd_ne nsd]; exact hs2
    refine ⟨s, _, _, rfl, rfl, hs3, (by show 1 < sizeLine; decide), ?_⟩
    have hs4 : (upd (upd H2 d (.lst [.int m2])) s (.lst ([.int (1 + q)] ++ [.int i]))) s = some (.lst [.int (1 + q), .int i]) := upd_same
    have hd4 : (upd (upd H2 d (.lst [.int m2])) s (.lst ([.int (1 + q)] ++ [.int i]))) d = some (.lst [.int m2]) := by rw [upd_ne nsd.symm]; exact upd_same
    have x4 : SameX d H (upd (upd H2 d (.lst [.int m2])) s (.lst ([.int (1 + q)] ++ [.int i]))) := fun b o nb e => by
      rw [upd_ne (ne_of_none e nH), upd_ne nb]
      exact x2 b o nb e
    generalize upd (upd H2 d (.lst [.int m2])) s (.lst ([.int (1 + q)] ++ [.int i])) = H4 at hs4 hd4 x4 ⊢
    clear hs3 hs2 hd2 x2 H2 H1
    refine ⟨_, rfl, _, rfl, s, _, 0, .int (1 + q), rfl, rfl, SqL.of hs4, atI0, _, _, rfl, rfl, d, m2, 1 + q + 1, rfl, hd4, by omega, by omega, fun h m3 h0 h1 => ?_⟩
    have hs5 : (upd H4 d (.lst [.int m3])) s = some (.lst [.int (1 + q), .int i]) := by rw [upd_ne nsd]; exact hs4
    refine ⟨_, rfl, .inl ⟨rfl, _, SqL.of hs5⟩, _, rfl, s, _, _, rfl, rfl, hs5, (by show 2 < sizeLine; decide), ?_⟩
    have hs6 : (upd (upd H4 d (.lst [.int m3])) s (.lst ([.int (1 + q), .int i] ++ [.int h]))) s = some (.lst [.int (1 + q), .int i, .int h]) := upd_same
    have hd6 : (upd (upd H4 d (.lst [.int m3])) s (.lst ([.int (1 + q), .int i] ++ [.int h]))) d = some (.lst [.int m3]) := by rw [upd_ne nsd.symm]; exact upd_same
    have x6 : SameX d H (upd (upd H4 d (.lst [.int m3])) s (.lst ([.int (1 + q), .int i] ++ [.int h]))) := fun b o nb e => by
      rw [upd_ne (ne_of_none e nH), upd_ne nb]
      exact x4 b o nb e
    generalize upd (upd H4 d (.lst [.int m3])) s (.lst ([.int (1 + q), .int i] ++ [.int h])) = H6 at hs6 hd6 x6 ⊢
    refine ⟨fun σ' H' => σ' = [some (.ref d), some (.int lg), some (.ref s), some (.int h)] ∧ SameX d H H' ∧ H' d = some (.lst [.int m3]) ∧ ∃ f : V, SpA H' s (1 + q) i f, ?_, ?_⟩
    · refine ⟨_, rfl, _, rfl, s, _, 0, .int (1 + q), rfl, rfl, SqL.of hs6, atI0, rfl, _, rfl, ite2 (fun hc => ?_) fun hc => ?_⟩
      · refine ⟨_, rfl, s, _, 2, 2, rfl, rfl, hs6, ixN2, rfl, fun b o nb e => ?_, by rw [upd_ne nsd.symm]; exact hd6, .non, upd_same, by omega, by omega, by omega, by omega, .inl rfl⟩
        rw [upd_ne (ne_of_none e nH)]
        exact x6 b o nb e
      · refine ⟨rfl, x6, hd6, .int h, hs6, by omega, by omega, by omega, by omega, .inr ⟨h, rfl, h0, ?_⟩⟩
        have : ¬ h = 1 + q := fun z => hc (decide_eq_true (congrArg V.int z))
        omega
    · rintro σ' H' ⟨rfl, x7, hd7, f, hf⟩
      exact ⟨_, rfl, k H' s m3 (1 + q) i f x7 hd7 nH hf (by omega)⟩
end
end K37

set_option Elab.async false
set_option linter.all false
set_option pp.deepTerms.threshold 14
set_option pp.maxSteps 2500
set_option maxRecDepth 100000
set_option maxHeartbeats 2000000
namespace K37
open PySem PySem.Spec PyProof.Rows L2 Vf 
section
variable {P : Program} {w : World} {K : PySem.W.Frag} {mg : Str → Option Value} {base : Heap}
def plP (r : Rw) : Str := ("  " : Str) ++ r.z ++ " " ++ kdS r.b ++ " " ++ dgS r.l ++ " " ++ dgS r.m
theorem plL_nil {r : Rw} (h : r.ns = []) : plL r = plP r ++ (" end" : Str) := by
  rw [plL_eq, h]
  show plP r ++ (" " : Str) ++ ("end" : Str) = _
  apply str_inj
  simp only [Str.cps_append, Array.toList_append, List.append_assoc]
  have e : (" " : Str).cps.toList ++ ("end" : Str).cps.toList = (" end" : Str).cps.toList := by decide +kernel
  rw [e]
theorem plL_cons {r : Rw} {z : Str} {zs : List Str} (h : r.ns = z :: zs) : plL r = plP r ++ (" to " : Str) ++ Txt.join " " (z :: zs) := by
  rw [plL_eq, h, to_join]
  show plP r ++ (" " : Str) ++ (("to " : Str) ++ Txt.join " " (z :: zs)) = _
  apply str_inj
  simp only [Str.cps_append, Array.toList_append, List.append_assoc]
  have e : (" to " : Str).cps.toList = (" " : Str).cps.toList ++ ("to " : Str).cps.toList := by decide +kernel
  rw [e, List.append_assoc]
theorem nm_strOk {z : Str} (h : nmB z = true) : PyData.strOk z = true := by
  unfold nmB at h
  simp only [Bool.and_eq_true] at h
  have h4 := h.2.2.2
  have hL : ∀ c ∈ LET.cps.toList, c < 0x110000 := by decide +kernel
  unfold PyData.strOk
  rw [Array.all_eq_true]
  intro i hi
  refine decide_eq_true (hL _ (of_decide_eq_true (List.all_eq_true.mp h4 _ ?_)))
  exact Array.getElem_mem_toList hi
theorem strs_lay : ∀ {ns : List Str}, (∀ v ∈ ns, nmB v = true) → PyData.canLayAll0 (ns.map PyData.str) = true ∧ PyData.depthAll (ns.map PyData.str) = 0
  | [], _ => ⟨rfl, rfl⟩
  | v :: ns, h => by
    obtain ⟨h1, h2⟩ := strs_lay (ns := ns) fun u hu => h u (List.mem_cons_of_mem _ hu)
    have hv := nm_strOk (h v List.mem_cons_self)
    refine ⟨?_, ?_⟩
    · show PyData.canLayAll0 (.str v :: ns.map PyData.str) = true
      simp [PyData.canLayAll0, PyData.canLay0, h1, hv]
    · show max (PyData.depth (.str v)) (PyData.depthAll (ns.map PyData.str)) = 0
      rw [h2]
      rfl
theorem strs_sh {ns : List Str} (h : ∀ v ∈ ns, nmB v = true) : SeqAt.shaped (.tuple (ns.map PyData.str)) = true := by
  obtain ⟨h1, h2⟩ := strs_lay h
  unfold SeqAt.shaped
  rw [Bool.and_eq_true]
  refine ⟨by simp [PyData.canLay0, h1], decide_eq_true ?_⟩
  simp [PyData.depth, h2]
theorem sc_law_text : FnScope ["_law_rows_here", "_law_spec_here", "_law_begin", "_law_lines_here", "_law_row", "_law_word", "_law_line", "_law_shown"] ["_law_rows_here", "_law_spec_here", "_law_begin"] (defScope s_law_text) := ⟨rfl, rfl, rfl, by decide +kernel, rfl, by decide +kernel, by decide +kernel⟩
-- slots: 0 _law_rows_here, 1 _law_spec_here, 2 _law_begin, 3 _law_lines_here, 4 _law_row, 5 _law_word, 6 _law_line, 7 _law_shown
def spTxt : Sp := fun vs H Q _ => ∃ (R s : Addr) (ys : List PgE) (n i : Int) (f : V) (z : Str), vs = [.ref R, .ref s, .str z] ∧ RowsA H R ys ∧ SpA H s n i f ∧ nmB z = true ∧ (∀ y ∈ ys, RwOk y.2.2) ∧ ys.length ≤ 6 ∧ ∀ H', Same H H' → Q (.str (pgT z (ys.map (·.2.2)) n i f)) H'
theorem ok_law_text {fd : FuncData} (F : FnD K ("_law_text", none) "_law_text" "_law_text" s_law_text fd) (T : Txt K mg) : OkF P w K mg base CX0 1 "_law_text" ["_law_rows_here", "_law_spec_here", "_law_begin"] spTxt := by
  refine okd F (F.ok sc_law_text (fun vs H Q E h => ?_) fun cdv A outer s H vs Q E hr h => ?_) fun _ _ _ _ _ _ us hl => match us, hl with | [_, _, _], _ => rfl
  · obtain ⟨R, s, ys, n, i, f, z, rfl, _⟩ := h
    rfl
  · obtain ⟨R, s, ys, n, i, f, z, rfl, hR, hs, hz, hok, l6, k⟩ := h
    refine ⟨_, PSs.nox (pss_cons (ps_set (i := 3) sc_law_text.nd rfl (Or.inl rfl) (pe_lst (pa_cons (pe_op op_add_str pe_str (pv 2)) pa_nil)))
  (pss_cons (ps_for PassesOwn.never rfl (pi_list (pv 0)) (pg_name (i := 4) sc_law_text.nd rfl (Or.inl rfl))
  (pss_cons (ps_set (i := 5) sc_law_text.nd rfl (Or.inl rfl) pe_str)
  (C8.pss_cut (ps_if (pt_val (pe_ix ix_list (pv 4) pe_int (fun _ _ => rfl))) (pss_one (ps_set (i := 5) sc_law_text.nd rfl (Or.inl rfl) pe_str))
  pss_nil)
  (pss_cons (ps_set (i := 6) sc_law_text.nd rfl (Or.inl rfl) (pe_op op_add_str (pe_op op_add_str (pe_op op_add_str pe_str (pe_ix ix_list (pv 4) pe_int (fun _ _ => rfl))) pe_str) (pv 5)))
  (pss_cons (ps_set (i := 6) sc_law_text.nd rfl (Or.inl rfl) (pe_op op_add_str (pe_op op_add_str (pe_op op_add_str (pe_op op_add_str (pv 6) pe_str) (pe_callTy call_str_int (by rfl) T.z_str (by decide +kernel) (pa_cons (pe_ix ix_list (pv 4) pe_int (fun _ _ => rfl)) pa_nil))) pe_str) (pe_callTy call_str_int (by rfl) T.z_str (by decide +kernel) (pa_cons (pe_ix ix_list (pv 4) pe_int (fun _ _ => rfl)) pa_nil))))
  (C8.pss_cut (ps_if (pt_cmpR (op_eqD hr.units) (pe_ix ix_list (pv 4) pe_int (fun _ _ => rfl)) (pe_tup pa_nil) (nomark _)) (pss_one (ps_set (i := 6) sc_law_text.nd rfl (Or.inl rfl) (pe_op op_add_str (pv 6) pe_str)))
  (pss_one (ps_set (i := 6) sc_law_text.nd rfl (Or.inl rfl) (pe_op op_add_str (pe_op op_add_str (pv 6) pe_str) (pe_m1 PySem.F.slot_str_join PySem.F.type_str_join mt_join pe_str (pe_callTy call_list_of (by rfl) T.z_list (by decide +kernel) (pa_cons (pe_ix ix_list (pv 4) pe_int (fun _ _ => rfl)) pa_nil)))))))
  (pss_one (ps_expr (pe_bm PySem.F.plainAttrs_list PySem.F.slot_list_append PySem.F.type_list_append mt_append (pv 3) (pa_cons (pv 6) pa_nil))))))))))
  (pss_cons (ps_set (i := 7) sc_law_text.nd rfl (Or.inl rfl) pe_str)
  (C8.pss_cut (ps_if (pt_cmpR op_notN (pe_ix ix_list (pv 1) pe_int (fun _ _ => rfl)) pe_non (nomark _)) (pss_one (ps_set (i := 7) sc_law_text.nd rfl (Or.inl rfl) (pe_callTy call_str_int (by rfl) T.z_str (by decide +kernel) (pa_cons (pe_ix ix_list (pv 1) pe_int (fun _ _ => rfl)) pa_nil))))
  pss_nil)
  (pss_cons (ps_set (i := 6) sc_law_text.nd rfl (Or.inl rfl) (pe_op op_add_str (pe_op op_add_str (pe_op op_add_str pe_str (pe_callTy call_str_int (by rfl) T.z_str (by decide +kernel) (pa_cons (pe_ix ix_list (pv 1) pe_int (fun _ _ => rfl)) pa_nil))) pe_str) (pe_callTy call_str_int (by rfl) T.z_str (by decide +kernel) (pa_cons (pe_ix ix_list (pv 1) pe_int (fun _ _ => rfl)) pa_nil))))
  (pss_cons (ps_expr (pe_bm PySem.F.plainAttrs_list PySem.F.slot_list_append PySem.F.type_list_append mt_append (pv 3) (pa_cons (pe_op op_add_str (pe_op op_add_str (pv 6) pe_str) (pv 7)) pa_nil)))
  (pss_one (ps_ret (pe_m1 PySem.F.slot_str_join PySem.F.type_str_join mt_join pe_str (pv 3)))))))))), ?_⟩
    have hz8 := (nm_free hz).2.2.1
    have big : 100000 ≤ sizeLine := by decide
    have e14 : ("program start " : Str).length = 14 := by decide +kernel
    refine ⟨_, rfl, "program start ", z, rfl, rfl, by omega, (by show 1 ≤ sizeLine; decide), fun D nD => ?_⟩
    have s1 := same_new (o := .lst [.str (stL z)]) nD
    have hD1 := upd_same (H := H) (a := D) (o := .lst [.str (stL z)])
    show tSeq _ _ _ _ (upd H D (.lst [.str (stL z)]))
    generalize upd H D (.lst [.str (stL z)]) = H1 at s1 hD1 ⊢
    refine ⟨_, rfl, R, rfl, ⟨_, SqL.of (s1 _ _ hR.hR)⟩, for_it walk_list (fun j σ H' => Same H H' ∧ H' D = some (.lst ((stL z :: (ys.take j).map fun y => plL y.2.2).map V.str)) ∧ ∃ v4 v5 v6 : Option V, σ = [some (.ref R), some (.ref s), some (.str z), some (.ref D), v4, v5, v6, none]) ⟨s1, hD1, none, none, none, rfl⟩ (fun j σ H' _ h => SqL.of (h.1 _ _ hR.hR)) ?_ ?_⟩
    · rintro j x σ H3 H' hj ⟨sg, hD, v4, v5, v6, rfl⟩ ⟨rfl, hx⟩
      obtain ⟨y, hy, rfl⟩ := getE hx
      have hym := List.mem_of_getElem? hy
      rw [List.length_map] at hj
      obtain ⟨hya, hyn⟩ := hR.row y hym
      replace hya := sg _ _ hya
      replace hyn := sg _ _ hyn
      have hr := hok y hym
      have h8 := (nm_free hr.1).2.2.1
      have hk := (kd_free y.2.2.b).2.2
      have hdl : (Str.ofString (toString y.2.2.l)).length = 1 := (dgI (n := y.2.2.l) (by have := hr.2.1; omega) (by have := hr.2.2.1; have := hr.2.2.2.1; omega)).2.2.1
      have hdm : (Str.ofString (toString y.2.2.m)).length = 1 := (dgI (n := y.2.2.m) (by have := hr.2.1; have := hr.2.2.1; omega) (by have := hr.2.2.2.1; omega)).2.2.1
      have e2 : ("  " : Str).length = 2 := by decide +kernel
      have e1 : (" " : Str).length = 1 := by decide +kernel
      show C8.tCut _ _ _ [some (.ref R), some (.ref s), some (.str z), some (.ref D), some (.ref y.1), some (.str "closed"), v6, none] _
      refine ⟨fun σ' Hx => Hx = H' ∧ σ' = [some (.ref R), some (.ref s), some (.str z), some (.ref D), some (.ref y.1), some (.str (kdS y.2.2.b)), v6, none], ?_, ?_⟩
      · refine ⟨_, rfl, y.1, _, 3, .bl y.2.2.b, rfl, rfl, SqL.of hya, atI_nat (j := 3) rfl, y.2.2.b, rfl, ?_⟩
        cases y.2.2.b with
        | true => exact iteT ⟨rfl, rfl⟩
        | false => exact iteF ⟨rfl, rfl⟩
      rintro σ' Hx ⟨rfl, rfl⟩
      refine ⟨_, rfl, y.1, _, 0, .str y.2.2.z, rfl, rfl, SqL.of hya, atI0, "  ", _, rfl, rfl, ?_, _, _, rfl, rfl, ?_, _, rfl, _, _, rfl, rfl, ?_, _, rfl, _, _, rfl, rfl, ?_, _, rfl, y.1, _, 1, .int y.2.2.l, rfl, rfl, SqL.of hya, atI1, y.2.2.l, rfl, ?_, _, _, rfl, rfl, ?_, _, _, rfl, rfl, ?_, _, rfl, y.1, _, 2, .int y.2.2.m, rfl, rfl, SqL.of hya, atI_nat (j := 2) rfl, y.2.2.m, rfl, ?_, _, _, rfl, rfl, ?_, ?_⟩
      rotate_right
      · have hpl := plL_len hr
        have hpp : (plP y.2.2).length ≤ 100 := by
          have e0 : (plP y.2.2).length = ("  " ++ y.2.2.z ++ " " ++ kdS y.2.2.b ++ " " ++ Str.ofString (toString y.2.2.l) ++ " " ++ Str.ofString (toString y.2.2.m) : Str).length := rfl
          rw [e0]
          simp only [Str.length_append, e1, e2, hdl, hdm]
          omega
        show C8.tCut _ _ _ [some (.ref R), some (.ref s), some (.str z), some (.ref D), some (.ref y.1), some (.str (kdS y.2.2.b)), some (.str (plP y.2.2)), none] Hx
        refine ⟨fun σ' H4 => Same Hx H4 ∧ σ' = [some (.ref R), some (.ref s), some (.str z), some (.ref D), some (.ref y.1), some (.str (kdS y.2.2.b)), some (.str (plL y.2.2)), none], ?_, ?_⟩
        · refine ⟨_, rfl, y.1, _, 4, .ref y.2.1, rfl, rfl, SqL.of hya, atI_nat (j := 4) rfl, (by show 0 ≤ sizeLine; decide), fun t nt => ?_⟩
          have s4 := same_new (o := .tup []) nt
          refine ⟨.tuple (y.2.2.ns.map PyData.str), .tuple [], .tup (SqT.of (s4 _ _ hyn)) strs_dp, .tup (SqT.of upd_same) .nil, strs_sh hr.2.2.2.2.1, by decide +kernel, _, rfl, ?_⟩
          have hya4 := s4 _ _ hya
          have hyn4 := s4 _ _ hyn
          generalize upd Hx t (.tup []) = H4 at s4 hya4 hyn4 ⊢
          cases hn : y.2.2.ns with
          | nil =>
            refine iteT ⟨_, rfl, _, _, rfl, rfl, ?_, s4, ?_⟩
            · have e4 : (" end" : Str).length = 4 := by decide +kernel
              omega
            · rw [plL_nil hn]
              rfl
          | cons v vs =>
            rw [hn] at hyn4
            have hnl := hr.2.2.2.2.2.2
            rw [hn] at hnl
            have e4 : (" to " : Str).length = 4 := by decide +kernel
            have hw : ∀ w ∈ v :: vs, okW1 w := fun w hw => okW1_nm (hr.2.2.2.2.1 w (by rw [hn]; exact hw))
            have hjl := okW_len hw
            refine iteF ⟨_, rfl, _, _, rfl, rfl, by omega, ⟨_, rfl⟩, _, rfl, y.1, _, 4, .ref y.2.1, rfl, rfl, SqL.of hya4, atI_nat (j := 4) rfl, y.2.1, _, rfl, .inr (SqT.of hyn4), fun l nl => ⟨" ", l, v :: vs, rfl, rfl, .inl (SqL.of upd_same), ?_, _, _, rfl, rfl, ?_, s4.trans (same_new nl), ?_⟩⟩
            · have h1 := sum_le (f := fun w : Str => w.length) (k := 8) (xs := v :: vs) fun w h => (hw w h).2.2
              rw [e1]
              omega
            · rw [Str.length_append]
              omega
            · rw [plL_cons hn]
              rfl
        rintro σ' H4 ⟨s4, rfl⟩
        have hD4 := s4 _ _ hD
        refine ⟨_, rfl, .inl ⟨rfl, _, SqL.of hD4⟩, _, rfl, D, _, _, rfl, rfl, hD4, ?_, ?_⟩
        · rw [List.length_map, List.length_cons, List.length_map, List.length_take]
          exact Nat.lt_of_le_of_lt (show _ ≤ 1000 by omega) (by decide)
        · refine ⟨same_app (sg.trans s4) (Same.refl _) nD, ?_, _, _, _, rfl⟩
          rw [upd_same, List.take_add_one, hy, List.map_cons, List.map_cons, List.map_append, List.map_append]
          rfl
      all_goals
        first
        | exact Nat.lt_of_le_of_lt (Nat.log2_le_self _) (by have := hr.2.1; have := hr.2.2.1; have := hr.2.2.2.1; omega)
        | (simp only [Str.length_append, e1, e2, hdl, hdm]; omega)
    · rintro σ H3 ⟨sg, hD, v4, v5, v6, rfl⟩
      rw [List.length_map, List.take_length] at hD
      have hs3 := sg _ _ hs.hs
      have n1 := hs.n1
      have n8 := hs.n8
      have i0 := hs.i0
      have i1 := hs.i1
      have hf := hs.hf
      show C8.tCut _ _ _ [some (.ref R), some (.ref s), some (.str z), some (.ref D), v4, v5, v6, some (.str "any")] H3
      refine ⟨fun σ' Hx => Hx = H3 ∧ σ' = [some (.ref R), some (.ref s), some (.str z), some (.ref D), v4, v5, v6, some (.str (phS f))], ?_, ?_⟩
      · refine ⟨_, rfl, s, _, 2, f, rfl, rfl, SqL.of hs3, atI_nat (j := 2) rfl, rfl, _, rfl, ?_⟩
        rcases hf with rfl | ⟨q, rfl, q0, q1⟩
        · exact iteF ⟨rfl, rfl⟩
        · exact iteT ⟨_, rfl, s, _, 2, .int q, rfl, rfl, SqL.of hs3, atI_nat (j := 2) rfl, q, rfl, Nat.lt_of_le_of_lt (Nat.log2_le_self _) (by omega), rfl, rfl⟩
      rintro σ' Hx ⟨rfl, rfl⟩
      have e15 : ("sampler period " : Str).length = 15 := by decide +kernel
      have e8 : (" jitter " : Str).length = 8 := by decide +kernel
      have e7 : (" phase " : Str).length = 7 := by decide +kernel
      have hdn : (Str.ofString (toString n)).length = 1 := (dgI (n := n) (by omega) (by omega)).2.2.1
      have hdi : (Str.ofString (toString i)).length = 1 := (dgI (n := i) i0 (by omega)).2.2.1
      have hph := (phS_ok hf n8).2.2
      refine ⟨_, rfl, s, _, 0, .int n, rfl, rfl, SqL.of hs3, atI0, n, rfl, ?_, "sampler period ", _, rfl, rfl, ?_, _, _, rfl, rfl, ?_, _, rfl, s, _, 1, .int i, rfl, rfl, SqL.of hs3, atI1, i, rfl, ?_, _, _, rfl, rfl, ?_, ?_⟩
      rotate_right
      · refine ⟨_, rfl, .inl ⟨rfl, _, SqL.of hD⟩, _, rfl, _, _, rfl, rfl, ?_, _, rfl, _, _, rfl, rfl, ?_, D, _, _, rfl, rfl, hD, ?_, ?_⟩
        rotate_right
        · have e9 : ((stL z :: ys.map fun y => plL y.2.2).map V.str ++ [V.str (("sampler period " : Str) ++ Str.ofString (toString n) ++ " jitter " ++ Str.ofString (toString i) ++ " phase " ++ phS f)] : List V) = (stL z :: ((ys.map (·.2.2)).map plL ++ [smL n i f])).map V.str := by
            rw [List.map_cons, List.map_cons, List.map_append, List.map_map (f := fun x : PgE => x.2.2), smL_eq]
            rfl
          rw [e9]
          have hl := pgT_len (rs := ys.map (·.2.2)) hz (fun r hr => by obtain ⟨x, hx, rfl⟩ := List.mem_map.mp hr; exact hok x hx) (by rw [List.length_map]; exact l6) n1 n8 i0 i1 hf
          refine ⟨⟨_, rfl⟩, _, rfl, "\n", D, _, rfl, rfl, .inl (SqL.of upd_same), ?_, k _ (same_app sg (Same.refl _) nD)⟩
          have e1 : ("\n" : Str).length = 1 := by decide +kernel
          have hl1 := hl.1
          rw [e1, List.length_cons, List.length_append, List.length_map, List.length_map, List.length_singleton]
          omega
        · simp only [Str.length_append, e15, e8, e7, hdn, hdi]
          omega
        · simp only [Str.length_append, e15, e8, e7, hdn, hdi]
          omega
        · rw [List.length_map, List.length_cons, List.length_map]
          exact Nat.lt_of_le_of_lt (show _ ≤ 1000 by omega) (by decide)
      all_goals
        first
        | exact Nat.lt_of_le_of_lt (Nat.log2_le_self _) (by omega)
        | (simp only [Str.length_append, e15, e8, e7, hdn, hdi]; omega)
end
end K37

set_option Elab.async false
set_option linter.all false
set_option pp.deepTerms.threshold 14
set_option pp.maxSteps 2500
set_option maxRecDepth 100000
set_option maxHeartbeats 2000000
namespace K37
open PySem PySem.Spec PyProof.Rows L2 Vf 
section
variable {P : Program} {w : World} {K : PySem.W.Frag} {mg : Str → Option Value} {base : Heap}
theorem cutS_up {a b : Str} {n : Nat} (h : a.length = n) : cutS (a ++ b) none (some (n : Int)) = a := by
  apply str_inj
  unfold cutS
  have hl : (a ++ b).cps.toList.length = (a ++ b).length := by simp [Str.length]
  have e1 : HT.sIx (a ++ b).length 0 none = 0 := rfl
  have e2 : HT.sIx (a ++ b).length (a ++ b).length (some (n : Int)) = n := by
    rw [HT.sIx_nat, Str.length_append]
    omega
  rw [e1, e2, List.drop_zero, Nat.sub_zero, Str.cps_append, Array.toList_append]
  show List.take n (a.cps.toList ++ b.cps.toList) = a.cps.toList
  rw [List.take_left' (by rw [← h]; simp [Str.length])]
theorem cutS_fr {a b : Str} {n : Nat} (h : a.length = n) : cutS (a ++ b) (some (n : Int)) none = b := by
  apply str_inj
  unfold cutS
  have e1 : HT.sIx (a ++ b).length 0 (some (n : Int)) = n := by
    rw [HT.sIx_nat, Str.length_append]
    omega
  have e2 : HT.sIx (a ++ b).length (a ++ b).length none = (a ++ b).length := rfl
  rw [e1, e2, Str.cps_append, Array.toList_append, List.drop_left' (by rw [← h]; simp [Str.length])]
  show List.take _ b.cps.toList = b.cps.toList
  refine List.take_of_length_le ?_
  rw [Str.length_append]
  simp [Str.length] at h ⊢
  omega
theorem cutS_both (z : Str) (n : Nat) : z = cutS z none (some (n : Int)) ++ cutS z (some (n : Int)) none := by
  apply str_inj
  rw [Str.cps_append, Array.toList_append]
  unfold cutS
  have hl : z.cps.toList.length = z.length := by simp [Str.length]
  have e1 : HT.sIx z.length 0 none = 0 := rfl
  have e2 : HT.sIx z.length z.length none = z.length := rfl
  have e3 : HT.sIx z.length z.length (some (n : Int)) = min n z.length := by rw [HT.sIx_nat]
  have e4 : HT.sIx z.length 0 (some (n : Int)) = min n z.length := by rw [HT.sIx_nat]
  rw [e1, e2, e3, e4]
  show z.cps.toList = List.take _ (List.drop 0 z.cps.toList) ++ List.take _ (List.drop _ z.cps.toList)
  rw [List.drop_zero, Nat.sub_zero]
  generalize min n z.length = k
  have h2 : (z.cps.toList.drop k).take (z.length - k) = z.cps.toList.drop k := List.take_of_length_le (by rw [List.length_drop, hl]; exact Nat.le_refl _)
  rw [h2, List.take_append_drop]
theorem dg_inj {a b : Int} (a0 : 0 ≤ a) (a9 : a ≤ 9) (b0 : 0 ≤ b) (b9 : b ≤ 9) (h : dgS a = dgS b) : a = b := by
  have h1 := (dgI a0 a9).2.2.2.1
  have h2 := (dgI b0 b9).2.2.2.1
  rw [← h1, ← h2]
  show Txt.find DIG (dgS a) = Txt.find DIG (dgS b)
  rw [h]
theorem sc_law_number : FnScope ["_law_word", "_law_low", "_law_high", "_law_k"] ["_law_word", "_law_low", "_law_high"] (defScope s_law_number) := ⟨rfl, rfl, rfl, by decide +kernel, rfl, by decide +kernel, by decide +kernel⟩
-- slots: 0 _law_word, 1 _law_low, 2 _law_high, 3 _law_k
def spNum : Sp := fun vs H Q _ => ∃ (w : Str) (lo hi : Int), vs = [.str w, .int lo, .int hi] ∧ 0 ≤ lo ∧ lo ≤ 9 ∧ hi ≤ 9 ∧ -2 ≤ hi ∧ ((∃ n, lo ≤ n ∧ n ≤ hi ∧ w = dgS n ∧ Q (.int n) H) ∨ ((∀ n, lo ≤ n → n ≤ hi → w ≠ dgS n) ∧ Q (.int (-1)) H))
theorem ok_law_number {fd : FuncData} (F : FnD K ("_law_number", none) "_law_number" "_law_number" s_law_number fd) (T : Txt K mg) : OkF P w K mg base CX0 1 "_law_number" ["_law_word", "_law_low", "_law_high"] spNum := by
  refine okd F (F.ok sc_law_number (fun vs H Q E h => ?_) fun cdv A outer s H vs Q E hr h => ?_) fun _ _ _ _ _ _ us hl => match us, hl with | [_, _, _], _ => rfl
  · obtain ⟨w, lo, hi, rfl, _⟩ := h
    rfl
  · obtain ⟨w, lo, hi, rfl, l0, l9, h9, lh, h⟩ := h
    refine ⟨_, PSs.nox (pss_cons (ps_for PassesOwn.never rfl (pi_range2 rfl T.z_range (pa_cons (pv 1) (pa_cons (pe_op op_add (pv 2) pe_int) pa_nil))) (pg_name (i := 3) sc_law_number.nd rfl (Or.inl rfl))
  (pss_one (ps_if (pt_cmpR op_eq (pv 0) (pe_callTy call_str_int (by rfl) T.z_str (by decide +kernel) (pa_cons (pv 3) pa_nil)) (nomark _)) (pss_one (ps_ret (pv 3)))
  pss_nil)))
  (pss_one (ps_ret (pe_un un_neg pe_int)))), ?_⟩
    refine ⟨_, rfl, _, rfl, hi, 1, rfl, rfl, lo, hi + 1, rfl, ⟨by omega, by omega, by omega, by omega⟩, for_range (lo := lo) (n := (hi + 1 - lo).toNat) (fun i σ H1 => H1 = H ∧ (∀ m, lo ≤ m → m < lo + (i : Int) → w ≠ dgS m) ∧ ∃ v, σ = [some (.str w), some (.int lo), some (.int hi), v]) ⟨rfl, fun m a b => by omega, none, rfl⟩ ?_ ?_⟩
    · rintro i σ H1 hi' ⟨rfl, hno, v, rfl⟩
      refine ⟨_, rfl, _, rfl, lo + (i : Int), rfl, Nat.lt_of_le_of_lt (Nat.log2_le_self _) (by omega), rfl, _, rfl, ?_⟩
      show if decide (V.str w = V.str (dgS (lo + (i : Int)))) = true then _ else _
      by_cases hw : w = dgS (lo + (i : Int))
      · rw [decide_eq_true (congrArg V.str hw)]
        refine iteT ⟨_, rfl, ?_⟩
        rcases h with ⟨n, n0, n9, e, q⟩ | ⟨no, _⟩
        · rw [dg_inj (a := lo + (i : Int)) (b := n) (by omega) (by omega) (by omega) (by omega) (hw.symm.trans e)]
          exact q
        · exact absurd hw (no _ (by omega) (by omega))
      · rw [decide_eq_false fun e => hw (V.str.inj e)]
        refine iteF ⟨rfl, fun m a b => ?_, _, rfl⟩
        by_cases hm : m = lo + (i : Int)
        · rw [hm]; exact hw
        · exact hno m a (by omega)
    · rintro σ H1 ⟨rfl, hno, v, rfl⟩
      rcases h with ⟨n, n0, n9, e, q⟩ | ⟨_, q⟩
      · exact absurd e (hno n n0 (by omega))
      · exact ⟨1, rfl, q⟩
theorem sc_law_is_name : FnScope ["_law_word", "_law_letter"] ["_law_word"] (defScope s_law_is_name) := ⟨rfl, rfl, rfl, by decide +kernel, rfl, by decide +kernel, by decide +kernel⟩
-- slots: 0 _law_word, 1 _law_letter
def spIsn : Sp := fun vs H Q _ => ∃ z : Str, vs = [.str z] ∧ z.length ≤ 1000 ∧ ∀ H', Same H H' → Q (.bl (nmB z)) H'
theorem ok_law_is_name {fd : FuncData} (F : FnD K ("_law_is_name", none) "_law_is_name" "_law_is_name" s_law_is_name fd) (T : Txt K mg) : OkF P w K mg base CX0 1 "_law_is_name" ["_law_word"] spIsn := by
  refine okd F (F.ok sc_law_is_name (fun vs H Q E h => ?_) fun cdv A outer s H vs Q E hr h => ?_) fun _ _ _ _ _ _ us hl => match us, hl with | [_], _ => rfl
  · obtain ⟨z, rfl, _⟩ := h
    rfl
  · obtain ⟨z, rfl, hz, k⟩ := h
    refine ⟨_, PSs.nox (pss_cons (ps_if (PW.pt (pw_orB (pt_not (pt_chain op_le op_le pe_int (pe_callB call_len_str (by rfl) T.z_len (by decide +kernel) (pa_cons (pv 0) pa_nil)) pe_int)) (pw_or1 (pt_cmpR op_in_seq (pv 0) (pe_lst (pa_cons pe_str (pa_cons pe_str (pa_cons pe_str (pa_cons pe_str (pa_cons pe_str pa_nil)))))) rfl)))) (pss_one (ps_ret pe_bl))
  pss_nil)
  (pss_cons (ps_for PassesOwn.never rfl (pi_str (pv 0)) (pg_name (i := 1) sc_law_is_name.nd rfl (Or.inl rfl))
  (pss_one (ps_if (pt_cmpR op_notin_str (pv 1) pe_str rfl) (pss_one (ps_ret pe_bl))
  pss_nil)))
  (pss_one (ps_ret pe_bl)))), ?_⟩
    have go : ∀ b : Bool, nmB z = b → ∀ H', Same H H' → Q (.bl b) H' := fun b e H' s => e ▸ k H' s
    have big : 100000 ≤ sizeLine := by decide
    by_cases l1 : (1 : Int) ≤ z.length
    · by_cases l2 : (z.length : Int) ≤ 8
      · refine ⟨_, rfl, z, rfl, by omega, 1, z.length, rfl, rfl, true, congrArg V.bl (decide_eq_true l1), iteT ⟨z.length, 8, rfl, rfl, true, congrArg V.bl (decide_eq_true l2), inV (.str z) (KEPT.map V.str), fun H' => Same H H', fun _ => ⟨_, rfl, (by show 5 ≤ sizeLine; decide), fun L nL => ⟨L, KEPT.map V.str, rfl, .inl (SqL.of upd_same), rfl, by decide +kernel, _, rfl, rfl, same_new nL⟩⟩, (fun c => Bool.noConfusion c), fun H1 s1 => ?_⟩⟩
        have e1 : decide (1 ≤ z.length) = true := decide_eq_true (by omega)
        have e2 : decide (z.length ≤ 8) = true := decide_eq_true (by omega)
        unfold nmB at go
        rw [e1, e2, Bool.true_and, Bool.true_and] at go
        cases hv : inV (.str z) (KEPT.map V.str) with
        | true =>
          rw [hv] at go
          exact iteT (go false rfl _ s1)
        | false =>
          rw [hv] at go
          refine iteF ⟨_, rfl, z, rfl, for_it walk_str (fun i σ H' => H' = H1 ∧ (∀ c ∈ z.cps.toList.take i, c ∈ LET.cps.toList) ∧ ∃ v, σ = [some (.str z), v]) ⟨rfl, (fun c h => by simp at h), none, rfl⟩ (fun _ _ _ _ _ => trivial) ?_ ?_⟩
          · rintro i x σ H3 H' hi ⟨rfl, hin, v, rfl⟩ ⟨rfl, c, hc, rfl⟩
            have hc2 : z.cps.toList[i]? = some c := by simpa using hc
            refine ⟨_, rfl, _, _, rfl, rfl, _, rfl, ?_⟩
            rw [sign_in]
            by_cases hcl : c ∈ LET.cps.toList
            · rw [show decide (c ∈ (Str.ofString "abcdefghijklmnopqrstuvwxyz").cps.toList) = true from decide_eq_true hcl]
              refine iteF ⟨rfl, fun d hd => ?_, _, rfl⟩
              rw [List.take_add_one, hc2] at hd
              rcases List.mem_append.mp hd with hd | hd
              · exact hin d hd
              · cases List.mem_singleton.mp hd
                exact hcl
            · rw [show decide (c ∈ (Str.ofString "abcdefghijklmnopqrstuvwxyz").cps.toList) = false from decide_eq_false hcl]
              refine iteT (go false ?_ _ s1)
              rw [Bool.not_false, Bool.true_and]
              refine Bool.eq_false_iff.mpr fun h => hcl ?_
              exact of_decide_eq_true (List.all_eq_true.mp h c (List.mem_of_getElem? hc2))
          · rintro σ H3 ⟨rfl, hin, v, rfl⟩
            refine go true ?_ _ s1
            rw [Bool.not_false, Bool.true_and, List.all_eq_true]
            intro c hc
            rw [List.take_of_length_le (by simp)] at hin
            exact decide_eq_true (hin c hc)
      · refine ⟨_, rfl, z, rfl, by omega, 1, z.length, rfl, rfl, true, congrArg V.bl (decide_eq_true l1), iteT ⟨z.length, 8, rfl, rfl, false, congrArg V.bl (decide_eq_false l2), true, fun H' => H' = H, (fun c => Bool.noConfusion c), fun _ => rfl, fun H1 s1 => ?_⟩⟩
        subst s1
        refine iteT (go false ?_ _ (Same.refl _))
        unfold nmB
        rw [show decide (z.length ≤ 8) = false from decide_eq_false (by omega)]
        simp
    · refine ⟨_, rfl, z, rfl, by omega, 1, z.length, rfl, rfl, false, congrArg V.bl (decide_eq_false l1), iteF ⟨false, rfl, true, fun H' => H' = H, (fun c => Bool.noConfusion c), fun _ => rfl, fun H1 s1 => ?_⟩⟩
      subst s1
      refine iteT (go false ?_ _ (Same.refl _))
      unfold nmB
      rw [show decide (1 ≤ z.length) = false from decide_eq_false (by omega)]
      simp
end
end K37

set_option Elab.async false
set_option linter.all false
set_option pp.deepTerms.threshold 14
set_option pp.maxSteps 2500
set_option maxRecDepth 100000
set_option maxHeartbeats 2000000
namespace K37
open PySem PySem.Spec PyProof.Rows L2 Vf 
section
variable {P : Program} {w : World} {K : PySem.W.Frag} {mg : Str → Option Value} {base : Heap}
/-! ### texts of signs that are -/
def Tx (z : Str) : Prop := ∀ c ∈ z.cps.toList, c < 1114112
theorem tx_ok {z : Str} (h : Tx z) : PyData.strOk z = true := by
  unfold PyData.strOk
  rw [Array.all_eq_true]
  intro i hi
  exact decide_eq_true (h _ (Array.getElem_mem_toList hi))
theorem tx_app {a b : Str} (ha : Tx a) (hb : Tx b) : Tx (a ++ b) := fun c hc => by
  rw [Str.cps_append, Array.toList_append] at hc
  exact (List.mem_append.mp hc).elim (ha c) (hb c)
theorem tx_cut {z : Str} (h : Tx z) (a b : Option Int) : Tx (cutS z a b) := fun c hc => by
  unfold cutS at hc
  exact h c (List.mem_of_mem_drop (List.mem_of_mem_take hc))
theorem jnC_sub {c : Nat} : ∀ {A : List (List Nat)} {x : List Nat}, x ∈ A → ∀ d ∈ x, d ∈ jnC c A
  | [y], x, hx, d, hd => by
    rw [List.mem_singleton.mp hx] at hd
    exact hd
  | y :: z :: r, x, hx, d, hd => by
    show d ∈ y ++ c :: jnC c (z :: r)
    rcases List.mem_cons.mp hx with rfl | hx
    · exact List.mem_append_left _ hd
    · exact List.mem_append_right _ (List.mem_cons_of_mem _ (jnC_sub hx d hd))
theorem jnC_in {c : Nat} : ∀ {A : List (List Nat)} {d : Nat}, d ∈ jnC c A → d = c ∨ ∃ x ∈ A, d ∈ x
  | [], d, h => nomatch h
  | [y], d, h => .inr ⟨y, List.mem_cons_self, h⟩
  | y :: z :: r, d, h => by
    have h : d ∈ y ++ c :: jnC c (z :: r) := h
    rcases List.mem_append.mp h with h | h
    · exact .inr ⟨y, List.mem_cons_self, h⟩
    · rcases List.mem_cons.mp h with h | h
      · exact .inl h
      · rcases jnC_in h with h | ⟨x, hx, h⟩
        · exact .inl h
        · exact .inr ⟨x, List.mem_cons_of_mem _ hx, h⟩
theorem tx_part {z a : Str} {c : Nat} (h : Tx z) (ha : a ∈ Txt.split z ⟨#[c]⟩) : Tx a := fun d hd => by
  have e := congrArg (fun s : Str => s.cps.toList) (PySem.StrLaws.join_split z ⟨#[c]⟩)
  rw [jnC_of] at e
  refine h d ?_
  have e : jnC c ((Txt.split z ⟨#[c]⟩).map fun s => s.cps.toList) = z.cps.toList := e
  rw [← e]
  exact jnC_sub (List.mem_map_of_mem ha) d hd
theorem tx_join {ls : List Str} {c : Nat} (hc : c < 1114112) (h : ∀ s ∈ ls, Tx s) : Tx (Txt.join ⟨#[c]⟩ ls) := fun d hd => by
  rw [join_cps] at hd
  rcases jnC_in hd with rfl | ⟨x, hx, hd⟩
  · exact hc
  · obtain ⟨s, hs, rfl⟩ := List.mem_map.mp hx
    exact h s hs d hd
theorem tx_sp {z a : Str} (h : Tx z) (ha : a ∈ Txt.split z " ") : Tx a := by
  rw [spc] at ha
  exact tx_part h ha
theorem tx_nl {z a : Str} (h : Tx z) (ha : a ∈ Txt.split z "\n") : Tx a := by
  rw [nlc] at ha
  exact tx_part h ha
theorem strs_layX : ∀ {ns : List Str}, (∀ v ∈ ns, Tx v) → PyData.canLayAll0 (ns.map PyData.str) = true ∧ PyData.depthAll (ns.map PyData.str) = 0
  | [], _ => ⟨rfl, rfl⟩
  | v :: ns, h => by
    obtain ⟨h1, h2⟩ := strs_layX (ns := ns) fun u hu => h u (List.mem_cons_of_mem _ hu)
    have hv := tx_ok (h v List.mem_cons_self)
    refine ⟨?_, ?_⟩
    · show PyData.canLayAll0 (.str v :: ns.map PyData.str) = true
      simp [PyData.canLayAll0, PyData.canLay0, h1, hv]
    · show max (PyData.depth (.str v)) (PyData.depthAll (ns.map PyData.str)) = 0
      rw [h2]
      rfl
theorem strs_shL {ns : List Str} (h : ∀ v ∈ ns, Tx v) : SeqAt.shaped (.list (ns.map PyData.str)) = true := by
  obtain ⟨h1, h2⟩ := strs_layX h
  unfold SeqAt.shaped
  rw [Bool.and_eq_true]
  refine ⟨by simp [PyData.canLay0, h1], decide_eq_true ?_⟩
  simp [PyData.depth, h2]
theorem num_of (w : Str) (lo hi : Int) : ∃ o : Int, ((o = -1 ∧ ∀ n, lo ≤ n → n ≤ hi → w ≠ dgS n) ∨ (lo ≤ o ∧ o ≤ hi ∧ w = dgS o)) ∧ ∀ P : Int → Prop, P o → ((∃ n, lo ≤ n ∧ n ≤ hi ∧ w = dgS n ∧ P n) ∨ ((∀ n, lo ≤ n → n ≤ hi → w ≠ dgS n) ∧ P (-1))) := by
  rcases Classical.em (∃ n, lo ≤ n ∧ n ≤ hi ∧ w = dgS n) with ⟨n, h1, h2, h3⟩ | hno
  · exact ⟨n, .inr ⟨h1, h2, h3⟩, fun P q => .inl ⟨n, h1, h2, h3, q⟩⟩
  · have hn : ∀ n, lo ≤ n → n ≤ hi → w ≠ dgS n := fun n a b e => hno ⟨n, a, b, e⟩
    exact ⟨-1, .inl ⟨rfl, hn⟩, fun P q => .inr ⟨hn, q⟩⟩
theorem sm_iff {z a0 a1 a2 a3 a4 a5 a6 : Str} (hsp : Txt.split z " " = [a0, a1, a2, a3, a4, a5, a6]) : isSm z ↔ (a0 = "sampler" ∧ a1 = "period") ∧ (a3 = "jitter" ∧ a5 = "phase") ∧ ∃ n i : Int, (1 ≤ n ∧ n ≤ 8 ∧ a2 = dgS n) ∧ (0 ≤ i ∧ i ≤ n - 1 ∧ a4 = dgS i) ∧ (a6 = "any" ∨ ∃ q : Int, 0 ≤ q ∧ q ≤ n - 1 ∧ a6 = dgS q) := by
  constructor
  · rintro ⟨n, i, f, rfl, h1, h2, h3, h4, h5⟩
    rw [smL_split h1 h2 h3 h4 h5] at hsp
    unfold smW at hsp
    injection hsp with e0 hsp
    injection hsp with e1 hsp
    injection hsp with e2 hsp
    injection hsp with e3 hsp
    injection hsp with e4 hsp
    injection hsp with e5 hsp
    injection hsp with e6 hsp
    refine ⟨⟨e0.symm, e1.symm⟩, ⟨e3.symm, e5.symm⟩, n, i, ⟨h1, h2, e2.symm⟩, ⟨h3, h4, e4.symm⟩, ?_⟩
    rcases h5 with rfl | ⟨q, rfl, q0, q1⟩
    · exact .inl e6.symm
    · exact .inr ⟨q, q0, q1, e6.symm⟩
  · rintro ⟨⟨rfl, rfl⟩, ⟨rfl, rfl⟩, n, i, ⟨h1, h2, rfl⟩, ⟨h3, h4, rfl⟩, h5⟩
    have hj := PySem.StrLaws.join_split z " "
    rw [hsp] at hj
    have hj : z = Txt.join " " _ := hj.symm.trans (PySem.StrLaws.glued_eq_join _ _).symm
    rcases h5 with rfl | ⟨q, q0, q1, rfl⟩
    · exact ⟨n, i, .non, hj, h1, h2, h3, h4, .inl rfl⟩
    · exact ⟨n, i, .int q, hj, h1, h2, h3, h4, .inr ⟨q, rfl, q0, q1⟩⟩
theorem sc_law_is_sampler : FnScope ["_law_line", "_law_words_here", "_law_longest"] ["_law_line"] (defScope s_law_is_sampler) := ⟨rfl, rfl, rfl, by decide +kernel, rfl, by decide +kernel, by decide +kernel⟩
-- slots: 0 _law_line, 1 _law_words_here, 2 _law_longest
def spIsm : Sp := fun vs H Q _ => ∃ z : Str, vs = [.str z] ∧ z.length ≤ 1000 ∧ Tx z ∧ ((isSm z ∧ ∀ H', Same H H' → Q (.bl true) H') ∨ (¬ isSm z ∧ ∀ H', Same H H' → Q (.bl false) H'))
theorem ok_law_is_sampler {fd : FuncData} (F : FnD K ("_law_is_sampler", none) "_law_is_sampler" "_law_is_sampler" s_law_is_sampler fd) (T : Txt K mg) (O_law_number : OkF P w K mg base CX0 1 "_law_number" ["_law_word", "_law_low", "_law_high"] spNum) : OkF P w K mg base CX0 2 "_law_is_sampler" ["_law_line"] spIsm := by
  refine okd F (F.ok sc_law_is_sampler (fun vs H Q E h => ?_) fun cdv A outer s H vs Q E hr h => ?_) fun _ _ _ _ _ _ us hl => match us, hl with | [_], _ => rfl
  · obtain ⟨z, rfl, _⟩ := h
    rfl
  · obtain ⟨z, rfl, hz, hx, h⟩ := h
    refine ⟨_, PSs.nox (pss_cons (ps_set (i := 1) sc_law_is_sampler.nd rfl (Or.inl rfl) (pe_m1 PySem.F.slot_str_split PySem.F.type_str_split mt_split (pv 0) pe_str))
  (pss_cons (ps_if (PW.pt (pw_orB (pt_cmpR op_ne (pe_callB (id := "len") call_len_seq (by rfl) T.z_len (by decide +kernel) (pa_cons (pv 1) pa_nil)) pe_int (nomark _)) (pw_or1 (pt_cmpR (op_neD hr.units) (pe_slice sl_list (pv 1) po_none (po_some pe_int)) (pe_lst (pa_cons pe_str (pa_cons pe_str pa_nil))) (nomark _))))) (pss_one (ps_ret pe_bl))
  pss_nil)
  (pss_cons (ps_if (PW.pt (pw_orB (pt_cmpR op_ne (pe_ix ix_list (pv 1) pe_int (fun _ _ => rfl)) pe_str (nomark _)) (pw_or1 (pt_cmpR op_ne (pe_ix ix_list (pv 1) pe_int (fun _ _ => rfl)) pe_str (nomark _))))) (pss_one (ps_ret pe_bl))
  pss_nil)
  (pss_cons (ps_set (i := 2) sc_law_is_sampler.nd rfl (Or.inl rfl) (c_fn O_law_number hr (by decide) T.g_law_number pass0 (pa_cons (pe_ix ix_list (pv 1) pe_int (fun _ _ => rfl)) (pa_cons pe_int (pa_cons pe_int pa_nil)))))
  (pss_cons (ps_if (pt_cmpR op_lt (c_fn O_law_number hr (by decide) T.g_law_number pass0 (pa_cons (pe_ix ix_list (pv 1) pe_int (fun _ _ => rfl)) (pa_cons pe_int (pa_cons (pe_op op_sub (pv 2) pe_int) pa_nil)))) pe_int (nomark _)) (pss_one (ps_ret pe_bl))
  pss_nil)
  (pss_one (ps_ret (pe_orB (pe_cmpR op_eq (pe_ix ix_list (pv 1) pe_int (fun _ _ => rfl)) pe_str (nomark _)) (pe_one (pe_cmpR op_ge (c_fn O_law_number hr (by decide) T.g_law_number pass0 (pa_cons (pe_ix ix_list (pv 1) pe_int (fun _ _ => rfl)) (pa_cons pe_int (pa_cons (pe_op op_sub (pv 2) pe_int) pa_nil)))) pe_int (nomark _))))))))))), ?_⟩
    have big : 100000 ≤ sizeLine := by decide
    have go : ∀ b : Bool, (b = true ↔ isSm z) → ∀ H', Same H H' → Q (.bl b) H' := fun b e H' s => by
      rcases h with ⟨y, k⟩ | ⟨n, k⟩
      · rw [e.mpr y]; exact k H' s
      · rw [Bool.eq_false_iff.mpr fun x => n (e.mp x)]; exact k H' s
    have no : ¬ isSm z → ∀ H', Same H H' → Q (.bl false) H' := fun n => go false ⟨fun e => (Bool.noConfusion e), fun e => absurd e n⟩
    clear h
    refine ⟨_, rfl, ⟨_, rfl⟩, z, " ", rfl, rfl, by decide, by omega, fun p1 n1 => ?_⟩
    have sA := same_new (o := .lst ((Txt.split z " ").map V.str)) n1
    have hA := upd_same (H := H) (a := p1) (o := .lst ((Txt.split z " ").map V.str))
    show tSeq _ _ _ _ (upd H p1 (.lst ((Txt.split z " ").map V.str)))
    generalize upd H p1 (.lst ((Txt.split z " ").map V.str)) = HA at sA hA ⊢
    refine ⟨_, rfl, p1, _, rfl, .inl (SqL.of hA), rfl, _, rfl, ?_⟩
    rw [List.length_map]
    by_cases h7 : (Txt.split z " ").length ≠ 7
    · have hd : decide (V.int ((Txt.split z " ").length : Int) = .int 7) = false := decide_eq_false (fun e => h7 (by have := V.int.inj e; omega))
      rw [hd]
      refine ⟨true, (· = HA), (fun c => Bool.noConfusion c), fun _ => rfl, fun H1 e => ?_⟩
      subst e
      refine iteT (no (fun hs => ?_) _ sA)
      obtain ⟨n, i, f, rfl, g1, g2, g3, g4, g5⟩ := hs
      rw [smL_split g1 g2 g3 g4 g5] at h7
      exact h7 rfl
    replace h7 : (Txt.split z " ").length = 7 := Decidable.of_not_not h7
    obtain ⟨a0, a1, a2, a3, a4, a5, a6, hsp⟩ : ∃ a0 a1 a2 a3 a4 a5 a6, Txt.split z " " = [a0, a1, a2, a3, a4, a5, a6] := by
      match Txt.split z " ", h7 with
      | [a, b, c, d, e, f, g], _ => exact ⟨a, b, c, d, e, f, g, rfl⟩
    have hi := sm_iff hsp
    have hxw : ∀ w ∈ Txt.split z " ", Tx w := fun w hw => tx_sp hx hw
    rw [hsp] at hA hxw ⊢
    have hA : HA p1 = some (.lst ([a0, a1, a2, a3, a4, a5, a6].map V.str)) := hA
    have t2 : ∀ v ∈ [a0, a1], Tx v := fun v hv => hxw v (by
      rcases List.mem_cons.mp hv with rfl | hv
      · simp
      · rw [List.mem_singleton.mp hv]
        simp)
    have t3 : ∀ v ∈ [("sampler" : Str), "period"], Tx v := by unfold Tx; decide +kernel
    refine ⟨!decide ([a0, a1] = [("sampler" : Str), "period"]), fun H' => Same HA H', fun _ => ?_, (fun c => Bool.noConfusion c), fun H1 s1 => ?_⟩
    · refine ⟨_, rfl, 2, rfl, p1, _, rfl, SqL.of hA, fun p2 n2 => ?_⟩
      have ec : cutV ([a0, a1, a2, a3, a4, a5, a6].map V.str) none (some 2) = [a0, a1].map V.str := by rfl
      rw [ec]
      have s2 := same_new (o := .lst ([a0, a1].map V.str)) n2
      have h2 := upd_same (H := HA) (a := p2) (o := .lst ([a0, a1].map V.str))
      generalize upd HA p2 (.lst ([a0, a1].map V.str)) = H2 at s2 h2 ⊢
      refine ⟨(by show 2 ≤ sizeLine; decide), fun p3 n3 => ?_⟩
      have s3 := same_new (o := .lst ([("sampler" : Str), "period"].map V.str)) n3
      refine ⟨.list ([a0, a1].map PyData.str), .list ([("sampler" : Str), "period"].map PyData.str), .lst (SqL.of (s3 _ _ h2)) strs_dp, .lst (SqL.of upd_same) (.cons (.str _) (.cons (.str _) .nil)), strs_shL t2, strs_shL t3, _, rfl, ?_, s2.trans s3⟩
      show (!PyData.eqvAll _ _) = _
      rw [strs_eq]
    have hA1 : H1 p1 = some (.lst [.str a0, .str a1, .str a2, .str a3, .str a4, .str a5, .str a6]) := s1 _ _ hA
    replace s1 := sA.trans s1
    rw [show decide (V.int (([a0, a1, a2, a3, a4, a5, a6] : List Str).length : Int) = .int 7) = true from decide_eq_true rfl, Bool.not_true, Bool.false_or]
    clear sA hA n1
    by_cases h01 : ¬ (a0 = "sampler" ∧ a1 = "period")
    · rw [decide_eq_false fun e => h01 ⟨(List.cons.inj e).1, (List.cons.inj (List.cons.inj e).2).1⟩]
      exact iteT (no (fun hs => h01 (hi.mp hs).1) _ s1)
    replace h01 := Decidable.of_not_not h01
    rw [decide_eq_true (by rw [h01.1, h01.2])]
    refine iteF ?_
    refine ⟨_, rfl, p1, _, 3, .str a3, rfl, rfl, SqL.of hA1, atI_nat (j := 3) rfl, rfl, _, rfl, !decide (a5 = "phase"), (· = H1), fun _ => ⟨_, rfl, p1, _, 5, .str a5, rfl, rfl, SqL.of hA1, atI_nat (j := 5) rfl, rfl, _, rfl, ?_, rfl⟩, fun _ => rfl, fun H2 e => ?_⟩
    · rw [show decide (V.str a5 = V.str "phase") = decide (a5 = "phase") from decide_eq_decide.mpr ⟨V.str.inj, congrArg V.str⟩]
    subst e
    rw [show decide (V.str a3 = V.str "jitter") = decide (a3 = "jitter") from decide_eq_decide.mpr ⟨V.str.inj, congrArg V.str⟩]
    by_cases h35 : ¬ (a3 = "jitter" ∧ a5 = "phase")
    · have hd : (!decide (a3 = "jitter") || !decide (a5 = "phase")) = true := by
        rw [← Bool.not_and, Bool.not_eq_true', Bool.and_eq_false_iff]
        by_cases e : a3 = "jitter"
        · exact .inr (decide_eq_false fun e2 => h35 ⟨e, e2⟩)
        · exact .inl (decide_eq_false e)
      rw [hd]
      exact iteT (no (fun hs => h35 (hi.mp hs).2.1) _ s1)
    replace h35 := Decidable.of_not_not h35
    rw [decide_eq_true h35.1, decide_eq_true h35.2]
    refine iteF ?_
    obtain ⟨o1, ho1, q1⟩ := num_of a2 1 8
    refine ⟨_, rfl, p1, _, 2, .str a2, rfl, rfl, SqL.of hA1, atI_nat (j := 2) rfl, a2, 1, 8, rfl, by decide, by decide, by decide, by decide, ?_⟩
    refine q1 _ ?_
    obtain ⟨o2, ho2, q2⟩ := num_of a4 0 (o1 - 1)
    refine ⟨_, rfl, p1, _, 4, .str a4, rfl, rfl, SqL.of hA1, atI_nat (j := 4) rfl, _, rfl, o1, 1, rfl, rfl, a4, 0, o1 - 1, rfl, by decide, by decide, by omega, by omega, ?_⟩
    refine q2 _ ⟨o2, 0, rfl, rfl, _, rfl, ?_⟩
    by_cases h2 : o2 < 0
    · rw [decide_eq_true h2]
      refine iteT (no (fun hs => ?_) _ s1)
      obtain ⟨_, _, n, i, ⟨g1, g2, g3⟩, ⟨g4, g5, g6⟩, _⟩ := hi.mp hs
      rcases ho2 with ⟨_, hno⟩ | ⟨g, _⟩
      · rcases ho1 with ⟨_, hno1⟩ | ⟨g7, g8, g9⟩
        · exact hno1 n g1 g2 g3
        · have : n = o1 := dg_inj (by omega) (by omega) (by omega) (by omega) (g3.symm.trans g9)
          exact hno i g4 (by omega) g6
      · omega
    · rw [decide_eq_false h2]
      refine iteF ?_
      obtain ⟨o3, ho3, q3⟩ := num_of a6 0 (o1 - 1)
      rcases ho2 with ⟨e, _⟩ | ⟨u1, u2, u3⟩
      · omega
      rcases ho1 with ⟨e, _⟩ | ⟨v1, v2, v3⟩
      · omega
      refine ⟨_, rfl, p1, _, 6, .str a6, rfl, rfl, SqL.of hA1, atI_nat (j := 6) rfl, rfl, decide (V.str a6 = V.str "any"), decide (0 ≤ o3), (· = H2), rfl, fun _ => ⟨_, rfl, p1, _, 6, .str a6, rfl, rfl, SqL.of hA1, atI_nat (j := 6) rfl, _, rfl, o1, 1, rfl, rfl, a6, 0, o1 - 1, rfl, by decide, by decide, by omega, by omega, q3 _ ⟨o3, 0, rfl, rfl, rfl, rfl⟩⟩, fun _ => rfl, fun H3 e => ?_⟩
      subst e
      refine go _ ?_ _ s1
      rw [Bool.or_eq_true, decide_eq_true_eq, decide_eq_true_eq, hi]
      constructor
      · rintro (e | e)
        · exact ⟨h01, h35, o1, o2, ⟨v1, v2, v3⟩, ⟨u1, u2, u3⟩, .inl (V.str.inj e)⟩
        · rcases ho3 with ⟨w1, _⟩ | ⟨w1, w2, w3⟩
          · omega
          · exact ⟨h01, h35, o1, o2, ⟨v1, v2, v3⟩, ⟨u1, u2, u3⟩, .inr ⟨o3, w1, w2, w3⟩⟩
      · rintro ⟨_, _, n, i, ⟨g1, g2, g3⟩, _, g6⟩
        have en : n = o1 := dg_inj (by omega) (by omega) (by omega) (by omega) (g3.symm.trans v3)
        subst en
        rcases g6 with g6 | ⟨q, g7, g8, g9⟩
        · exact .inl (by rw [g6])
        · rcases ho3 with ⟨_, w2⟩ | ⟨w1, _⟩
          · exact absurd g9 (w2 q g7 g8)
          · exact .inr w1
end
end K37

set_option Elab.async false
set_option linter.all false
set_option pp.deepTerms.threshold 14
set_option pp.maxSteps 2500
set_option maxRecDepth 100000
set_option maxHeartbeats 2000000
namespace K37
open PySem PySem.Spec PyProof.Rows L2 Vf 
section
variable {P : Program} {w : World} {K : PySem.W.Frag} {mg : Str → Option Value} {base : Heap}
/-- the words of a place's line behind its two spaces -/
def plX (r : Rw) : List Str := r.z :: kdS r.b :: dgS r.l :: dgS r.m :: nsW r.ns
theorem plL_two (r : Rw) : plL r = ("  " : Str) ++ Txt.join " " (plX r) := by
  apply str_inj
  unfold plL
  rw [Str.cps_append, Array.toList_append, str_ss, spc, join_cps, join_cps]
  have e : (plW r).map (fun s => s.cps.toList) = [] :: [] :: (plX r).map (fun s => s.cps.toList) := by
    unfold plW plX
    simp [str_e]
  rw [e]
  rfl
theorem pl_iff (z : Str) (r : Rw) : PlV z r ↔ RwOk r ∧ cutS z none (some 2) = "  " ∧ Txt.split (cutS z (some 2) none) " " = plX r := by
  have l2 : ("  " : Str).length = 2 := by decide +kernel
  constructor
  · rintro ⟨rfl, ok⟩
    rw [plL_two]
    have e1 := cutS_up (b := Txt.join " " (plX r)) l2
    have e2 := cutS_fr (b := Txt.join " " (plX r)) l2
    refine ⟨ok, e1, (congrArg (fun q => Txt.split q " ") e2).trans (okW_split (List.cons_ne_nil _ _) fun w hw => plW_ok ok w ?_)⟩
    unfold plW
    unfold plX at hw
    simp only [List.mem_cons] at hw
    simp only [List.mem_append, List.mem_cons]
    rcases hw with h | h | h | h | h
    · simp [h]
    · simp [h]
    · simp [h]
    · simp [h]
    · exact .inr h
  · rintro ⟨ok, e1, e2⟩
    refine ⟨?_, ok⟩
    rw [plL_two]
    have := PySem.StrLaws.join_split (cutS z (some 2) none) " "
    rw [e2] at this
    have h3 : cutS z (some 2) none = Txt.join " " (plX r) := this.symm.trans (PySem.StrLaws.glued_eq_join _ _).symm
    have h5 : z = cutS z none (some 2) ++ cutS z (some 2) none := cutS_both z 2
    rw [e1, h3] at h5
    exact h5
theorem cutV_mid {ls : List Str} {i : Nat} {a b : Int} (ha : a = 5) (hb : b = 5 + (i : Int)) : cutV (ls.map V.str) (some a) (some b) = ((ls.drop 5).take i).map V.str := by
  subst ha hb
  have e5 : (5 + (i : Int)) = ((5 + i : Nat) : Int) := by omega
  have e6 : (5 : Int) = ((5 : Nat) : Int) := rfl
  unfold cutV
  rw [e5, e6, HT.sIx_nat, HT.sIx_nat, List.map_take, List.map_drop]
  generalize ls.map V.str = xs
  by_cases h5 : 5 ≤ xs.length
  · rw [Nat.min_eq_left h5]
    by_cases h : 5 + i ≤ xs.length
    · rw [Nat.min_eq_left h]
      congr 1
      omega
    · rw [Nat.min_eq_right (by omega), List.take_of_length_le (by rw [List.length_drop]; omega), List.take_of_length_le (by rw [List.length_drop]; omega)]
  · rw [List.drop_eq_nil_of_le (show xs.length ≤ min 5 xs.length by omega), List.drop_eq_nil_of_le (show xs.length ≤ 5 by omega), List.take_nil, List.take_nil]
theorem sc_law_place_line : FnScope ["_law_line", "_law_words_here", "_law_low", "_law_k"] ["_law_line"] (defScope s_law_place_line) := ⟨rfl, rfl, rfl, by decide +kernel, rfl, by decide +kernel, by decide +kernel⟩
-- slots: 0 _law_line, 1 _law_words_here, 2 _law_low, 3 _law_k
def spLpl : Sp := fun vs H Q _ => ∃ z : Str, vs = [.str z] ∧ z.length ≤ 1000 ∧ ((∃ r, PlV z r ∧ ∀ H' p, Same H H' → H p = none → H' p = some (.lst ((r.z :: r.ns).map V.str)) → Q (.ref p) H') ∨ (¬ isPl z ∧ ∀ H', Same H H' → Q .non H'))
theorem ok_law_place_line {fd : FuncData} (F : FnD K ("_law_place_line", none) "_law_place_line" "_law_place_line" s_law_place_line fd) (T : Txt K mg) (O_law_number : OkF P w K mg base CX0 1 "_law_number" ["_law_word", "_law_low", "_law_high"] spNum) (O_law_is_name : OkF P w K mg base CX0 1 "_law_is_name" ["_law_word"] spIsn) : OkF P w K mg base CX0 2 "_law_place_line" ["_law_line"] spLpl := by
  refine okd F (F.ok sc_law_place_line (fun vs H Q E h => ?_) fun cdv A outer s H vs Q E hr h => ?_) fun _ _ _ _ _ _ us hl => match us, hl with | [_], _ => rfl
  · obtain ⟨z, rfl, _⟩ := h
    rfl
  · obtain ⟨z, rfl, hz, h⟩ := h
    refine ⟨_, PSs.nox (pss_cons (ps_set (i := 1) sc_law_place_line.nd rfl (Or.inl rfl) (pe_m1 PySem.F.slot_str_split PySem.F.type_str_split mt_split (pe_slice sl_str (pv 0) (po_some pe_int) po_none) pe_str))
  (pss_cons (ps_if (PW.pt (pw_orB (pt_cmpR op_ne (pe_slice sl_str (pv 0) po_none (po_some pe_int)) pe_str (nomark _)) (pw_or1 (pt_cmpR op_lt (pe_callB (id := "len") call_len_seq (by rfl) T.z_len (by decide +kernel) (pa_cons (pv 1) pa_nil)) pe_int (nomark _))))) (pss_one (ps_ret pe_non))
  pss_nil)
  (pss_cons (ps_if (PW.pt (pw_orB (pt_not (pt_val (c_fn O_law_is_name hr (by decide) T.g_law_is_name pass0 (pa_cons (pe_ix ix_list (pv 1) pe_int (fun _ _ => rfl)) pa_nil)))) (pw_or1 (pt_cmpR op_notIn_seq (pe_ix ix_list (pv 1) pe_int (fun _ _ => rfl)) (pe_lst (pa_cons pe_str (pa_cons pe_str pa_nil))) rfl)))) (pss_one (ps_ret pe_non))
  pss_nil)
  (pss_cons (ps_set (i := 2) sc_law_place_line.nd rfl (Or.inl rfl) (c_fn O_law_number hr (by decide) T.g_law_number pass0 (pa_cons (pe_ix ix_list (pv 1) pe_int (fun _ _ => rfl)) (pa_cons pe_int (pa_cons pe_int pa_nil)))))
  (pss_cons (ps_if (PW.pt (pw_orB (pt_cmpR op_lt (pv 2) pe_int (nomark _)) (pw_or1 (pt_cmpR op_lt (c_fn O_law_number hr (by decide) T.g_law_number pass0 (pa_cons (pe_ix ix_list (pv 1) pe_int (fun _ _ => rfl)) (pa_cons (pv 2) (pa_cons pe_int pa_nil)))) pe_int (nomark _))))) (pss_one (ps_ret pe_non))
  pss_nil)
  (pss_cons (ps_if (PW.pt (pw_andB (pt_cmpR op_eq (pe_ix ix_list (pv 1) pe_int (fun _ _ => rfl)) pe_str (nomark _)) (pw_and1 (pt_cmpR op_eq (pe_callB (id := "len") call_len_seq (by rfl) T.z_len (by decide +kernel) (pa_cons (pv 1) pa_nil)) pe_int (nomark _))))) (pss_one (ps_ret (pe_lst (pa_cons (pe_ix ix_list (pv 1) pe_int (fun _ _ => rfl)) pa_nil))))
  pss_nil)
  (pss_cons (ps_if (PW.pt (pw_orB (pt_cmpR op_ne (pe_ix ix_list (pv 1) pe_int (fun _ _ => rfl)) pe_str (nomark _)) (pw_or1 (pt_cmpR op_eq (pe_callB (id := "len") call_len_seq (by rfl) T.z_len (by decide +kernel) (pa_cons (pv 1) pa_nil)) pe_int (nomark _))))) (pss_one (ps_ret pe_non))
  pss_nil)
  (pss_cons (ps_for PassesOwn.never rfl (pi_range2 rfl T.z_range (pa_cons pe_int (pa_cons (pe_callB (id := "len") call_len_seq (by rfl) T.z_len (by decide +kernel) (pa_cons (pv 1) pa_nil)) pa_nil))) (pg_name (i := 3) sc_law_place_line.nd rfl (Or.inl rfl))
  (pss_one (ps_if (PW.pt (pw_orB (pt_not (pt_val (c_fn O_law_is_name hr (by decide) T.g_law_is_name pass0 (pa_cons (pe_ix ix_list (pv 1) (pv 3) (fun _ _ => rfl)) pa_nil)))) (pw_or1 (pt_cmpR op_in_seq (pe_ix ix_list (pv 1) (pv 3) (fun _ _ => rfl)) (pe_slice sl_list (pv 1) (po_some pe_int) (po_some (pv 3))) rfl)))) (pss_one (ps_ret pe_non))
  pss_nil)))
  (pss_one (ps_ret (pe_op op_cat (pe_lst (pa_cons (pe_ix ix_list (pv 1) pe_int (fun _ _ => rfl)) pa_nil)) (pe_slice sl_list (pv 1) (po_some pe_int) po_none)))))))))))), ?_⟩
    have big : 100000 ≤ sizeLine := by decide
    have hcl : (cutS z (some 2) none).length ≤ z.length := by
      have h4 : z = cutS z none (some 2) ++ cutS z (some 2) none := cutS_both z 2
      have h5 : z.length = (cutS z none (some 2) ++ cutS z (some 2) none).length := congrArg Str.length h4
      rw [Str.length_append] at h5
      omega
    have hi := pl_iff z
    obtain ⟨zb, hzb⟩ : ∃ zb, zb = cutS z (some 2) none := ⟨_, rfl⟩
    rw [← hzb] at hi hcl
    have no : (∀ r, RwOk r → cutS z none (some 2) = "  " → Txt.split zb " " = plX r → False) → ∀ H', Same H H' → Q .non H' := fun hno H' s => by
      rcases h with ⟨r, hp, _⟩ | ⟨_, k⟩
      · obtain ⟨a, b, c⟩ := (hi r).mp hp
        exact (hno r a b c).elim
      · exact k H' s
    have yes : ∀ r, RwOk r → cutS z none (some 2) = "  " → Txt.split zb " " = plX r → ∀ H' p, Same H H' → H p = none → H' p = some (.lst ((r.z :: r.ns).map V.str)) → Q (.ref p) H' := fun r a b c => by
      have hp := (hi r).mpr ⟨a, b, c⟩
      rcases h with ⟨q, hq, k⟩ | ⟨n, _⟩
      · rw [plV_uniq hp hq]
        exact k
      · exact absurd ⟨r, hp⟩ n
    clear h hi
    have hw8 : ∀ w ∈ Txt.split zb " ", w.length ≤ 1000 := fun w hw => by
      have := PyProof.Rows.part_short hw
      omega
    have hwl : (Txt.split zb " ").length ≤ 1002 := by
      have := PyProof.Rows.split_le zb " "
      omega
    refine ⟨_, rfl, 2, rfl, z, rfl, by omega, ⟨_, rfl⟩, zb, " ", congrArg V.str hzb.symm, rfl, by decide, by omega, fun p1 n1 => ?_⟩
    generalize Txt.split zb " " = W at hw8 hwl no yes ⊢
    have sA := same_new (o := .lst (W.map V.str)) n1
    have hA := upd_same (H := H) (a := p1) (o := .lst (W.map V.str))
    show tSeq _ _ _ _ (upd H p1 (.lst (W.map V.str)))
    generalize upd H p1 (.lst (W.map V.str)) = HA at sA hA ⊢
    refine ⟨_, rfl, 2, rfl, z, rfl, by omega, rfl, _, rfl, decide (W.length < 5), (· = HA), fun _ => ⟨_, rfl, p1, _, rfl, .inl (SqL.of hA), _, 5, rfl, rfl, _, rfl, ?_, rfl⟩, fun _ => rfl, fun H1 e => ?_⟩
    · rw [List.length_map]
      exact decide_eq_decide.mpr (by omega)
    subst e
    by_cases ha : cutS z none (some 2) ≠ "  "
    · rw [show decide (V.str (cutS z none (some 2)) = V.str "  ") = false from decide_eq_false fun e => ha (V.str.inj e)]
      exact iteT (no (fun r _ e _ => ha e) _ sA)
    replace ha : cutS z none (some 2) = "  " := Decidable.of_not_not ha
    rw [show decide (V.str (cutS z none (some 2)) = V.str "  ") = true from decide_eq_true (by rw [ha])]
    by_cases h5 : W.length < 5
    · rw [decide_eq_true h5]
      refine iteT (no (fun r _ _ e => ?_) _ sA)
      rw [e] at h5
      have := nsW_ne r.ns
      unfold plX at h5
      cases hn : nsW r.ns with
      | nil => exact this hn
      | cons a b =>
        rw [hn] at h5
        simp at h5
        omega
    rw [decide_eq_false h5]
    refine iteF ?_
    obtain ⟨a0, a1, a2, a3, a4, us, rfl⟩ : ∃ a0 a1 a2 a3 a4 us, W = a0 :: a1 :: a2 :: a3 :: a4 :: us := by
      match W, h5 with
      | a :: b :: c :: d :: e :: r, _ => exact ⟨a, b, c, d, e, r, rfl⟩
      | [], h => exact absurd (show ([] : List Str).length < 5 by decide) h
      | [_], h => exact absurd (by simp) h
      | [_, _], h => exact absurd (by simp) h
      | [_, _, _], h => exact absurd (by simp) h
      | [_, _, _, _], h => exact absurd (by simp) h
    clear h5
    have l0 : a0.length ≤ 1000 := hw8 a0 (by simp)
    have hx : ∀ r, a0 :: a1 :: a2 :: a3 :: a4 :: us = plX r → a0 = r.z ∧ a1 = kdS r.b ∧ a2 = dgS r.l ∧ a3 = dgS r.m ∧ a4 :: us = nsW r.ns := fun r e => by
      unfold plX at e
      injection e with e0 e
      injection e with e1 e
      injection e with e2 e
      injection e with e3 e
      exact ⟨e0, e1, e2, e3, e⟩
    have hAl : H1 p1 = some (.lst (.str a0 :: .str a1 :: .str a2 :: .str a3 :: .str a4 :: us.map V.str)) := hA
    have eo : ("open" : Str) ≠ "closed" := by decide +kernel
    refine ⟨_, rfl, p1, _, 0, .str a0, rfl, rfl, SqL.of hAl, atI0, a0, rfl, l0, fun H2 s2 => ⟨_, rfl, !decide (a1 ∈ [("open" : Str), "closed"]), fun H' => Same H2 H', fun _ => ?_, fun _ => Same.refl _, fun H3 s3 => ?_⟩⟩
    · refine ⟨_, rfl, p1, _, 1, .str a1, rfl, rfl, SqL.of (s2 _ _ hAl), atI1, (by show 2 ≤ sizeLine; decide), fun L nL => ⟨L, [("open" : Str), "closed"].map V.str, rfl, .inl (SqL.of upd_same), rfl, rfl, _, rfl, ?_, same_new nL⟩⟩
      show (!inV (.str a1) ([("open" : Str), "closed"].map V.str)) = _
      rw [inV_str]
    have sC := sA.trans (s2.trans s3)
    have hB := s3 _ _ (s2 _ _ hAl)
    clear s2 s3 sA hA hAl
    by_cases h01 : ¬ (nmB a0 = true ∧ a1 ∈ [("open" : Str), "closed"])
    · have hd : (!nmB a0 || !decide (a1 ∈ [("open" : Str), "closed"])) = true := by
        rw [← Bool.not_and, Bool.not_eq_true', Bool.and_eq_false_iff]
        by_cases e : nmB a0 = true
        · exact .inr (decide_eq_false fun e2 => h01 ⟨e, e2⟩)
        · exact .inl (Bool.eq_false_iff.mpr e)
      rw [hd]
      refine iteT (no (fun r ok _ e => h01 ?_) _ sC)
      obtain ⟨e0, e1, _⟩ := hx r e
      rw [e0, e1]
      refine ⟨ok.1, ?_⟩
      cases r.b <;> decide +kernel
    replace h01 := Decidable.of_not_not h01
    rw [h01.1, decide_eq_true h01.2]
    refine iteF ?_
    obtain ⟨b, hb⟩ : ∃ b, a1 = kdS b := by
      have := h01.2
      simp only [List.mem_cons, List.not_mem_nil, or_false] at this
      rcases this with e | e
      · exact ⟨true, e⟩
      · exact ⟨false, e⟩
    obtain ⟨o1, ho1, q1⟩ := num_of a2 1 6
    refine ⟨_, rfl, p1, _, 2, .str a2, rfl, rfl, SqL.of hB, atI_nat (j := 2) rfl, a2, 1, 6, rfl, by decide, by decide, by decide, by decide, ?_⟩
    refine q1 _ ?_
    obtain ⟨o2, ho2, q2⟩ := num_of a3 o1 6
    refine ⟨_, rfl, o1, 0, rfl, rfl, _, rfl, decide (o2 < 0), (· = H3), fun c => ⟨_, rfl, p1, _, 3, .str a3, rfl, rfl, SqL.of hB, atI_nat (j := 3) rfl, _, rfl, a3, o1, 6, rfl, ?_, ?_, by decide, by decide, q2 _ ⟨o2, 0, rfl, rfl, _, rfl, rfl, rfl⟩⟩, fun _ => rfl, fun H4 e => ?_⟩
    · have := of_decide_eq_false c
      omega
    · rcases ho1 with ⟨e, _⟩ | ⟨g1, g2, _⟩ <;> omega
    subst e
    by_cases h23 : o1 < 0 ∨ o2 < 0
    · have hd : (decide (o1 < 0) || decide (o2 < 0)) = true := by
        rw [Bool.or_eq_true, decide_eq_true_eq, decide_eq_true_eq]
        exact h23
      rw [hd]
      refine iteT (no (fun r ok _ e => ?_) _ sC)
      obtain ⟨_, _, e2, e3, _⟩ := hx r e
      have k1 := ok.2.1
      have k2 := ok.2.2.1
      have k3 := ok.2.2.2.1
      rcases ho1 with ⟨_, w⟩ | ⟨g1, g2, g3⟩
      · exact w r.l k1 (by omega) e2
      · have el : r.l = o1 := dg_inj (by omega) (by omega) (by omega) (by omega) (e2.symm.trans g3)
        rcases ho2 with ⟨_, w⟩ | ⟨g4, g5, _⟩
        · exact w r.m (by omega) k3 e3
        · omega
    have hd : (decide (o1 < 0) || decide (o2 < 0)) = false := by
      rw [Bool.or_eq_false_iff, decide_eq_false_iff_not, decide_eq_false_iff_not]
      exact ⟨fun e => h23 (.inl e), fun e => h23 (.inr e)⟩
    rw [hd]
    refine iteF ?_
    rcases ho1 with ⟨_, _⟩ | ⟨g1, g2, g3⟩
    · omega
    rcases ho2 with ⟨_, _⟩ | ⟨g4, g5, g6⟩
    · omega
    have el5 : (((.str a0 :: .str a1 :: .str a2 :: .str a3 :: .str a4 :: us.map V.str : List V)).length : Int) = (us.length : Int) + 5 := by
      simp only [List.length_cons, List.length_map]
      omega
    obtain ⟨M, hM⟩ : ∃ M : Int, M = (((.str a0 :: .str a1 :: .str a2 :: .str a3 :: .str a4 :: us.map V.str : List V)).length : Int) := ⟨_, rfl⟩
    rw [← hM] at el5
    refine ⟨_, rfl, p1, _, 4, .str a4, rfl, rfl, SqL.of hB, atI_nat (j := 4) rfl, rfl, _, rfl, decide (V.int M = .int 5), (· = H4), fun _ => ⟨_, rfl, p1, _, rfl, .inl (SqL.of hB), rfl, _, rfl, by rw [hM], rfl⟩, fun _ => rfl, fun H5 e => ?_⟩
    subst e
    have nsW1 : ∀ r : Rw, a4 :: us = nsW r.ns → (a4 = "end" ∧ us = [] ∧ r.ns = []) ∨ (a4 = "to" ∧ us ≠ [] ∧ r.ns = us) := fun r e => by
      cases hn : r.ns with
      | nil =>
        rw [hn] at e
        injection e with e0 e1
        exact .inl ⟨e0, e1, rfl⟩
      | cons v vs =>
        rw [hn] at e
        injection e with e0 e1
        exact .inr ⟨e0, (fun z => by rw [z] at e1; cases e1), e1.symm⟩
    by_cases hend : a4 = "end" ∧ us = []
    · have hd : (decide (V.str a4 = V.str "end") && decide (V.int M = .int 5)) = true := by
        rw [Bool.and_eq_true, decide_eq_true_eq, decide_eq_true_eq]
        rw [hend.2] at el5
        exact ⟨by rw [hend.1], by rw [el5]; rfl⟩
      rw [hd]
      refine iteT ⟨_, rfl, p1, _, 0, .str a0, rfl, rfl, SqL.of hB, atI0, (by show 1 ≤ sizeLine; decide), fun p np => ?_⟩
      exact yes ⟨a0, o1, o2, b, []⟩ ⟨h01.1, g1, g4, g5, (fun _ h => nomatch h), List.nodup_nil, Nat.zero_le _⟩ ha (by rw [hend.1, hend.2, g3, g6, hb]; rfl) _ p (sC.trans (same_new np)) (none_of sC np) upd_same
    have hd2 : (decide (V.str a4 = V.str "end") && decide (V.int M = .int 5)) = false := by
      rw [Bool.and_eq_false_iff, decide_eq_false_iff_not, decide_eq_false_iff_not]
      by_cases e : a4 = "end"
      · refine .inr fun e2 => hend ⟨e, ?_⟩
        have := V.int.inj e2
        exact List.length_eq_zero_iff.mp (by omega)
      · exact .inl fun e2 => e (V.str.inj e2)
    rw [hd2]
    refine iteF ?_
    refine ⟨_, rfl, p1, _, 4, .str a4, rfl, rfl, SqL.of hB, atI_nat (j := 4) rfl, rfl, _, rfl, decide (V.int M = .int 5), (· = H5), fun _ => ⟨_, rfl, p1, _, rfl, .inl (SqL.of hB), rfl, _, rfl, by rw [hM], rfl⟩, fun _ => rfl, fun H6 e => ?_⟩
    subst e
    by_cases hto : ¬ (a4 = "to" ∧ us ≠ [])
    · have hd : (!decide (V.str a4 = V.str "to") || decide (V.int M = .int 5)) = true := by
        rw [Bool.or_eq_true, Bool.not_eq_true', decide_eq_false_iff_not, decide_eq_true_eq]
        by_cases e : a4 = "to"
        · refine .inr ?_
          have : us = [] := Decidable.of_not_not fun n => hto ⟨e, n⟩
          rw [this] at el5
          rw [el5]
          rfl
        · exact .inl fun e2 => e (V.str.inj e2)
      rw [hd]
      refine iteT (no (fun r ok _ e => ?_) _ sC)
      obtain ⟨_, _, _, _, e4⟩ := hx r e
      rcases nsW1 r e4 with ⟨w1, w2, _⟩ | ⟨w1, w2, _⟩
      · exact hend ⟨w1, w2⟩
      · exact hto ⟨w1, w2⟩
    replace hto := Decidable.of_not_not hto
    have hul : 1 ≤ us.length := by
      cases us with
      | nil => exact absurd rfl hto.2
      | cons a b => exact Nat.le_add_left 1 _
    have hd3 : (!decide (V.str a4 = V.str "to") || decide (V.int M = .int 5)) = false := by
      rw [Bool.or_eq_false_iff, Bool.not_eq_false', decide_eq_true_eq, decide_eq_false_iff_not]
      exact ⟨by rw [hto.1], fun e => by have := V.int.inj e; omega⟩
    rw [hd3]
    have hum : us.length ≤ 997 := by
      simp only [List.length_cons] at hwl
      omega
    refine iteF ⟨_, rfl, p1, _, rfl, .inl (SqL.of hB), 5, M, by rw [hM], ⟨by decide, by decide, by omega, by omega⟩, for_range (lo := 5) (n := (M - 5).toNat) (fun i σ H' => Same H6 H' ∧ (∀ v ∈ us.take i, nmB v = true) ∧ (us.take i).Nodup ∧ ∃ v, σ = [some (.str z), some (.ref p1), some (.int o1), v]) ⟨Same.refl _, (fun _ h => by simp at h), by simp, none, rfl⟩ ?_ ?_⟩
    · rintro i σ H7 hi ⟨s7, hnm, hnd, v, rfl⟩
      have hi2 : i < us.length := by omega
      have hui : us[i]? = some us[i] := List.getElem?_eq_getElem hi2
      generalize us[i] = u at hui
      have hu8 : u.length ≤ 1000 := hw8 u (by have := List.mem_of_getElem? hui; simp [this])
      have hix : atI (.str a0 :: .str a1 :: .str a2 :: .str a3 :: .str a4 :: us.map V.str) (5 + (i : Int)) = some (.str u) := by
        have e1 : (5 + (i : Int)) = ((i + 5 : Nat) : Int) := by omega
        rw [e1]
        refine atI_nat ?_
        show (us.map V.str)[i]? = _
        rw [List.getElem?_map, hui]
        rfl
      refine ⟨_, rfl, _, rfl, p1, _, 5 + (i : Int), .str u, rfl, rfl, SqL.of (s7 _ _ hB), hix, u, rfl, hu8, fun H8 s8 => ⟨_, rfl, decide (u ∈ us.take i), fun H' => Same H8 H', fun _ => ?_, fun _ => Same.refl _, fun H9 s9 => ?_⟩⟩
      · refine ⟨_, rfl, _, rfl, p1, _, 5 + (i : Int), .str u, rfl, rfl, SqL.of (s8 _ _ (s7 _ _ hB)), hix, _, rfl, 5, rfl, _, rfl, 5 + (i : Int), rfl, p1, _, rfl, SqL.of (s8 _ _ (s7 _ _ hB)), fun p2 n2 => ?_⟩
        have ec : cutV (.str a0 :: .str a1 :: .str a2 :: .str a3 :: .str a4 :: us.map V.str) (some 5) (some (5 + (i : Int))) = (us.take i).map V.str := cutV_mid (ls := a0 :: a1 :: a2 :: a3 :: a4 :: us) (i := i) rfl rfl
        rw [ec]
        refine ⟨p2, _, rfl, .inl (SqL.of upd_same), rfl, flat_str _, _, rfl, ?_, same_new n2⟩
        exact inV_str _ _
      have s79 := s7.trans (s8.trans s9)
      by_cases hok : nmB u = true ∧ u ∉ us.take i
      · rw [hok.1, decide_eq_false hok.2]
        have et : us.take (i + 1) = us.take i ++ [u] := by rw [List.take_add_one, hui]; rfl
        refine iteF ⟨s79, fun v hv => ?_, ?_, _, rfl⟩
        · rw [et] at hv
          rcases List.mem_append.mp hv with hv | hv
          · exact hnm v hv
          · rw [List.mem_singleton.mp hv]
            exact hok.1
        · rw [et]
          exact nodup_add1 hnd hok.2
      · have hd : (!nmB u || decide (u ∈ us.take i)) = true := by
          rw [Bool.or_eq_true, Bool.not_eq_true', decide_eq_true_eq]
          by_cases e : nmB u = true
          · exact .inr (Decidable.of_not_not fun n => hok ⟨e, n⟩)
          · exact .inl (Bool.eq_false_iff.mpr e)
        rw [hd]
        refine iteT (no (fun r ok _ e => hok ?_) _ (sC.trans s79))
        obtain ⟨_, _, _, _, e4⟩ := hx r e
        rcases nsW1 r e4 with ⟨_, w2, _⟩ | ⟨_, _, w3⟩
        · exact absurd w2 hto.2
        · have nd := ok.2.2.2.2.2.1
          have nm := ok.2.2.2.2.1
          rw [w3] at nd nm
          refine ⟨nm u (List.mem_of_getElem? hui), fun hm => ?_⟩
          have h1 : (us.take (i + 1)).Nodup := nd.sublist (List.take_sublist _ _)
          rw [List.take_add_one, hui] at h1
          exact (List.nodup_append.mp h1).2.2 _ hm _ (by simp) rfl
    · rintro σ H7 ⟨s7, hnm, hnd, v, rfl⟩
      have en : (M - 5).toNat = us.length := by omega
      rw [en, List.take_length] at hnm hnd
      have hB7 := s7 _ _ hB
      refine ⟨_, rfl, p1, _, 0, .str a0, rfl, rfl, SqL.of hB7, atI0, (by show 1 ≤ sizeLine; decide), fun p2 n2 => ?_⟩
      have s8 := same_new (o := .lst [.str a0]) n2
      have h2 := upd_same (H := H7) (a := p2) (o := .lst [.str a0])
      have hB8 := s8 _ _ hB7
      generalize upd H7 p2 (.lst [.str a0]) = H8 at s8 h2 hB8 ⊢
      refine ⟨_, rfl, 5, rfl, p1, _, rfl, SqL.of hB8, fun p3 n3 => ?_⟩
      rw [cutV_frD (r := 5) (by decide)]
      have s9 := same_new (o := .lst (us.map V.str)) n3
      refine ⟨p2, p3, _, _, rfl, rfl, s9 _ _ h2, upd_same, ?_, fun p np => ?_⟩
      · show 1 + (us.map V.str).length ≤ sizeLine
        rw [List.length_map]
        omega
      · have s10 := sC.trans (s7.trans (s8.trans s9))
        exact yes ⟨a0, o1, o2, b, us⟩ ⟨h01.1, g1, g4, g5, hnm, hnd, by show us.length ≤ 1000; omega⟩ ha (by
          unfold plX
          rw [hto.1, g3, g6, hb]
          cases us with
          | nil => exact absurd rfl hto.2
          | cons v vs => rfl) _ p (s10.trans (same_new np)) (none_of s10 np) upd_same
end
end K37

set_option Elab.async false
set_option linter.all false
set_option pp.deepTerms.threshold 14
set_option pp.maxSteps 2500
set_option maxRecDepth 100000
set_option maxHeartbeats 2000000
namespace K37
open PySem PySem.Spec PyProof.Rows L2 Vf 
section
variable {P : Program} {w : World} {K : PySem.W.Frag} {mg : Str → Option Value} {base : Heap}
noncomputable def wrV : Option Nat → V
  | none => .non
  | some n => .int (n : Int)
theorem stV_iff (z s : Str) : StV z s ↔ (cutS z none (some 14) = "program start " ∧ cutS z (some 14) none = s ∧ nmB s = true) := by
  have l2 : ("program start " : Str).length = 14 := by decide +kernel
  constructor
  · rintro ⟨rfl, h⟩
    have e1 : cutS (("program start " : Str) ++ s) none (some 14) = "program start " := cutS_up l2
    have e2 : cutS (("program start " : Str) ++ s) (some 14) none = s := cutS_fr l2
    exact ⟨e1, e2, h⟩
  · rintro ⟨e1, rfl, h⟩
    refine ⟨?_, h⟩
    have h5 : z = cutS z none (some 14) ++ cutS z (some 14) none := cutS_both z 14
    rw [e1] at h5
    exact h5
theorem same_x2 {d : Addr} {H H1 H2 : Hp} (s : Same H H1) (x : SameX d H1 H2) (n : H d = none) : Same H H2 := fun b o h => x b o (ne_of_none h n) (s b o h)
theorem nm_tx {z : Str} (h : nmB z = true) : Tx z := by
  have h4 : z.cps.toList.all (fun c => decide (c ∈ LET.cps.toList)) = true := by
    unfold nmB at h
    simp only [Bool.and_eq_true] at h
    exact h.2.2.2
  have hL : ∀ c ∈ LET.cps.toList, c < 1114112 := by decide +kernel
  exact fun c hc => hL c (of_decide_eq_true (List.all_eq_true.mp h4 c hc))
theorem wN_one {zs : List Str} {m : Str} {ms : List Str} {i : Nat} (h : ms[i]? = some m) : wN zs (ms.take (i + 1)) = (if m ∈ wN zs (ms.take i) then wN zs (ms.take i) else wN zs (ms.take i) ++ [m]) := by
  have e : ms.take (i + 1) = ms.take i ++ [m] := by rw [List.take_add_one, h]; rfl
  rw [e, wN_snoc]
theorem sc_law_wrong_line : FnScope ["_law_text_here", "_law_lines_here", "_law_known", "_law_homes", "_law_k", "_law_told", "_law_word"] ["_law_text_here"] (defScope s_law_wrong_line) := ⟨rfl, rfl, rfl, by decide +kernel, rfl, by decide +kernel, by decide +kernel⟩
-- slots: 0 _law_text_here, 1 _law_lines_here, 2 _law_known, 3 _law_homes, 4 _law_k, 5 _law_told, 6 _law_word
def spWrl : Sp := fun vs H Q _ => ∃ x, vs = [x] ∧ ((OddS H x ∧ Q (.int 0) H) ∨ ∃ z : Str, x = .str z ∧ z.length + 2 ≤ sizeLine ∧ Tx z ∧ ∀ H', Same H H' → Q (wrV (wrZ z)) H')
theorem ok_law_wrong_line {fd : FuncData} (F : FnD K ("_law_wrong_line", none) "_law_wrong_line" "_law_wrong_line" s_law_wrong_line fd) (T : Txt K mg) (O_law_is_name : OkF P w K mg base CX0 1 "_law_is_name" ["_law_word"] spIsn)
    (O_law_place_line : OkF P w K mg base CX0 2 "_law_place_line" ["_law_line"] spLpl) (O_law_is_sampler : OkF P w K mg base CX0 2 "_law_is_sampler" ["_law_line"] spIsm) : OkF P w K mg base CX0 3 "_law_wrong_line" ["_law_text_here"] spWrl := by
  refine okd F (F.ok sc_law_wrong_line (fun vs H Q E h => ?_) fun cdv A outer s H vs Q E hr h => ?_) fun _ _ _ _ _ _ us hl => match us, hl with | [_], _ => rfl
  · obtain ⟨x, rfl, _⟩ := h
    rfl
  · obtain ⟨x, rfl, h⟩ := h
    refine ⟨_, PSs.nox (pss_cons (ps_if (PW.pt (pw_orB (pt_not (pt_val (pe_callB (id := "isinstance") call_isi (by rfl) T.z_isinstance (by decide +kernel) (pa_cons (pv 0) (pa_cons (pe_ty (n := "str") T.z_str (by decide +kernel)) pa_nil))))) (pw_or1 (pt_cmpR op_gt (pe_callB call_len_str (by rfl) T.z_len (by decide +kernel) (pa_cons (pv 0) pa_nil)) pe_int (nomark _))))) (pss_one (ps_ret pe_int))
  pss_nil)
  (pss_cons (ps_set (i := 1) sc_law_wrong_line.nd rfl (Or.inl rfl) (pe_m1 PySem.F.slot_str_split PySem.F.type_str_split mt_split (pv 0) pe_str))
  (pss_cons (ps_if (PW.pt (pw_orB (pt_cmpR op_ne (pe_slice sl_str (pe_ix ix_list (pv 1) pe_int (fun _ _ => rfl)) po_none (po_some pe_int)) pe_str (nomark _)) (pw_or1 (pt_not (pt_val (c_fn O_law_is_name hr (by decide) T.g_law_is_name pass0 (pa_cons (pe_slice sl_str (pe_ix ix_list (pv 1) pe_int (fun _ _ => rfl)) (po_some pe_int) po_none) pa_nil))))))) (pss_one (ps_ret pe_int))
  pss_nil)
  (pss_cons (ps_set (i := 2) sc_law_wrong_line.nd rfl (Or.inl rfl) (pe_lst (pa_cons (pe_slice sl_str (pe_ix ix_list (pv 1) pe_int (fun _ _ => rfl)) (po_some pe_int) po_none) pa_nil)))
  (pss_cons (ps_set (i := 3) sc_law_wrong_line.nd rfl (Or.inl rfl) (pe_lst pa_nil))
  (pss_cons (ps_for PassesOwn.never rfl (pi_range2 rfl T.z_range (pa_cons pe_int (pa_cons (pe_callB (id := "len") call_len_seq (by rfl) T.z_len (by decide +kernel) (pa_cons (pv 1) pa_nil)) pa_nil))) (pg_name (i := 4) sc_law_wrong_line.nd rfl (Or.inl rfl))
  (pss_cons (ps_set (i := 5) sc_law_wrong_line.nd rfl (Or.inl rfl) (c_fn O_law_place_line hr (by decide) T.g_law_place_line pass0 (pa_cons (pe_ix ix_list (pv 1) (pv 4) (fun _ _ => rfl)) pa_nil)))
  (pss_cons (ps_if (pt_cmpR op_isN (pv 5) pe_non (nomark _)) (pss_cons (ps_if (PW.pt (pw_orB (pt_cmpR (op_eqD hr.units) (pv 3) (pe_lst pa_nil) (nomark _)) (pw_or1 (pt_cmpR op_ne (pe_callB (id := "len") call_len_seq (by rfl) T.z_len (by decide +kernel) (pa_cons (pv 3) pa_nil)) (pe_callB (id := "len") call_len_seq (by rfl) T.z_len (by decide +kernel) (pa_cons (pv 2) pa_nil)) (nomark _))))) (pss_one (ps_ret (pe_op op_add (pv 4) pe_int)))
  pss_nil)
  (pss_cons (ps_if (pt_not (pt_val (c_fn O_law_is_sampler hr (by decide) T.g_law_is_sampler pass0 (pa_cons (pe_ix ix_list (pv 1) (pv 4) (fun _ _ => rfl)) pa_nil)))) (pss_one (ps_ret (pe_op op_add (pv 4) pe_int)))
  pss_nil)
  (pss_cons (ps_if (pt_cmpR op_lt (pe_op op_add (pv 4) pe_int) (pe_callB (id := "len") call_len_seq (by rfl) T.z_len (by decide +kernel) (pa_cons (pv 1) pa_nil)) (nomark _)) (pss_one (ps_ret (pe_op op_add (pv 4) pe_int)))
  pss_nil)
  (pss_one (ps_ret pe_non)))))
  pss_nil)
  (pss_cons (ps_for PassesOwn.never rfl (pi_list (pv 5)) (pg_name (i := 6) sc_law_wrong_line.nd rfl (Or.inl rfl))
  (pss_one (ps_if (pt_cmpR op_notIn_seq (pv 6) (pv 2) rfl) (pss_one (ps_expr (pe_bm PySem.F.plainAttrs_list PySem.F.slot_list_append PySem.F.type_list_append mt_append (pv 2) (pa_cons (pv 6) pa_nil))))
  pss_nil)))
  (pss_cons (ps_if (PW.pt (pw_orB (pt_cmpR op_in_seq (pe_ix ix_list (pv 5) pe_int (fun _ _ => rfl)) (pv 3) rfl) (pw_or1 (pt_cmpR op_gt (pe_callB (id := "len") call_len_seq (by rfl) T.z_len (by decide +kernel) (pa_cons (pv 2) pa_nil)) pe_int (nomark _))))) (pss_one (ps_ret (pe_op op_add (pv 4) pe_int)))
  pss_nil)
  (pss_one (ps_expr (pe_bm PySem.F.plainAttrs_list PySem.F.slot_list_append PySem.F.type_list_append mt_append (pv 3) (pa_cons (pe_ix ix_list (pv 5) pe_int (fun _ _ => rfl)) pa_nil)))))))))
  (pss_one (ps_ret (pe_op op_add (pe_callB (id := "len") call_len_seq (by rfl) T.z_len (by decide +kernel) (pa_cons (pv 1) pa_nil)) pe_int))))))))), ?_⟩
    rcases h with ⟨o, q⟩ | ⟨z, rfl, hz, hx, k⟩
    · obtain ⟨n, t1, k1⟩ := oddS_ty K o
      refine ⟨_, rfl, x, .ty "str", .type n, .type "str", false, rfl, .ty _, t1, kit_ty k1, false, rfl, false, (· = H), (fun c => Bool.noConfusion c), fun _ => rfl, fun H1 e => ?_⟩
      subst e
      exact iteT q
    have go : ∀ o, wrZ z = o → ∀ H', Same H H' → Q (wrV o) H' := fun o e H' s => e ▸ k H' s
    clear k
    refine ⟨_, rfl, .str z, .ty "str", .type "str", .type "str", true, rfl, .ty _, .base (.str _), kit_ty (by decide +kernel), true, rfl, decide ((1000 : Int) < (z.length : Int)), (· = H), fun _ => ⟨_, rfl, z, rfl, by omega, (z.length : Int), 1000, rfl, rfl, _, rfl, rfl, rfl⟩, (fun c => Bool.noConfusion c), fun H1 e => ?_⟩
    subst e
    by_cases hlong : 1000 < z.length
    · rw [decide_eq_true (by omega)]
      exact iteT (go (some 0) (by unfold wrZ; rw [if_pos hlong]) _ (Same.refl _))
    rw [decide_eq_false (by omega)]
    have ez1 : wrZ z = wrL (Txt.split z "\n") := by
      unfold wrZ
      rw [if_neg hlong]
    have hsh : ∀ w ∈ Txt.split z "\n", w.length ≤ 1000 := fun w hw => by
      have := PyProof.Rows.part_short hw
      omega
    have hxl : ∀ w ∈ Txt.split z "\n", Tx w := fun w hw => tx_nl hx hw
    obtain ⟨l0, r, hsp⟩ : ∃ l0 r, Txt.split z "\n" = l0 :: r := by
      cases e : Txt.split z "\n" with
      | nil =>
        have := PyProof.Rows.split_pos z "\n"
        rw [e] at this
        exact absurd this (by decide)
      | cons a b => exact ⟨a, b, rfl⟩
    have hrl : r.length ≤ 1001 := by
      have := PyProof.Rows.split_le z "\n"
      rw [hsp, List.length_cons] at this
      omega
    have big : 100000 ≤ sizeLine := by decide
    refine iteF ⟨_, rfl, ⟨_, rfl⟩, z, "\n", rfl, rfl, by decide, by omega, fun LI nLI => ?_⟩
    have sA := same_new (o := .lst ((Txt.split z "\n").map V.str)) nLI
    have hA := upd_same (H := H1) (a := LI) (o := .lst ((Txt.split z "\n").map V.str))
    show tSeq _ _ _ _ (upd H1 LI (.lst ((Txt.split z "\n").map V.str)))
    generalize upd H1 LI (.lst ((Txt.split z "\n").map V.str)) = H2 at sA hA ⊢
    rw [hsp] at hA hsh hxl ez1
    have h0 := hsh l0 List.mem_cons_self
    have hp := fun s => stV_iff l0 s
    have hcl : (cutS l0 (some 14) none).length ≤ l0.length := by
      have h4 : l0 = cutS l0 none (some 14) ++ cutS l0 (some 14) none := cutS_both l0 14
      have h5 : l0.length = (cutS l0 none (some 14) ++ cutS l0 (some 14) none).length := congrArg Str.length h4
      rw [Str.length_append] at h5
      omega
    obtain ⟨st, hst⟩ : ∃ st, cutS l0 (some 14) none = st := ⟨_, rfl⟩
    rw [hst] at hcl
    refine ⟨_, rfl, LI, _, 0, .str l0, rfl, rfl, SqL.of hA, atI0, 14, rfl, l0, rfl, by omega, rfl, _, rfl, !(nmB st), fun H' => Same H2 H', fun _ => ⟨_, rfl, LI, _, 0, .str l0, rfl, rfl, SqL.of hA, atI0, 14, rfl, l0, rfl, by omega, st, (by rw [← hst]; rfl), by omega, fun H' s' => ⟨_, rfl, rfl, s'⟩⟩, fun _ => Same.refl _, fun H3 s3 => ?_⟩
    by_cases hbad : ¬ (cutS l0 none (some 14) = "program start " ∧ nmB st = true)
    · have hd : (!decide (V.str (cutS l0 none (some 14)) = V.str "program start ") || !nmB st) = true := by
        rw [Bool.or_eq_true, Bool.not_eq_true', Bool.not_eq_true', decide_eq_false_iff_not]
        by_cases e : cutS l0 none (some 14) = "program start "
        · exact .inr (Bool.eq_false_iff.mpr fun e2 => hbad ⟨e, e2⟩)
        · exact .inl fun e2 => e (V.str.inj e2)
      rw [hd]
      refine iteT (go (some 1) ?_ _ (sA.trans s3))
      rw [ez1, wrL, stO_none]
      rintro ⟨s, hs⟩
      obtain ⟨a, b, c⟩ := (hp s).mp hs
      rw [hst] at b
      rw [b] at hbad
      exact hbad ⟨a, c⟩
    replace hbad := Decidable.of_not_not hbad
    have hd : (!decide (V.str (cutS l0 none (some 14)) = V.str "program start ") || !nmB st) = false := by
      rw [Bool.or_eq_false_iff, Bool.not_eq_false', Bool.not_eq_false', decide_eq_true_eq]
      exact ⟨by rw [hbad.1], hbad.2⟩
    rw [hd]
    have ez : wrZ z = wrF 1 [] [st] r := by rw [ez1, wrL, stO_some ((hp st).mpr ⟨hbad.1, hst, hbad.2⟩)]
    have hA3 := s3 _ _ hA
    replace sA := sA.trans s3
    refine iteF ⟨_, rfl, LI, _, 0, .str l0, rfl, rfl, SqL.of hA3, atI0, 14, rfl, l0, rfl, by omega, (by show 1 ≤ sizeLine; decide), fun Kn nK => ?_⟩
    rw [hst]
    have nK0 := none_of sA nK
    have nLK : LI ≠ Kn := ne_of_none hA3 nK
    have s4 := same_new (o := .lst [.str st]) nK
    have hK4 := upd_same (H := H3) (a := Kn) (o := .lst [.str st])
    have hA4 := s4 _ _ hA3
    replace s4 := sA.trans s4
    generalize upd H3 Kn (.lst [.str st]) = H4 at s4 hK4 hA4 ⊢
    refine ⟨(by show 0 ≤ sizeLine; decide), fun Ho nH => ?_⟩
    have nH0 := none_of s4 nH
    have nLH : LI ≠ Ho := ne_of_none hA4 nH
    have nKH : Kn ≠ Ho := ne_of_none hK4 nH
    have s5 := same_new (o := .lst []) nH
    have hH5 := upd_same (H := H4) (a := Ho) (o := .lst [])
    have hA5 := s5 _ _ hA4
    have hK5 := s5 _ _ hK4
    replace s5 := s4.trans s5
    show tSeq _ _ _ _ (upd H4 Ho (.lst []))
    generalize upd H4 Ho (.lst []) = H5 at s5 hK5 hA5 hH5 ⊢
    clear s4 hK4 hA4 nK nH sA hA3 s3 hA nLI hd hcl hp H4 H3 H2
    have el : (((l0 :: r).map V.str).length : Int) = (r.length : Int) + 1 := by rw [List.length_map, List.length_cons]; rfl
    obtain ⟨M, hM⟩ : ∃ M : Int, M = (((l0 :: r).map V.str).length : Int) := ⟨_, rfl⟩
    rw [← hM] at el
    refine ⟨_, rfl, LI, _, rfl, .inl (SqL.of hA5), 1, M, by rw [hM], ⟨by decide, by decide, by omega, by omega⟩, for_range (lo := 1) (n := (M - 1).toNat) (fun i σ H' => i ≤ r.length ∧ Same H1 H' ∧ H' LI = some (.lst ((l0 :: r).map V.str)) ∧ (∃ (hs kn : List Str), H' Kn = some (.lst (kn.map V.str)) ∧ H' Ho = some (.lst (hs.map V.str)) ∧ (∀ v ∈ hs, nmB v = true) ∧ kn.length ≤ 6 ∧ st ∈ kn ∧ hs.length = i ∧ wrF 1 [] [st] r = wrF (1 + i) hs kn (r.drop i)) ∧ ∃ v1 v2 v3, σ = [some (.str z), some (.ref LI), some (.ref Kn), some (.ref Ho), v1, v2, v3]) ⟨Nat.zero_le _, s5, hA5, ⟨[], [st], hK5, hH5, (fun _ h => nomatch h), (by show 1 ≤ 6; decide), List.mem_singleton.mpr rfl, rfl, rfl⟩, none, none, none, rfl⟩ ?_ ?_⟩
    · rintro i σ H6 hi ⟨hir, s6, hA6, ⟨hs, kn, hK6, hH6, hnm, h6, hstm, hhl, hw⟩, v1, v2, v3, rfl⟩
      have hir2 : i < r.length := by omega
      have hlj : r[i]? = some r[i] := List.getElem?_eq_getElem hir2
      have hdr : r.drop i = r[i] :: r.drop (i + 1) := List.drop_eq_getElem_cons hir2
      generalize r[i] = l at hlj hdr
      have hll := hsh l (List.mem_cons_of_mem _ (List.mem_of_getElem? hlj))
      have hxx := hxl l (List.mem_cons_of_mem _ (List.mem_of_getElem? hlj))
      have hix : atI ((l0 :: r).map V.str) (1 + (i : Int)) = some (.str l) := by
        have e1 : (1 + (i : Int)) = ((i + 1 : Nat) : Int) := by omega
        rw [e1]
        refine atI_nat ?_
        rw [List.getElem?_map, List.getElem?_cons_succ, hlj]
        rfl
      rw [hdr] at hw
      refine ⟨_, rfl, _, rfl, LI, _, 1 + (i : Int), .str l, rfl, rfl, SqL.of hA6, hix, l, rfl, hll, ?_⟩
      by_cases hpl : isPl l
      · obtain ⟨q, hq⟩ := hpl
        refine .inl ⟨q, hq, fun H7 W s7 nW hW => ?_⟩
        have s67 := s6.trans s7
        have hA7 := s7 _ _ hA6
        have hK7 := s7 _ _ hK6
        have hH7 := s7 _ _ hH6
        have nWK : W ≠ Kn := (ne_of_none hK6 nW).symm
        have nWH : W ≠ Ho := (ne_of_none hH6 nW).symm
        clear s6 hA6 hK6 hH6 nW s7
        refine ⟨_, rfl, rfl, false, rfl, iteF ?_⟩
        have hqn := hq.2.2.2.2.2.2.2
        refine ⟨_, rfl, W, rfl, ⟨_, SqL.of hW⟩, for_it walk_list (fun j σ H' => Same H1 H' ∧ H' LI = some (.lst ((l0 :: r).map V.str)) ∧ H' W = some (.lst ((q.z :: q.ns).map V.str)) ∧ H' Ho = some (.lst (hs.map V.str)) ∧ H' Kn = some (.lst ((wN kn ((q.z :: q.ns).take j)).map V.str)) ∧ ∃ v, σ = [some (.str z), some (.ref LI), some (.ref Kn), some (.ref Ho), some (.int (1 + (i : Int))), some (.ref W), v]) ⟨s67, hA7, hW, hH7, hK7, v3, rfl⟩ (fun j σ H' _ h => SqL.of h.2.2.1) ?_ ?_⟩
        · rintro j x σ H8 H' hj ⟨s8, hA8, hW8, hH8, hK8, v, rfl⟩ ⟨rfl, hx'⟩
          have hj2 : j < (q.z :: q.ns).length := by rw [List.length_map] at hj; exact hj
          have hoj : (q.z :: q.ns)[j]? = some (q.z :: q.ns)[j] := List.getElem?_eq_getElem hj2
          generalize (q.z :: q.ns)[j] = m at hoj
          obtain rfl : x = .str m := by
            rw [List.getElem?_map, hoj] at hx'
            exact (Option.some.inj hx').symm
          refine ⟨_, rfl, _, rfl, _, _, rfl, .inl (SqL.of hK8), rfl, flat_str _, _, rfl, ?_⟩
          rw [inV_str, wN_one hoj]
          by_cases hm : m ∈ wN kn ((q.z :: q.ns).take j)
          · rw [decide_eq_true hm, if_pos hm]
            exact iteF ⟨s8, hA8, hW8, hH8, hK8, _, rfl⟩
          · rw [decide_eq_false hm, if_neg hm]
            refine iteT ⟨_, rfl, .inl ⟨rfl, _, SqL.of hK8⟩, _, rfl, Kn, _, _, rfl, rfl, hK8, ?_, same_x2 s8 SameX.upd nK0, ?_, ?_, ?_, ?_, _, rfl⟩
            · have h1 := wN_len (zs := kn) (ms := (q.z :: q.ns).take j)
              rw [List.length_take, List.length_cons] at h1
              rw [List.length_map]
              omega
            · rw [upd_ne nLK]
              exact hA8
            · rw [upd_ne nWK]
              exact hW8
            · rw [upd_ne nKH.symm]
              exact hH8
            · rw [upd_same, List.map_append]
              rfl
        · rintro σ H8 ⟨s8, hA8, hW8, hH8, hK8, v, rfl⟩
          rw [List.length_map, List.take_length] at hK8
          refine ⟨_, rfl, W, _, 0, .str q.z, rfl, rfl, SqL.of hW8, atI0, _, rfl, _, _, rfl, .inl (SqL.of hH8), rfl, flat_str _, _, rfl, decide ((6 : Int) < ((wN kn (q.z :: q.ns)).length : Int)), (· = H8), fun _ => ⟨_, rfl, Kn, _, rfl, .inl (SqL.of hK8), _, 6, rfl, rfl, _, rfl, by rw [List.length_map], rfl⟩, fun _ => rfl, fun H9 e => ?_⟩
          subst e
          show (if (inV (.str q.z) (hs.map V.str) || decide ((6 : Int) < ((wN kn (q.z :: q.ns)).length : Int))) = true then _ else _)
          rw [inV_str]
          by_cases hb : q.z ∈ hs ∨ 6 < (wN kn (q.z :: q.ns)).length
          · have hd : (decide (q.z ∈ hs) || decide ((6 : Int) < ((wN kn (q.z :: q.ns)).length : Int))) = true := by
              rw [Bool.or_eq_true, decide_eq_true_eq, decide_eq_true_eq]
              exact hb.imp id fun h => by omega
            rw [hd]
            refine iteT ⟨_, rfl, 1 + (i : Int), 1, rfl, rfl, ?_⟩
            exact go (some (1 + i + 1)) (by rw [ez, hw]; exact wrF_bad hq hb) _ s8
          · have hd : (decide (q.z ∈ hs) || decide ((6 : Int) < ((wN kn (q.z :: q.ns)).length : Int))) = false := by
              rw [Bool.or_eq_false_iff, decide_eq_false_iff_not, decide_eq_false_iff_not]
              exact ⟨fun h => hb (.inl h), fun h => hb (.inr (by omega))⟩
            rw [hd]
            refine iteF ⟨_, rfl, .inl ⟨rfl, _, SqL.of hH8⟩, _, rfl, W, _, 0, .str q.z, rfl, rfl, SqL.of hW8, atI0, Ho, _, _, rfl, rfl, hH8, ?_, ?_⟩
            · rw [List.length_map]
              omega
            refine ⟨hir2, same_x2 s8 SameX.upd nH0, by rw [upd_ne nLH]; exact hA8, ⟨hs ++ [q.z], wN kn (q.z :: q.ns), by rw [upd_ne nKH]; exact hK8, by rw [upd_same, List.map_append]; rfl, ?_, by omega, wN_mem.mpr (.inl hstm), by rw [List.length_append, hhl]; rfl, ?_⟩, _, _, _, rfl⟩
            · intro v hv
              rcases List.mem_append.mp hv with hv | hv
              · exact hnm v hv
              · rw [List.mem_singleton.mp hv]
                exact hq.2.1
            · rw [hw, wrF_pl hq hb]
              rfl
      · refine .inr ⟨hpl, fun H7 s7 => ?_⟩
        have s67 := s6.trans s7
        have hA7 := s7 _ _ hA6
        have hK7 := s7 _ _ hK6
        have hH7 := s7 _ _ hH6
        clear s6 hA6 hK6 hH6 s7
        refine ⟨_, rfl, rfl, true, rfl, iteT ?_⟩
        refine ⟨_, rfl, (by show 0 ≤ sizeLine; decide), fun O nO => ?_⟩
        have s8 := same_new (o := .lst []) nO
        have hA8 := s8 _ _ hA7
        have hK8 := s8 _ _ hK7
        have hH8 := s8 _ _ hH7
        have hO8 := upd_same (H := H7) (a := O) (o := .lst [])
        replace s8 := s67.trans s8
        show rEqD _ _ _ (upd H7 O (.lst [])) _
        generalize upd H7 O (.lst []) = H8 at s8 hA8 hK8 hH8 hO8 ⊢
        clear s67 hA7 hK7 hH7 nO H7
        have sh0 : SeqAt.shaped (.list (([] : List Str).map PyData.str)) = true := strs_shL fun _ h => nomatch h
        refine ⟨.list (hs.map PyData.str), .list (([] : List Str).map PyData.str), .lst (SqL.of hH8) strs_dp, .lst (SqL.of hO8) .nil, strs_shL (fun v hv => nm_tx (hnm v hv)), sh0, _, rfl, !decide (V.int (hs.length : Int) = .int (kn.length : Int)), (· = H8), fun _ => ⟨_, rfl, Ho, _, rfl, .inl (SqL.of hH8), _, rfl, Kn, _, rfl, .inl (SqL.of hK8), rfl, _, rfl, by rw [List.length_map, List.length_map], rfl⟩, fun _ => rfl, fun H9 e => ?_⟩
        subst e
        show (if (PyData.eqvAll (hs.map PyData.str) (([] : List Str).map PyData.str) || !decide (V.int (hs.length : Int) = .int (kn.length : Int))) = true then _ else _)
        rw [strs_eq]
        have hkn1 : 1 ≤ kn.length := List.length_pos_of_mem hstm
        by_cases hne : hs.length ≠ kn.length
        · have hd : (decide (hs = []) || !decide (V.int (hs.length : Int) = .int (kn.length : Int))) = true := by
            rw [Bool.or_eq_true]
            refine .inr ?_
            rw [decide_eq_false fun e => hne (by have := V.int.inj e; omega)]
            rfl
          rw [hd]
          refine iteT ⟨_, rfl, 1 + (i : Int), 1, rfl, rfl, ?_⟩
          exact go (some (1 + i + 1)) (by rw [ez, hw]; exact wrF_no hpl fun h => hne h.2) _ s8
        replace hne : hs.length = kn.length := Decidable.of_not_not hne
        have hd : (decide (hs = []) || !decide (V.int (hs.length : Int) = .int (kn.length : Int))) = false := by
          rw [Bool.or_eq_false_iff, decide_eq_false_iff_not, Bool.not_eq_false', decide_eq_true_eq, hne]
          refine ⟨fun e => ?_, rfl⟩
          rw [e] at hne
          have : 0 = kn.length := hne
          omega
        rw [hd]
        refine iteF ⟨_, rfl, _, rfl, LI, _, 1 + (i : Int), .str l, rfl, rfl, SqL.of hA8, hix, l, rfl, hll, hxx, ?_⟩
        by_cases hsm : isSm l
        · refine .inl ⟨hsm, fun H10 s10 => ⟨_, rfl, ?_⟩⟩
          have s8' := s8.trans s10
          refine iteF ⟨_, rfl, _, 1, rfl, rfl, _, rfl, LI, _, rfl, .inl (SqL.of (s10 _ _ hA8)), _, M, rfl, by rw [hM], _, rfl, ?_⟩
          by_cases hmore : 1 + (i : Int) + 1 < M
          · rw [decide_eq_true hmore]
            refine iteT ⟨_, rfl, 1 + (i : Int), 2, rfl, rfl, ?_⟩
            have hne2 : r.drop (i + 1) ≠ [] := fun e => by
              have := congrArg List.length e
              rw [List.length_drop] at this
              simp at this
              omega
            exact go (some (1 + i + 2)) (by rw [ez, hw]; exact wrF_more hsm hne hne2) _ s8'
          · rw [decide_eq_false hmore]
            have hnil : r.drop (i + 1) = [] := List.drop_eq_nil_of_le (by omega)
            rw [hnil] at hw
            exact iteF (go none (by rw [ez, hw]; exact wrF_end hsm hne) _ s8')
        · refine .inr ⟨hsm, fun H10 s10 => ⟨_, rfl, ?_⟩⟩
          refine iteT ⟨_, rfl, 1 + (i : Int), 1, rfl, rfl, ?_⟩
          exact go (some (1 + i + 1)) (by rw [ez, hw]; exact wrF_no hpl fun h => hsm h.1) _ (s8.trans s10)
    · rintro σ H4 ⟨hir, s4, hA4, ⟨hs, kn, _, _, _, _, _, _, hw⟩, v1, v2, v3, rfl⟩
      have en : (M - 1).toNat = r.length := by omega
      rw [en, List.drop_length] at hw
      refine ⟨_, rfl, LI, _, rfl, .inl (SqL.of hA4), M, 1, by rw [hM], rfl, ?_⟩
      have : Q (.int ((1 + r.length + 1 : Nat) : Int)) H4 := go (some (1 + r.length + 1)) (by rw [ez, hw]; rfl) _ s4
      rw [show ((1 + r.length + 1 : Nat) : Int) = M + 1 by omega] at this
      exact this
end
end K37

set_option Elab.async false
set_option linter.all false
set_option pp.deepTerms.threshold 14
set_option pp.maxSteps 2500
set_option maxRecDepth 100000
set_option maxHeartbeats 2000000
namespace K37
open PySem PySem.Spec PyProof.Rows L2 Vf 
section
variable {P : Program} {w : World} {K : PySem.W.Frag} {mg : Str → Option Value} {base : Heap}
structure WTxt (K : PySem.W.Frag) (mg : Str → Option Value) : Prop extends Txt K mg where
  g_SeenError : mg "SeenError" = some (.ref (He.ga K "SeenError"))
  g_BadRun : mg "BadRun" = some (.ref (He.ga K "BadRun"))
  x1 : PySem.W.exmOne K (.ref (He.ga K "BadText")) (.ref (He.ga K "BadText")) = some true
  p1 : PySem.W.kitOne K (.ref (He.ga K "BadText")) (.ref (He.ga K "SeenError")) = some true
  p2 : PySem.W.kitOne K (.ref (He.ga K "BadText")) (.ref (He.ga K "BadRun")) = some false
theorem WTxt.xf {K : PySem.W.Frag} {mg : Str → Option Value} (T : WTxt K mg) : XfC K (He.ga K "BadText") := ⟨T.x_BadText.d.ga, T.x_BadText.d.gg, T.x_BadText.d.o.exC, T.x_BadText.d.hd⟩
theorem sc_law_read : FnScope ["_law_text_here", "_law_outcome", "e"] ["_law_text_here"] (defScope s_law_read) := ⟨rfl, rfl, rfl, by decide +kernel, rfl, by decide +kernel, by decide +kernel⟩
-- slots: 0 _law_text_here, 1 _law_outcome, 2 e
/-- what _law_read tells of x -/
def RdO (K : PySem.W.Frag) (H : Hp) (Q : V → Hp → Prop) (x : V) : Prop := (OddS H x ∧ ∀ H' q, Same H H' → H q = none → H' q = some (.tup [.str "refused", .int 0, .bl true, .bl false]) → Q (.ref q) H') ∨
  ∃ z : Str, x = .str z ∧ z.length + 2 ≤ sizeLine ∧ (∀ n : Nat, wrZ z = some n → ∀ H' q, Same H H' → H q = none → H' q = some (.tup [.str "refused", .int (n : Int), .bl true, .bl false]) → Q (.ref q) H') ∧
  (wrZ z = none → ∀ st rs n i f, RdOk z st rs n i f → ∀ H' q t g p xs dx tn dP dN, Same H H' → H q = none → H' q = some (.tup [.str "told", .ref t]) → H' t = some (.tup [.ref g, .ref p]) → PgA K H' g xs st dx tn dP dN → xs.map (·.2.2) = rs → SaA (CS K) H' p n i f → Q (.ref q) H')
def spLrd (K : PySem.W.Frag) : Sp := fun vs H Q _ => ∃ x, vs = [x] ∧ RdO K H Q x
theorem ok_law_read {fd : FuncData} (F : FnD K ("_law_read", none) "_law_read" "_law_read" s_law_read fd) (T : WTxt K mg) (O_read : OkF P w K mg base (L2.CX P w) 8 "read" ["text"] (spRd K)) : OkF P w K mg base CX0 9 "_law_read" ["_law_text_here"] (spLrd K) := by
  refine okd F (F.ok sc_law_read (fun vs H Q E h => ?_) fun cdv A outer s H vs Q E hr h => ?_) fun _ _ _ _ _ _ us hl => match us, hl with | [_], _ => rfl
  · obtain ⟨x, rfl, _⟩ := h
    rfl
  · obtain ⟨x, rfl, h⟩ := h
    refine ⟨_, PSs.nox (pss_cons (ps_try_as (i := 2) (Wout := fun _ _ _ _ => False) rfl rfl sc_law_read.nd rfl rfl ⟨rfl, by decide, Or.inl T.g_BadText⟩ takes0 (fun W pn xe tk _ => (pss_one (ps_set (i := 1) sc_law_read.nd rfl (Or.inl rfl) (pe_tup (pa_cons pe_str (pa_cons (c_fn O_read hr (by decide) T.g_read (passAny 3 tk) (pa_cons (pv 0) pa_nil)) pa_nil)))))) (fun a oe cls d pn hz hf => (pss_one (ps_set (i := 1) sc_law_read.nd rfl (Or.inl rfl) (pe_tup (pa_cons pe_str (pa_cons (pe_xf T.xf T.x_BadText.n hz hf (pv 2)) (pa_cons (pe_callB (call_isiE rfl T.x_BadText.d T.hn T.ht hz hf) (by rfl) T.z_isinstance (by decide +kernel) (pa_cons (pv 2) (pa_cons (pe_cl T.g_SeenError) pa_nil))) (pa_cons (pe_callB (call_isiE rfl T.x_BadText.d T.hn T.ht hz hf) (by rfl) T.z_isinstance (by decide +kernel) (pa_cons (pv 2) (pa_cons (pe_cl T.g_BadRun) pa_nil))) pa_nil)))))))))
  (pss_one (ps_ret (pv 1)))), ?_⟩
    have li : ∀ v : V, List.lookup ("line" : Str) [(("line" : Str), v)] = some v := fun v => by simp [List.lookup]
    refine ⟨_, rfl, ?_⟩
    unfold tNil
    dsimp only [List.nil_append, List.cons_append]
    have wr : ∀ (Q' : VK) (E' : XK), (∀ n : Int, (∀ H' q, Same H H' → H q = none → H' q = some (.tup [.str "refused", .int n, .bl true, .bl false]) → Q (.ref q) H') → ErT K E' H n) →
        (∀ H' t, Same H H' → H t = none → (∀ H'' q, Same H' H'' → H' q = none → H'' q = some (.tup [.str "told", .ref t]) → Q (.ref q) H'') → Q' (.ref t) H') → spRd K [x] H Q' E' := fun Q' E' h1 h2 => by
      refine ⟨x, rfl, ?_⟩
      rcases h with ⟨o, k⟩ | ⟨z, rfl, hz, k1, k2⟩
      · exact .inl ⟨o, h1 0 k⟩
      · exact .inr ⟨z, rfl, hz, fun n e => h1 (n : Int) (k1 n e), fun e st rs n i f ok H' t g p xs dx tn dP dN s1 nt ht hg hrs hp => h2 H' t s1 nt fun H'' q s2 nq hq => k2 e st rs n i f ok H'' q t g p xs dx tn dP dN (s1.trans s2) (none_of s1 nq) hq (s2 _ _ ht) (hg.ext s2) hrs (hp.ext s2)⟩
    refine wr _ _ (fun n k H1 d s1 nd => ?_) (fun H' t s1 nt k => ?_)
    · intro σ hσ
      have s8 : ∀ a : Addr, (σ.set 2 (some (V.ref a)))[2]? = some (some (V.ref a)) := fun a => List.getElem?_set_self (by omega)
      have sm2 := s1.trans (same_new (o := .xd [("line", .int n)]) nd)
      refine ⟨true, T.x1, fun _ a na => ?_, fun z => Bool.noConfusion z⟩
      refine ⟨_, s8 a, rfl, rfl, d, _, _, rfl, upd_same, li _, _, s8 a, _, _, true, rfl, rfl, .own _, T.p1, ⟨d, _, rfl, upd_same⟩, _, s8 a, _, _, false, rfl, rfl, .own _, T.p2, ⟨d, _, rfl, upd_same⟩, (by show 4 ≤ sizeLine; decide), fun q nq => ⟨_, ?_, k _ q (sm2.trans (same_new nq)) (none_of sm2 nq) upd_same⟩⟩
      rw [List.getElem?_set_ne (by decide), List.getElem?_set_self (by rw [List.length_set]; omega)]
    · exact ⟨(by show 2 ≤ sizeLine; decide), fun q nq => ⟨_, rfl, k _ q (same_new nq) nq upd_same⟩⟩
end
end K37

set_option Elab.async false
set_option linter.all false
set_option pp.deepTerms.threshold 14
set_option pp.maxSteps 2500
set_option maxRecDepth 100000
set_option maxHeartbeats 2000000
namespace K37
open PySem PySem.Spec PyProof.Rows L2 Vf 
section
variable {P : Program} {w : World} {K : PySem.W.Frag} {mg : Str → Option Value} {base : Heap}
theorem rep_size (a : Array Nat) : ∀ (n : Nat) (acc : Array Nat), ((List.replicate n a).foldl (· ++ ·) acc).size = acc.size + n * a.size
  | 0, acc => by simp
  | n + 1, acc => by
    rw [List.replicate_succ, List.foldl_cons, rep_size a n, Array.size_append, Nat.succ_mul]
    omega
theorem strN_len (z : Str) (n : Nat) : (strN z n).length = n * z.length := by
  show ((List.replicate n z.cps).foldl (· ++ ·) #[]).size = n * z.cps.size
  rw [rep_size]
  simp
theorem rep_mem {c : Nat} (a : Array Nat) : ∀ (n : Nat) (acc : Array Nat), c ∈ ((List.replicate n a).foldl (· ++ ·) acc).toList → c ∈ acc.toList ∨ c ∈ a.toList
  | 0, acc, h => .inl h
  | n + 1, acc, h => by
    rw [List.replicate_succ, List.foldl_cons] at h
    rcases rep_mem a n _ h with h | h
    · rw [Array.toList_append] at h
      exact List.mem_append.mp h
    · exact .inr h
theorem tx_strN {z : Str} (h : Tx z) (n : Nat) : Tx (strN z n) := fun c hc => by
  rcases rep_mem z.cps n #[] hc with hc | hc
  · cases hc
  · exact h c hc
/-- text * int, of what length a bound tells -/
def rMulA : R2 := fun x y H Q => ∃ (z : Str) (k : Int), x = .str z ∧ y = .int k ∧ z.length = 1 ∧ -(2 ^ 40) ≤ k ∧ k ≤ 100000 ∧ Tx z ∧ ∀ w : Str, w.length ≤ 100000 → Tx w → Q (.str w) H
theorem op_mulA {X : Cx} : OpR X (binaryOp .Mult) rMulA := by
  intro pins s σ H x y v u Q I rx ry h
  obtain ⟨z, k, rfl, rfl, z1, k0, k1, zx, q⟩ := h
  obtain ⟨t, rfl⟩ := rx
  obtain ⟨t', rfl⟩ := ry
  have big : 200000 ≤ sizeLine := by decide
  refine PySem.P.mul_str ?_ (fun h1 _ => ?_) (fun _ _ => ?_) ?_
  · rw [decide_eq_false (by omega), decide_eq_false (by omega)]
    rfl
  · rw [z1]
    have : ((2 ^ 63 - 1 : Int)) / k ≥ 1 := by
      refine Int.le_ediv_of_mul_le (by omega) ?_
      omega
    intro h
    have h : ((1 : Nat) : Int) > (2 ^ 63 - 1) / k := h
    omega
  · show decide _ = false
    rw [z1]
    exact decide_eq_false (by omega)
  · by_cases h1 : k < 1
    · rw [if_pos h1]
      exact ⟨by decide, .str _, H, I.tok _, ⟨_, rfl⟩, q _ (by decide) (by unfold Tx; decide +kernel)⟩
    · rw [if_neg h1]
      by_cases h2 : (k == 1 || z.length == 0) = true
      · rw [if_pos h2]
        exact ⟨.str z, H, I, ⟨_, rfl⟩, q z (by omega) zx⟩
      · rw [if_neg h2]
        have hl : (strN z k.toNat).length = k.toNat := by
          rw [strN_len, z1, Nat.mul_one]
        exact ⟨by show (strN z k.toNat).length ≤ sizeLine; omega, .str _, H, I.tok _, ⟨_, rfl⟩, q (strN z k.toNat) (by omega) (tx_strN zx _)⟩
theorem atI_int {α : Type} {xs : List α} {r : Int} {v : α} (h0 : 0 ≤ r) (h : xs[r.toNat]? = some v) : atI xs r = some v := by
  have e : r = (r.toNat : Int) := by omega
  rw [e]
  exact atI_nat h
theorem none_ofX {d : Addr} {H H1 : Hp} {a : Addr} {o : HO} (s : SameX d H H1) (hd : H1 d = some o) (n : H1 a = none) : H a = none := by
  cases e : H a with
  | none => rfl
  | some u =>
    have := s _ _ (ne_of_none hd n).symm e
    rw [n] at this
    cases this
/-! ### how long the parts of a text are -/
def wt (ls : List Str) : Nat := (ls.map (·.length)).sum + ls.length
theorem wt_nil : wt [] = 0 := rfl
theorem wt_cons (s : Str) (ls : List Str) : wt (s :: ls) = s.length + 1 + wt ls := by
  unfold wt
  simp only [List.map_cons, List.sum_cons, List.length_cons]
  omega
theorem wt_app : ∀ (a b : List Str), wt (a ++ b) = wt a + wt b
  | [], b => by rw [List.nil_append, wt_nil, Nat.zero_add]
  | s :: a, b => by rw [List.cons_append, wt_cons, wt_cons, wt_app a b]; omega
theorem wt_cut (ls : List Str) (n : Nat) : wt (ls.take n) + wt (ls.drop n) = wt ls := by
  rw [← wt_app, List.take_append_drop]
theorem wt_tail (ls : List Str) (n : Nat) : wt (ls.drop (n + 1)) ≤ wt (ls.drop n) := by
  rw [← List.tail_drop]
  cases ls.drop n with
  | nil => exact Nat.le_refl _
  | cons a b =>
    rw [wt_cons]
    show wt b ≤ _
    omega
theorem wt_out (ls : List Str) (n : Nat) : wt (ls.take n) + wt (ls.drop (n + 1)) ≤ wt ls := by
  have h1 := wt_cut ls n
  have h2 := wt_tail ls n
  omega
theorem wt_len (ls : List Str) : ls.length ≤ wt ls := by
  unfold wt
  omega
theorem wt_split (z y : Str) (hy : 1 ≤ y.length) : wt (Txt.split z y) ≤ z.length + 1 := PyProof.Rows.split_weight z y hy
theorem wt_join (ls : List Str) (c : Nat) : (Txt.join ⟨#[c]⟩ ls).length ≤ wt ls := by
  have := join_len ⟨#[c]⟩ ls
  have h1 : (⟨#[c]⟩ : Str).length = 1 := rfl
  rw [h1, Nat.mul_one] at this
  exact this
theorem cutS_le (z : Str) (a b : Option Int) : (cutS z a b).length ≤ z.length := by
  unfold cutS
  show (List.toArray _).size ≤ _
  rw [List.size_toArray, List.length_take, List.length_drop]
  have hl : z.cps.toList.length = z.length := by simp [Str.length]
  omega
def cutL (ls : List Str) (lo hi : Option Int) : List Str := (ls.drop (HT.sIx ls.length 0 lo)).take (HT.sIx ls.length ls.length hi - HT.sIx ls.length 0 lo)
theorem cutV_L (ls : List Str) (lo hi : Option Int) : cutV (ls.map V.str) lo hi = (cutL ls lo hi).map V.str := by
  unfold cutV cutL
  rw [List.length_map, List.map_take, List.map_drop]
/-- lines, words: not too long in all, of signs that are -/
def LsOk (B : Nat) (ls : List Str) : Prop := wt ls ≤ B ∧ ∀ s ∈ ls, Tx s
theorem LsOk.cut {B : Nat} {ls : List Str} (h : LsOk B ls) (lo hi : Option Int) : LsOk B (cutL ls lo hi) := by
  unfold cutL
  refine ⟨?_, fun s hs => h.2 s (List.mem_of_mem_drop (List.mem_of_mem_take hs))⟩
  have h1 := wt_cut ls (HT.sIx ls.length 0 lo)
  have h2 := wt_cut (ls.drop (HT.sIx ls.length 0 lo)) (HT.sIx ls.length ls.length hi - HT.sIx ls.length 0 lo)
  have := h.1
  omega
theorem LsOk.app {A B : Nat} {xs ys : List Str} (h : LsOk A xs) (g : LsOk B ys) : LsOk (A + B) (xs ++ ys) := by
  refine ⟨by rw [wt_app]; have := h.1; have := g.1; omega, fun s hs => ?_⟩
  exact (List.mem_append.mp hs).elim (h.2 s) (g.2 s)
theorem LsOk.one {s : Str} {n : Nat} (h : Tx s) (hl : s.length ≤ n) : LsOk (n + 1) [s] := by
  refine ⟨by rw [wt_cons, wt_nil]; omega, fun t ht => ?_⟩
  rw [List.mem_singleton.mp ht]
  exact h
theorem LsOk.le {A B : Nat} {xs : List Str} (h : LsOk A xs) (hl : A ≤ B) : LsOk B xs := ⟨Nat.le_trans h.1 hl, h.2⟩
theorem LsOk.len {A : Nat} {xs : List Str} (h : LsOk A xs) : xs.length ≤ A := Nat.le_trans (wt_len xs) h.1
theorem LsOk.mem {A : Nat} {xs : List Str} (h : LsOk A xs) {s : Str} (hs : s ∈ xs) : s.length ≤ A := by
  have h1 := h.1
  obtain ⟨a, b, rfl⟩ := List.append_of_mem hs
  rw [wt_app, wt_cons] at h1
  omega
theorem tx_c {s : Str} (h : s.cps.toList.all (fun c => decide (c < 1114112)) = true) : Tx s := fun c hc => of_decide_eq_true (List.all_eq_true.mp h c hc)
/-- what a text may become -/
def TxB (n : Nat) (y : Str) : Prop := y.length ≤ 4 * n + 40 ∧ Tx y
theorem sc_law_signs : FnScope ["_law_draw", "_law_text_here", "_law_at", "_law_sign", "_law_kind"] ["_law_draw", "_law_text_here"] (defScope s_law_signs) := ⟨rfl, rfl, rfl, by decide +kernel, rfl, by decide +kernel, by decide +kernel⟩
-- slots: 0 _law_draw, 1 _law_text_here, 2 _law_at, 3 _law_sign, 4 _law_kind
def spSgn : Sp := fun vs H Q _ => ∃ (d : Addr) (n : Int) (z : Str), vs = [.ref d, .str z] ∧ H d = some (.lst [.int n]) ∧ z.length ≤ 100000 ∧ Tx z ∧ ∀ (H' : Hp) (m : Int) (y : Str), SameX d H H' → H' d = some (.lst [.int m]) → TxB z.length y → Q (.str y) H'
theorem ok_law_signs {fd : FuncData} (F : FnD K ("_law_signs", none) "_law_signs" "_law_signs" s_law_signs fd) (T : Txt K mg) (O_law_take : OkF P w K mg base CX0 1 "_law_take" ["_law_draw", "_law_size"] spTake) : OkF P w K mg base CX0 2 "_law_signs" ["_law_draw", "_law_text_here"] spSgn := by
  refine okd F (F.ok sc_law_signs (fun vs H Q E h => ?_) fun cdv A outer s H vs Q E hr h => ?_) fun _ _ _ _ _ _ us hl => match us, hl with | [_, _], _ => rfl
  · obtain ⟨d, n, z, rfl, _⟩ := h
    rfl
  · obtain ⟨d, n, z, rfl, hd, hz, hx, k⟩ := h
    refine ⟨_, PSs.nox (pss_cons (ps_set (i := 2) sc_law_signs.nd rfl (Or.inl rfl) (c_fn O_law_take hr (by decide) T.g_law_take pass0 (pa_cons (pv 0) (pa_cons (pe_op op_add (pe_callB call_len_str (by rfl) T.z_len (by decide +kernel) (pa_cons (pv 1) pa_nil)) pe_int) pa_nil))))
  (pss_cons (ps_set (i := 3) sc_law_signs.nd rfl (Or.inl rfl) (pe_ix ix_str pe_str (c_fn O_law_take hr (by decide) T.g_law_take pass0 (pa_cons (pv 0) (pa_cons pe_int pa_nil))) (fun _ _ => rfl)))
  (pss_cons (ps_set (i := 4) sc_law_signs.nd rfl (Or.inl rfl) (c_fn O_law_take hr (by decide) T.g_law_take pass0 (pa_cons (pv 0) (pa_cons pe_int pa_nil))))
  (pss_cons (ps_if (pt_cmpR op_eq (pv 4) pe_int (nomark _)) (pss_one (ps_ret (pe_op op_add_str (pe_op op_add_str (pe_slice sl_str (pv 1) po_none (po_some (pv 2))) (pv 3)) (pe_slice sl_str (pv 1) (po_some (pv 2)) po_none))))
  pss_nil)
  (pss_cons (ps_if (pt_cmpR op_eq (pv 4) pe_int (nomark _)) (pss_one (ps_ret (pe_op op_add_str (pe_slice sl_str (pv 1) po_none (po_some (pv 2))) (pe_slice sl_str (pv 1) (po_some (pe_op op_add (pv 2) pe_int)) po_none))))
  pss_nil)
  (pss_one (ps_ret (pe_op op_add_str (pe_op op_add_str (pe_slice sl_str (pv 1) po_none (po_some (pv 2))) (pv 3)) (pe_slice sl_str (pv 1) (po_some (pe_op op_add (pv 2) pe_int)) po_none))))))))), ?_⟩
    have big : 10000000 ≤ sizeLine := by decide
    refine ⟨_, rfl, _, rfl, z, rfl, by omega, _, 1, rfl, rfl, ?_⟩
    refine ⟨d, n, (z.length : Int) + 1, rfl, hd, by omega, by omega, fun pl m1 pl0 pl1 => ?_⟩
    have hd1 := upd_same (H := H) (a := d) (o := .lst [.int m1])
    have sx1 : SameX d H (upd H d (.lst [.int m1])) := SameX.upd
    generalize upd H d (.lst [.int m1]) = H1 at hd1 sx1 ⊢
    refine ⟨_, rfl, ?_⟩
    refine ⟨d, m1, 16, rfl, hd1, by decide, by decide, fun si m2 si0 si1 => ?_⟩
    have hd2 := upd_same (H := H1) (a := d) (o := .lst [.int m2])
    have sx2 : SameX d H (upd H1 d (.lst [.int m2])) := sx1.trans SameX.upd
    generalize upd H1 d (.lst [.int m2]) = H2 at hd2 sx2 ⊢
    clear hd1 sx1 H1
    have hsg : ("a z0123789AT-\n\tx" : Str).cps.toList.length = 16 := by decide +kernel
    obtain ⟨sg, hsg2⟩ : ∃ c, ("a z0123789AT-\n\tx" : Str).cps.toList[si.toNat]? = some c := ⟨_, List.getElem?_eq_getElem (by rw [hsg]; omega)⟩
    have hsx : Tx ⟨#[sg]⟩ := fun c hc => by
      have h1 : ∀ c ∈ ("a z0123789AT-\n\tx" : Str).cps.toList, c < 1114112 := by decide +kernel
      have : c = sg := List.mem_singleton.mp hc
      rw [this]
      exact h1 _ (List.mem_of_getElem? hsg2)
    refine ⟨_, si, sg, rfl, rfl, (by show 16 ≤ sizeLine; decide), atI_int si0 hsg2, ?_⟩
    have hsl : (⟨#[sg]⟩ : Str).length = 1 := rfl
    generalize (⟨#[sg]⟩ : Str) = sgn at hsl hsx ⊢
    clear hsg hsg2 sg
    refine ⟨_, rfl, ?_⟩
    refine ⟨d, m2, 3, rfl, hd2, by decide, by decide, fun q m3 q0 q1 => ?_⟩
    have hd3 := upd_same (H := H2) (a := d) (o := .lst [.int m3])
    have sx3 : SameX d H (upd H2 d (.lst [.int m3])) := sx2.trans SameX.upd
    generalize upd H2 d (.lst [.int m3]) = H3 at hd3 sx3 ⊢
    clear hd2 sx2 H2
    have hz2 := fun a b => cutS_le z a b
    have h1 := hz2 none (some pl)
    have h2 := hz2 (some pl) none
    have h3 := hz2 (some (pl + 1)) none
    have x1 := tx_cut hx none (some pl)
    have x2 := tx_cut hx (some pl) none
    have x3 := tx_cut hx (some (pl + 1)) none
    refine ⟨_, rfl, rfl, _, rfl, ite2 (fun c => ?_) fun c => ?_⟩
    · exact ⟨_, rfl, _, rfl, pl, rfl, z, rfl, by omega, _, rfl, _, _, rfl, rfl, by omega, _, rfl, _, rfl, pl, rfl, z, rfl, by omega, _, _, rfl, rfl, by rw [Str.length_append]; omega, k _ _ _ sx3 hd3 ⟨by rw [Str.length_append, Str.length_append]; omega, tx_app (tx_app x1 hsx) x2⟩⟩
    refine ⟨_, rfl, rfl, _, rfl, ite2 (fun c => ?_) fun c => ?_⟩
    · exact ⟨_, rfl, _, rfl, pl, rfl, z, rfl, by omega, _, rfl, _, rfl, pl, 1, rfl, rfl, pl + 1, rfl, z, rfl, by omega, _, _, rfl, rfl, by omega, k _ _ _ sx3 hd3 ⟨by rw [Str.length_append]; omega, tx_app x1 x3⟩⟩
    · exact ⟨_, rfl, _, rfl, pl, rfl, z, rfl, by omega, _, rfl, _, _, rfl, rfl, by omega, _, rfl, _, rfl, pl, 1, rfl, rfl, pl + 1, rfl, z, rfl, by omega, _, _, rfl, rfl, by rw [Str.length_append]; omega, k _ _ _ sx3 hd3 ⟨by rw [Str.length_append, Str.length_append]; omega, tx_app (tx_app x1 hsx) x3⟩⟩
end
end K37

set_option Elab.async false
set_option linter.all false
set_option pp.deepTerms.threshold 14
set_option pp.maxSteps 2500
set_option maxRecDepth 100000
set_option maxHeartbeats 2000000
namespace K37
open PySem PySem.Spec PyProof.Rows L2 Vf 
section
variable {P : Program} {w : World} {K : PySem.W.Frag} {mg : Str → Option Value} {base : Heap}
theorem LsOk.take {B : Nat} {ls : List Str} (h : LsOk B ls) (n : Nat) : LsOk B (ls.take n) := ⟨by have := wt_cut ls n; have := h.1; omega, fun s hs => h.2 s (List.mem_of_mem_take hs)⟩
theorem LsOk.drop {B : Nat} {ls : List Str} (h : LsOk B ls) (n : Nat) : LsOk B (ls.drop n) := ⟨by have := wt_cut ls n; have := h.1; omega, fun s hs => h.2 s (List.mem_of_mem_drop hs)⟩
theorem tx_emp : Tx "" := tx_c (by decide +kernel)
theorem sc_law_lines : FnScope ["_law_draw", "_law_text_here", "_law_lines_here", "_law_at", "_law_kind", "_law_moved"] ["_law_draw", "_law_text_here"] (defScope s_law_lines) := ⟨rfl, rfl, rfl, by decide +kernel, rfl, by decide +kernel, by decide +kernel⟩
-- slots: 0 _law_draw, 1 _law_text_here, 2 _law_lines_here, 3 _law_at, 4 _law_kind, 5 _law_moved
def lnI (H : Hp) (d : Addr) (z : Str) (at_ q : Int) (ls : List Str) (c : Nat) (σ' : L2.St) (H' : Hp) : Prop := SameX d H H' ∧ (∃ m, H' d = some (.lst [.int m])) ∧ ∃ L ys v5, H' L = some (.lst (ys.map V.str)) ∧ L ≠ d ∧ H L = none ∧ LsOk (4 * z.length + 30) ys ∧ (ys = ls ∨ q < (c : Int)) ∧ σ' = [some (.ref d), some (.str z), some (.ref L), some (.int at_), some (.int q), v5]
theorem ok_law_lines {fd : FuncData} (F : FnD K ("_law_lines", none) "_law_lines" "_law_lines" s_law_lines fd) (T : Txt K mg) (O_law_take : OkF P w K mg base CX0 1 "_law_take" ["_law_draw", "_law_size"] spTake) : OkF P w K mg base CX0 2 "_law_lines" ["_law_draw", "_law_text_here"] spSgn := by
  refine okd F (F.ok sc_law_lines (fun vs H Q E h => ?_) fun cdv A outer s H vs Q E hr h => ?_) fun _ _ _ _ _ _ us hl => match us, hl with | [_, _], _ => rfl
  · obtain ⟨d, n, z, rfl, _⟩ := h
    rfl
  · obtain ⟨d, n, z, rfl, hd, hz, hx, k⟩ := h
    refine ⟨_, PSs.nox (pss_cons (ps_set (i := 2) sc_law_lines.nd rfl (Or.inl rfl) (pe_m1 PySem.F.slot_str_split PySem.F.type_str_split mt_split (pv 1) pe_str))
  (pss_cons (ps_set (i := 3) sc_law_lines.nd rfl (Or.inl rfl) (c_fn O_law_take hr (by decide) T.g_law_take pass0 (pa_cons (pv 0) (pa_cons (pe_callB (id := "len") call_len_seq (by rfl) T.z_len (by decide +kernel) (pa_cons (pv 2) pa_nil)) pa_nil))))
  (pss_cons (ps_set (i := 4) sc_law_lines.nd rfl (Or.inl rfl) (c_fn O_law_take hr (by decide) T.g_law_take pass0 (pa_cons (pv 0) (pa_cons pe_int pa_nil))))
  (C8.pss_cut (ps_if (pt_cmpR op_eq (pv 4) pe_int (nomark _)) (pss_one (ps_set (i := 2) sc_law_lines.nd rfl (Or.inl rfl) (pe_op op_cat (pe_slice sl_list (pv 2) po_none (po_some (pv 3))) (pe_slice sl_list (pv 2) (po_some (pe_op op_add (pv 3) pe_int)) po_none))))
  pss_nil)
  (C8.pss_cut (ps_if (pt_cmpR op_eq (pv 4) pe_int (nomark _)) (pss_one (ps_expr (pe_bm PySem.F.plainAttrs_list PySem.F.slot_list_insert PySem.F.type_list_insert mt_insert (pv 2) (pa_cons (c_fn O_law_take hr (by decide) T.g_law_take pass0 (pa_cons (pv 0) (pa_cons (pe_op op_add (pe_callB (id := "len") call_len_seq (by rfl) T.z_len (by decide +kernel) (pa_cons (pv 2) pa_nil)) pe_int) pa_nil))) (pa_cons (pe_ix ix_list (pv 2) (pv 3) (fun _ _ => rfl)) pa_nil)))))
  pss_nil)
  (C8.pss_cut (ps_if (pt_cmpR op_eq (pv 4) pe_int (nomark _)) (pss_cons (ps_set (i := 5) sc_law_lines.nd rfl (Or.inl rfl) (pe_op op_cat (pe_slice sl_list (pv 2) (po_some (pe_op op_add (pv 3) pe_int)) (po_some (pe_op op_add (pv 3) pe_int))) (pe_lst (pa_cons (pe_ix ix_list (pv 2) (pv 3) (fun _ _ => rfl)) pa_nil))))
  (pss_one (ps_set (i := 2) sc_law_lines.nd rfl (Or.inl rfl) (pe_op op_cat (pe_op op_cat (pe_slice sl_list (pv 2) po_none (po_some (pv 3))) (pv 5)) (pe_slice sl_list (pv 2) (po_some (pe_op op_add (pv 3) pe_int)) po_none)))))
  pss_nil)
  (C8.pss_cut (ps_if (pt_cmpR op_eq (pv 4) pe_int (nomark _)) (pss_one (ps_set (i := 2) sc_law_lines.nd rfl (Or.inl rfl) (pe_op op_cat (pe_op op_cat (pe_slice sl_list (pv 2) po_none (po_some (pv 3))) (pe_slice sl_list (pv 2) (po_some (pe_op op_add (pv 3) pe_int)) po_none)) (pe_lst (pa_cons (pe_ix ix_list (pv 2) (pv 3) (fun _ _ => rfl)) pa_nil)))))
  pss_nil)
  (C8.pss_cut (ps_if (pt_cmpR op_eq (pv 4) pe_int (nomark _)) (pss_one (ps_expr (pe_bm PySem.F.plainAttrs_list PySem.F.slot_list_append PySem.F.type_list_append mt_append (pv 2) (pa_cons pe_str pa_nil))))
  pss_nil)
  (pss_one (ps_ret (pe_m1 PySem.F.slot_str_join PySem.F.type_str_join mt_join pe_str (pv 2)))))))))))), ?_⟩
    have big : 10000000 ≤ sizeLine := by decide
    obtain ⟨ls, els⟩ : ∃ ls, Txt.split z "\n" = ls := ⟨_, rfl⟩
    have hok : LsOk (z.length + 1) ls := ⟨els ▸ wt_split z "\n" (by decide), fun s hs => tx_nl hx (els ▸ hs)⟩
    have hl1 : 1 ≤ ls.length := els ▸ PyProof.Rows.split_pos z "\n"
    have hlz : ∀ y ∈ ls, y.length ≤ z.length := fun y hy => PyProof.Rows.part_short (els ▸ hy)
    have hll := hok.len
    refine ⟨_, rfl, ⟨_, rfl⟩, z, "\n", rfl, rfl, by decide, by omega, fun A nA => ?_⟩
    rw [els]
    have nAd : A ≠ d := (ne_of_none hd nA).symm
    have s1 := same_new (o := .lst (ls.map V.str)) nA
    have hA1 := upd_same (H := H) (a := A) (o := .lst (ls.map V.str))
    have hd1 := s1 _ _ hd
    have sx1 := same_x (d := d) s1
    show tSeq _ _ _ _ (upd H A (.lst (ls.map V.str)))
    generalize upd H A (.lst (ls.map V.str)) = H1 at s1 hA1 hd1 sx1 ⊢
    have e1 : (((ls.map V.str).length : Nat) : Int) = (ls.length : Int) := by rw [List.length_map]
    refine ⟨_, rfl, _, rfl, A, _, rfl, .inl (SqL.of hA1), ?_⟩
    rw [e1]
    refine ⟨d, n, (ls.length : Int), rfl, hd1, by omega, by omega, fun at_ m3 at_0 at_1 => ?_⟩
    have hd3 := upd_same (H := H1) (a := d) (o := .lst [.int m3])
    have hA3 : upd H1 d (.lst [.int m3]) A = some (.lst (ls.map V.str)) := by rw [upd_ne nAd]; exact hA1
    have sx3 : SameX d H (upd H1 d (.lst [.int m3])) := sx1.trans SameX.upd
    generalize upd H1 d (.lst [.int m3]) = H3 at hd3 hA3 sx3 ⊢
    refine ⟨_, rfl, ?_⟩
    refine ⟨d, m3, 5, rfl, hd3, by decide, by decide, fun q m4 q0 q1 => ?_⟩
    have hd4 := upd_same (H := H3) (a := d) (o := .lst [.int m4])
    have hA4 : upd H3 d (.lst [.int m4]) A = some (.lst (ls.map V.str)) := by rw [upd_ne nAd]; exact hA3
    have sx4 : SameX d H (upd H3 d (.lst [.int m4])) := sx3.trans SameX.upd
    generalize upd H3 d (.lst [.int m4]) = H4 at hd4 hA4 sx4 ⊢
    clear hd3 hA3 sx3 s1 hA1 hd1 sx1 H3 H1
    show C8.tCut _ _ _ [some (.ref d), some (.str z), some (.ref A), some (.int at_), some (.int q), none] H4
    have go : ∀ (c : Nat) {L ys v5 H'}, SameX d H H' → (∃ m, H' d = some (.lst [.int m])) → H' L = some (.lst (ys.map V.str)) → L ≠ d → H L = none → LsOk (4 * z.length + 30) ys → (ys = ls ∨ q < (c : Int)) → lnI H d z at_ q ls c [some (.ref d), some (.str z), some (.ref L), some (.int at_), some (.int q), v5] H' := fun c L ys v5 H' a b f g i j k => ⟨a, b, L, ys, v5, f, g, i, j, k, rfl⟩
    have hat : at_.toNat < ls.length := by omega
    have hel : ls[at_.toNat]? = some ls[at_.toNat] := List.getElem?_eq_getElem hat
    have hez := hlz _ (List.getElem_mem hat)
    have hex := hok.2 _ (List.getElem_mem hat)
    generalize ls[at_.toNat] = el at hel hez hex
    have hone : LsOk (z.length + 1) [el] := .one hex hez
    have hix : atI (ls.map V.str) at_ = some (.str el) := atI_int at_0 (by rw [List.getElem?_map, hel]; rfl)
    refine ⟨lnI H d z at_ q ls 1, ?_, ?_⟩
    · refine ⟨_, rfl, rfl, _, rfl, ite2 (fun c => ?_) fun c => go 1 sx4 ⟨m4, hd4⟩ hA4 nAd nA (hok.le (by omega)) (.inl rfl)⟩
      have hq0 : q = 0 := V.int.inj (of_decide_eq_true c)
      refine ⟨_, rfl, _, rfl, at_, rfl, A, _, rfl, SqL.of hA4, fun p1 np1 => ?_⟩
      rw [cutV_L]
      have t1 := same_new (o := .lst ((cutL ls none (some at_)).map V.str)) np1
      have g1 := upd_same (H := H4) (a := p1) (o := .lst ((cutL ls none (some at_)).map V.str))
      generalize upd H4 p1 (.lst ((cutL ls none (some at_)).map V.str)) = G1 at t1 g1 ⊢
      refine ⟨_, rfl, _, rfl, at_, 1, rfl, rfl, at_ + 1, rfl, A, _, rfl, SqL.of (t1 _ _ hA4), fun p2 np2 => ?_⟩
      rw [cutV_L]
      have t2 := same_new (o := .lst ((cutL ls (some (at_ + 1)) none).map V.str)) np2
      have g2 := upd_same (H := G1) (a := p2) (o := .lst ((cutL ls (some (at_ + 1)) none).map V.str))
      generalize upd G1 p2 (.lst ((cutL ls (some (at_ + 1)) none).map V.str)) = G2 at t2 g2 ⊢
      have hc := (hok.cut none (some at_)).app (hok.cut (some (at_ + 1)) none)
      have hcl := hc.len
      rw [List.length_append] at hcl
      refine ⟨p1, p2, _, _, rfl, rfl, t2 _ _ g1, g2, by rw [List.length_map, List.length_map]; omega, fun p3 np3 => ?_⟩
      rw [← List.map_append]
      have t := (t1.trans t2).trans (same_new (o := .lst ((cutL ls none (some at_) ++ cutL ls (some (at_ + 1)) none).map V.str)) np3)
      exact go 1 (sx4.trans (same_x t)) ⟨m4, t _ _ hd4⟩ upd_same (ne_of_none ((t1.trans t2) _ _ hd4) np3).symm (none_ofX sx4 hd4 (none_of (t1.trans t2) np3)) (hc.le (by omega)) (.inr (by omega))
    clear hA4 hd4 sx4 m4 H4 nAd nA A
    rintro σ H1 ⟨sx1, ⟨m1, hd1⟩, L, ys, v5, hL1, nLd, nL0, hwy, hyc, rfl⟩
    refine ⟨lnI H d z at_ q ls 2, ?_, ?_⟩
    · refine ⟨_, rfl, rfl, _, rfl, ite2 (fun c => ?_) fun c => go 2 sx1 ⟨m1, hd1⟩ hL1 nLd nL0 hwy (hyc.imp id fun h => by omega)⟩
      have hq1 : q = 1 := V.int.inj (of_decide_eq_true c)
      obtain rfl : ys = ls := hyc.resolve_right fun h => by omega
      refine ⟨_, rfl, .inl ⟨rfl, _, SqL.of hL1⟩, _, rfl, _, rfl, L, _, rfl, .inl (SqL.of hL1), _, 1, rfl, rfl, ?_⟩
      rw [e1]
      refine ⟨d, m1, (ys.length : Int) + 1, rfl, hd1, by omega, by omega, fun r m2 r0 r1 => ?_⟩
      have hL2 : upd H1 d (.lst [.int m2]) L = some (.lst (ys.map V.str)) := by rw [upd_ne nLd]; exact hL1
      have hd2 := upd_same (H := H1) (a := d) (o := .lst [.int m2])
      have sx2 : SameX d H (upd H1 d (.lst [.int m2])) := sx1.trans SameX.upd
      generalize upd H1 d (.lst [.int m2]) = H2 at hL2 hd2 sx2 ⊢
      refine ⟨_, rfl, _, rfl, L, _, at_, .str el, rfl, rfl, SqL.of hL2, hix, L, _, r, .str el, rfl, rfl, hL2, ?_, r0, ?_, ?_⟩
      · rw [List.length_map]
        omega
      · omega
      · refine go 2 (fun b o hb e => by rw [upd_ne (ne_of_none e nL0)]; exact sx2 _ _ hb e) ⟨m2, by rw [upd_ne nLd.symm]; exact hd2⟩ (ys := ys.take r.toNat ++ [el] ++ ys.drop r.toNat) ?_ nLd nL0 ((((hok.take _).app hone).app (hok.drop _)).le (by omega)) (.inr (by omega))
        rw [upd_same, List.map_append, List.map_append, List.map_take, List.map_drop]
        rfl
    clear sx1 hd1 m1 hL1 nLd nL0 hwy hyc L ys H1 v5
    rintro σ H1 ⟨sx1, ⟨m1, hd1⟩, L, ys, v5, hL1, nLd, nL0, hwy, hyc, rfl⟩
    refine ⟨lnI H d z at_ q ls 3, ?_, ?_⟩
    · refine ⟨_, rfl, rfl, _, rfl, ite2 (fun c => ?_) fun c => go 3 sx1 ⟨m1, hd1⟩ hL1 nLd nL0 hwy (hyc.imp id fun h => by omega)⟩
      have hq1 : q = 2 := V.int.inj (of_decide_eq_true c)
      obtain rfl : ys = ls := hyc.resolve_right fun h => by omega
      refine ⟨_, rfl, _, rfl, at_, 1, rfl, rfl, at_ + 1, rfl, _, rfl, at_, 2, rfl, rfl, at_ + 2, rfl, L, _, rfl, SqL.of hL1, fun p1 np1 => ?_⟩
      rw [cutV_L]
      have t1 := same_new (o := .lst ((cutL ys (some (at_ + 1)) (some (at_ + 2))).map V.str)) np1
      have g1 := upd_same (H := H1) (a := p1) (o := .lst ((cutL ys (some (at_ + 1)) (some (at_ + 2))).map V.str))
      have hL2 := t1 _ _ hL1
      generalize upd H1 p1 (.lst ((cutL ys (some (at_ + 1)) (some (at_ + 2))).map V.str)) = G1 at t1 g1 hL2 ⊢
      refine ⟨_, rfl, _, rfl, L, _, at_, .str el, rfl, rfl, SqL.of hL2, hix, (by show 1 ≤ sizeLine; decide), fun p2 np2 => ?_⟩
      have t2 := same_new (o := .lst [.str el]) np2
      have g2 := upd_same (H := G1) (a := p2) (o := .lst [.str el])
      have g12 := t2 _ _ g1
      have hL3 := t2 _ _ hL2
      replace t2 := t1.trans t2
      show rCat _ _ (upd G1 p2 (.lst [.str el])) _
      generalize upd G1 p2 (.lst [.str el]) = G2 at t2 g2 g12 hL3 ⊢
      obtain ⟨mv, emv⟩ : ∃ mv, mv = cutL ys (some (at_ + 1)) (some (at_ + 2)) ++ [el] := ⟨_, rfl⟩
      have hmv : LsOk (2 * (z.length + 1)) mv := by rw [emv]; exact ((hok.cut _ _).app hone).le (by omega)
      have hmvl := hmv.len
      have em2 : (cutL ys (some (at_ + 1)) (some (at_ + 2))).map V.str ++ [V.str el] = mv.map V.str := by rw [emv, List.map_append]; rfl
      refine ⟨p1, p2, _, _, rfl, rfl, g12, g2, ?_, fun p3 np3 => ?_⟩
      · have := congrArg List.length em2
        rw [List.length_append] at this
        rw [this, List.length_map]
        omega
      rw [em2]
      have t3 := same_new (o := .lst (mv.map V.str)) np3
      have g3 := upd_same (H := G2) (a := p3) (o := .lst (mv.map V.str))
      have hL4 := t3 _ _ hL3
      replace t3 := t2.trans t3
      generalize upd G2 p3 (.lst (mv.map V.str)) = G3 at t3 g3 hL4 ⊢
      refine ⟨_, rfl, _, rfl, at_, rfl, L, _, rfl, SqL.of hL4, fun p4 np4 => ?_⟩
      rw [cutV_L]
      have t4 := same_new (o := .lst ((cutL ys none (some at_)).map V.str)) np4
      have g4 := upd_same (H := G3) (a := p4) (o := .lst ((cutL ys none (some at_)).map V.str))
      have hL5 := t4 _ _ hL4
      have g34 := t4 _ _ g3
      replace t4 := t3.trans t4
      generalize upd G3 p4 (.lst ((cutL ys none (some at_)).map V.str)) = G4 at t4 g4 hL5 g34 ⊢
      have hc4 := (hok.cut none (some at_)).app hmv
      have hc4l := hc4.len
      rw [List.length_append] at hc4l
      refine ⟨_, rfl, p4, p3, _, _, rfl, rfl, g4, g34, by rw [List.length_map, List.length_map]; omega, fun p5 np5 => ?_⟩
      rw [← List.map_append]
      have t5 := same_new (o := .lst ((cutL ys none (some at_) ++ mv).map V.str)) np5
      have g5 := upd_same (H := G4) (a := p5) (o := .lst ((cutL ys none (some at_) ++ mv).map V.str))
      have hL6 := t5 _ _ hL5
      replace t5 := t4.trans t5
      generalize upd G4 p5 (.lst ((cutL ys none (some at_) ++ mv).map V.str)) = G5 at t5 g5 hL6 ⊢
      refine ⟨_, rfl, _, rfl, at_, 2, rfl, rfl, at_ + 2, rfl, L, _, rfl, SqL.of hL6, fun p6 np6 => ?_⟩
      rw [cutV_L]
      have t6 := same_new (o := .lst ((cutL ys (some (at_ + 2)) none).map V.str)) np6
      have g6 := upd_same (H := G5) (a := p6) (o := .lst ((cutL ys (some (at_ + 2)) none).map V.str))
      have g56 := t6 _ _ g5
      replace t6 := t5.trans t6
      generalize upd G5 p6 (.lst ((cutL ys (some (at_ + 2)) none).map V.str)) = G6 at t6 g6 g56 ⊢
      have hc6 := hc4.app (hok.cut (some (at_ + 2)) none)
      have hc6l := hc6.len
      rw [List.length_append] at hc6l
      refine ⟨p5, p6, _, _, rfl, rfl, g56, g6, by rw [List.length_map, List.length_map]; omega, fun p7 np7 => ?_⟩
      rw [← List.map_append]
      have t7 := t6.trans (same_new (o := .lst ((cutL ys none (some at_) ++ mv ++ cutL ys (some (at_ + 2)) none).map V.str)) np7)
      exact go 3 (sx1.trans (same_x t7)) ⟨m1, t7 _ _ hd1⟩ upd_same (ne_of_none (t6 _ _ hd1) np7).symm (none_ofX sx1 hd1 (none_of t6 np7)) (hc6.le (by omega)) (.inr (by omega))
    clear sx1 hd1 m1 hL1 nLd nL0 hwy hyc L ys H1 v5
    rintro σ H1 ⟨sx1, ⟨m1, hd1⟩, L, ys, v5, hL1, nLd, nL0, hwy, hyc, rfl⟩
    refine ⟨lnI H d z at_ q ls 4, ?_, ?_⟩
    · refine ⟨_, rfl, rfl, _, rfl, ite2 (fun c => ?_) fun c => go 4 sx1 ⟨m1, hd1⟩ hL1 nLd nL0 hwy (hyc.imp id fun h => by omega)⟩
      have hq1 : q = 3 := V.int.inj (of_decide_eq_true c)
      obtain rfl : ys = ls := hyc.resolve_right fun h => by omega
      refine ⟨_, rfl, _, rfl, at_, rfl, L, _, rfl, SqL.of hL1, fun p1 np1 => ?_⟩
      rw [cutV_L]
      have t1 := same_new (o := .lst ((cutL ys none (some at_)).map V.str)) np1
      have g1 := upd_same (H := H1) (a := p1) (o := .lst ((cutL ys none (some at_)).map V.str))
      have hL2 := t1 _ _ hL1
      generalize upd H1 p1 (.lst ((cutL ys none (some at_)).map V.str)) = G1 at t1 g1 hL2 ⊢
      refine ⟨_, rfl, _, rfl, at_, 1, rfl, rfl, at_ + 1, rfl, L, _, rfl, SqL.of hL2, fun p2 np2 => ?_⟩
      rw [cutV_L]
      have t2 := same_new (o := .lst ((cutL ys (some (at_ + 1)) none).map V.str)) np2
      have g2 := upd_same (H := G1) (a := p2) (o := .lst ((cutL ys (some (at_ + 1)) none).map V.str))
      have g12 := t2 _ _ g1
      have hL3 := t2 _ _ hL2
      replace t2 := t1.trans t2
      generalize upd G1 p2 (.lst ((cutL ys (some (at_ + 1)) none).map V.str)) = G2 at t2 g2 g12 hL3 ⊢
      have hc := (hok.cut none (some at_)).app (hok.cut (some (at_ + 1)) none)
      have hcl := hc.len
      rw [List.length_append] at hcl
      refine ⟨p1, p2, _, _, rfl, rfl, g12, g2, by rw [List.length_map, List.length_map]; omega, fun p3 np3 => ?_⟩
      rw [← List.map_append]
      have t3 := same_new (o := .lst ((cutL ys none (some at_) ++ cutL ys (some (at_ + 1)) none).map V.str)) np3
      have g3 := upd_same (H := G2) (a := p3) (o := .lst ((cutL ys none (some at_) ++ cutL ys (some (at_ + 1)) none).map V.str))
      have hL4 := t3 _ _ hL3
      replace t3 := t2.trans t3
      generalize upd G2 p3 (.lst ((cutL ys none (some at_) ++ cutL ys (some (at_ + 1)) none).map V.str)) = G3 at t3 g3 hL4 ⊢
      refine ⟨_, rfl, _, rfl, L, _, at_, .str el, rfl, rfl, SqL.of hL4, hix, (by show 1 ≤ sizeLine; decide), fun p4 np4 => ?_⟩
      have t4 := same_new (o := .lst [.str el]) np4
      have g4 := upd_same (H := G3) (a := p4) (o := .lst [.str el])
      have g34 := t4 _ _ g3
      replace t4 := t3.trans t4
      show rCat _ _ (upd G3 p4 (.lst [.str el])) _
      generalize upd G3 p4 (.lst [.str el]) = G4 at t4 g4 g34 ⊢
      refine ⟨p3, p4, _, _, rfl, rfl, g34, g4, ?_, fun p5 np5 => ?_⟩
      · rw [List.length_map, List.length_append]
        show _ + 1 ≤ _
        omega
      have em : (cutL ys none (some at_) ++ cutL ys (some (at_ + 1)) none).map V.str ++ [V.str el] = (cutL ys none (some at_) ++ cutL ys (some (at_ + 1)) none ++ [el]).map V.str := by rw [List.map_append (l₂ := [el])]; rfl
      rw [em]
      have t5 := t4.trans (same_new (o := .lst ((cutL ys none (some at_) ++ cutL ys (some (at_ + 1)) none ++ [el]).map V.str)) np5)
      exact go 4 (sx1.trans (same_x t5)) ⟨m1, t5 _ _ hd1⟩ upd_same (ne_of_none (t4 _ _ hd1) np5).symm (none_ofX sx1 hd1 (none_of t4 np5)) ((hc.app hone).le (by omega)) (.inr (by omega))
    clear sx1 hd1 m1 hL1 nLd nL0 hwy hyc L ys H1 v5
    rintro σ H1 ⟨sx1, ⟨m1, hd1⟩, L, ys, v5, hL1, nLd, nL0, hwy, hyc, rfl⟩
    refine ⟨lnI H d z at_ q ls 5, ?_, ?_⟩
    · refine ⟨_, rfl, rfl, _, rfl, ite2 (fun c => ?_) fun c => go 5 sx1 ⟨m1, hd1⟩ hL1 nLd nL0 hwy (hyc.imp id fun h => by omega)⟩
      have hq1 : q = 4 := V.int.inj (of_decide_eq_true c)
      obtain rfl : ys = ls := hyc.resolve_right fun h => by omega
      refine ⟨_, rfl, .inl ⟨rfl, _, SqL.of hL1⟩, L, _, .str "", rfl, rfl, hL1, ?_, ?_⟩
      · rw [List.length_map]
        omega
      · refine go 5 (fun b o hb e => by rw [upd_ne (ne_of_none e nL0)]; exact sx1 _ _ hb e) ⟨m1, by rw [upd_ne nLd.symm]; exact hd1⟩ (ys := ys ++ [("" : Str)]) ?_ nLd nL0 ((hok.app (.one (n := 0) tx_emp (by decide +kernel))).le (by omega)) (.inr (by omega))
        rw [upd_same, List.map_append]
        rfl
    clear sx1 hd1 m1 hL1 nLd nL0 hwy hyc L ys H1 v5
    rintro σ H1 ⟨sx1, ⟨m1, hd1⟩, L, ys, v5, hL1, nLd, nL0, hwy, hyc, rfl⟩
    refine ⟨⟨_, rfl⟩, _, rfl, "\n", L, ys, rfl, rfl, .inl (SqL.of hL1), ?_, k _ _ _ sx1 hd1 ⟨?_, ?_⟩⟩
    · have e1 : ("\n" : Str).length = 1 := by decide +kernel
      have h1 := hwy.1
      rw [e1]
      unfold wt at h1
      omega
    · rw [nlc]
      exact Nat.le_trans (wt_join ys 10) (Nat.le_trans hwy.1 (by omega))
    · rw [nlc]
      exact tx_join (by decide) hwy.2
end
end K37

set_option Elab.async false
set_option linter.all false
set_option pp.deepTerms.threshold 14
set_option pp.maxSteps 2500
set_option maxRecDepth 100000
set_option maxHeartbeats 2000000
namespace K37
open PySem PySem.Spec PyProof.Rows L2 Vf 
section
variable {P : Program} {w : World} {K : PySem.W.Frag} {mg : Str → Option Value} {base : Heap}
theorem sc_law_words : FnScope ["_law_draw", "_law_text_here", "_law_words_here", "_law_odd", "_law_at"] ["_law_draw", "_law_text_here"] (defScope s_law_words) := ⟨rfl, rfl, rfl, by decide +kernel, rfl, by decide +kernel, by decide +kernel⟩
-- slots: 0 _law_draw, 1 _law_text_here, 2 _law_words_here, 3 _law_odd, 4 _law_at
theorem ok_law_words {fd : FuncData} (F : FnD K ("_law_words", none) "_law_words" "_law_words" s_law_words fd) (T : Txt K mg) (O_law_take : OkF P w K mg base CX0 1 "_law_take" ["_law_draw", "_law_size"] spTake) : OkF P w K mg base CX0 2 "_law_words" ["_law_draw", "_law_text_here"] spSgn := by
  refine okd F (F.ok sc_law_words (fun vs H Q E h => ?_) fun cdv A outer s H vs Q E hr h => ?_) fun _ _ _ _ _ _ us hl => match us, hl with | [_, _], _ => rfl
  · obtain ⟨d, n, z, rfl, _⟩ := h
    rfl
  · obtain ⟨d, n, z, rfl, hd, hz, hx, k⟩ := h
    refine ⟨_, PSs.nox (pss_cons (ps_set (i := 2) sc_law_words.nd rfl (Or.inl rfl) (pe_m1 PySem.F.slot_str_split PySem.F.type_str_split mt_split (pv 1) pe_str))
  (pss_cons (ps_set (i := 3) sc_law_words.nd rfl (Or.inl rfl) (pe_lst (pa_cons pe_str (pa_cons pe_str (pa_cons pe_str (pa_cons pe_str (pa_cons pe_str (pa_cons pe_str (pa_cons pe_str (pa_cons pe_str (pa_cons pe_str (pa_cons pe_str (pa_cons pe_str (pa_cons pe_str (pa_cons pe_str (pa_cons pe_str (pa_cons pe_str (pa_cons pe_str pa_nil))))))))))))))))))
  (pss_cons (ps_set (i := 3) sc_law_words.nd rfl (Or.inl rfl) (pe_op op_cat (pe_op op_cat (pv 3) (pe_lst (pa_cons pe_str (pa_cons pe_str (pa_cons pe_str pa_nil))))) (pv 2)))
  (pss_cons (ps_set (i := 4) sc_law_words.nd rfl (Or.inl rfl) (c_fn O_law_take hr (by decide) T.g_law_take pass0 (pa_cons (pv 0) (pa_cons (pe_callB (id := "len") call_len_seq (by rfl) T.z_len (by decide +kernel) (pa_cons (pv 2) pa_nil)) pa_nil))))
  (pss_one (ps_ret (pe_m1 PySem.F.slot_str_join PySem.F.type_str_join mt_join pe_str (pe_op op_cat (pe_op op_cat (pe_slice sl_list (pv 2) po_none (po_some (pv 4))) (pe_lst (pa_cons (pe_ix ix_list (pv 3) (c_fn O_law_take hr (by decide) T.g_law_take pass0 (pa_cons (pv 0) (pa_cons (pe_callB (id := "len") call_len_seq (by rfl) T.z_len (by decide +kernel) (pa_cons (pv 3) pa_nil)) pa_nil))) (fun _ _ => rfl)) pa_nil))) (pe_slice sl_list (pv 2) (po_some (pe_op op_add (pv 4) pe_int)) po_none))))))))), ?_⟩
    have big : 10000000 ≤ sizeLine := by decide
    obtain ⟨ws, ews⟩ : ∃ ws, Txt.split z " " = ws := ⟨_, rfl⟩
    have hok : LsOk (z.length + 1) ws := ⟨ews ▸ wt_split z " " (by decide), fun s hs => tx_sp hx (ews ▸ hs)⟩
    have hw1 : 1 ≤ ws.length := ews ▸ PyProof.Rows.split_pos z " "
    have hlz : ∀ y ∈ ws, y.length ≤ z.length := fun y hy => PyProof.Rows.part_short (ews ▸ hy)
    have hll := hok.len
    refine ⟨_, rfl, ⟨_, rfl⟩, z, " ", rfl, rfl, by decide, by omega, fun W nW => ?_⟩
    rw [ews]
    have nWd : W ≠ d := (ne_of_none hd nW).symm
    have s1 := same_new (o := .lst (ws.map V.str)) nW
    have hW1 := upd_same (H := H) (a := W) (o := .lst (ws.map V.str))
    have hd1 := s1 _ _ hd
    show tSeq _ _ _ _ (upd H W (.lst (ws.map V.str)))
    generalize upd H W (.lst (ws.map V.str)) = H1 at s1 hW1 hd1 ⊢
    obtain ⟨o1, eo1⟩ : ∃ o : List Str, o = [("any" : Str), ("closed" : Str), ("end" : Str), ("open" : Str), ("to" : Str), ("0" : Str), ("1" : Str), ("6" : Str), ("7" : Str), ("8" : Str), ("9" : Str), ("01" : Str), ("+1" : Str), ("" : Str), ("zz" : Str), ("yyyyyyyy" : Str)] := ⟨_, rfl⟩
    obtain ⟨o2, eo2⟩ : ∃ o : List Str, o = [("xxxxxxxxx" : Str), ("period" : Str), ("program" : Str)] := ⟨_, rfl⟩
    have ho1 : o1.length = 16 := by rw [eo1]; rfl
    have ho2 : o2.length = 3 := by rw [eo2]; rfl
    have h19 : ∀ o ∈ o1, o.length ≤ 9 := by rw [eo1]; decide +kernel
    have h29 : ∀ o ∈ o2, o.length ≤ 9 := by rw [eo2]; decide +kernel
    have h1x : ∀ o ∈ o1, o.cps.toList.all (fun c => decide (c < 1114112)) = true := by rw [eo1]; decide +kernel
    have h2x : ∀ o ∈ o2, o.cps.toList.all (fun c => decide (c < 1114112)) = true := by rw [eo2]; decide +kernel
    refine ⟨(by show 16 ≤ sizeLine; decide), fun O nO => ?_⟩
    have e1 : ([.str "any", .str "closed", .str "end", .str "open", .str "to", .str "0", .str "1", .str "6", .str "7", .str "8", .str "9", .str "01", .str "+1", .str "", .str "zz", .str "yyyyyyyy"] : List V) = o1.map V.str := by rw [eo1]; rfl
    have s2 := same_new (o := .lst (o1.map V.str)) nO
    have hO2 := upd_same (H := H1) (a := O) (o := .lst (o1.map V.str))
    have hW2 := s2 _ _ hW1
    have hd2 := s2 _ _ hd1
    replace s2 := s1.trans s2
    show tSeq _ _ _ _ (upd H1 O (.lst ([.str "any", .str "closed", .str "end", .str "open", .str "to", .str "0", .str "1", .str "6", .str "7", .str "8", .str "9", .str "01", .str "+1", .str "", .str "zz", .str "yyyyyyyy"] : List V)))
    rw [e1]
    generalize upd H1 O (.lst (o1.map V.str)) = H2 at s2 hO2 hW2 hd2 ⊢
    clear e1 eo1 s1 hW1 hd1 nO H1
    refine ⟨_, rfl, (by show 3 ≤ sizeLine; decide), fun p1 np1 => ?_⟩
    have e2 : ([.str "xxxxxxxxx", .str "period", .str "program"] : List V) = o2.map V.str := by rw [eo2]; rfl
    have s3 := same_new (o := .lst (o2.map V.str)) np1
    have g3 := upd_same (H := H2) (a := p1) (o := .lst (o2.map V.str))
    have hO3 := s3 _ _ hO2
    have hW3 := s3 _ _ hW2
    have hd3 := s3 _ _ hd2
    replace s3 := s2.trans s3
    show rCat _ _ (upd H2 p1 (.lst ([.str "xxxxxxxxx", .str "period", .str "program"] : List V))) _
    rw [e2]
    generalize upd H2 p1 (.lst (o2.map V.str)) = H3 at s3 g3 hO3 hW3 hd3 ⊢
    clear e2 eo2 s2 hO2 hW2 hd2 np1 H2
    refine ⟨O, p1, _, _, rfl, rfl, hO3, g3, by rw [List.length_map, List.length_map]; omega, fun p2 np2 => ?_⟩
    rw [← List.map_append]
    have s4 := same_new (o := .lst ((o1 ++ o2).map V.str)) np2
    have g4 := upd_same (H := H3) (a := p2) (o := .lst ((o1 ++ o2).map V.str))
    have hW4 := s4 _ _ hW3
    have hd4 := s4 _ _ hd3
    replace s4 := s3.trans s4
    generalize upd H3 p2 (.lst ((o1 ++ o2).map V.str)) = H4 at s4 g4 hW4 hd4 ⊢
    clear s3 g3 hO3 hW3 hd3 np2 H3
    refine ⟨_, rfl, p2, W, _, _, rfl, rfl, g4, hW4, by rw [List.length_map, List.length_map, List.length_append]; omega, fun p3 np3 => ?_⟩
    rw [← List.map_append]
    obtain ⟨od, eod⟩ : ∃ od, od = o1 ++ o2 ++ ws := ⟨_, rfl⟩
    have hodl : od.length = 19 + ws.length := by rw [eod, List.length_append, List.length_append, ho1, ho2]
    have hod9 : ∀ o ∈ od, o.length ≤ z.length + 9 ∧ Tx o := fun o ho => by
      rw [eod] at ho
      rcases List.mem_append.mp ho with ho | ho
      · rcases List.mem_append.mp ho with ho | ho
        · exact ⟨by have := h19 o ho; omega, tx_c (h1x o ho)⟩
        · exact ⟨by have := h29 o ho; omega, tx_c (h2x o ho)⟩
      · exact ⟨by have := hlz o ho; omega, hok.2 o ho⟩
    rw [← eod]
    have s5 := same_new (o := .lst (od.map V.str)) np3
    have g5 := upd_same (H := H4) (a := p3) (o := .lst (od.map V.str))
    have npd : p3 ≠ d := (ne_of_none hd4 np3).symm
    have hW5 := s5 _ _ hW4
    have hd5 := s5 _ _ hd4
    have sx5 := same_x (d := d) (s4.trans s5)
    generalize upd H4 p3 (.lst (od.map V.str)) = H5 at g5 hW5 hd5 sx5 ⊢
    clear s4 g4 hW4 hd4 np3 s5 eod h19 h29 h1x h2x ho1 ho2 o1 o2 H4
    refine ⟨_, rfl, _, rfl, W, _, rfl, .inl (SqL.of hW5), ?_⟩
    rw [List.length_map]
    refine ⟨d, n, (ws.length : Int), rfl, hd5, by omega, by omega, fun at_ m6 at_0 at_1 => ?_⟩
    have hd6 := upd_same (H := H5) (a := d) (o := .lst [.int m6])
    have hW6 : upd H5 d (.lst [.int m6]) W = some (.lst (ws.map V.str)) := by rw [upd_ne nWd]; exact hW5
    have g6 : upd H5 d (.lst [.int m6]) p3 = some (.lst (od.map V.str)) := by rw [upd_ne npd]; exact g5
    have sx6 : SameX d H (upd H5 d (.lst [.int m6])) := sx5.trans SameX.upd
    generalize upd H5 d (.lst [.int m6]) = H6 at hd6 hW6 g6 sx6 ⊢
    clear g5 hW5 hd5 sx5 H5
    refine ⟨⟨_, rfl⟩, _, rfl, _, rfl, at_, rfl, W, _, rfl, SqL.of hW6, fun p4 np4 => ?_⟩
    rw [cutV_L]
    have t1 := same_new (o := .lst ((cutL ws none (some at_)).map V.str)) np4
    have q1 := upd_same (H := H6) (a := p4) (o := .lst ((cutL ws none (some at_)).map V.str))
    have hW7 := t1 _ _ hW6
    have g7 := t1 _ _ g6
    have hd7 := t1 _ _ hd6
    have n4d : p4 ≠ d := (ne_of_none hd6 np4).symm
    have sx7 := sx6.trans (same_x t1)
    generalize upd H6 p4 (.lst ((cutL ws none (some at_)).map V.str)) = H7 at q1 hW7 g7 hd7 sx7 ⊢
    clear t1 hW6 g6 hd6 sx6 np4 H6
    refine ⟨_, rfl, _, rfl, _, rfl, p3, _, rfl, .inl (SqL.of g7), ?_⟩
    rw [List.length_map]
    refine ⟨d, m6, (od.length : Int), rfl, hd7, by omega, by omega, fun r m8 r0 r1 => ?_⟩
    have hd8 := upd_same (H := H7) (a := d) (o := .lst [.int m8])
    have hW8 : upd H7 d (.lst [.int m8]) W = some (.lst (ws.map V.str)) := by rw [upd_ne nWd]; exact hW7
    have g8 : upd H7 d (.lst [.int m8]) p3 = some (.lst (od.map V.str)) := by rw [upd_ne npd]; exact g7
    have q8 : upd H7 d (.lst [.int m8]) p4 = some (.lst ((cutL ws none (some at_)).map V.str)) := by rw [upd_ne n4d]; exact q1
    have sx8 : SameX d H (upd H7 d (.lst [.int m8])) := sx7.trans SameX.upd
    generalize upd H7 d (.lst [.int m8]) = H8 at hd8 hW8 g8 q8 sx8 ⊢
    clear q1 hW7 g7 hd7 sx7 H7
    obtain ⟨odd, ho⟩ : ∃ o, od[r.toNat]? = some o := ⟨_, List.getElem?_eq_getElem (by omega)⟩
    obtain ⟨ho9, hox⟩ := hod9 odd (List.mem_of_getElem? ho)
    refine ⟨p3, _, r, .str odd, rfl, rfl, SqL.of g8, atI_int r0 (by rw [List.getElem?_map, ho]; rfl), (by show 1 ≤ sizeLine; decide), fun p5 np5 => ?_⟩
    have t1 := same_new (o := .lst [.str odd]) np5
    have q9 := upd_same (H := H8) (a := p5) (o := .lst [.str odd])
    have q89 := t1 _ _ q8
    have hW9 := t1 _ _ hW8
    have hd9 := t1 _ _ hd8
    have sx9 := sx8.trans (same_x t1)
    show rCat _ _ (upd H8 p5 (.lst [.str odd])) _
    generalize upd H8 p5 (.lst [.str odd]) = H9 at q9 q89 hW9 hd9 sx9 ⊢
    clear t1 q8 hW8 hd8 sx8 np5 g8 H8
    have hc1 := (hok.cut none (some at_)).app (.one hox ho9)
    have hc1l := hc1.len
    rw [List.length_append] at hc1l
    refine ⟨p4, p5, _, _, rfl, rfl, q89, q9, ?_, fun p6 np6 => ?_⟩
    · rw [List.length_map]
      show _ + 1 ≤ _
      have : [odd].length = 1 := rfl
      omega
    have ec : (cutL ws none (some at_)).map V.str ++ [V.str odd] = (cutL ws none (some at_) ++ [odd]).map V.str := by rw [List.map_append]; rfl
    rw [ec]
    have t2 := same_new (o := .lst ((cutL ws none (some at_) ++ [odd]).map V.str)) np6
    have q10 := upd_same (H := H9) (a := p6) (o := .lst ((cutL ws none (some at_) ++ [odd]).map V.str))
    have hW10 := t2 _ _ hW9
    have hd10 := t2 _ _ hd9
    have sx10 := sx9.trans (same_x t2)
    generalize upd H9 p6 (.lst ((cutL ws none (some at_) ++ [odd]).map V.str)) = G1 at q10 hW10 hd10 sx10 ⊢
    clear t2 q9 q89 hW9 hd9 sx9 np6 H9
    refine ⟨_, rfl, _, rfl, at_, 1, rfl, rfl, at_ + 1, rfl, W, _, rfl, SqL.of hW10, fun p7 np7 => ?_⟩
    rw [cutV_L]
    have t3 := same_new (o := .lst ((cutL ws (some (at_ + 1)) none).map V.str)) np7
    have q11 := upd_same (H := G1) (a := p7) (o := .lst ((cutL ws (some (at_ + 1)) none).map V.str))
    have q10b := t3 _ _ q10
    have hd11 := t3 _ _ hd10
    have sx11 := sx10.trans (same_x t3)
    generalize upd G1 p7 (.lst ((cutL ws (some (at_ + 1)) none).map V.str)) = G2 at q11 q10b hd11 sx11 ⊢
    have hc2 := hc1.app (hok.cut (some (at_ + 1)) none)
    have hc2l := hc2.len
    rw [List.length_append] at hc2l
    refine ⟨p6, p7, _, _, rfl, rfl, q10b, q11, by rw [List.length_map, List.length_map]; omega, fun p8 np8 => ?_⟩
    rw [← List.map_append]
    have t4 := same_new (o := .lst ((cutL ws none (some at_) ++ [odd] ++ cutL ws (some (at_ + 1)) none).map V.str)) np8
    refine ⟨" ", p8, _, rfl, rfl, .inl (SqL.of upd_same), ?_, k _ _ _ (sx11.trans (same_x t4)) (t4 _ _ hd11) ⟨?_, ?_⟩⟩
    · have e1 : (" " : Str).length = 1 := by decide +kernel
      have h1 := hc2.1
      rw [e1]
      unfold wt at h1
      omega
    · rw [spc]
      exact Nat.le_trans (wt_join _ 32) (Nat.le_trans hc2.1 (by omega))
    · rw [spc]
      exact tx_join (by decide) hc2.2
theorem sc_law_spoiled : FnScope ["_law_draw", "_law_text_here", "_law_k", "_law_kind"] ["_law_draw", "_law_text_here"] (defScope s_law_spoiled) := ⟨rfl, rfl, rfl, by decide +kernel, rfl, by decide +kernel, by decide +kernel⟩
-- slots: 0 _law_draw, 1 _law_text_here, 2 _law_k, 3 _law_kind
def bnd : Nat → Nat
  | 0 => 1000
  | j + 1 => 4 * bnd j + 40
theorem bnd_le : ∀ {j : Nat}, j ≤ 2 → bnd j ≤ 16200
  | 0, _ => by decide
  | 1, _ => by decide
  | 2, _ => by decide
def SpX (H : Hp) (x : V) : Prop := OddS H x ∨ ∃ y : Str, x = .str y ∧ y.length ≤ 400000 ∧ Tx y
def spSpl (K : PySem.W.Frag) : Sp := fun vs H Q _ => ∃ (d : Addr) (n : Int) (z : Str), vs = [.ref d, .str z] ∧ H d = some (.lst [.int n]) ∧ z.length ≤ 1000 ∧ Tx z ∧ ∀ (H' : Hp) (m : Int) (x : V), SameX d H H' → SpX H' x → Q x H'
theorem ok_law_spoiled {fd : FuncData} (F : FnD K ("_law_spoiled", none) "_law_spoiled" "_law_spoiled" s_law_spoiled fd) (T : Txt K mg) (O_law_take : OkF P w K mg base CX0 1 "_law_take" ["_law_draw", "_law_size"] spTake) (O_law_words : OkF P w K mg base CX0 2 "_law_words" ["_law_draw", "_law_text_here"] spSgn) (O_law_lines : OkF P w K mg base CX0 2 "_law_lines" ["_law_draw", "_law_text_here"] spSgn)
    (O_law_signs : OkF P w K mg base CX0 2 "_law_signs" ["_law_draw", "_law_text_here"] spSgn) : OkF P w K mg base CX0 3 "_law_spoiled" ["_law_draw", "_law_text_here"] (spSpl K) := by
  refine okd F (F.ok sc_law_spoiled (fun vs H Q E h => ?_) fun cdv A outer s H vs Q E hr h => ?_) fun _ _ _ _ _ _ us hl => match us, hl with | [_, _], _ => rfl
  · obtain ⟨d, n, z, rfl, _⟩ := h
    rfl
  · obtain ⟨d, n, z, rfl, hd, hz, hx, k⟩ := h
    refine ⟨_, PSs.nox (pss_cons (ps_for PassesOwn.never rfl (pi_range1 rfl T.z_range (pa_cons (c_fn O_law_take hr (by decide) T.g_law_take pass0 (pa_cons (pv 0) (pa_cons pe_int pa_nil))) pa_nil)) (pg_name (i := 2) sc_law_spoiled.nd rfl (Or.inl rfl))
  (pss_cons (ps_set (i := 3) sc_law_spoiled.nd rfl (Or.inl rfl) (c_fn O_law_take hr (by decide) T.g_law_take pass0 (pa_cons (pv 0) (pa_cons pe_int pa_nil))))
  (pss_one (ps_if (pt_cmpR op_lt (pv 3) pe_int (nomark _)) (pss_one (ps_set (i := 1) sc_law_spoiled.nd rfl (Or.inl rfl) (c_fn O_law_words hr (by decide) T.g_law_words pass0 (pa_cons (pv 0) (pa_cons (pv 1) pa_nil)))))
  (pss_one (ps_if (pt_cmpR op_eq (pv 3) pe_int (nomark _)) (pss_one (ps_set (i := 1) sc_law_spoiled.nd rfl (Or.inl rfl) (c_fn O_law_lines hr (by decide) T.g_law_lines pass0 (pa_cons (pv 0) (pa_cons (pv 1) pa_nil)))))
  (pss_one (ps_set (i := 1) sc_law_spoiled.nd rfl (Or.inl rfl) (c_fn O_law_signs hr (by decide) T.g_law_signs pass0 (pa_cons (pv 0) (pa_cons (pv 1) pa_nil)))))))))))
  (pss_cons (ps_set (i := 3) sc_law_spoiled.nd rfl (Or.inl rfl) (c_fn O_law_take hr (by decide) T.g_law_take pass0 (pa_cons (pv 0) (pa_cons pe_int pa_nil))))
  (pss_cons (ps_if (pt_cmpR op_lt (pv 3) pe_int (nomark _)) (pss_one (ps_ret (pe_op op_add_str (pv 1) (pe_op op_mulA pe_str (pe_op op_sub (pe_op op_add pe_int (pv 3)) (pe_callB call_len_str (by rfl) T.z_len (by decide +kernel) (pa_cons (pv 1) pa_nil)))))))
  pss_nil)
  (pss_cons (ps_if (pt_cmpR op_eq (pv 3) pe_int (nomark _)) (pss_one (ps_ret (pe_ix ix_list (pe_lst (pa_cons pe_non (pa_cons pe_int (pa_cons (pe_lst (pa_cons (pv 1) pa_nil)) (pa_cons (pe_tup (pa_cons (pv 1) pa_nil)) (pa_cons pe_bl (pa_cons pe_dnewK pa_nil))))))) (c_fn O_law_take hr (by decide) T.g_law_take pass0 (pa_cons (pv 0) (pa_cons pe_int pa_nil))) (fun _ _ => rfl))))
  pss_nil)
  (pss_one (ps_ret (pv 1))))))), ?_⟩
    have big : 10000000 ≤ sizeLine := by decide
    refine ⟨_, rfl, d, n, 3, rfl, hd, by decide, by decide, fun r1 m1 a0 a1 => ?_⟩
    have hd1 := upd_same (H := H) (a := d) (o := .lst [.int m1])
    have sx1 : SameX d H (upd H d (.lst [.int m1])) := SameX.upd
    generalize upd H d (.lst [.int m1]) = H1 at hd1 sx1 ⊢
    refine ⟨r1, rfl, by omega, by omega, for_range (lo := 0) (n := r1.toNat) (fun j σ H' => j ≤ 2 ∧ SameX d H H' ∧ (∃ m, H' d = some (.lst [.int m])) ∧ ∃ (y : Str) (v v' : Option V), y.length ≤ bnd j ∧ Tx y ∧ σ = [some (.ref d), some (.str y), v, v']) ⟨by omega, sx1, ⟨m1, hd1⟩, z, none, none, hz, hx, rfl⟩ ?_ ?_⟩
    · clear hd1 sx1 H1 m1
      rintro j σ H1 hj ⟨j2, sx1, ⟨m1, hd1⟩, y, v, v', hy, hyx, rfl⟩
      have hb := bnd_le (j := j) j2
      refine ⟨_, rfl, d, m1, 4, rfl, hd1, by decide, by decide, fun q m2 q0 q1 => ?_⟩
      have hd2 := upd_same (H := H1) (a := d) (o := .lst [.int m2])
      have sx2 : SameX d H (upd H1 d (.lst [.int m2])) := sx1.trans SameX.upd
      generalize upd H1 d (.lst [.int m2]) = H2 at hd2 sx2 ⊢
      have fin : ∀ (H3 : Hp) (m3 : Int) (y3 : Str), SameX d H2 H3 → H3 d = some (.lst [.int m3]) → TxB y.length y3 → (j + 1 ≤ 2 ∧ SameX d H H3 ∧ (∃ m, H3 d = some (.lst [.int m])) ∧ ∃ (y : Str) (v v' : Option V), y.length ≤ bnd (j + 1) ∧ Tx y ∧ [some (.ref d), some (.str y3), some (.int (0 + (j : Int))), some (.int q)] = [some (.ref d), some (.str y), v, v']) := fun H3 m3 y3 sx3 hd3 hy3 => ⟨by omega, sx2.trans sx3, ⟨m3, hd3⟩, y3, _, _, by show _ ≤ 4 * bnd j + 40; have := hy3.1; omega, hy3.2, rfl⟩
      refine ⟨_, rfl, _, 2, rfl, rfl, _, rfl, ite2 (fun _ => ?_) fun _ => ?_⟩
      · exact ⟨_, rfl, _, rfl, d, m2, y, rfl, hd2, by omega, hyx, fin⟩
      refine ⟨_, rfl, rfl, _, rfl, ite2 (fun _ => ?_) fun _ => ?_⟩
      · exact ⟨_, rfl, _, rfl, d, m2, y, rfl, hd2, by omega, hyx, fin⟩
      · exact ⟨_, rfl, _, rfl, d, m2, y, rfl, hd2, by omega, hyx, fin⟩
    clear hd1 sx1 H1 m1
    rintro σ H1 ⟨j2, sx1, ⟨m1, hd1⟩, y, v, v', hy, hyx, rfl⟩
    have hb := bnd_le j2
    refine ⟨_, rfl, d, m1, 24, rfl, hd1, by decide, by decide, fun q m2 q0 q1 => ?_⟩
    have hd2 := upd_same (H := H1) (a := d) (o := .lst [.int m2])
    have sx2 : SameX d H (upd H1 d (.lst [.int m2])) := sx1.trans SameX.upd
    generalize upd H1 d (.lst [.int m2]) = H2 at hd2 sx2 ⊢
    clear hd1 sx1 H1 m1
    refine ⟨_, rfl, _, 3, rfl, rfl, _, rfl, ite2 (fun _ => ?_) fun _ => ?_⟩
    · exact ⟨_, rfl, _, rfl, 999, q, rfl, rfl, _, rfl, y, rfl, by omega, 999 + q, y.length, rfl, rfl, "x", _, rfl, rfl, rfl, by omega, by omega, tx_c (by decide +kernel), fun w hw hwx => ⟨_, _, rfl, rfl, by omega, k _ 0 _ sx2 (.inr ⟨_, rfl, by rw [Str.length_append]; omega, tx_app hyx hwx⟩)⟩⟩
    refine ⟨_, rfl, rfl, _, rfl, ite2 (fun _ => ?_) fun _ => ?_⟩
    · refine ⟨_, rfl, (by show 1 ≤ sizeLine; decide), fun t nt => ?_⟩
      have s3 := same_new (o := .lst [.str y]) nt
      have ht := upd_same (H := H2) (a := t) (o := .lst [.str y])
      have hd3 := s3 _ _ hd2
      have sx3 := sx2.trans (same_x s3)
      have ntd : t ≠ d := (ne_of_none hd2 nt).symm
      show tCons _ _ _ (upd H2 t (.lst [.str y])) _
      generalize upd H2 t (.lst [.str y]) = H3 at ht hd3 sx3 ⊢
      refine ⟨_, rfl, (by show 1 ≤ sizeLine; decide), fun u nu => ?_⟩
      have s4 := same_new (o := .tup [.str y]) nu
      have hu := upd_same (H := H3) (a := u) (o := .tup [.str y])
      have hd4 := s4 _ _ hd3
      have ht4 := s4 _ _ ht
      have sx4 := sx3.trans (same_x s4)
      have nud : u ≠ d := (ne_of_none hd3 nu).symm
      show tCons _ _ _ (upd H3 u (.tup [.str y])) _
      generalize upd H3 u (.tup [.str y]) = H4 at hu hd4 ht4 sx4 ⊢
      clear s3 ht hd3 sx3 nu s4 nt
      intro p np
      have s5 := same_new (o := .dK []) np
      have hp := upd_same (H := H4) (a := p) (o := .dK [])
      have hd5 := s5 _ _ hd4
      have ht5 := s5 _ _ ht4
      have hu5 := s5 _ _ hu
      have sx5 := sx4.trans (same_x s5)
      have npd : p ≠ d := (ne_of_none hd4 np).symm
      show tNil _ (upd H4 p (.dK [])) _
      generalize upd H4 p (.dK []) = H5 at hp hd5 ht5 hu5 sx5 ⊢
      clear s5 ht4 hd4 sx4 hu np
      refine ⟨(by show 6 ≤ sizeLine; decide), fun O nO => ?_⟩
      obtain ⟨bs, eb⟩ : ∃ bs : List V, bs = [.non, .int 5, .ref t, .ref u, .bl true, .ref p] := ⟨_, rfl⟩
      have s6 := same_new (o := .lst bs) nO
      have hO := upd_same (H := H5) (a := O) (o := .lst bs)
      have hd6 := s6 _ _ hd5
      have ht6 := s6 _ _ ht5
      have hu6 := s6 _ _ hu5
      have hp6 := s6 _ _ hp
      have sx6 := sx5.trans (same_x s6)
      have nOd : O ≠ d := (ne_of_none hd5 nO).symm
      show tCall _ _ _ _ _ (upd H5 O (.lst [.non, .int 5, .ref t, .ref u, .bl true, .ref p])) _
      rw [← eb]
      generalize upd H5 O (.lst bs) = H6 at hO hp6 hd6 ht6 hu6 sx6 ⊢
      clear s6 ht5 hd5 sx5 hu5 hp nO
      refine ⟨_, rfl, d, m2, 6, rfl, hd6, by decide, by decide, fun r m7 r0 r1' => ?_⟩
      have hO7 : upd H6 d (.lst [.int m7]) O = some (.lst bs) := by rw [upd_ne nOd]; exact hO
      have ht7 : upd H6 d (.lst [.int m7]) t = some (.lst [.str y]) := by rw [upd_ne ntd]; exact ht6
      have hu7 : upd H6 d (.lst [.int m7]) u = some (.tup [.str y]) := by rw [upd_ne nud]; exact hu6
      have hp7 : upd H6 d (.lst [.int m7]) p = some (.dK []) := by rw [upd_ne npd]; exact hp6
      have sx7 : SameX d H (upd H6 d (.lst [.int m7])) := sx6.trans SameX.upd
      generalize upd H6 d (.lst [.int m7]) = H7 at hO7 ht7 hu7 hp7 sx7 ⊢
      have hbl : bs.length = 6 := by rw [eb]; rfl
      obtain ⟨x, hx⟩ : ∃ x, bs[r.toNat]? = some x := ⟨_, List.getElem?_eq_getElem (by rw [hbl]; omega)⟩
      refine ⟨O, bs, r, x, rfl, rfl, SqL.of hO7, atI_int r0 hx, k _ 0 x sx7 (.inl ?_)⟩
      have hm := List.mem_of_getElem? hx
      rw [eb] at hm
      simp only [List.mem_cons, List.not_mem_nil, or_false] at hm
      rcases hm with rfl | rfl | rfl | rfl | rfl | rfl
      · exact .non
      · exact .int 5
      · exact .lst ht7
      · exact .tup hu7
      · exact .bl true
      · exact .dic hp7
    · exact ⟨_, rfl, k _ 0 _ sx2 (.inr ⟨y, rfl, by omega, hyx⟩)⟩
end
end K37

set_option Elab.async false
set_option linter.all false
set_option pp.deepTerms.threshold 14
set_option pp.maxSteps 2500
set_option maxRecDepth 100000
set_option maxHeartbeats 2000000
namespace K37
open PySem PySem.Spec PyProof.Rows L2 Vf 
section
variable {P : Program} {w : World} {K : PySem.W.Frag} {mg : Str → Option Value} {base : Heap}
theorem oddS_ext {H H' : Hp} {x : V} (o : OddS H x) (s : Same H H') : OddS H' x := by
  cases o with
  | bl b => exact .bl b
  | non => exact .non
  | int i => exact .int i
  | tup h => exact .tup (s _ _ h)
  | lst h => exact .lst (s _ _ h)
  | dic h => exact .dic (s _ _ h)
theorem RowsOk.rw {ys : List PgE} (h : RowsOk ys) : ∀ y ∈ ys, RwOk y.2.2 := fun y hy => by
  obtain ⟨k1, k2, k3, k4, k5⟩ := h.kp y hy
  obtain ⟨a1, a2⟩ := h.ns y hy
  refine ⟨k1, k3, k4, k5, fun v hv => ?_, a2, ?_⟩
  · obtain ⟨u, hu, e⟩ := List.mem_map.mp (a1 v hv)
    rw [← e]
    exact (h.kp u hu).1
  · have h1 := nodup_le a2 a1
    have h2 : (zsOf ys).length = ys.length := List.length_map ..
    have := h.l6
    omega
theorem RowsOk.ns6 {ys : List PgE} (h : RowsOk ys) : ∀ y ∈ ys, y.2.2.ns.length ≤ 6 := fun y hy => by
  obtain ⟨a1, a2⟩ := h.ns y hy
  have h1 := nodup_le a2 a1
  have h2 : (zsOf ys).length = ys.length := List.length_map ..
  have := h.l6
  omega
theorem wrF_right {st : Str} {rs : List Rw} {n i : Int} {f : V} (nd : (rs.map (·.z)).Nodup) (hr : ∀ r ∈ rs, RwOk r) (hst : st ∈ rs.map (·.z)) (hns : ∀ r ∈ rs, ∀ v ∈ r.ns, v ∈ rs.map (·.z)) (l6 : rs.length ≤ 6) (hs : isSm (smL n i f)) : ∀ (qs ps : List Rw) (k : Nat), rs = ps ++ qs → wrF k (ps.map (·.z)) (nmL st ps) (qs.map plL ++ [smL n i f]) = none
  | [], ps, k, e => by
    rw [List.append_nil] at e
    subst e
    refine wrF_end hs ?_
    rw [List.length_map, nmL_all nd hst hns]
  | q :: qs, ps, k, e => by
    have hq : q ∈ rs := by rw [e]; simp
    rw [List.map_cons, List.cons_append, wrF_pl (q := q) ⟨rfl, hr q hq⟩ ?_]
    · have h := wrF_right nd hr hst hns l6 hs qs (ps ++ [q]) (k + 1) (by rw [e, List.append_assoc]; rfl)
      rw [List.map_append, nmL_add] at h
      exact h
    · rintro (h | h)
      · rw [e, List.map_append, List.map_cons] at nd
        exact (List.nodup_append.mp nd).2.2 _ h _ List.mem_cons_self rfl
      · rw [← nmL_add] at h
        have := nmL_in (qs := ps ++ [q]) hst hns fun r hr => by
          rw [e]
          rcases List.mem_append.mp hr with hr | hr
          · exact List.mem_append_left _ hr
          · rw [List.mem_singleton.mp hr]
            simp
        omega
theorem wrZ_right {st : Str} {rs : List Rw} {n i : Int} {f : V} (hnm : nmB st = true) (nd : (rs.map (·.z)).Nodup) (hr : ∀ r ∈ rs, RwOk r) (n6 : ∀ r ∈ rs, r.ns.length ≤ 6) (hst : st ∈ rs.map (·.z)) (hns : ∀ r ∈ rs, ∀ v ∈ r.ns, v ∈ rs.map (·.z)) (l6 : rs.length ≤ 6) (h1 : 1 ≤ n) (h2 : n ≤ 8) (h3 : 0 ≤ i) (h4 : i ≤ n - 1) (h5 : PhOk f n) : (pgT st rs n i f).length ≤ 1000 ∧ wrZ (pgT st rs n i f) = none := by
  have hl := (pgT_len6 hnm hr l6 n6 h1 h2 h3 h4 h5).2
  refine ⟨hl, ?_⟩
  unfold wrZ
  rw [if_neg (by omega), pgT_split hnm hr h1 h2 h3 h4 h5, wrL, stO_some ⟨rfl, hnm⟩]
  exact wrF_right nd hr hst hns l6 ⟨n, i, f, rfl, h1, h2, h3, h4, h5⟩ rs [] 1 rfl
theorem dg_tx : ∀ m : _root_.Fin 10, (Str.ofString (toString (m.val : Int))).cps.toList.all (fun c => decide (c < 1114112)) = true := by decide +kernel
theorem dgS_tx {n : Int} (h0 : 0 ≤ n) (h9 : n ≤ 9) : Tx (dgS n) := by
  obtain ⟨m, rfl⟩ : ∃ m : Nat, n = (m : Int) := ⟨n.toNat, by omega⟩
  exact tx_c (dg_tx ⟨m, by omega⟩)
theorem tx_words {ws : List Str} (h : ∀ w ∈ ws, Tx w) : Tx (Txt.join " " ws) := by
  rw [spc]
  exact tx_join (by decide) h
theorem plL_tx {r : Rw} (h : RwOk r) : Tx (plL r) := by
  obtain ⟨h1, h2, h3, h4, h5, _⟩ := h
  refine tx_words fun w hw => ?_
  rcases List.mem_append.mp hw with hw | hw
  · have hw : w = "" ∨ w = "" ∨ w = r.z ∨ w = kdS r.b ∨ w = dgS r.l ∨ w = dgS r.m := by simpa using hw
    rcases hw with rfl | rfl | rfl | rfl | rfl | rfl
    · exact tx_emp
    · exact tx_emp
    · exact nm_tx h1
    · cases r.b
      · exact tx_c (by decide +kernel)
      · exact tx_c (by decide +kernel)
    · exact dgS_tx (by omega) (by omega)
    · exact dgS_tx (by omega) (by omega)
  · cases hn : r.ns with
    | nil =>
      rw [hn] at hw
      have hw : w = "end" := by simpa [nsW] using hw
      rw [hw]
      exact tx_c (by decide +kernel)
    | cons z zs =>
      rw [hn] at hw h5
      rcases List.mem_cons.mp hw with rfl | hw
      · exact tx_c (by decide +kernel)
      · exact nm_tx (h5 w hw)
theorem smL_tx {n i : Int} {f : V} (h1 : 1 ≤ n) (h2 : n ≤ 8) (h3 : 0 ≤ i) (h4 : i ≤ n - 1) (h5 : PhOk f n) : Tx (smL n i f) := by
  refine tx_words fun w hw => ?_
  have hw : w = "sampler" ∨ w = "period" ∨ w = dgS n ∨ w = "jitter" ∨ w = dgS i ∨ w = "phase" ∨ w = phS f := by simpa [smW] using hw
  rcases hw with rfl | rfl | rfl | rfl | rfl | rfl | rfl
  · exact tx_c (by decide +kernel)
  · exact tx_c (by decide +kernel)
  · exact dgS_tx (by omega) (by omega)
  · exact tx_c (by decide +kernel)
  · exact dgS_tx h3 (by omega)
  · exact tx_c (by decide +kernel)
  · rcases h5 with rfl | ⟨q, rfl, q0, q1⟩
    · exact tx_c (by decide +kernel)
    · exact dgS_tx q0 (by omega)
theorem pgT_tx {st : Str} {rs : List Rw} {n i : Int} {f : V} (hnm : nmB st = true) (hr : ∀ r ∈ rs, RwOk r) (h1 : 1 ≤ n) (h2 : n ≤ 8) (h3 : 0 ≤ i) (h4 : i ≤ n - 1) (h5 : PhOk f n) : Tx (pgT st rs n i f) := by
  unfold pgT
  rw [nlc]
  refine tx_join (by decide) fun w hw => ?_
  rcases List.mem_cons.mp hw with rfl | hw
  · exact tx_app (tx_c (by decide +kernel)) (nm_tx hnm)
  · rcases List.mem_append.mp hw with hw | hw
    · obtain ⟨r, h, rfl⟩ := List.mem_map.mp hw
      exact plL_tx (hr r h)
    · rw [List.mem_singleton.mp hw]
      exact smL_tx h1 h2 h3 h4 h5
def spLaw (K : PySem.W.Frag) : Sp := fun vs H Q _ => ∃ (a : Addr) (ns : List Int), vs = [.ref a] ∧ SqL K H a (ns.map V.int) ∧ ns.length ≤ 63 ∧ ∀ H', Q (.bl true) H'
def wi : Option Int → V
  | none => .non
  | some n => .int n
/-- what the law's reading and _law_read tell of a value, at once -/
theorem read_of (K : PySem.W.Frag) {H1 : Hp} {x : V} (hx : SpX H1 x) : ∃ o : Option Int, (∀ Q E, (∀ H', Same H1 H' → Q (wi o) H') → spWrl [x] H1 Q E) ∧
    ∀ H' Q E, Same H1 H' → (∀ n : Int, o = some n → ∀ H'' q, Same H' H'' → H' q = none → H'' q = some (.tup [.str "refused", .int n, .bl true, .bl false]) → Q (.ref q) H'') →
      (o = none → ∀ (y : Str), x = .str y → ∀ st rs n i f, RdOk y st rs n i f → ∀ H'' q t g p xs dx tn dP dN, Same H' H'' → H' q = none → H'' q = some (.tup [.str "told", .ref t]) → H'' t = some (.tup [.ref g, .ref p]) → PgA K H'' g xs st dx tn dP dN → xs.map (·.2.2) = rs → SaA (CS K) H'' p n i f → Q (.ref q) H'') → spLrd K [x] H' Q E := by
  have big : 1000000 ≤ sizeLine := by decide
  rcases hx with o | ⟨y, rfl, hy, hyx⟩
  · exact ⟨some 0, fun Q E h => ⟨x, rfl, .inl ⟨o, h _ (Same.refl _)⟩⟩, fun H' Q E s h1 _ => ⟨x, rfl, .inl ⟨oddS_ext o s, h1 0 rfl⟩⟩⟩
  · cases e : wrZ y with
    | none => exact ⟨none, fun Q E h => ⟨_, rfl, .inr ⟨y, rfl, by omega, hyx, fun H' s => by rw [e]; exact h H' s⟩⟩, fun H' Q E s _ h2 => ⟨_, rfl, .inr ⟨y, rfl, by omega, (fun n en => by rw [e] at en; cases en), fun _ => h2 rfl y rfl⟩⟩⟩
    | some n => exact ⟨some (n : Int), fun Q E h => ⟨_, rfl, .inr ⟨y, rfl, by omega, hyx, fun H' s => by rw [e]; exact h H' s⟩⟩, fun H' Q E s h1 _ => ⟨_, rfl, .inr ⟨y, rfl, by omega, (fun n' en => by rw [e] at en; cases en; exact h1 _ rfl), fun en => by rw [e] at en; cases en⟩⟩⟩
theorem sc_law : FnScope ["_law_script", "_law_draw", "_law_spec_here", "_law_rows_here", "_law_picks", "_law_text_here", "_law_k", "_law_spoiled_here", "_law_due", "_law_outcome"] ["_law_script"] (defScope s_law) := ⟨rfl, rfl, rfl, by decide +kernel, rfl, by decide +kernel, by decide +kernel⟩
-- slots: 0 _law_script, 1 _law_draw, 2 _law_spec_here, 3 _law_rows_here, 4 _law_picks, 5 _law_text_here, 6 _law_k, 7 _law_spoiled_here, 8 _law_due, 9 _law_outcome
theorem ok_law {fd : FuncData} (F : FnD K ("law", none) "law" "law" s_law fd) (T : WTxt K mg) (O_law_cell : OkF P w K mg base CX0 1 "_law_cell" ["_law_script", "_law_k"] (Vf.spCell K)) (O_law_take : OkF P w K mg base CX0 1 "_law_take" ["_law_draw", "_law_size"] spTake) (O_law_spec : OkF P w K mg base CX0 2 "_law_spec" ["_law_draw", "_law_longest"] spSpec)
    (O_law_rows : OkF P w K mg base CX0 3 "_law_rows" ["_law_draw", "_law_words_here", "_law_many", "_law_longest"] spRows) (O_law_text : OkF P w K mg base CX0 1 "_law_text" ["_law_rows_here", "_law_spec_here", "_law_begin"] spTxt) (O_law_spoiled : OkF P w K mg base CX0 3 "_law_spoiled" ["_law_draw", "_law_text_here"] (spSpl K)) (O_law_wrong_line : OkF P w K mg base CX0 3 "_law_wrong_line" ["_law_text_here"] spWrl)
    (O_law_read : OkF P w K mg base CX0 9 "_law_read" ["_law_text_here"] (spLrd K)) (O_write : OkF P w K mg base (L2.CX P w) 6 "write" ["program", "sampler"] (spWt K)) : FnOk P w K mg base CX0 10 (He.ga K "law") fd ["_law_script"] (spLaw K) := by
  refine F.ok sc_law (fun vs H Q E h => ?_) fun cdv A outer s H vs Q E hr h => ?_
  · obtain ⟨a, ns, rfl, _⟩ := h
    rfl
  · obtain ⟨a0, ns, rfl, hS, hlen, k⟩ := h
    refine ⟨_, PSs.nox (pss_cons (ps_set (i := 1) sc_law.nd rfl (Or.inl rfl) (pe_lst (pa_cons (c_fn O_law_cell hr (by decide) T.g_law_cell pass0 (pa_cons (pv 0) (pa_cons pe_int pa_nil))) pa_nil)))
  (pss_cons (ps_set (i := 2) sc_law.nd rfl (Or.inl rfl) (c_fn O_law_spec hr (by decide) T.g_law_spec pass0 (pa_cons (pv 1) (pa_cons pe_int pa_nil))))
  (pss_cons (ps_set (i := 3) sc_law.nd rfl (Or.inl rfl) (c_fn O_law_rows hr (by decide) T.g_law_rows pass0 (pa_cons (pv 1) (pa_cons (pe_lst (pa_cons (c_fn O_law_cell hr (by decide) T.g_law_cell pass0 (pa_cons (pv 0) (pa_cons pe_int pa_nil))) pa_nil)) (pa_cons pe_int (pa_cons pe_int pa_nil))))))
  (pss_cons (ps_set (i := 4) sc_law.nd rfl (Or.inl rfl) (pe_lst (pa_cons (c_fn O_law_cell hr (by decide) T.g_law_cell pass0 (pa_cons (pv 0) (pa_cons pe_int pa_nil))) pa_nil)))
  (pss_cons (ps_set (i := 5) sc_law.nd rfl (Or.inl rfl) (c_fn O_law_text hr (by decide) T.g_law_text pass0 (pa_cons (pv 3) (pa_cons (pv 2) (pa_cons (pe_ix ix_list (pe_ix ix_list (pv 3) (c_fn O_law_take hr (by decide) T.g_law_take pass0 (pa_cons (pv 4) (pa_cons (pe_callB (id := "len") call_len_seq (by rfl) T.z_len (by decide +kernel) (pa_cons (pv 3) pa_nil)) pa_nil))) (fun _ _ => rfl)) pe_int (fun _ _ => rfl)) pa_nil)))))
  (pss_cons (ps_if (PW.pt (pw_orB (pt_cmpR op_notN (c_fn O_law_wrong_line hr (by decide) T.g_law_wrong_line pass0 (pa_cons (pv 5) pa_nil)) pe_non (nomark _)) (pw_or1 (pt_cmpR op_ne (pe_ix ix_tup (c_fn O_law_read hr (by decide) T.g_law_read pass0 (pa_cons (pv 5) pa_nil)) pe_int (fun _ _ => rfl)) pe_str (nomark _))))) (pss_one (ps_ret pe_bl))
  pss_nil)
  (pss_cons (ps_for PassesOwn.never rfl (pi_range1 rfl T.z_range (pa_cons (pe_op op_add pe_int (pe_callB (id := "len") call_len_seq (by rfl) T.z_len (by decide +kernel) (pa_cons (pe_slice sl_list (pv 0) (po_some pe_int) (po_some pe_int)) pa_nil))) pa_nil)) (pg_name (i := 6) sc_law.nd rfl (Or.inl rfl))
  (pss_cons (ps_set (i := 7) sc_law.nd rfl (Or.inl rfl) (c_fn O_law_spoiled hr (by decide) T.g_law_spoiled pass0 (pa_cons (pe_lst (pa_cons (c_fn O_law_cell hr (by decide) T.g_law_cell pass0 (pa_cons (pv 0) (pa_cons (pe_op op_add pe_int (pv 6)) pa_nil))) pa_nil)) (pa_cons (pv 5) pa_nil))))
  (pss_cons (ps_set (i := 8) sc_law.nd rfl (Or.inl rfl) (c_fn O_law_wrong_line hr (by decide) T.g_law_wrong_line pass0 (pa_cons (pv 7) pa_nil)))
  (pss_cons (ps_set (i := 9) sc_law.nd rfl (Or.inl rfl) (c_fn O_law_read hr (by decide) T.g_law_read pass0 (pa_cons (pv 7) pa_nil)))
  (pss_cons (ps_if (PW.pt (pw_andB (pt_cmpR op_notN (pv 8) pe_non (nomark _)) (pw_and1 (pt_cmpR (op_neD hr.units) (pv 9) (pe_tup (pa_cons pe_str (pa_cons (pv 8) (pa_cons pe_bl (pa_cons pe_bl pa_nil))))) (nomark _))))) (pss_one (ps_ret pe_bl))
  pss_nil)
  (pss_one (ps_if (pt_cmpR op_isN (pv 8) pe_non (nomark _)) (pss_one (ps_if (PW.pt (pw_orB (pt_cmpR (op_neD hr.units) (pe_ix ix_tup (pv 9) pe_int (fun _ _ => rfl)) pe_str (nomark _)) (pw_or1 (pt_cmpR op_ne (c_fn O_write hr (by decide) T.g_write passL (pa_cons (pe_ix ix_tup (pe_ix ix_tup (pv 9) pe_int (fun _ _ => rfl)) pe_int (fun _ _ => rfl)) (pa_cons (pe_ix ix_tup (pe_ix ix_tup (pv 9) pe_int (fun _ _ => rfl)) pe_int (fun _ _ => rfl)) pa_nil))) (pv 7) (nomark _))))) (pss_one (ps_ret pe_bl))
  pss_nil))
  pss_nil)))))))
  (pss_one (ps_ret pe_bl))))))))), ?_⟩
    have big : 10000000 ≤ sizeLine := by decide
    refine ⟨_, rfl, a0, ns, 0, rfl, hS, by decide, fun n0 => ⟨(by show 1 ≤ sizeLine; decide), fun d nd => ?_⟩⟩
    have s1 := same_new (o := .lst [.int n0]) nd
    have hd1 := upd_same (H := H) (a := d) (o := .lst [.int n0])
    generalize upd H d (.lst [.int n0]) = H1 at s1 hd1 ⊢
    refine ⟨_, rfl, d, n0, 8, rfl, hd1, by decide, by decide, fun H4 s m3 n i f x4 hd4 nS0 hs hn8 => ?_⟩
    have s4 : Same H H4 := same_x2 s1 x4 nd
    clear x4 hd1 nS0 s1 H1
    refine ⟨_, rfl, _, rfl, a0, ns, 1, rfl, s4.seq hS, by decide, fun n1 => ⟨(by show 1 ≤ sizeLine; decide), fun e nE => ?_⟩⟩
    have nde : d ≠ e := ne_of_none hd4 nE
    have s45 := same_new (o := .lst [.int n1]) nE
    have he5 := upd_same (H := H4) (a := e) (o := .lst [.int n1])
    have hd5 := s45 _ _ hd4
    have hs5 := hs.ext s45
    have s5 := s4.trans s45
    have nE0 : H e = none := none_of s4 nE
    generalize upd H4 e (.lst [.int n1]) = H5 at s45 he5 hd5 hs5 s5 ⊢
    clear s4 hd4 s45 nE hs H4
    refine ⟨d, e, m3, n1, 6, 6, rfl, hd5, he5, nde, by decide, by decide, by decide, by decide, fun H6 R ys x6 hx6 hR hok hnd hR0 => ?_⟩
    have hs6 : SpA H6 s n i f := ⟨x6 _ _ (ne_of hs5.hs hd5 (by intro z; cases z)) (ne_of hs5.hs he5 (by intro z; cases z)) hs5.hs, hs5.n1, hs5.n8, hs5.i0, hs5.i1, hs5.hf⟩
    have s6 : Same H H6 := fun b o h => x6 b o (ne_of_none h nd) (ne_of_none h nE0) (s5 _ _ h)
    clear x6 hs5 s5 he5 hd5 nde nE0 hR0 hnd hx6 H5 e nd
    have hl1 := hok.l1
    have hl6 := hok.l6
    have p1 := hs6.n1
    have p8 := hs6.n8
    have pi0 := hs6.i0
    have pi1 := hs6.i1
    have pf := hs6.hf
    refine ⟨_, rfl, a0, ns, 2, rfl, s6.seq hS, by decide, fun n2 => ⟨(by show 1 ≤ sizeLine; decide), fun pk npk => ?_⟩⟩
    have s67 := same_new (o := .lst [.int n2]) npk
    have hk7 := upd_same (H := H6) (a := pk) (o := .lst [.int n2])
    have hR7 := hR.ext s67
    have hs7 := hs6.ext s67
    have npk0 := none_of s6 npk
    have s7 := s6.trans s67
    generalize upd H6 pk (.lst [.int n2]) = H7 at hk7 hR7 hs7 s7 ⊢
    clear s67 hR hs6 s6 npk H6
    have elen : (((ys.map fun y => V.ref y.1).length : Nat) : Int) = (ys.length : Int) := by rw [List.length_map]
    refine ⟨_, rfl, _, rfl, _, rfl, _, rfl, _, rfl, R, _, rfl, .inl (SqL.of hR7.hR), ?_⟩
    rw [elen]
    refine ⟨pk, n2, (ys.length : Int), rfl, hk7, by omega, by omega, fun r m8 r0 r1 => ?_⟩
    have s8 : Same H (upd H7 pk (.lst [.int m8])) := same_x2 s7 SameX.upd npk0
    have hR8 := hR7.extX hk7 (SameX.upd (o := .lst [.int m8]))
    have hs8 : SpA (upd H7 pk (.lst [.int m8])) s n i f := ⟨by rw [upd_ne (ne_of hs7.hs hk7 (by intro z; cases z))]; exact hs7.hs, p1, p8, pi0, pi1, pf⟩
    have hk8 := upd_same (H := H7) (a := pk) (o := .lst [.int m8])
    generalize upd H7 pk (.lst [.int m8]) = H8 at s8 hR8 hs8 hk8 ⊢
    clear s7 hR7 hs7 hk7 H7
    obtain ⟨yj, hyj⟩ : ∃ yj, ys[r.toNat]? = some yj := ⟨_, List.getElem?_eq_getElem (by omega)⟩
    have hyr := (hR8.row yj (List.mem_of_getElem? hyj)).1
    refine ⟨R, _, r, .ref yj.1, rfl, rfl, SqL.of hR8.hR, atI_int r0 (by rw [List.getElem?_map, hyj]; rfl), yj.1, _, 0, .str yj.2.2.z, rfl, rfl, SqL.of hyr, atI0, ?_⟩
    have hz : yj.2.2.z ∈ zsOf ys := List.mem_map_of_mem (List.mem_of_getElem? hyj)
    have hnz := (hok.kp yj (List.mem_of_getElem? hyj)).1
    generalize yj.2.2.z = z at hz hnz ⊢
    clear hyr hyj yj r0 r1 r elen
    have hrw := hok.rw
    have hzsm : z ∈ (ys.map (·.2.2)).map (·.z) := by
      rw [List.map_map]
      exact hz
    have ezs : (ys.map (·.2.2)).map (·.z) = zsOf ys := by rw [List.map_map]; rfl
    refine ⟨R, s, ys, n, i, f, z, rfl, hR8, hs8, hnz, hrw, hl6, fun H9 s89 => ?_⟩
    have s9 := s8.trans s89
    clear s8 s89 hR8 hs8 hk8 npk0 H8 m8
    have hr' : ∀ r ∈ ys.map (·.2.2), RwOk r := fun r hr => by obtain ⟨y, hy, rfl⟩ := List.mem_map.mp hr; exact hrw y hy
    obtain ⟨hzl, hw0⟩ := wrZ_right (st := z) (rs := ys.map (·.2.2)) hnz (by rw [ezs]; exact hok.nd) hr' (fun r hr => by obtain ⟨y, hy, rfl⟩ := List.mem_map.mp hr; exact hok.ns6 y hy) hzsm (fun r hr v hv => by
      obtain ⟨y, hy, rfl⟩ := List.mem_map.mp hr
      rw [ezs]
      exact (hok.ns y hy).1 v hv) (by rw [List.length_map]; exact hl6) p1 p8 pi0 pi1 pf
    have hzx := pgT_tx (st := z) (rs := ys.map (·.2.2)) hnz hr' p1 p8 pi0 pi1 pf
    generalize pgT z (ys.map (·.2.2)) n i f = tx at hzl hw0 hzx ⊢
    clear hr' ezs hzsm hrw hz hnz pf pi1 pi0 p8 p1 hl1 hl6 hok
    show tSeq _ _ _ [some (.ref a0), some (.ref d), some (.ref s), some (.ref R), some (.ref pk), some (.str tx), none, none, none, none] H9
    refine ⟨_, rfl, .str tx, rfl, .inr ⟨tx, rfl, by omega, hzx, fun H10 s10 => ?_⟩⟩
    rw [hw0]
    refine ⟨rfl, false, rfl, false, fun H' => Same H10 H', fun _ => ?_, (fun c => Bool.noConfusion c), fun H11 s11 => ?_⟩
    · exact ⟨_, rfl, .str tx, rfl, .inr ⟨tx, rfl, by omega, (fun n en => by rw [hw0] at en; cases en), fun _ st rs n i f ok H' q t g p xs dx tn dP dN s1 nq hq ht hg hrs hp => ⟨q, _, 0, .str "told", rfl, rfl, SqT.of hq, atI0, rfl, _, rfl, rfl, s1⟩⟩⟩
    replace s11 := s9.trans (s10.trans s11)
    clear s10 s9 hw0 H10 H9
    refine iteF ⟨_, rfl, 5, rfl, 20, rfl, a0, _, rfl, s11.seq hS, fun c nc => ?_⟩
    obtain ⟨cs, hcs⟩ : ∃ cs, cutV (ns.map V.int) (some 5) (some 20) = cs := ⟨_, rfl⟩
    have hcl : cs.length ≤ 63 := by
      rw [← hcs]
      have := cutV_length (ns.map V.int) (some 5) (some 20)
      rw [List.length_map] at this
      omega
    rw [hcs]
    have s12 := s11.trans (same_new (o := .lst cs) nc)
    have hc := upd_same (H := H11) (a := c) (o := .lst cs)
    generalize upd H11 c (.lst cs) = H12 at s12 hc ⊢
    obtain ⟨M, hM⟩ : ∃ M : Int, M = (cs.length : Int) := ⟨_, rfl⟩
    refine ⟨c, _, rfl, .inl (SqL.of hc), 2, M, rfl, by rw [hM], 2 + M, rfl, by omega, by omega, for_range (lo := 0) (n := (2 + M).toNat) (fun j σ H' => Same H H' ∧ ∃ v6 v7 v8 v9 : Option V, σ = [some (.ref a0), some (.ref d), some (.ref s), some (.ref R), some (.ref pk), some (.str tx), v6, v7, v8, v9]) ⟨s12, none, none, none, none, rfl⟩ ?_ ?_⟩
    · clear s12 hc H12 nc hcs c s11 H11
      rintro j σ H1 hj ⟨s1, v6, v7, v8, v9, rfl⟩
      refine ⟨_, rfl, _, rfl, 3, _, rfl, rfl, a0, ns, 3 + j, ?_, s1.seq hS, by omega, fun n1 => ⟨(by show 1 ≤ sizeLine; decide), fun e ne => ?_⟩⟩
      · show [V.ref a0, V.int (3 + (0 + (j : Int)))] = [V.ref a0, V.int ((3 + j : Nat) : Int)]
        rw [show 3 + (0 + (j : Int)) = ((3 + j : Nat) : Int) by omega]
      have s2 := same_new (o := .lst [.int n1]) ne
      have he := upd_same (H := H1) (a := e) (o := .lst [.int n1])
      have ne0 := none_of s1 ne
      replace s2 := s1.trans s2
      generalize upd H1 e (.lst [.int n1]) = H2 at s2 he ⊢
      refine ⟨_, rfl, e, n1, tx, rfl, he, hzl, hzx, fun H7 m7 x x7 hx => ?_⟩
      have s7 := same_x2 s2 x7 ne0
      clear s2 x7 s1 he ne ne0 H2 H1
      obtain ⟨o, w1, w2⟩ := read_of K hx
      refine ⟨_, rfl, ?_⟩
      unfold tNil
      dsimp only [List.nil_append, List.cons_append]
      refine w1 _ _ fun H2 s2 => ?_
      refine ⟨_, rfl, ?_⟩
      dsimp only [List.nil_append, List.cons_append]
      refine w2 _ _ _ s2 (fun n en H3 q s3 nq hq => ?_) fun eo y ex st rs n i f ok H3 q t g p xs dx tn dP dN s3 nq hq ht hg hrs hp => ?_
      · subst en
        have s13 := s7.trans (s2.trans s3)
        have sh2 : SeqAt.shaped (.tuple [.str "refused", .int n, .bool true, .bool false]) = true := by
          have h2 : PyData.strOk "refused" = true := by decide +kernel
          unfold SeqAt.shaped
          rw [Bool.and_eq_true]
          refine ⟨by simp [PyData.canLay0, PyData.canLayAll0, h2], decide_eq_true ?_⟩
          simp only [PyData.depth, PyData.depthAll]
          omega
        have dp : ∀ {X : Hp} {u : Addr}, X u = some (.tup [.str "refused", .int n, .bl true, .bl false]) → Dp K X (.ref u) (.tuple [.str "refused", .int n, .bool true, .bool false]) := fun h => .tup (SqT.of h) (.cons (.str _) (.cons (.int _) (.cons (.bl _) (.cons (.bl _) .nil))))
        refine ⟨_, rfl, rfl, true, rfl, false, fun H' => Same H3 H', fun _ => ⟨_, rfl, _, rfl, (by show 4 ≤ sizeLine; decide), fun t nt => ⟨_, _, dp (same_new nt _ _ hq), dp upd_same, sh2, sh2, _, rfl, ?_, same_new nt⟩⟩, (fun c => Bool.noConfusion c), fun H4 s4 => ?_⟩
        · rw [SeqAt.eqv_refl _ (SeqAt.canLay_of_shaped sh2)]
          rfl
        · exact iteF ⟨_, rfl, rfl, false, rfl, iteF ⟨s13.trans s4, _, _, _, _, rfl⟩⟩
      · subst eo
        subst ex
        have s13 := s7.trans (s2.trans s3)
        have sh2 : SeqAt.shaped (.str "told") = true := by decide +kernel
        refine ⟨_, rfl, rfl, false, rfl, false, (· = H3), (fun c => Bool.noConfusion c), fun _ => rfl, fun H4 e => ?_⟩
        subst e
        refine iteF ⟨_, rfl, rfl, true, rfl, iteT ?_⟩
        refine ⟨_, rfl, q, _, 0, .str "told", rfl, rfl, SqT.of hq, atI0, .str "told", .str "told", .str _, .str _, sh2, sh2, ?_⟩
        rw [SeqAt.eqv_refl _ (SeqAt.canLay_of_shaped sh2)]
        refine ⟨_, rfl, false, fun H' => Same H4 H', fun _ => ?_, (fun c => Bool.noConfusion c), fun H5 s5 => iteF ⟨s13.trans s5, _, _, _, _, rfl⟩⟩
        have hsto : st ∈ zsOf xs := by
          have := ok.hst
          rw [← hrs, List.map_map] at this
          exact this
        have hrow : ∀ x ∈ xs, RwOk x.2.2 := fun x hx => ok.hr _ (by rw [← hrs]; exact List.mem_map_of_mem hx)
        refine ⟨_, rfl, q, _, 1, .ref t, rfl, rfl, SqT.of hq, atI1, t, _, 0, .ref g, rfl, rfl, SqT.of ht, atI0, _, rfl, q, _, 1, .ref t, rfl, rfl, SqT.of hq, atI1, t, _, 1, .ref p, rfl, rfl, SqT.of ht, atI1, ?_⟩
        refine ⟨g, p, xs, st, dx, tn, dP, dN, n, i, f, rfl, hg, hsto, hrow, hp, ok.n1, ok.n8, ok.i0, ok.i1, ok.hf, fun H5 s5 => ⟨_, rfl, rfl, _, rfl, ?_, s5⟩⟩
        rw [ok.e, hrs, decide_eq_true rfl]
        rfl
    · rintro σ H1 ⟨s1, v6, v7, v8, v9, rfl⟩
      exact k _
end
end K37

set_option Elab.async false
set_option linter.all false
set_option pp.deepTerms.threshold 14
set_option pp.maxSteps 2500
set_option maxRecDepth 100000
set_option maxHeartbeats 2000000
namespace K37
open PySem PySem.Spec PyProof.Rows L2 Vf 
section
variable {P : Program} {w : World} {K : PySem.W.Frag} {mg : Str → Option Value} {base : Heap}
structure ETxt (K : PySem.W.Frag) (mg : Str → Option Value) : Prop extends WTxt K mg where
  y1 : PySem.W.exmOne K (.ref (He.ga K "BadSampler")) (.ref (He.ga K "BadSampler")) = some true
  y2 : PySem.W.exmOne K (.ref (He.ga K "BadPlace")) (.ref (He.ga K "BadPlace")) = some true
end
end K37

set_option Elab.async false
set_option linter.all false
set_option maxRecDepth 100000
set_option maxHeartbeats 4000000
namespace K37
open PySem PySem.Spec PyProof.Rows L2 Vf
section
variable {K : PySem.W.Frag} {h : Heap} {mg : Str → Option Value}
theorem mk_GMeth (X : K.In h) (G : h.Ns mainGlobals mg) (c : ex K = true) : GMeth K := by
  obtain ⟨a, c⟩ := He.ba c
  have fact : ∀ (i : Nat) {f : He.Fa}, fa[i]? = some f → f.ok K = true := fun i f e => List.all_eq_true.mp a f (List.mem_of_getElem? e)
  obtain ⟨c0, c⟩ := He.ba c
  obtain ⟨c1, c⟩ := He.ba c
  obtain ⟨c2, c⟩ := He.ba c
  obtain ⟨c3, c⟩ := He.ba c
  obtain ⟨c4, c⟩ := He.ba c
  obtain ⟨c5, c⟩ := He.ba c
  obtain ⟨c6, c⟩ := He.ba c
  obtain ⟨c7, c⟩ := He.ba c
  obtain ⟨c8, c⟩ := He.ba c
  obtain ⟨c9, c⟩ := He.ba c
  obtain ⟨c10, c⟩ := He.ba c
  obtain ⟨c11, c⟩ := He.ba c
  obtain ⟨c12, c⟩ := He.ba c
  obtain ⟨c13, c⟩ := He.ba c
  obtain ⟨c14, c⟩ := He.ba c
  obtain ⟨c15, c⟩ := He.ba c
  obtain ⟨c16, c⟩ := He.ba c
  obtain ⟨c17, c⟩ := He.ba c
  obtain ⟨c18, c⟩ := He.ba c
  obtain ⟨c19, c⟩ := He.ba c
  obtain ⟨c20, c⟩ := He.ba c
  obtain ⟨c21, c⟩ := He.ba c
  exact
  { p_eq := meth_of (fact 0 (f := .meth "Place" "__eq__") rfl)
    p_ne := He.eqO_ok c0
    m_eq := meth_of (fact 1 (f := .meth "Program" "__eq__") rfl)
    m_ne := He.eqO_ok c1
    m_contains := meth_of (fact 2 (f := .meth "Program" "__contains__") rfl)
    m_getitem := meth_of (fact 3 (f := .meth "Program" "__getitem__") rfl)
    f_getitem := c2 }
theorem mk_ETxt (X : K.In h) (G : h.Ns mainGlobals mg) (c : ex K = true) : ETxt K mg := by
  obtain ⟨a, c⟩ := He.ba c
  have fact : ∀ (i : Nat) {f : He.Fa}, fa[i]? = some f → f.ok K = true := fun i f e => List.all_eq_true.mp a f (List.mem_of_getElem? e)
  obtain ⟨c0, c⟩ := He.ba c
  obtain ⟨c1, c⟩ := He.ba c
  obtain ⟨c2, c⟩ := He.ba c
  obtain ⟨c3, c⟩ := He.ba c
  obtain ⟨c4, c⟩ := He.ba c
  obtain ⟨c5, c⟩ := He.ba c
  obtain ⟨c6, c⟩ := He.ba c
  obtain ⟨c7, c⟩ := He.ba c
  obtain ⟨c8, c⟩ := He.ba c
  obtain ⟨c9, c⟩ := He.ba c
  obtain ⟨c10, c⟩ := He.ba c
  obtain ⟨c11, c⟩ := He.ba c
  obtain ⟨c12, c⟩ := He.ba c
  obtain ⟨c13, c⟩ := He.ba c
  obtain ⟨c14, c⟩ := He.ba c
  obtain ⟨c15, c⟩ := He.ba c
  obtain ⟨c16, c⟩ := He.ba c
  obtain ⟨c17, c⟩ := He.ba c
  obtain ⟨c18, c⟩ := He.ba c
  obtain ⟨c19, c⟩ := He.ba c
  obtain ⟨c20, c⟩ := He.ba c
  obtain ⟨c21, c⟩ := He.ba c
  exact
  { z_int := He.free_ok X G (fact 4 (f := .free "int") rfl)
    z_bool := He.free_ok X G (fact 5 (f := .free "bool") rfl)
    z_str := He.free_ok X G (fact 6 (f := .free "str") rfl)
    z_len := He.free_ok X G (fact 7 (f := .free "len") rfl)
    z_all := He.free_ok X G (fact 8 (f := .free "all") rfl)
    z_isinstance := He.free_ok X G (fact 9 (f := .free "isinstance") rfl)
    i_LONGEST_NAME := He.int_ok X G (fact 10 (f := .int "LONGEST_NAME" 8) rfl)
    i_MOST_TICKS := He.int_ok X G (fact 11 (f := .int "MOST_TICKS" 6) rfl)
    i_LETTERS := He.str_ok X G (fact 12 (f := .str "LETTERS" "abcdefghijklmnopqrstuvwxyz") rfl)
    g_KEPT_WORDS := He.glo_ok X G (fact 13 (f := .glo "KEPT_WORDS") rfl)
    t_KEPT := c3
    g_is_integer := He.glo_ok X G (fact 14 (f := .glo "is_integer") rfl)
    g_is_integer_from := He.glo_ok X G (fact 15 (f := .glo "is_integer_from") rfl)
    g_is_flag := He.glo_ok X G (fact 16 (f := .glo "is_flag") rfl)
    g_is_name := He.glo_ok X G (fact 17 (f := .glo "is_name") rfl)
    g_Place := He.glo_ok X G (fact 18 (f := .glo "Place") rfl)
    g_BadPlace := He.glo_ok X G (fact 19 (f := .glo "BadPlace") rfl)
    c_Place := cls_of (fact 20 (f := .cls "Place") rfl)
    m_Place := mk_of (fact 21 (f := .mkr "Place") rfl)
    nN := noat_of (fact 22 (f := .noat "Place" "name") rfl)
    nL := noat_of (fact 23 (f := .noat "Place" "least") rfl)
    nM := noat_of (fact 24 (f := .noat "Place" "most") rfl)
    nT := noat_of (fact 25 (f := .noat "Place" "let") rfl)
    x_BadPlace := exI_ok c4
    hn := He.eqO_ok c5
    ht := of_decide_eq_true c6
    ha := He.eqO_ok c7
    hm := of_decide_eq_true c8
    k1 := of_decide_eq_true c9
    z_enumerate := He.free_ok X G (fact 26 (f := .free "enumerate") rfl)
    z_list := He.free_ok X G (fact 27 (f := .free "list") rfl)
    z_tuple := He.free_ok X G (fact 28 (f := .free "tuple") rfl)
    z_dict := He.free_ok X G (fact 29 (f := .free "dict") rfl)
    i_MOST_PLACES := He.int_ok X G (fact 30 (f := .int "MOST_PLACES" 6) rfl)
    g_has_twins := He.glo_ok X G (fact 31 (f := .glo "has_twins") rfl)
    g_is_one_of := He.glo_ok X G (fact 32 (f := .glo "is_one_of") rfl)
    g_are_places := He.glo_ok X G (fact 33 (f := .glo "are_places") rfl)
    g_are_nexts := He.glo_ok X G (fact 34 (f := .glo "are_nexts") rfl)
    g_is_choice := He.glo_ok X G (fact 35 (f := .glo "is_choice") rfl)
    g_Program := He.glo_ok X G (fact 36 (f := .glo "Program") rfl)
    g_BadProgram := He.glo_ok X G (fact 37 (f := .glo "BadProgram") rfl)
    g_NoPlace := He.glo_ok X G (fact 38 (f := .glo "NoPlace") rfl)
    c_Program := cls_of (fact 39 (f := .cls "Program") rfl)
    m_Program := mk_of (fact 40 (f := .mkr "Program") rfl)
    nA := noat_of (fact 41 (f := .noat "Program" "names") rfl)
    nB := noat_of (fact 42 (f := .noat "Program" "start") rfl)
    nC := noat_of (fact 43 (f := .noat "Program" "_places") rfl)
    nD := noat_of (fact 44 (f := .noat "Program" "_nexts") rfl)
    x_BadProgram := exI_ok c10
    x_NoPlace := exI_ok c11
    pa := He.eqO_ok c12
    pm := of_decide_eq_true c13
    pk := of_decide_eq_true c14
    z_range := He.free_ok X G (fact 45 (f := .free "range") rfl)
    i_MOST_PERIOD := He.int_ok X G (fact 46 (f := .int "MOST_PERIOD" 8) rfl)
    g_Sampler := He.glo_ok X G (fact 47 (f := .glo "Sampler") rfl)
    g_BadSampler := He.glo_ok X G (fact 48 (f := .glo "BadSampler") rfl)
    c_Sampler := cls_of (fact 49 (f := .cls "Sampler") rfl)
    m_Sampler := mk_of (fact 50 (f := .mkr "Sampler") rfl)
    sP := noat_of (fact 51 (f := .noat "Sampler" "period") rfl)
    sJ := noat_of (fact 52 (f := .noat "Sampler" "jitter") rfl)
    sF := noat_of (fact 53 (f := .noat "Sampler" "phase") rfl)
    x_BadSampler := exI_ok c15
    i_MOST_TEXT := He.int_ok X G (fact 54 (f := .int "MOST_TEXT" 1000) rfl)
    i_DIGITS := He.str_ok X G (fact 55 (f := .str "DIGITS" "0123456789") rfl)
    x_BadText := exI_ok c16
    g_SeenError := He.glo_ok X G (fact 56 (f := .glo "SeenError") rfl)
    g_BadRun := He.glo_ok X G (fact 57 (f := .glo "BadRun") rfl)
    x1 := of_decide_eq_true c17
    p1 := of_decide_eq_true c18
    p2 := of_decide_eq_true c19
    y1 := of_decide_eq_true c20
    y2 := of_decide_eq_true c21
    g_write := He.glo_ok X G (fact 58 (f := .glo "write") rfl)
    g_read := He.glo_ok X G (fact 59 (f := .glo "read") rfl)
    g_lines_of := He.glo_ok X G (fact 60 (f := .glo "lines_of") rfl)
    g_check_end := He.glo_ok X G (fact 61 (f := .glo "check_end") rfl)
    g_with_names := He.glo_ok X G (fact 62 (f := .glo "with_names") rfl)
    g_program_with := He.glo_ok X G (fact 63 (f := .glo "program_with") rfl)
    g_start_line := He.glo_ok X G (fact 64 (f := .glo "start_line") rfl)
    g_place_line := He.glo_ok X G (fact 65 (f := .glo "place_line") rfl)
    g_sampler_line := He.glo_ok X G (fact 66 (f := .glo "sampler_line") rfl)
    g_digit_of := He.glo_ok X G (fact 67 (f := .glo "digit_of") rfl)
    g_start_told := He.glo_ok X G (fact 68 (f := .glo "start_told") rfl)
    g_place_told := He.glo_ok X G (fact 69 (f := .glo "place_told") rfl)
    g_sampler_told := He.glo_ok X G (fact 70 (f := .glo "sampler_told") rfl)
    g_BadText := He.glo_ok X G (fact 71 (f := .glo "BadText") rfl)
    g_law_cell := He.glo_ok X G (fact 72 (f := .glo "_law_cell") rfl)
    g_law_take := He.glo_ok X G (fact 73 (f := .glo "_law_take") rfl)
    g_law_name := He.glo_ok X G (fact 74 (f := .glo "_law_name") rfl)
    g_law_rows := He.glo_ok X G (fact 75 (f := .glo "_law_rows") rfl)
    g_law_spec := He.glo_ok X G (fact 76 (f := .glo "_law_spec") rfl)
    g_law_text := He.glo_ok X G (fact 77 (f := .glo "_law_text") rfl)
    g_law_number := He.glo_ok X G (fact 78 (f := .glo "_law_number") rfl)
    g_law_is_name := He.glo_ok X G (fact 79 (f := .glo "_law_is_name") rfl)
    g_law_is_sampler := He.glo_ok X G (fact 80 (f := .glo "_law_is_sampler") rfl)
    g_law_place_line := He.glo_ok X G (fact 81 (f := .glo "_law_place_line") rfl)
    g_law_wrong_line := He.glo_ok X G (fact 82 (f := .glo "_law_wrong_line") rfl)
    g_law_read := He.glo_ok X G (fact 83 (f := .glo "_law_read") rfl)
    g_law_signs := He.glo_ok X G (fact 84 (f := .glo "_law_signs") rfl)
    g_law_lines := He.glo_ok X G (fact 85 (f := .glo "_law_lines") rfl)
    g_law_words := He.glo_ok X G (fact 86 (f := .glo "_law_words") rfl)
    g_law_spoiled := He.glo_ok X G (fact 87 (f := .glo "_law_spoiled") rfl) }
theorem facts {P : Program} {w : World} {f : Addr} (X : K.In h) (G : h.Ns mainGlobals mg) (hfa : mg ("law" : Str) = some (.ref f)) (c : SaysP ex fn gt K) :
    ∃ fd : FuncData, (∀ (s : Shared) (v : Value), BindsTo s fd ⟨[v], []⟩ [("_law_script", v)]) ∧ ∀ base : Heap, K.In base → base.Ns mainGlobals mg → FnOk P w K mg base CX0 10 f fd ["_law_script"] (spLaw K) := by
  obtain ⟨d0, F0⟩ := c.fn 0
  obtain ⟨d1, F1⟩ := c.fn 1
  obtain ⟨d2, F2⟩ := c.fn 2
  obtain ⟨d3, F3⟩ := c.fn 3
  obtain ⟨d4, F4⟩ := c.fn 4
  obtain ⟨d5, F5⟩ := c.fn 5
  obtain ⟨d6, F6⟩ := c.fn 6
  obtain ⟨d7, F7⟩ := c.fn 7
  obtain ⟨d8, F8⟩ := c.fn 8
  obtain ⟨d9, F9⟩ := c.fn 9
  obtain ⟨d10, F10⟩ := c.fn 10
  obtain ⟨d11, F11⟩ := c.fn 11
  obtain ⟨d12, F12⟩ := c.fn 12
  obtain ⟨d13, F13⟩ := c.fn 13
  obtain ⟨d14, F14⟩ := c.fn 14
  obtain ⟨d15, F15⟩ := c.fn 15
  obtain ⟨d16, F16⟩ := c.fn 16
  obtain ⟨d17, F17⟩ := c.fn 17
  obtain ⟨d18, F18⟩ := c.fn 18
  obtain ⟨d19, F19⟩ := c.fn 19
  obtain ⟨d20, F20⟩ := c.fn 20
  obtain ⟨d21, F21⟩ := c.fn 21
  obtain ⟨d22, F22⟩ := c.fn 22
  obtain ⟨d23, F23⟩ := c.fn 23
  obtain ⟨d24, F24⟩ := c.fn 24
  obtain ⟨d25, F25⟩ := c.fn 25
  obtain ⟨d26, F26⟩ := c.fn 26
  obtain ⟨d27, F27⟩ := c.fn 27
  obtain ⟨d28, F28⟩ := c.fn 28
  obtain ⟨d29, F29⟩ := c.fn 29
  obtain ⟨d30, F30⟩ := c.fn 30
  obtain ⟨d31, F31⟩ := c.fn 31
  obtain ⟨d32, F32⟩ := c.fn 32
  obtain ⟨d33, F33⟩ := c.fn 33
  obtain ⟨d34, F34⟩ := c.fn 34
  obtain ⟨d35, F35⟩ := c.fn 35
  obtain ⟨d36, F36⟩ := c.fn 36
  obtain ⟨d37, F37⟩ := c.fn 37
  obtain ⟨d38, F38⟩ := c.fn 38
  obtain ⟨d39, F39⟩ := c.fn 39
  obtain ⟨d40, F40⟩ := c.fn 40
  obtain ⟨d41, F41⟩ := c.fn 41
  obtain ⟨d42, F42⟩ := c.fn 42
  obtain ⟨d43, F43⟩ := c.fn 43
  obtain ⟨d44, F44⟩ := c.fn 44
  obtain ⟨d45, F45⟩ := c.fn 45
  obtain ⟨d46, F46⟩ := c.fn 46
  obtain ⟨d47, F47⟩ := c.fn 47
  obtain ⟨d48, F48⟩ := c.fn 48
  obtain ⟨⟨e0, G0⟩, p0⟩ := c.gt 0
  have hl : He.ga K "law" = f := by
    have e := He.glo_ok X G (List.all_eq_true.mp (He.ba c.ex).1 (.glo "law") (List.mem_of_getElem? (i := 88) rfl))
    rw [hfa] at e
    cases e
    rfl
  have b := FunD.bindsA (ps := ["_law_script"]) F48 fun _ _ _ _ _ _ us hl => match us, hl with | [_], _ => rfl
  refine ⟨d48, fun s v => b s [v] rfl, fun base _ _ => ?_⟩
  have ET := mk_ETxt X G c.ex
  have WT := ET.toWTxt
  have T := WT.toTxt
  have M := mk_GMeth X G c.ex
  have TT := T.toTTxt
  have RT := TT.toRTxt
  have GT := RT.toGTxt
  have S := GT.toPTxt
  have A_is_integer := ok_is_integer (P := P) (w := w) (base := base) F0 S
  have A_is_integer_from := ok_is_integer_from F1 S A_is_integer
  have A_is_flag := ok_is_flag (P := P) (w := w) (base := base) F2 S
  have A_is_name := ok_is_name (P := P) (w := w) (base := base) F3 S
  have A_has_twins := ok_has_twins (P := P) (w := w) (base := base) F4 GT
  have A_BadPlace := ok_BadPlace_init (P := P) (w := w) (mg := mg) (base := base) F5
  have GP := ok_Place_init F6 S A_is_name A_is_integer_from A_is_flag A_BadPlace
  have IP := O_Place3k F6 GP
  have A_BadProgram := ok_BadProgram_init (P := P) (w := w) (mg := mg) (base := base) F7
  have A_NoPlace := ok_NoPlace_init (P := P) (w := w) (mg := mg) (base := base) F8
  have A_is_one_of := ok_is_one_of (P := P) (w := w) (base := base) F12 GT
  have A_is_choice := ok_is_choice F15 GT A_is_one_of A_has_twins
  have A_are_places := ok_are_places F13 GT A_has_twins
  have A_are_nexts := ok_are_nexts F14 GT A_is_choice
  have GG := ok_Program_init F9 GT A_are_places A_are_nexts A_is_one_of A_BadProgram
  have IG := O_Program2k F9 GG
  have A_contains := ok_Program_contains F10 GT A_is_one_of
  have A_getitem := ok_Program_getitem F11 GT M A_contains A_NoPlace
  have N0 := ok_Program_nexts (P := P) (w := w) (base := base) G0 p0 GT
  have A_BadSampler := ok_BadSampler_init (P := P) (w := w) (mg := mg) (base := base) F16
  have GS := ok_Sampler_init F17 RT A_is_integer_from A_BadSampler
  have IS := O_Sampler2k F17 GS
  have A_BadText := ok_BadText_init (P := P) (w := w) (mg := mg) (base := base) F18
  have A_dig := ok_digit_of (P := P) (w := w) (base := base) F28 TT
  have A_lno := ok_lines_of F21 TT A_BadText
  have A_cke := ok_check_end F22 TT A_BadText
  have A_sln := ok_start_line (P := P) (w := w) (base := base) F25 TT
  have A_pln := ok_place_line (P := P) (w := w) (base := base) F26 TT
  have A_sml := ok_sampler_line (P := P) (w := w) (base := base) F27 TT
  have A_sto := ok_start_told F29 TT A_is_name A_sln
  have A_smt := ok_sampler_told F31 TT ET.y1 A_dig A_sml IS
  have A_plt := ok_place_told F30 TT ET.y2 A_is_name A_has_twins A_dig A_pln IP
  have A_wn := ok_with_names (P := P) (w := w) (base := base) F23 TT
  have A_pgw := ok_program_with F24 TT IG
  have A_wt := ok_write F19 TT M A_getitem N0 A_sln A_pln A_sml
  have A_rd := ok_read F20 TT A_lno A_sto A_smt A_cke A_plt A_pgw A_wn A_BadText
  have A_take := ok_law_take (P := P) (w := w) (base := base) F33 T
  have A_cell := ok_law_cell (P := P) (w := w) (base := base) F32 T
  have A_nam := ok_law_name F34 T A_take
  have A_rows := ok_law_rows F35 T A_take A_nam
  have A_spec := ok_law_spec F36 T A_take
  have A_text := ok_law_text (P := P) (w := w) (base := base) F37 T
  have A_num := ok_law_number (P := P) (w := w) (base := base) F38 T
  have A_isn := ok_law_is_name (P := P) (w := w) (base := base) F39 T
  have A_ism := ok_law_is_sampler F40 T A_num
  have A_lpl := ok_law_place_line F41 T A_num A_isn
  have A_wrl := ok_law_wrong_line F42 T A_isn A_lpl A_ism
  have A_lrd := ok_law_read F43 WT A_rd
  have A_sgn := ok_law_signs F44 T A_take
  have A_lin := ok_law_lines F45 T A_take
  have A_wrd := ok_law_words F46 T A_take
  have A_spl := ok_law_spoiled F47 T A_take A_wrd A_lin A_sgn
  have r := ok_law F48 WT A_cell A_take A_spec A_rows A_text A_spl A_wrl A_lrd A_wt
  rw [← hl]
  exact r
end
end K37
open PySem PySem.W PySem.Calls PyProof.Rows
theorem PySem.Challenge.cw_seenshares_k37_read_refusals_holds : PySem.Challenge.rw_seenshares_k37_read_refusals.Holds := by
  w_on; o_law
  refine HandSHeadRun.head_any (r := OpenLaw.row PySem.Challenge.rw_seenshares_k37_read_refusals) (q := view (OpenLaw.row PySem.Challenge.rw_seenshares_k37_read_refusals).prog [63]) (H := K37.hk) (ob := K37.ob) (M := 100000) (loose := K37.names)
    (d := HandSHeadRun.topDef (OpenLaw.row PySem.Challenge.rw_seenshares_k37_read_refusals).prog 63) (kwd := []) K37.ob_eq (by kernel_rfl) (fun s => by kernel_rfl) K37.run (by kernel_rfl) (by kernel_rfl) (by kernel_rfl) (by rfl) (by first | assumption | decide +kernel) (by decide +kernel) ⟨rfl, rfl, rfl, rfl, rfl, by decide +kernel⟩ ?hw ?hc
  case hw => w_witness2
  case hc =>
    refine L2.walk_ofE (l := PySem.Challenge.rw_seenshares_k37_read_refusals) (n := 63) (k := 10) (x := "_law_script") (CX := L2.CX0) rfl (by decide) (by kernel_rfl) ⟨rfl, by decide, by decide⟩ ?F (fun _ _ _ _ z => z)
    intro w mg fa h Y G hmg0
    obtain ⟨K, KX, c⟩ := Y
    have hmg : mg ("law" : PySem.Str) = some (.ref fa) := by
      have e : (HandSHeadRun.topDef (OpenLaw.row PySem.Challenge.rw_seenshares_k37_read_refusals).prog 63).name = ("law" : PySem.Str) := by kernel_rfl
      rw [← e]
      exact hmg0
    obtain ⟨fd, hb, hF⟩ := K37.facts (P := (PySem.Challenge.rw_seenshares_k37_read_refusals).prog) (w := w) KX G hmg c
    exact ⟨K, fd, K37.spLaw K, KX, hb, fun H a ns hl _ hS => ⟨a, ns, rfl, hS, hl, fun _ => rfl⟩, hF⟩
#print axioms PySem.Challenge.cw_seenshares_k37_read_refusals_holds
