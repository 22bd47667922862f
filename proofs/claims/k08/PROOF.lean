import PyProof.Rows.All
import Wide.All
import OpenK.AllK
import Wide.FinOn
import PyProof.EqAt
import PyProof.EqKinds
import PyProof.TupleCall
import KE.KStateDown
import KE.KCallOwn
import HandS.ForExc
import HandS.Wide
import HandS.Gcd
import HandS.Defaults
import HandS.IsInst
import HandS.ExcInit
import HandS.ExcField
import HandS.ExcIs
import HandS.FStr
import HandS.Codes
import HandS.Dict
import HandS.Head0
import HandS.Head1
import HandS.Head2
import HandS.Head3
import HandS.HeadEnd
import HandS.HeadHook1
import HandS.HeadHook2
import KE.KExcIs
import KE.KOpsOwn
import PyProof.FactsAll.int_1
import PyProof.FactsAll.int_2
import PyProof.FactsAll.int_3
import PyProof.FactsAll.int_5
import HandS.TryOnly
import HandS.Small
import PyProof.FactsAll.str_1
import PyProof.FactsAll.tuple_1
import PyProof.FactsAll.list_1
import PyProof.FactsAll.dict_1
import PyProof.FactsAll.bool_1
import PyProof.FactsAll.NoneType_1
import HandS.OwnEq
import HandS.Comp
import HandS.Walk
import HandS.MakeKwOnly
import HandS.MakeKw
import PyProof.Rows.StrIn
import KE.GoesMore
import HandS.DictComp
import HandS.Property
import HandS.DeepEq
import KE.KEqDict
import PyProof.NeKinds
import HandS.Exc
import HandS.WordsDict
import HandS.TupAny
import PySem.Challenge.RW_seenshares_k08_with_let
set_option Elab.async false
set_option linter.all false
set_option maxRecDepth 100000
set_option maxHeartbeats 2000000
namespace Vf
open PySem PySem.Spec PyProof.Rows L2
/-! ### defs at their places -/
abbrev Pl : Type := Str × Option Str
structure OkD (P : Program) (w : World) (K : PySem.W.Frag) (mg : Str → Option Value) (base : Heap) (CX : CXT) (k : Nat) (p : Pl) (ps : List Str) (dvs : List V) (sp : Sp) : Prop where
  ex : ∃ fd ds, FnOk P w K mg base CX k (He.fAd K p) fd ps sp ∧ Binds K fd ps ds ∧ Vals dvs ds
  kp : PySem.W.keepIn K (.ref (He.fAd K p)) = true
section
variable {X : Cx} {CX : CXT} {k j : Nat} {ps : List Str} {sp : Sp} {dvs : List V} {x m : Str} {p pos apos : Pos} {e o : Expr} {es : List Expr} {ta : TE} {t : TA}
theorem c_fn {E : XK} (O : OkD X.prog X.w X.K X.mg X.base CX k (x, none) ps dvs sp) (hr : Room j X.A) (hj : k ≤ j) (hm : X.mg x = some (.ref (He.ga X.K x))) (hx : Passes CX X E) (ha : PA X (e :: es) t) (hg : Gl X x := by rfl)
    (hdb : (x == ("__debug__" : Str)) = false := by decide) (he : starEach (e :: es) X.env = (false, eval e X.env) :: starEach es X.env := by rfl) (hpl : (backTo pos (starEach es X.env)).any (·.1) = false := by rfl) :
    PE X (.Call (.Name x p) (e :: es) [] pos) (tCall sp dvs E t) := by
  obtain ⟨fd, ds, F, b, v⟩ := O.ex
  exact pe_call F (hr.mono hj) hg hm O.kp b v hx ha hdb he hpl
theorem c_fnS {E : L2.St → XK} (O : OkD X.prog X.w X.K X.mg X.base CX k (x, none) ps [] sp) (hr : Room j X.A) (hj : k ≤ j) (hm : X.mg x = some (.ref (He.ga X.K x))) (hx : ∀ σ, PassesAt CX X σ (E σ)) (ha : PA X (e :: es) t) (hg : Gl X x := by rfl)
    (hdb : (x == ("__debug__" : Str)) = false := by decide) (he : starEach (e :: es) X.env = (false, eval e X.env) :: starEach es X.env := by rfl) (hpl : (backTo pos (starEach es X.env)).any (·.1) = false := by rfl) :
    PE X (.Call (.Name x p) (e :: es) [] pos) (tCallS sp E t) := by
  obtain ⟨fd, ds, F, b, v⟩ := O.ex
  cases v
  exact pe_callS F (hr.mono hj) hg hm O.kp b hx ha hdb he hpl
theorem mk_of {K : PySem.W.Frag} {x : Str} (c : (He.Fa.mkr x).ok K = true) : Mk K (He.ga K x) (He.fAd K (x, some "__init__")) := by
  obtain ⟨h1, h2⟩ := He.ba c
  obtain ⟨h2, h3⟩ := He.ba h2
  obtain ⟨h3, h4⟩ := He.ba h3
  exact ⟨h1, He.eqO_ok h2, h3, h4⟩
theorem meth_of {K : PySem.W.Frag} {x m : Str} (c : (He.Fa.meth x m).ok K = true) : Meth K (He.ga K x) m (He.fAd K (x, some m)) := by
  obtain ⟨h1, h2⟩ := He.ba c
  obtain ⟨h2, h3⟩ := He.ba h2
  exact ⟨He.eqO_ok h1, h2, h3⟩
theorem cls_of {K : PySem.W.Frag} {x : Str} (c : (He.Fa.cls x).ok K = true) : Cls K (He.ga K x) := by
  obtain ⟨h1, h2⟩ := He.ba c
  obtain ⟨h2, h3⟩ := He.ba h2
  obtain ⟨h3, h4⟩ := He.ba h3
  exact ⟨h1, h2, h3, He.eqO_ok h4⟩
theorem noat_of {K : PySem.W.Frag} {x f : Str} (c : (He.Fa.noat x f).ok K = true) : NoAttr K (He.ga K x) f := He.eqO_ok c
/-- C(e, ..) -/
theorem c_mk {E : XK} {C : Addr} (M : Mk X.K C (He.fAd X.K (x, some "__init__"))) (O : OkD X.prog X.w X.K X.mg X.base CX k (x, some "__init__") ps dvs sp) (hr : Room j X.A) (hj : k + 1 ≤ j) (hm : X.mg x = some (.ref C)) (hx : Passes CX X E) (ha : PA X (e :: es) t) (hg : Gl X x := by rfl)
    (hdb : (x == ("__debug__" : Str)) = false := by decide) (he : starEach (e :: es) X.env = (false, eval e X.env) :: starEach es X.env := by rfl) (hpl : (backTo pos (starEach es X.env)).any (·.1) = false := by rfl) :
    PE X (.Call (.Name x p) (e :: es) [] pos) (tMake C sp dvs E t) := by
  obtain ⟨fd, ds, F, b, v⟩ := O.ex
  exact pe_make M F (hr.mono hj) hg hm b v hx ha hdb he hpl
/-- o.m() -/
theorem c_me0 {E : XK} {C : Addr} {cn : Str} (hC : C = He.ga X.K cn) (he : PE X o ta) (c : Cls X.K C) (hm : Meth X.K C m (He.fAd X.K (cn, some m))) (O : OkD X.prog X.w X.K X.mg X.base CX k (cn, some m) ps dvs sp) (hr : Room j X.A) (hj : k ≤ j) (hx : Passes CX X E) {pl : Sem Bool}
    (ht : eval (.Call (.Attribute o m apos) [] [] pos) X.env = (do
      let ov ← eval o X.env
      standAt apos.atName
      let (f, first) ← holding [ov] (getMethod ov m pl)
      callWith pos f first (backTo pos (starEach [] X.env)) (backToKw pos (keywordEach [] X.env))) := by rfl) :
    PE X (.Call (.Attribute o m apos) [] [] pos) (tMeth C m sp dvs E ta tNil) := by
  obtain ⟨fd, ds, F, b, v⟩ := O.ex
  exact pe_meth0 he c hm F (hr.mono hj) b v hx ht
theorem c_me {E : XK} {C : Addr} {cn : Str} (hC : C = He.ga X.K cn) (hb : PE X o ta) (c : Cls X.K C) (hm : Meth X.K C m (He.fAd X.K (cn, some m))) (O : OkD X.prog X.w X.K X.mg X.base CX k (cn, some m) ps dvs sp) (hr : Room j X.A) (hj : k ≤ j) (hx : Passes CX X E) (ha : PA X (e :: es) t) {pl : Sem Bool}
    (hst : starEach (e :: es) X.env = (false, eval e X.env) :: starEach es X.env := by rfl) (hpl : (backTo pos (starEach es X.env)).any (·.1) = false := by rfl)
    (ht : eval (.Call (.Attribute o m apos) (e :: es) [] pos) X.env = (do
      let ov ← eval o X.env
      standAt apos.atName
      let (f, first) ← holding [ov] (getMethod ov m pl)
      callWith pos f first (backTo pos (starEach (e :: es) X.env)) (backToKw pos (keywordEach [] X.env))) := by rfl) :
    PE X (.Call (.Attribute o m apos) (e :: es) [] pos) (tMeth C m sp dvs E ta t) := by
  obtain ⟨fd, ds, F, b, v⟩ := O.ex
  exact pe_meth hb c hm F (hr.mono hj) b v hx ha hst hpl ht
end
/-! ### a try's body whose errors are wished for at any slots -/
theorem passAny {X : Cx} {W : WX} (n : Nat) (tk : Takes X W) (hn : X.N.length = n := by rfl) : Passes (L2.CX X.prog X.w) X (fun cls d H => ∀ σ : L2.St, σ.length = n → W cls d σ H) :=
  fun _ σ _ _ e s' I c => tk e s' (XE.of_call I (fun _ _ _ h => h σ (I.len.trans hn)) c)
/-! ### operators -/
section
variable {X : Cx}
/-- // by any divisor but 0 below 2 ^ 9000 -/
theorem op_fdivG : OpR X (binaryOp .FloorDiv) (rI (fun _ j => j ≠ 0 ∧ j.natAbs.log2 < 9000) fun i j => .int (i.fdiv j)) := opI fun i j _ _ _ _ _ hc q => floordiv_int hc.1 q (.inl (PyProof.noPylong_of_log2 hc.2))
/-- a built-in class as a value -/
theorem pe_ty {x : Str} {n : String} {pos : Pos} (hm : X.mg x = none) (hv : bootBuiltins x = some (.type n)) (hg : Gl X x := by rfl) (hn : x ≠ "__name__" := by decide) (hd : (x == ("__debug__" : Str)) = false := by decide) : PE X (.Name x pos) (tC (.ty n)) := pe_bltn hg hm hv rfl hn hd
/-- a class of the text as a value -/
theorem pe_cl {x : Str} {a : Addr} {pos : Pos} (hm : X.mg x = some (.ref a)) (hg : Gl X x := by rfl) (hd : (x == ("__debug__" : Str)) = false := by decide) : PE X (.Name x pos) (tC (.ref a)) := pe_glob hg hm rfl hd
/-- str(o), o of a class of the text that has its own __str__ -/
def rStrO (C : Addr) (sp : Sp) : List V → Hp → VK → Prop := fun xs H Q => ∃ a dx fs, xs = [.ref a] ∧ H a = some (.ins C dx fs) ∧ sp [.ref a] H (fun v H' => ∃ z, v = .str z ∧ Q (.str z) H') fun _ _ _ => False
theorem call_strO {k j : Nat} {C : Addr} {cn : Str} {ps : List Str} {sp : Sp} (hC : C = He.ga X.K cn) (hm : Meth X.K C "__str__" (He.fAd X.K (cn, some "__str__"))) (O : OkD X.prog X.w X.K X.mg X.base CX0 k (cn, some "__str__") ps [] sp) (hr : Room j X.A) (hj : k + 2 ≤ j) :
    CallR X (.type "str") (rStrO C sp) := by
  obtain ⟨fd, ds, F, b, v⟩ := O.ex
  cases v
  intro pins s σ H xs us Q I r h
  obtain ⟨a, dx, fs, rfl, ha, hsp⟩ := h
  obtain ⟨u, rfl, ru⟩ : ∃ u, us = [u] ∧ RelV (.ref a) u := by
    cases r with
    | cons p q => cases q; exact ⟨_, rfl, p⟩
  cases ru
  obtain ⟨mA, J, _⟩ := ins_get I.hok ha
  obtain ⟨od, J, _⟩ := J.look
  have hr2 : Room k X.A.in1.in1 := ((hr.mono hj).in1).in1
  refine PySem.W.kso_call hr2.units0 I.kIn J hm.at_ hm.fn ?_
  have hl := F.len _ _ _ _ hsp
  have hb := b s [.ref a] I.kIn (by simpa using hl)
  simp only [List.append_nil] at hb
  refine wpAny_call (codeAny_mono (F.run X.A.in1.in1 X.stack s H ⟨[.ref a], []⟩ [.ref a] [.ref a] _ _ hr2 I.env0.in1.in1 hb (.cons rfl .nil) hsp) fun r s' hq => ?_)
  cases r with
  | error e => exact hq.elim
  | ok fl =>
    cases fl with
    | ret w =>
      obtain ⟨z, H', I', rz, y, ez, q⟩ := I.after hq
      subst ez
      obtain ⟨tk, rfl⟩ := rz
      exact ⟨.str y, H', I', ⟨tk, rfl⟩, q⟩
    | next => exact False.elim hq
    | brk => exact False.elim hq
    | cont => exact False.elim hq
end
end Vf

set_option Elab.async false
set_option linter.all false
set_option maxRecDepth 100000
set_option maxHeartbeats 2000000
namespace Vf
open PySem PySem.Spec PyProof.Rows L2
/-! ### ints and other values -/
/-- a value that is no integer -/
inductive Odd (H : Hp) : V → Prop where
  | bl (b : Bool) : Odd H (.bl b)
  | non : Odd H .non
  | str (z : Str) : Odd H (.str z)
  | tup {a : Addr} {xs : List V} (h : H a = some (.tup xs)) : Odd H (.ref a)
  | lst {a : Addr} {xs : List V} (h : H a = some (.lst xs)) : Odd H (.ref a)
  | dic {a : Addr} {kvs : List (Key × V)} (h : H a = some (.dK kvs)) : Odd H (.ref a)
theorem Odd.ext {H H' : Hp} {x : V} (o : Odd H x) (s : Same H H') : Odd H' x := by
  cases o with
  | bl b => exact .bl b
  | non => exact .non
  | str z => exact .str z
  | tup h => exact .tup (s _ _ h)
  | lst h => exact .lst (s _ _ h)
  | dic h => exact .dic (s _ _ h)
theorem odd_ty (K : PySem.W.Frag) {H : Hp} {x : V} (o : Odd H x) : ∃ (n : String) (b1 b2 : Bool), TyX K H x (.type n) ∧ kitB n "int" = some b1 ∧ kitB n "bool" = some b2 ∧ (b1 && !b2) = false := by
  cases o with
  | bl b => exact ⟨"bool", true, true, .base (.bl b), by decide +kernel, by decide +kernel, rfl⟩
  | non => exact ⟨"NoneType", false, false, .base .non, by decide +kernel, by decide +kernel, rfl⟩
  | str z => exact ⟨"str", false, false, .base (.str z), by decide +kernel, by decide +kernel, rfl⟩
  | tup h => exact ⟨"tuple", false, false, .base (.tup h), by decide +kernel, by decide +kernel, rfl⟩
  | lst h => exact ⟨"list", false, false, .base (.lst h), by decide +kernel, by decide +kernel, rfl⟩
  | dic h => exact ⟨"dict", false, false, .base (.dK h), by decide +kernel, by decide +kernel, rfl⟩
theorem int_ty (K : PySem.W.Frag) (H : Hp) (n : Int) : TyX K H (.int n) (.type "int") ∧ kitB "int" "int" = some true ∧ kitB "int" "bool" = some false :=
  ⟨.base (.int n), by decide +kernel, by decide +kernel⟩
/-- is_integer(x) -/
def spIsInt : Sp := fun vs H Q _ => ∃ x, vs = [x] ∧ (((∃ n, x = .int n) ∧ Q (.bl true) H) ∨ (Odd H x ∧ Q (.bl false) H))
def t_isint (K : PySem.W.Frag) : TS := tRet (tAndV (tCB (rIsi K) (tCons (tVar 0) (tCons (tC (.ty "int")) tNil))) (tNotV (tCB (rIsi K) (tCons (tVar 0) (tCons (tC (.ty "bool")) tNil)))))
theorem run_isint {K : PySem.W.Frag} {N : List Str} {vs : List V} {H : Hp} {Q : VK} {E : XK} (h : spIsInt vs H Q E) : t_isint K { nx := fun _ H' => Q .non H', rt := Q } (start N vs) H := by
  obtain ⟨x, rfl, h⟩ := h
  have s0 : (start N [x])[0]? = some (some x) := rfl
  rcases h with ⟨⟨n, rfl⟩, q⟩ | ⟨o, q⟩
  · obtain ⟨t1, k1, k2⟩ := int_ty K H n
    refine ⟨_, s0, _, .ty "int", _, .type "int", true, rfl, .ty _, t1, kit_ty k1, true, rfl, ?_⟩
    refine iteT ?_
    exact ⟨_, s0, _, .ty "bool", _, .type "bool", false, rfl, .ty _, t1, kit_ty k2, false, rfl, q⟩
  · obtain ⟨n, b1, b2, t1, k1, k2, e⟩ := odd_ty K o
    refine ⟨_, s0, _, .ty "int", _, .type "int", b1, rfl, .ty _, t1, kit_ty k1, b1, rfl, ?_⟩
    cases b1 with
    | false => exact iteF q
    | true =>
      cases b2 with
      | false => cases e
      | true =>
        refine iteT ?_
        exact ⟨_, s0, _, .ty "bool", _, .type "bool", true, rfl, .ty _, t1, kit_ty k2, true, rfl, q⟩
/-! ### the draws -/
/-- _law_cell(script, k): some int -/
def spCell (K : PySem.W.Frag) : Sp := fun vs H Q _ => ∃ (l : Addr) (ns : List Int) (j : Nat), vs = [.ref l, .int (j : Int)] ∧ SqL K H l (ns.map V.int) ∧ j < 1000 ∧ ∀ n : Int, Q (.int n) H
/-- _law_take(draw, size) -/
def spTake : Sp := fun vs H Q _ => ∃ (d : Addr) (n s : Int), vs = [.ref d, .int s] ∧ H d = some (.lst [.int n]) ∧ 0 < s ∧ s < 1073741824 ∧ ∀ r m : Int, 0 ≤ r → r < s → Q (.int r) (upd H d (.lst [.int m]))
theorem atI0 {α : Type} {x : α} {xs : List α} : atI (x :: xs) 0 = some x := by simp [atI, ixN]
theorem atI1 {α : Type} {x y : α} {xs : List α} : atI (x :: y :: xs) 1 = some y := by
  have h : ixN (x :: y :: xs).length 1 = some 1 := by
    unfold ixN
    rw [if_pos (by omega), if_pos (by simp only [List.length_cons]; omega)]
    rfl
  unfold atI
  rw [h]
  rfl
theorem ixN0 {n : Nat} : ixN (n + 1) 0 = some 0 := by
  unfold ixN
  rw [if_pos (by omega), if_pos (by omega)]
  all_goals rfl
abbrev rAddI : R2 := rI0 fun i j => .int (i + j)
abbrev rModI : R2 := rI (fun _ j => 0 < j) fun i j => .int (i % j)
end Vf

set_option Elab.async false
set_option linter.all false
set_option maxRecDepth 100000
set_option maxHeartbeats 2000000
namespace Vf
open PySem PySem.Spec PyProof.Rows L2
/-! ### own errors: class C(..): def __init__(self, f): self.f = f -/
def oexB (K : PySem.W.Frag) (C : Addr) : Bool := match K.lookup C with
  | some ⟨.type "type", _, .cls cd, sl⟩ => (match cd.mro, sl.toList with
    | .ref C' :: bm, [_, _, _, _, some (.builtin n), _] => C' == C && n == "ValueError.__new__" && !cd.hasDel && cd.hasDict && PySem.HandSPX.refsVE bm
    | _, _ => false)
  | _ => false
theorem oexB_ok {K : PySem.W.Frag} {C : Addr} (q : oexB K C = true) : ∃ nm qn N bs bm sn sub ab col dd k0 k1 k2 k3 k5, K.lookup C = some (excClassObj nm qn C N bs bm true sn sub ab col dd k0 k1 k2 k3 k5 "ValueError.__new__") ∧ PySem.HandSPX.refsVE bm = true := by
  unfold oexB at q
  split at q
  · rename_i dd cd sl ho
    split at q
    · rename_i C' bm k0 k1 k2 k3 n k5 hm hs
      simp only [Bool.and_eq_true, beq_iff_eq, Bool.not_eq_true'] at q
      obtain ⟨⟨⟨⟨e1, e2⟩, hdel⟩, hh⟩, hbm⟩ := q
      obtain ⟨nm, bs, mro, ns, qn, hd, sn, sub, ab, col, del⟩ := cd
      obtain ⟨l⟩ := sl
      dsimp only at hm hdel hh hs
      subst hm hdel hh hs e1 e2
      exact ⟨nm, qn, ns, bs, bm, sn, sub, ab, col, dd, k0, k1, k2, k3, k5, ho, hbm⟩
    · cases q
  · cases q
/-- what is told of the error class x whose __init__ keeps its argument as f -/
structure ExD (K : PySem.W.Frag) (x : Str) : Prop where
  o : OexC K (He.ga K x)
  gg : PySem.W.findIn K (.ref (He.ga K x)) "__getattr__" = some none
  ga : PySem.W.findIn K (.ref (He.ga K x)) "__getattribute__" = some (some (.builtin "BaseException.__getattribute__"))
  ha : PySem.W.findIn K (.ref (He.ga K x)) "__class__" = some (some (.builtin "object.__class__"))
  hm : PySem.W.mroIn K (He.ga K x) (.type "object") = some true
  hd : PySem.W.hasDictIn K (He.ga K x) = true
  hcl : (PySem.W.clsIn K (He.ga K x)).isSome = true
def exD (K : PySem.W.Frag) (x : Str) : Bool :=
  oexB K (He.ga K x) && (He.eqO (PySem.W.findIn K (.ref (He.ga K x)) "__setattr__") (some (some (.builtin "object.__setattr__"))) && (decide (PySem.W.subIn K (.ref (He.ga K x)) (.type "BaseException") = some true) && (decide (PySem.W.typeIn K (.ref (He.ga K x)) = some (.type "type")) && (PySem.W.keepIn K (.ref (He.ga K x)) &&
  (He.eqO (PySem.W.findIn K (.ref (He.ga K x)) "__getattr__") (some none) && (He.eqO (PySem.W.findIn K (.ref (He.ga K x)) "__getattribute__") (some (some (.builtin "BaseException.__getattribute__"))) && (He.eqO (PySem.W.findIn K (.ref (He.ga K x)) "__class__") (some (some (.builtin "object.__class__"))) &&
  (decide (PySem.W.mroIn K (He.ga K x) (.type "object") = some true) && (PySem.W.hasDictIn K (He.ga K x) && (PySem.W.clsIn K (He.ga K x)).isSome)))))))))
theorem exD_ok {K : PySem.W.Frag} {x : Str} (h : exD K x = true) : ExD K x := by
  obtain ⟨h1, h⟩ := He.ba h
  obtain ⟨h2, h⟩ := He.ba h
  obtain ⟨h3, h⟩ := He.ba h
  obtain ⟨h4, h⟩ := He.ba h
  obtain ⟨h5, h⟩ := He.ba h
  obtain ⟨h6, h⟩ := He.ba h
  obtain ⟨h7, h⟩ := He.ba h
  obtain ⟨h8, h⟩ := He.ba h
  obtain ⟨h9, h⟩ := He.ba h
  obtain ⟨h10, h11⟩ := He.ba h
  exact ⟨⟨oexB_ok h1, He.eqO_ok h2, of_decide_eq_true h3, of_decide_eq_true h4, h5⟩, He.eqO_ok h6, He.eqO_ok h7, He.eqO_ok h8, of_decide_eq_true h9, h10, h11⟩
/-- .. with its __init__ and its field f -/
structure ExI (K : PySem.W.Frag) (x f : Str) : Prop where
  d : ExD K x
  i : PySem.W.findIn K (.ref (He.ga K x)) "__init__" = some (some (.ref (He.fAd K (x, some "__init__"))))
  t : PySem.W.typeIn K (.ref (He.fAd K (x, some "__init__"))) = some (.type "function")
  n : PySem.W.findIn K (.ref (He.ga K x)) f = some none
def exI (K : PySem.W.Frag) (x f : Str) : Bool :=
  exD K x && (He.eqO (PySem.W.findIn K (.ref (He.ga K x)) "__init__") (some (some (.ref (He.fAd K (x, some "__init__"))))) && (decide (PySem.W.typeIn K (.ref (He.fAd K (x, some "__init__"))) = some (.type "function")) && He.eqO (PySem.W.findIn K (.ref (He.ga K x)) f) (some none)))
theorem exI_ok {K : PySem.W.Frag} {x f : Str} (h : exI K x f = true) : ExI K x f := by
  obtain ⟨h1, h⟩ := He.ba h
  obtain ⟨h2, h⟩ := He.ba h
  obtain ⟨h3, h4⟩ := He.ba h
  exact ⟨exD_ok h1, He.eqO_ok h2, of_decide_eq_true h3, He.eqO_ok h4⟩
/-- the __init__: self.f = v -/
def spExI (K : PySem.W.Frag) (C : Addr) (f : Str) : Sp := fun vs H Q _ => ∃ (a : Addr) (v : V), vs = [.ref a, v] ∧ OexC K C ∧ PySem.W.findIn K (.ref C) f = some none ∧ H a = some (exo a C none) ∧
  ∀ dx, H dx = none → dx ≠ a → Q .non (upd (upd H dx (exd dx [(f, v)])) a (exo a C (some dx)))
theorem run_exI {K : PySem.W.Frag} {C : Addr} {f : Str} {N : List Str} {vs : List V} {H : Hp} {Q : VK} {E : XK} (h : spExI K C f vs H Q E) : tOst K f (tVar 0) (tVar 1) { nx := fun _ H' => Q .non H', rt := Q } (start N vs) H := by
  obtain ⟨a, v, rfl, T, hn, ea, q⟩ := h
  have s0 : (start N [.ref a, v])[0]? = some (some (.ref a)) := rfl
  have s1 : (start N [.ref a, v])[1]? = some (some v) := rfl
  exact ⟨_, s1, _, s0, a, C, rfl, T, hn, .inl ⟨ea, fun dx h1 h2 => q dx h1 h2⟩⟩
/-- the heap behind the making: the error's own dict alone is new -/
theorem exc_heap {H : Hp} {a d : Addr} {o1 o2 o3 o4 : HO} (ha : H a = none) (hda : d ≠ a) : upd (del (upd (upd (upd H a o1) d o2) a o3) a) d o4 = upd H d o4 := by
  funext b
  by_cases h1 : b = d
  · rw [h1, upd_same, upd_same]
  · rw [upd_ne h1, upd_ne h1]
    by_cases h2 : b = a
    · rw [h2, del_same, ha]
    · rw [del_ne h2, upd_ne h2, upd_ne h1, upd_ne h2]
theorem pa_weak {X : Cx} {es : List Expr} {ta : TA} (ha : PA X es ta) : PA X es (fun σ H Q => ∃ R, ta σ H R ∧ ∀ vs H1, R vs H1 → Q vs H1) := ⟨fun pos pins s σ H Q I h => by
  obtain ⟨R, h1, h2⟩ := h
  exact thn (ha.run pos pins s σ H R I h1) fun us s1 ⟨vs, H1, I1, r, q⟩ => ⟨vs, H1, I1, r, h2 _ _ q⟩⟩
section
variable {X : Cx} {CX : CXT} {k j : Nat} {ps : List Str} {x f : Str} {p pos pos2 : Pos} {e : Expr} {es : List Expr} {ta : TA} {W : WX}
/-- raise C(e): the error's dict, new, holds f -/
def tRaiseI (C : Addr) (f : Str) (W : WX) (ta : TA) : TS := fun _ σ H => ta σ H fun vs H1 => ∃ v, vs = [v] ∧ ∀ d, H1 d = none → W (.ref C) (some d) σ (upd H1 d (.xd [(f, v)]))
theorem c_raise (T : ExI X.K x f) (O : OkD X.prog X.w X.K X.mg X.base CX0 k (x, some "__init__") ps [] (spExI X.K (He.ga X.K x) f)) (hr : Room j X.A) (hj : k + 1 ≤ j) (hm : X.mg x = some (.ref (He.ga X.K x))) (tk : Takes X W) (ha : PA X (e :: es) ta) (hc : X.calm = true := by rfl) (hg : Gl X x := by rfl)
    (hdb : (x == ("__debug__" : Str)) = false := by decide) (he : starEach (e :: es) X.env = (false, eval e X.env) :: starEach es X.env := by rfl) (hpl : (backTo pos (starEach es X.env)).any (·.1) = false := by rfl) :
    PS X (.Raise (some (.Call (.Name x p) (e :: es) [] pos)) none pos2) (tRaiseI (He.ga X.K x) f W ta) := by
  obtain ⟨fd, ds, F, b, v⟩ := O.ex
  cases v
  refine ⟨fun pins s σ H D I h => (ps_raise hc tk (pmk_oex (p := p) T.d.o T.i T.t F (hr.mono hj) b .nil pass0 hg hm (pa_weak ha) hdb he hpl)).run pins s σ H D I ?_⟩
  refine ⟨_, h, fun vs H1 z => ?_⟩
  obtain ⟨v, rfl, q⟩ := z
  refine ⟨(by show 1 ≤ 1000; decide), fun a na => ⟨a, v, rfl, T.d.o, T.n, upd_same, fun dx h1 h2 => ?_⟩⟩
  have hdx : H1 dx = none := by
    rw [upd_ne h2] at h1
    exact h1
  refine ⟨rfl, dx, [(f, v)], upd_same, ?_, hdx, ?_⟩
  · rw [upd_ne h2, upd_same]
  · rw [exc_heap na h2]
    exact q dx hdx
end
/-! ### isinstance(e, c) of a caught error -/
section
variable {X : Cx}
theorem call_isiE {a D : Addr} {d : Option Addr} {oe : Obj} {pn : List (Addr × Obj)} {x : Str} (hD : D = He.ga X.K x) (T : ExD X.K x) (hn : PySem.W.specialIn X.K (.builtin "object.__class__") "__get__" = some (some (.builtin "getset_descriptor.__get__")))
    (ht : PySem.W.takesIn X.K (.builtin "object.__class__") = some true) {cls : Value} (hz : Zc cls d oe) (hf : ∃ vs, oe.data = .fields vs) : CallR (X.suite a ((a, oe) :: pn)) (.builtin "isinstance")
      (fun xs H Q => ∃ (c : V) (cv : Value) (b : Bool), xs = [.ref a, c] ∧ cls = .ref D ∧ ClsV c cv ∧ PySem.W.kitOne X.K (.ref D) cv = some b ∧ (∃ dd fs, d = some dd ∧ H dd = some (.xd fs)) ∧ Q (.bl b) H) := by
  subst hD
  intro pins s σ H xs us Q I r h
  obtain ⟨c, cv, b, rfl, ec, hcv, e, ⟨dd, fs, ed, hdd⟩, q⟩ := h
  obtain ⟨u1, u2, rfl, r1, r2⟩ := vals2 r
  have e2 := hcv.eq r2
  subst e2
  cases r1
  obtain ⟨hget, _⟩ := I.pin (a, oe) (List.mem_append.mpr (.inl List.mem_cons_self))
  obtain ⟨vs, hv⟩ := hf
  subst ed ec
  obtain ⟨mA, ⟨od, es, ep, ho, _⟩, _⟩ := (show ObjOk X.prog X.w H s.heap dd (.xd fs) from I.hok dd _ hdd)
  have J : PySem.W.InstAt s.heap a oe (He.ga X.K x) (some od) := by
    obtain ⟨oc, odd, oda, osl⟩ := oe
    obtain ⟨h1, h2⟩ := hz
    dsimp only at h1 h2 hv
    subst h1 h2 hv
    exact ⟨hget, rfl, rfl, ho⟩
  exact PySem.W.kia_one (PySem.W.kitx_exc T.hcl T.ga T.gg T.o.exC T.ha hn ht T.hm) I.kIn J e (fun z => nomatch z) fun tk => ⟨.bl b, H, I.kept (t' := tk) fun _ _ z => z, rfl, q⟩
end
/-! ### the head's hook: any Bool over the written part, the defs -/
abbrev AlM : Type := Bool × List He.FnW
def obsM (ex : PySem.W.Frag → Bool) (fn : List He.DefD) (K : PySem.W.Frag) : AlM := (ex K && fn.all fun d => d.ok K, fn.map fun d => He.fnW K d.at_)
def SaysM (ex : PySem.W.Frag → Bool) (fn : List He.DefD) (K : PySem.W.Frag) : Prop := obsM ex fn K = (true, fn.map He.DefD.val)
def obsMG (n : Nat) (ex : PySem.W.Frag → Bool) (fn : List He.DefD) (g : Addr → Option Obj) : AlM := obsM ex fn (He.frG g (He.asD g n))
def hookM (n : Nat) (ex : PySem.W.Frag → Bool) (fn : List He.DefD) : PySem.W.Hook where
  α := AlM
  obs := fun s => obsMG n ex fn s.heap.get?
  val := fun _ => (true, fn.map He.DefD.val)
  says := fun _ h => ∃ K : PySem.W.Frag, K.In h ∧ SaysM ex fn K
  of := fun _ _ e => ⟨_, He.frG_in, e⟩
  keeps := fun _ _ _ ⟨K, hK, c⟩ k => ⟨K, PySem.W.Frag.In.keeps hK k, c⟩
theorem obsMG_eq {n : Nat} {ex : PySem.W.Frag → Bool} {fn : List He.DefD} {g : Addr → Option Obj} {s : Shared} (h : ∀ a, g a = s.heap.get? a) : obsMG n ex fn g = (hookM n ex fn).obs s := by
  have e : g = s.heap.get? := funext h
  rw [e]
  rfl
theorem SaysM.ex {ex : PySem.W.Frag → Bool} {fn : List He.DefD} {K : PySem.W.Frag} (c : SaysM ex fn K) : ex K = true := (He.ba (congrArg (fun z : AlM => z.1) c)).1
theorem SaysM.fn {ex : PySem.W.Frag → Bool} {fn : List He.DefD} {K : PySem.W.Frag} (c : SaysM ex fn K) (i : Nat) {d : He.DefD} (h : fn[i]? = some d := by rfl) : ∃ fd, FunD K d.name d.qual d.params d.body d.scope (d.dvs K) (d.kws K) (He.fAd K d.at_) fd := by
  have c2 := (He.ba (congrArg (fun z : AlM => z.1) c)).2
  have e : fn.map (fun d => He.fnW K d.at_) = fn.map He.DefD.val := congrArg (fun z : AlM => z.2) c
  have e2 : He.fnW K d.at_ = d.val := by
    have e3 : (fn.map fun d => He.fnW K d.at_)[i]? = (fn.map He.DefD.val)[i]? := by rw [e]
    simp only [List.getElem?_map, h, Option.map_some] at e3
    exact Option.some.inj e3
  exact He.DefD.funD e2 (List.all_eq_true.mp c2 d (List.mem_of_getElem? h))

end Vf

set_option Elab.async false
set_option linter.all false
set_option maxRecDepth 100000
set_option maxHeartbeats 2000000
namespace Vf
open PySem PySem.Spec PyProof.Rows L2
/-! ### Euclid's loop -/
def Eu (g B i x y : Nat) : Prop := Nat.gcd x y = g ∧ ((i % 2 = 0 ∧ y * 2 ^ (i / 2) ≤ B) ∨ (i % 2 = 1 ∧ y < x ∧ x * 2 ^ (i / 2) ≤ B))
theorem Eu.start (x y : Nat) : Eu (Nat.gcd x y) y 0 x y := ⟨rfl, .inl ⟨rfl, by simp⟩⟩
theorem Eu.step {g B i x y : Nat} (h : Eu g B i x y) (hy : y ≠ 0) : Eu g B (i + 1) y (x % y) := by
  obtain ⟨hg, h⟩ := h
  have hg2 : Nat.gcd y (x % y) = g := by
    rw [← hg, Nat.gcd_comm x y, Nat.gcd_rec y x, Nat.gcd_comm]
  have hlt : x % y < y := Nat.mod_lt x (by omega)
  refine ⟨hg2, ?_⟩
  rcases h with ⟨he, hb⟩ | ⟨ho, hxy, hb⟩
  · refine .inr ⟨by omega, hlt, ?_⟩
    have e : (i + 1) / 2 = i / 2 := by omega
    rw [e]
    exact hb
  · refine .inl ⟨by omega, ?_⟩
    have e : (i + 1) / 2 = i / 2 + 1 := by omega
    have hd := Nat.div_add_mod x y
    have h1 : 1 ≤ x / y := Nat.div_pos (by omega) (by omega)
    have h2 : y * 1 ≤ y * (x / y) := Nat.mul_le_mul_left y h1
    have h3 : 2 * (x % y) ≤ x := by omega
    rw [e, Nat.pow_succ]
    calc x % y * (2 ^ (i / 2) * 2) = (2 * (x % y)) * 2 ^ (i / 2) := by rw [Nat.mul_comm (2 ^ (i / 2)) 2, ← Nat.mul_assoc, Nat.mul_comm (x % y) 2]
      _ ≤ x * 2 ^ (i / 2) := Nat.mul_le_mul_right _ h3
      _ ≤ B := hb
theorem Eu.last {g B x y : Nat} (h : Eu g B 500 x y) (hB : B < 2 ^ 250) : x = g := by
  obtain ⟨hg, h⟩ := h
  rcases h with ⟨_, hb⟩ | ⟨ho, _⟩
  · have e : (500 : Nat) / 2 = 250 := rfl
    rw [e] at hb
    have hy : y = 0 := by
      rcases Nat.eq_zero_or_pos y with h0 | h0
      · exact h0
      · exfalso
        have : 1 * 2 ^ 250 ≤ y * 2 ^ 250 := Nat.mul_le_mul_right _ h0
        omega
    rw [hy, Nat.gcd_zero_right] at hg
    exact hg
  · omega
theorem Eu.zero {g B i x : Nat} (h : Eu g B i x 0) : x = g := by
  have hg := h.1
  rw [Nat.gcd_zero_right] at hg
  exact hg
/-! ### lowest terms -/
def nG (t b : Int) : Int := ((Nat.gcd t.natAbs b.natAbs : Nat) : Int)
def nC (t b : Int) : Int := if b < 0 then -(nG t b) else nG t b
def nT (t b : Int) : Int := t.fdiv (nC t b)
def nB (t b : Int) : Int := b.fdiv (nC t b)
/-- a and b are t over b' in lowest terms -/
structure Nf (a b : Int) : Prop where
  pos : 0 < b
  cop : Nat.gcd a.natAbs b.natAbs = 1
structure NfOf (t u a b : Int) : Prop extends Nf a b where
  eq : a * u = t * b
  le1 : a.natAbs ≤ t.natAbs
  le2 : b.natAbs ≤ u.natAbs
theorem nG_pos {t b : Int} (hb : b ≠ 0) : 0 < nG t b := by
  have : 0 < Nat.gcd t.natAbs b.natAbs := Nat.gcd_pos_of_pos_right _ (by omega)
  unfold nG
  omega
theorem nC_abs (t b : Int) : (nC t b).natAbs = Nat.gcd t.natAbs b.natAbs := by
  unfold nC nG
  split <;> omega
theorem nC_ne {t b : Int} (hb : b ≠ 0) : nC t b ≠ 0 := by
  have := nG_pos (t := t) hb
  unfold nC
  split <;> omega
theorem nC_dvd1 (t b : Int) : nC t b ∣ t := by
  rw [← Int.natAbs_dvd_natAbs, nC_abs]
  exact Nat.gcd_dvd_left _ _
theorem nC_dvd2 (t b : Int) : nC t b ∣ b := by
  rw [← Int.natAbs_dvd_natAbs, nC_abs]
  exact Nat.gcd_dvd_right _ _
theorem nT_mul (t b : Int) : nT t b * nC t b = t := Int.fdiv_mul_cancel (nC_dvd1 t b)
theorem nB_mul (t b : Int) : nB t b * nC t b = b := Int.fdiv_mul_cancel (nC_dvd2 t b)
theorem nf_of (t : Int) {b : Int} (hb : b ≠ 0) : NfOf t b (nT t b) (nB t b) := by
  have e1 := nT_mul t b
  have e2 := nB_mul t b
  have hc := nC_ne (t := t) hb
  have ga := nC_abs t b
  have g0 : 0 < Nat.gcd t.natAbs b.natAbs := Nat.gcd_pos_of_pos_right _ (by omega)
  have a1 : (nT t b).natAbs * Nat.gcd t.natAbs b.natAbs = t.natAbs := by rw [← ga, ← Int.natAbs_mul, e1]
  have a2 : (nB t b).natAbs * Nat.gcd t.natAbs b.natAbs = b.natAbs := by rw [← ga, ← Int.natAbs_mul, e2]
  refine ⟨⟨?_, ?_⟩, ?_, ?_, ?_⟩
  · rcases (show 0 < nB t b ∨ nB t b ≤ 0 by omega) with h | h
    · exact h
    · exfalso
      by_cases hn : b < 0
      · have hc2 : nC t b < 0 := by
          have := nG_pos (t := t) hb
          unfold nC
          rw [if_pos hn]
          omega
        have := Int.mul_nonneg_of_nonpos_of_nonpos h (Int.le_of_lt hc2)
        omega
      · have hc2 : 0 < nC t b := by
          have := nG_pos (t := t) hb
          unfold nC
          rw [if_neg hn]
          omega
        have := Int.mul_nonpos_of_nonpos_of_nonneg h (Int.le_of_lt hc2)
        omega
  · have h := Nat.gcd_mul_right (nT t b).natAbs (Nat.gcd t.natAbs b.natAbs) (nB t b).natAbs
    rw [a1, a2] at h
    have h2 : 1 * Nat.gcd t.natAbs b.natAbs = Nat.gcd (nT t b).natAbs (nB t b).natAbs * Nat.gcd t.natAbs b.natAbs := by rw [Nat.one_mul]; exact h
    exact (Nat.eq_of_mul_eq_mul_right g0 h2).symm
  · calc nT t b * b = nT t b * (nB t b * nC t b) := by rw [e2]
      _ = (nT t b * nC t b) * nB t b := by rw [Int.mul_comm (nB t b), Int.mul_assoc]
      _ = t * nB t b := by rw [e1]
  · calc (nT t b).natAbs = (nT t b).natAbs * 1 := by rw [Nat.mul_one]
      _ ≤ (nT t b).natAbs * Nat.gcd t.natAbs b.natAbs := Nat.mul_le_mul_left _ g0
      _ = t.natAbs := a1
  · calc (nB t b).natAbs = (nB t b).natAbs * 1 := by rw [Nat.mul_one]
      _ ≤ (nB t b).natAbs * Nat.gcd t.natAbs b.natAbs := Nat.mul_le_mul_left _ g0
      _ = b.natAbs := a2
/-- bits: below 2 ^ n -/
def Bit (n : Nat) (x : Int) : Prop := x.natAbs < 2 ^ n
theorem Bit.mono {n m : Nat} {x : Int} (h : Bit n x) (l : n ≤ m) : Bit m x := Nat.lt_of_lt_of_le h (Nat.pow_le_pow_right (by decide) l)
theorem Bit.le {n : Nat} {x y : Int} (h : Bit n y) (l : x.natAbs ≤ y.natAbs) : Bit n x := Nat.lt_of_le_of_lt l h
theorem Bit.mul {n m : Nat} {x y : Int} (h : Bit n x) (h' : Bit m y) : Bit (n + m) (x * y) := by
  unfold Bit
  rw [Int.natAbs_mul, Nat.pow_add]
  exact Nat.mul_lt_mul'' h h'
theorem Bit.add {n : Nat} {x y : Int} (h : Bit n x) (h' : Bit n y) : Bit (n + 1) (x + y) := by
  unfold Bit at *
  rw [Nat.pow_succ]
  omega
theorem Bit.sub {n : Nat} {x y : Int} (h : Bit n x) (h' : Bit n y) : Bit (n + 1) (x - y) := by
  unfold Bit at *
  rw [Nat.pow_succ]
  omega
theorem Bit.neg {n : Nat} {x : Int} (h : Bit n x) : Bit n (-x) := by
  unfold Bit at *
  omega
theorem Bit.log {n m : Nat} {x : Int} (h : Bit n x) (h0 : 0 < n) (hm : n ≤ m) : x.natAbs.log2 < m := Nat.lt_of_lt_of_le (PySem.Flt.log2_lt_of h0 h) hm
theorem Bit.wm {n m : Nat} {x y : Int} (h : Bit n x) (h' : Bit m y) (h0 : 0 < n) (h1 : 0 < m) (l : n + m ≤ 1000000) : CMulW x y := wide_mul h h' h0 h1 l
end Vf

set_option Elab.async false
set_option linter.all false
set_option maxRecDepth 100000
set_option maxHeartbeats 2000000
namespace Vf
open PySem PySem.Spec PyProof.Rows L2
section
open PySem.W PySem.Calls
variable {prog : Program} {w : World} {A : Around} {E : Value → Shared → Prop} {s : Shared} {K : Frag} {x C f f0 L : Addr} {h₀ : Heap} {m : Str → Option Value} {ox : Obj} {od : Option Obj} {nm : String}
/-- a slot of int that is handed an instance of the text's own declines -/
theorem int_no {n : Int} {t : Tok} {name : String} {g : Int → Int → Sem Fin} {refl : Bool} (hd : ox.data = .plain) (hx : s.heap.get? x = some ox) {Q : Fin → Shared → Prop}
    (h : Q (.done (.ret .notImplemented)) s) : wpAny (model prog w) A (PySem.Builtin.Int.intBinary name g refl ⟨[.int n t, .ref x], []⟩) Q E s := by
  obtain ⟨hp, gg, d, tk, os⟩ := s
  obtain ⟨oc, odd, oda, osl⟩ := ox
  dsimp only at hd
  subst hd
  unfold PySem.Builtin.Int.intBinary
  wp_walk using AutoSeq1.wpAny_loadPart' hx
  exact h
/-- B declines an instance of the text's own -/
def Declines (B : Builtin) : Prop := ∀ (prog : Program) (w : World) (A : Around) (E : Value → Shared → Prop) (s : Shared) (n : Int) (t : Tok) (x : Addr) (ox : Obj) (Q : Fin → Shared → Prop), ox.data = .plain → s.heap.get? x = some ox → Q (.done (.ret .notImplemented)) s → wpAny (model prog w) A (B ⟨[.int n t, .ref x], []⟩) Q E s
theorem decl_bin (name : String) (g : Int → Int → Sem Fin) (r : Bool) : Declines (PySem.Builtin.Int.intBinary name g r) := fun _ _ _ _ _ _ _ _ _ _ hd hx h => int_no hd hx h
theorem decl_fdv : Declines PySem.Builtin.«int.__floordiv__» := fun prog w A E s n t x ox Q hd hx h => by
  obtain ⟨hp, gg, d, tk, os⟩ := s
  obtain ⟨oc, odd, oda, osl⟩ := ox
  dsimp only at hd
  subst hd
  unfold PySem.Builtin.«int.__floordiv__» PySem.Builtin.exactOperandsForPylong
  have k := fun g => int_no (prog := prog) (w := w) (A := A) (E := E) (n := n) (t := t) (name := "__floordiv__") (g := g) (refl := false) (s := ⟨hp, gg, d, tk, os⟩) rfl hx h
  wp_walk using AutoSeq1.wpAny_loadPart' hx
  all_goals first | exact k _ | exact h
/-- n op x, n an int, x an instance of the text's own: int's slot declines, the reflected one of x's class is asked -/
theorem bin_int_own {op : Operator} {n : Int} {t : Tok} {id : String} {B : Builtin} {Q : Value → Shared → Prop} (X : K.In s.heap) (I : InstAt s.heap x ox C od) (hp : ox.data = .plain) (hc : selfFirst K C = true)
    (hs : findIn K (.ref C) (PySem.dunder op.info.2) = some (some (.ref f0))) (hr : findIn K (.ref C) (dunderR op.info.2) = some (some (.ref f))) (hf : isFn K (.ref f) = true) (hm : mroIn K C (.type "int") = some false)
    (hfT : fillsNumberSlot (.type "int") op.info.2 = pure true) (slot : Slot "int" (PySem.dunder op.info.2) id) (entry : entryFor table id = some B) (ha : argsOk id ⟨[.int n t, .ref x], []⟩)
    (hB : Declines B)
    (h : wpAny (model prog w) A (call (.ref f) [.ref x, .int n t]) (PySem.W.CmpBack Q) E s) : wpAny (model prog w) A (binaryOp op (.int n t) (.ref x)) Q E s := by
  obtain ⟨cd, rest, hcd, hmro⟩ := ksp_first hc
  rcases hi : op.info with ⟨sym, nm'⟩
  rw [hi] at hs hr slot hfT
  dsimp only at hs hr slot hfT
  have one := ksp_try X I hr hf h
  have two : wpAny (model prog w) A (tryMethod (.int n t) (PySem.dunder nm') (.ref x)) (fun r s' => r = none ∧ s' = s) E s :=
    wpAny_tryMethod_declines (typeIs_int s n t) slot (wpAny_call_entry slot (typeIs_int s n t) entry (hB _ _ _ _ _ _ _ _ _ _ hp I.at_ ⟨_, rfl, rfl, rfl, rfl⟩) ha)
  obtain ⟨hh, gg, d, tt, os⟩ := s
  have L1 : Looks (model prog w) hh (typeOf (.int n t)) (.type "int") := Looks.of_pure rfl
  have L2 : Looks (model prog w) hh (typeOf (.ref x)) (.ref C) := I.type
  have L3 : Looks (model prog w) hh (fillsNumberSlot (.type "int") nm') true := Looks.of_pure hfT
  have L4 : Looks (model prog w) hh (fillsNumberSlot (.ref C) nm') true := fills_K X hcd hmro hs
  have L5 : Looks (model prog w) hh (isSubtype (.ref C) (.type "int")) false := looks_mroIn X hm
  have L6 : Looks (model prog w) hh (numberSlotInPython (.type "int") nm') false := Looks.of_pure rfl
  have hne : (Value.type "int" == Value.ref C) = false := Bool.eq_false_iff.mpr fun q => by cases beq_iff_eq.mp q
  simp only [binaryOp, hi]
  refine wpAny_holding (wpAny_bind ?_)
  unfold binaryOp1
  refine wpAny_bind (L1.at (wpAny_bind (L2.at (wpAny_bind (L3.at ?_)))))
  simp only [hne, Bool.false_eq_true, if_false]
  ksp_lk
  refine wpAny_mono two (fun r s' hr' => ?_) fun _ _ e => e
  obtain ⟨rfl, rfl⟩ := hr'
  ksp_lk
  refine wpAny_mono one (fun r s' hr' => ?_) fun _ _ e => e
  obtain ⟨v, rfl, hq⟩ := hr'
  ksp_lk
  exact hq
/-- n ? x for a comparison: int's slot declines, the swapped one of x's class is asked -/
theorem cmp_int_own {op : CmpOp} {n : Int} {t : Tok} {id : String} {B : Builtin} {Q : Value → Shared → Prop} (hu : A.units < cLine) (X : K.In s.heap) (I : InstAt s.heap x ox C od) (hp : ox.data = .plain)
    (hr : findIn K (.ref C) (cmpInfo op).2.2 = some (some (.ref f))) (hf : isFn K (.ref f) = true) (hm : mroIn K C (.type "int") = some false)
    (slot : Slot "int" (cmpInfo op).2.1 id) (entry : entryFor table id = some B) (ha : argsOk id ⟨[.int n t, .ref x], []⟩) (hB : Declines B)
    (h : wpAny (model prog w) A (call (.ref f) [.ref x, .int n t]) (PySem.W.CmpBack Q) E s) : wpAny (model prog w) A (richCompare op (.int n t) (.ref x)) Q E s := by
  have one : wpAny (model prog w) A (tryCompare (.ref x) (cmpInfo op).2.2 (.int n t)) (fun r s' => ∃ v, r = some v ∧ Q v s') E s := by
    unfold tryCompare
    refine wpAny_bind (ifBound_K X I hr hf (wpAny_mono h (fun v s' hv => ?_) fun _ _ e => e))
    cases v <;> first | exact hv.elim | exact wpAny_pure ⟨_, rfl, hv⟩
  have two : wpAny (model prog w) A (tryCompare (.int n t) (cmpInfo op).2.1 (.ref x)) (fun r s' => r = none ∧ s' = s) E s :=
    wpAny_tryCompare_declines (typeIs_int s n t) slot (wpAny_call_entry slot (typeIs_int s n t) entry (hB _ _ _ _ _ _ _ _ _ _ hp I.at_ ⟨_, rfl, rfl, rfl, rfl⟩) ha)
  have ot : oneThing? op (.int n t) (.ref x) = none := rfl
  have hne : (Value.type "int" != Value.ref C) = true := bne_iff_ne.mpr fun q => by cases q
  unfold richCompare
  simp only [ot]
  refine wpAny_holding (wpAny_bind (wpAny_cRoomFor hu ?_))
  refine wpAny_bind ((Looks.of_pure rfl : Looks (model prog w) s.heap (typeOf (.int n t)) (.type "int")).here (wpAny_bind (I.type.here ?_)))
  simp only [hne, if_true]
  refine wpAny_bind ((looks_mroIn X hm).here ?_)
  simp only [Bool.false_eq_true, if_false]
  refine wpAny_bind (wpAny_mono two (fun r s' z => ?_) fun _ _ e => e)
  obtain ⟨rfl, rfl⟩ := z
  simp only [Bool.not_false, if_true]
  refine wpAny_bind (wpAny_mono one (fun r s' z => ?_) fun _ _ e => e)
  obtain ⟨v, rfl, hq⟩ := z
  exact wpAny_pure hq
end
/-! ### readings over the layer -/
section
variable {X : Cx} {CX : CXT} {k j : Nat} {C : Addr} {cn m : Str} {ps : List Str} {sp : Sp} {E : XK}
theorem back_of {pins : List (Addr × Obj)} {σ : L2.St} {Q : VK} {u : Value} {s' : Shared} (h : EP X pins σ Q u s') : PySem.W.CmpBack (EP X pins σ Q) u s' := by
  obtain ⟨v, H', I, r, q⟩ := id h
  cases v with
  | non => cases (show u = Value.none from r); exact h
  | bl b => cases (show u = Value.bool b from r); exact h
  | int i => obtain ⟨t, e⟩ := (show ∃ t, u = Value.int i t from r); cases e; exact h
  | str z => obtain ⟨t, e⟩ := (show ∃ t, u = Value.str z t from r); cases e; exact h
  | byt z => obtain ⟨t, e⟩ := (show ∃ t, u = Value.bytes z t from r); cases e; exact h
  | flt z => obtain ⟨t, e⟩ := (show ∃ t, u = Value.float z t from r); cases e; exact h
  | ref a => cases (show u = Value.ref a from r); exact h
  | ty n => cases (show u = Value.type n from r); exact h
/-- a method of the text's own asked by the machine, at the running body's own depth -/
theorem run_own {f : Addr} {fd : FuncData} {pins : List (Addr × Obj)} {σ : L2.St} {H : Hp} {s : Shared} {Q : VK} {us : List Value} {vs : List V} (F : FnOk X.prog X.w X.K X.mg X.base CX k f fd ps sp) (hr : Room k X.A) (hb : L2.Binds X.K fd ps []) (hx : Passes CX X E)
    (I : L2.Inv X pins σ H s) (r : Vals vs us) (h : sp vs H Q E) : wpAny (model X.prog X.w) X.A (call (.ref f) us) (PySem.W.CmpBack (EP X pins σ Q)) X.xe s :=
  wpAny_mono (run_fn F hr hb .nil hx I r (by rw [List.append_nil]; exact h)) (fun _ _ z => back_of z) fun _ _ z => z
/-- o op p, both of the class at C -/
def rOO (C : Addr) (sp : Sp) (E : XK) : R2 := fun x y H Q => ∃ a b dx dy fs gs, x = .ref a ∧ y = .ref b ∧ H a = some (.ins C dx fs) ∧ H b = some (.ins C dy gs) ∧ sp [x, y] H Q E
/-- o op n, n an int -/
def rOI (C : Addr) (sp : Sp) (E : XK) : R2 := fun x y H Q => ∃ a n dx fs, x = .ref a ∧ y = .int n ∧ H a = some (.ins C dx fs) ∧ sp [x, y] H Q E
/-- n op o, n an int: the reflected method -/
def rIO (C : Addr) (sp : Sp) (E : XK) : R2 := fun x y H Q => ∃ n b dx fs, x = .int n ∧ y = .ref b ∧ H b = some (.ins C dx fs) ∧ sp [y, x] H Q E
theorem op_oo {op : Operator} (hd : PySem.dunder op.info.2 = m) (M : Meth X.K C m (He.fAd X.K (cn, some m))) (hc : PySem.W.selfFirst X.K C = true) (O : OkD X.prog X.w X.K X.mg X.base CX k (cn, some m) ps [] sp) (hr : Room j X.A) (hj : k ≤ j) (hx : Passes CX X E) : OpR X (binaryOp op) (rOO C sp E) := by
  obtain ⟨fd, ds, F, b, v⟩ := O.ex
  cases v
  intro pins s σ H x y v u Q I rx ry h
  obtain ⟨a, b', dx, dy, fs, gs, rfl, rfl, ha, hb, hsp⟩ := h
  cases rx
  cases ry
  obtain ⟨mA, J, _⟩ := ins_get I.hok ha
  obtain ⟨mB, J', _⟩ := ins_get I.hok hb
  obtain ⟨od, J, _⟩ := J.look
  obtain ⟨od', J', _⟩ := J'.look
  obtain ⟨mm, hF⟩ := I.fr
  exact PySem.W.binop_K hF I.ok.mod.kin J J'.type hc (by rw [hd]; exact M.at_) M.fn (run_own (vs := [V.ref a, V.ref b']) F (hr.mono hj) b hx I (.cons rfl (.cons rfl .nil)) hsp)
theorem op_oi {op : Operator} {fo ro rc : Option Value} (hd : PySem.dunder op.info.2 = m) (M : Meth X.K C m (He.fAd X.K (cn, some m))) (hc : PySem.W.selfFirst X.K C = true) (h2 : PySem.W.findIn X.K (.ref C) (dunderR op.info.2) = some rc) (hp : rc = none ∨ ∃ g : Addr, rc = some (.ref g))
    (h3 : PySem.W.findIn X.K (.type "int") (PySem.dunder op.info.2) = some fo) (h4 : PySem.W.findIn X.K (.type "int") (dunderR op.info.2) = some ro) (h5 : PySem.W.subIn X.K (.type "int") (.ref C) = some false)
    (O : OkD X.prog X.w X.K X.mg X.base CX k (cn, some m) ps [] sp) (hr : Room j X.A) (hj : k ≤ j) (hx : Passes CX X E) : OpR X (binaryOp op) (rOI C sp E) := by
  obtain ⟨fd, ds, F, b, v⟩ := O.ex
  cases v
  intro pins s σ H x y v u Q I rx ry h
  obtain ⟨a, n, dx, fs, rfl, rfl, ha, hsp⟩ := h
  cases rx
  obtain ⟨t, rfl⟩ := ry
  obtain ⟨mA, J, _⟩ := ins_get I.hok ha
  obtain ⟨od, J, _⟩ := J.look
  obtain ⟨mm, hF⟩ := I.fr
  exact PySem.W.ksp_binT hF I.ok.mod.kin J rfl hc (by rw [hd]; exact M.at_) M.fn h2 hp h3 h4 h5 (run_own (vs := [V.ref a, V.int n]) F (hr.mono hj) b hx I (.cons rfl (.cons ⟨t, rfl⟩ .nil)) hsp)
theorem op_io {op : Operator} {f0 : Addr} {id : String} {B : Builtin} (hd : dunderR op.info.2 = m) (M : Meth X.K C m (He.fAd X.K (cn, some m))) (hc : PySem.W.selfFirst X.K C = true) (h2 : PySem.W.findIn X.K (.ref C) (PySem.dunder op.info.2) = some (some (.ref f0))) (hm : PySem.W.mroIn X.K C (.type "int") = some false)
    (hfT : fillsNumberSlot (.type "int") op.info.2 = pure true) (slot : Slot "int" (PySem.dunder op.info.2) id) (entry : entryFor table id = some B) (ha : ∀ a b, argsOk id ⟨[a, b], []⟩) (hB : Declines B)
    (O : OkD X.prog X.w X.K X.mg X.base CX k (cn, some m) ps [] sp) (hr : Room j X.A) (hj : k ≤ j) (hx : Passes CX X E) : OpR X (binaryOp op) (rIO C sp E) := by
  obtain ⟨fd, ds, F, b, v⟩ := O.ex
  cases v
  intro pins s σ H x y v u Q I rx ry h
  obtain ⟨n, b', dx, fs, rfl, rfl, hb, hsp⟩ := h
  obtain ⟨t, rfl⟩ := rx
  cases ry
  obtain ⟨mA, J, _⟩ := ins_get I.hok hb
  obtain ⟨od, J, _⟩ := J.look
  exact bin_int_own I.kIn J rfl hc h2 (by rw [hd]; exact M.at_) M.fn hm hfT slot entry (ha _ _) hB (run_own (vs := [V.ref b', V.int n]) F (hr.mono hj) b hx I (.cons rfl (.cons ⟨t, rfl⟩ .nil)) hsp)
/-- -o -/
def rUO (C : Addr) (sp : Sp) (E : XK) : V → Hp → VK → Prop := fun x H Q => ∃ a dx fs, x = .ref a ∧ H a = some (.ins C dx fs) ∧ sp [x] H Q E
theorem un_negO (M : Meth X.K C "__neg__" (He.fAd X.K (cn, some "__neg__"))) (O : OkD X.prog X.w X.K X.mg X.base CX k (cn, some "__neg__") ps [] sp) (hr : Room j X.A) (hj : k ≤ j) (hx : Passes CX X E) : UnR X (unaryOp .USub) (rUO C sp E) := by
  obtain ⟨fd, ds, F, b, v⟩ := O.ex
  cases v
  intro pins s σ H x v Q I rx h
  obtain ⟨a, dx, fs, rfl, ha, hsp⟩ := h
  cases rx
  obtain ⟨mA, J, _⟩ := ins_get I.hok ha
  obtain ⟨od, J, _⟩ := J.look
  obtain ⟨mm, hF⟩ := I.fr
  exact PySem.W.ksp_neg hF I.ok.mod.kin J M.at_ M.fn (run_fn (vs := [V.ref a]) F (hr.mono hj) b .nil hx I (.cons rfl .nil) hsp)
/-- abs(o) -/
def rAbsO (C : Addr) (sp : Sp) : List V → Hp → VK → Prop := fun xs H Q => ∃ a dx fs, xs = [.ref a] ∧ H a = some (.ins C dx fs) ∧ sp xs H Q fun _ _ _ => False
theorem call_absO (M : Meth X.K C "__abs__" (He.fAd X.K (cn, some "__abs__"))) (O : OkD X.prog X.w X.K X.mg X.base CX0 k (cn, some "__abs__") ps [] sp) (hr : Room j X.A) (hj : k + 2 ≤ j) : CallR X (.builtin "abs") (rAbsO C sp) := by
  obtain ⟨fd, ds, F, b, v⟩ := O.ex
  cases v
  intro pins s σ H xs us Q I r h
  obtain ⟨a, dx, fs, rfl, ha, hsp⟩ := h
  obtain ⟨u, rfl, ru⟩ : ∃ u, us = [u] ∧ RelV (.ref a) u := by
    cases r with
    | cons p q => cases q; exact ⟨_, rfl, p⟩
  cases ru
  obtain ⟨mA, J, _⟩ := ins_get I.hok ha
  obtain ⟨od, J, _⟩ := J.look
  have hr2 : Room (k + 1) X.A.in1 := (hr.mono hj).in1
  have hr3 : Room k X.A.in1 := hr2.mono (by omega)
  have hl := F.len _ _ _ _ hsp
  have hb := b s [.ref a] I.kIn (by simpa using hl)
  simp only [List.append_nil] at hb
  refine PySem.Calls.call_function_entry PyProof.Rows.kind_abs PyProof.Rows.plain_abs PyProof.Rows.entry_abs (PyProof.Rows.args_abs _) ?_
  unfold PySem.Builtin.«abs»
  refine wpAny_bind (wpAny_pure ?_)
  refine wpAny_bind (m := callSpecial? (.ref a) (Str.ofString "__abs__")) (PySem.W.special_fn I.kIn J M.at_ (beq_iff_eq.mp M.fn) ?_)
  refine wpAny_call (codeAny_mono (F.run X.A.in1 X.stack s H ⟨[.ref a], []⟩ [.ref a] [.ref a] _ _ hr3 I.env0.in1 hb (.cons rfl .nil) hsp) fun r s' hq => ?_)
  cases r with
  | error e => exact hq.elim
  | ok fl =>
    cases fl with
    | ret w => exact wpAny_pure ⟨_, rfl, I.after hq⟩
    | next => exact False.elim hq
    | brk => exact False.elim hq
    | cont => exact False.elim hq
/-- comparisons -/
theorem cmp_oo {op : CmpOp} (hd : (cmpInfo op).2.1 = m) (hop : compareOp op = richCompare op) (M : Meth X.K C m (He.fAd X.K (cn, some m))) (O : OkD X.prog X.w X.K X.mg X.base CX k (cn, some m) ps [] sp) (hr : Room j X.A) (hj : k ≤ j) (hx : Passes CX X E) : OpR X (compareOp op) (rOO C sp E) := by
  obtain ⟨fd, ds, F, b, v⟩ := O.ex
  cases v
  intro pins s σ H x y v u Q I rx ry h
  obtain ⟨a, b', dx, dy, fs, gs, rfl, rfl, ha, hb, hsp⟩ := h
  cases rx
  cases ry
  obtain ⟨mA, J, _⟩ := ins_get I.hok ha
  obtain ⟨mB, J', _⟩ := ins_get I.hok hb
  obtain ⟨od, J, _⟩ := J.look
  obtain ⟨od', J', _⟩ := J'.look
  obtain ⟨mm, hF⟩ := I.fr
  rw [hop]
  exact PySem.W.cmp_K (tb := .ref C) hr.units0 hF I.ok.mod.kin J J'.type (by simp [PySem.W.notFirst]) (by rw [hd]; exact M.at_) M.fn (run_own (vs := [V.ref a, V.ref b']) F (hr.mono hj) b hx I (.cons rfl (.cons rfl .nil)) hsp)
theorem cmp_oi {op : CmpOp} (hd : (cmpInfo op).2.1 = m) (hop : compareOp op = richCompare op) (M : Meth X.K C m (He.fAd X.K (cn, some m))) (h5 : PySem.W.subIn X.K (.type "int") (.ref C) = some false)
    (O : OkD X.prog X.w X.K X.mg X.base CX k (cn, some m) ps [] sp) (hr : Room j X.A) (hj : k ≤ j) (hx : Passes CX X E) : OpR X (compareOp op) (rOI C sp E) := by
  obtain ⟨fd, ds, F, b, v⟩ := O.ex
  cases v
  intro pins s σ H x y v u Q I rx ry h
  obtain ⟨a, n, dx, fs, rfl, rfl, ha, hsp⟩ := h
  cases rx
  obtain ⟨t, rfl⟩ := ry
  obtain ⟨mA, J, _⟩ := ins_get I.hok ha
  obtain ⟨od, J, _⟩ := J.look
  obtain ⟨mm, hF⟩ := I.fr
  rw [hop]
  exact PySem.W.cmp_K (tb := .type "int") hr.units0 hF I.ok.mod.kin J (PySem.W.Looks.of_pure rfl) (by unfold PySem.W.notFirst; rw [h5]; simp) (by rw [hd]; exact M.at_) M.fn (run_own (vs := [V.ref a, V.int n]) F (hr.mono hj) b hx I (.cons rfl (.cons ⟨t, rfl⟩ .nil)) hsp)
theorem cmp_io {op : CmpOp} {id : String} {B : Builtin} (hd : (cmpInfo op).2.2 = m) (hop : compareOp op = richCompare op) (M : Meth X.K C m (He.fAd X.K (cn, some m))) (hm : PySem.W.mroIn X.K C (.type "int") = some false)
    (slot : Slot "int" (cmpInfo op).2.1 id) (entry : entryFor table id = some B) (ha : ∀ a b, argsOk id ⟨[a, b], []⟩) (hB : Declines B)
    (O : OkD X.prog X.w X.K X.mg X.base CX k (cn, some m) ps [] sp) (hr : Room j X.A) (hj : k ≤ j) (hx : Passes CX X E) : OpR X (compareOp op) (rIO C sp E) := by
  obtain ⟨fd, ds, F, b, v⟩ := O.ex
  cases v
  intro pins s σ H x y v u Q I rx ry h
  obtain ⟨n, b', dx, fs, rfl, rfl, hb, hsp⟩ := h
  obtain ⟨t, rfl⟩ := rx
  cases ry
  obtain ⟨mA, J, _⟩ := ins_get I.hok hb
  obtain ⟨od, J, _⟩ := J.look
  rw [hop]
  exact cmp_int_own hr.units0 I.kIn J rfl (by rw [hd]; exact M.at_) M.fn hm slot entry (ha _ _) hB (run_own (vs := [V.ref b', V.int n]) F (hr.mono hj) b hx I (.cons rfl (.cons ⟨t, rfl⟩ .nil)) hsp)
end
end Vf

set_option Elab.async false
set_option linter.all false
set_option maxRecDepth 100000
set_option maxHeartbeats 2000000
namespace Vf
open PySem PySem.Spec PyProof.Rows L2
section
variable {X : Cx} {C : Addr} {bmB : List Value} {B newId initId : String}
/-- X(), X an error of the text's own without an __init__ -/
theorem pmk_own0 {x : Str} {p pos : Pos} (F : ExcBaseFacts B newId initId bmB) (q : PySem.W.excIn X.K C bmB newId = true) (gC : X.mg x = some (.ref C)) (kC : PySem.W.keepIn X.K (.ref C) = true) (r : Raises X (.ref C)) (hg : Gl X x)
    (hdb : (x == ("__debug__" : Str)) = false := by decide) : PMk X (.Call (.Name x p) [] [] pos) (fun _ H Q => Q (.ref C) none H) := by
  intro pins s σ H Q I h
  refine wpAny_Call_Name_kw (ld_glob I hg gC ?_ hdb)
  refine PySem.W.callWith_K0 I.kIn kC ?_
  obtain ⟨_, _, _, _, _, _, _, _, _, _, _, _, _, _, _, _, _, hC, hN, hni, T⟩ := exc_obj I.kIn q
  show wpAny _ _ (call (.ref C) []) _ _ _
  exact wpAny_call_exc_subT F T hC hN hni (fun h' e hm => L2.mk_of I hm r h (I.hok.gone hm.new)) (Nat.zero_le _)
end
theorem c_raise0 {X : Cx} {x : Str} {p pos pos2 : Pos} {W : WX} (c : (He.Fa.exc x).ok X.K = true) (hm : X.mg x = some (.ref (He.ga X.K x))) (tk : Takes X W) (hc : X.calm = true := by rfl) (hg : Gl X x := by rfl) (hdb : (x == ("__debug__" : Str)) = false := by decide) :
    PS X (.Raise (some (.Call (.Name x p) [] [] pos)) none pos2) (fun _ σ H => W (.ref (He.ga X.K x)) none σ H) := by
  obtain ⟨h1, h2, h3, h4⟩ := He.exc_ok c
  exact ps_raise hc tk (pmk_own0 PySem.F.excBase_ValueError h1 hm h2 (raises_own h3 h4) hg hdb)
theorem passX {X : Cx} {E : XK} (tk : Takes X (fun cls d _ H => E cls d H)) : Passes (L2.CX X.prog X.w) X E := passes_call tk fun _ _ _ _ h => h
theorem opr_or {X : Cx} {f : Value → Value → Sem Value} {r1 r2 : R2} (h1 : OpR X f r1) (h2 : OpR X f r2) : OpR X f (fun x y H Q => r1 x y H Q ∨ r2 x y H Q) := fun pins s σ H x y v u Q I rx ry h => by
  rcases h with h | h
  · exact h1 pins s σ H x y v u Q I rx ry h
  · exact h2 pins s σ H x y v u Q I rx ry h
section
variable (K : PySem.W.Frag)
theorem int_add : PySem.W.findIn K (.type "int") (PySem.dunder "add") = some (some (.builtin "int.__add__")) := by kernel_rfl
theorem int_sub : PySem.W.findIn K (.type "int") (PySem.dunder "sub") = some (some (.builtin "int.__sub__")) := by kernel_rfl
theorem int_mul : PySem.W.findIn K (.type "int") (PySem.dunder "mul") = some (some (.builtin "int.__mul__")) := by kernel_rfl
theorem int_fdv : PySem.W.findIn K (.type "int") (PySem.dunder "floordiv") = some (some (.builtin "int.__floordiv__")) := by kernel_rfl
theorem int_radd : PySem.W.findIn K (.type "int") (dunderR "add") = some (some (.builtin "int.__radd__")) := by kernel_rfl
theorem int_rsub : PySem.W.findIn K (.type "int") (dunderR "sub") = some (some (.builtin "int.__rsub__")) := by kernel_rfl
theorem int_rmul : PySem.W.findIn K (.type "int") (dunderR "mul") = some (some (.builtin "int.__rmul__")) := by kernel_rfl
theorem int_rfdv : PySem.W.findIn K (.type "int") (dunderR "floordiv") = some (some (.builtin "int.__rfloordiv__")) := by kernel_rfl
end
end Vf

set_option Elab.async false
set_option linter.all false
set_option maxRecDepth 100000
set_option maxHeartbeats 2000000
namespace Vf
open PySem PySem.Spec PyProof.Rows L2
section
open PySem.W PySem.Calls
variable {prog : Program} {w : World} {A : Around} {E : Value → Shared → Prop} {s : Shared} {K : Frag} {x C f L : Addr} {h₀ : Heap} {m : Str → Option Value} {ox : Obj} {od : Option Obj}
/-- x, an instance of the text's own, is of no built-in type T -/
theorem inst_not {T : String} {Q : Bool → Shared → Prop} (X : K.In s.heap) (I : InstAt s.heap x ox C od) (hm : mroIn K C (.type T) = some false) (h : Q false s) : wpAny (model prog w) A (isInstance (.ref x) (.type T)) Q E s := by
  unfold isInstance
  exact wpAny_bind (I.type.here ((looks_mroIn X hm).here h))
theorem eq_no_none {Q : Fin → Shared → Prop} (h : Q (.done (.ret .notImplemented)) s) : wpAny (model prog w) A (PySem.Builtin.«NoneType.__eq__» ⟨[.none, .ref x], []⟩) Q E s := by
  unfold PySem.Builtin.«NoneType.__eq__»
  wp_walk
  exact h
theorem eq_no_int {n : Value} (hn : (∃ b, n = .bool b) ∨ ∃ i t, n = .int i t) (hd : ox.data = .plain) (hx : s.heap.get? x = some ox) {Q : Fin → Shared → Prop} (h : Q (.done (.ret .notImplemented)) s) : wpAny (model prog w) A (PySem.Builtin.«int.__eq__» ⟨[n, .ref x], []⟩) Q E s := by
  obtain ⟨hp, gg, d, tk, os⟩ := s
  obtain ⟨oc, odd, oda, osl⟩ := ox
  dsimp only at hd
  subst hd
  rcases hn with ⟨b, rfl⟩ | ⟨i, t, rfl⟩
  · wp_walk using AutoSeq1.wpAny_loadPart' hx
    exact h
  · wp_walk using AutoSeq1.wpAny_loadPart' hx
    exact h
theorem eq_no_str {z : Str} {t : Tok} (hd : ox.data = .plain) (hx : s.heap.get? x = some ox) {Q : Fin → Shared → Prop} (h : Q (.done (.ret .notImplemented)) s) : wpAny (model prog w) A (PySem.Builtin.«str.__eq__» ⟨[.str z t, .ref x], []⟩) Q E s := by
  obtain ⟨hp, gg, d, tk, os⟩ := s
  obtain ⟨oc, odd, oda, osl⟩ := ox
  dsimp only at hd
  subst hd
  wp_walk using AutoSeq1.wpAny_loadPart' hx
  exact h
theorem eq_no_tup {a : Addr} (X : K.In s.heap) (I : InstAt s.heap x ox C od) (hm : mroIn K C (.type "tuple") = some false) {Q : Fin → Shared → Prop} (h : Q (.done (.ret .notImplemented)) s) : wpAny (model prog w) A (PySem.Builtin.«tuple.__eq__» ⟨[.ref a, .ref x], []⟩) Q E s := by
  wp_walk using inst_not X I hm
  exact h
theorem eq_no_lst {a : Addr} (X : K.In s.heap) (I : InstAt s.heap x ox C od) (hm : mroIn K C (.type "list") = some false) {Q : Fin → Shared → Prop} (h : Q (.done (.ret .notImplemented)) s) : wpAny (model prog w) A (PySem.Builtin.«list.__eq__» ⟨[.ref a, .ref x], []⟩) Q E s := by
  wp_walk using inst_not X I hm
  exact h
theorem eq_no_dic {a : Addr} {oa : Obj} (ha : s.heap.get? a = some oa) (X : K.In s.heap) (I : InstAt s.heap x ox C od) (hm : mroIn K C (.type "dict") = some false) {Q : Fin → Shared → Prop} (h : Q (.done (.ret .notImplemented)) s) : wpAny (model prog w) A (PySem.Builtin.«dict.__eq__» ⟨[.ref a, .ref x], []⟩) Q E s := by
  wp_walk using inst_not X I hm
  exact h
/-- v == x: v's slot declines, x's own is asked -/
theorem eq_any_own {v : Value} {T id : String} {B : Builtin} {Q : Value → Shared → Prop} (hT : s.TypeIs v T) (hu : A.units < cLine) (X : K.In s.heap) (I : InstAt s.heap x ox C od)
    (hr : findIn K (.ref C) "__eq__" = some (some (.ref f))) (hf : isFn K (.ref f) = true) (hm : mroIn K C (.type T) = some false)
    (slot : Slot T (cmpInfo .Eq).2.1 id) (entry : entryFor table id = some B) (ha : argsOk id ⟨[v, .ref x], []⟩) (hB : ∀ Q : Fin → Shared → Prop, Q (.done (.ret .notImplemented)) s → wpAny (model prog w) A.in1 (B ⟨[v, .ref x], []⟩) Q E s)
    (h : wpAny (model prog w) A (call (.ref f) [.ref x, v]) (PySem.W.CmpBack Q) E s) : wpAny (model prog w) A (richCompare .Eq v (.ref x)) Q E s := by
  have one : wpAny (model prog w) A (tryCompare (.ref x) "__eq__" v) (fun r s' => ∃ z, r = some z ∧ Q z s') E s := by
    unfold tryCompare
    refine wpAny_bind (ifBound_K X I hr hf (wpAny_mono h (fun z s' hv => ?_) fun _ _ e => e))
    cases z <;> first | exact hv.elim | exact wpAny_pure ⟨_, rfl, hv⟩
  have two : wpAny (model prog w) A (tryCompare v (cmpInfo .Eq).2.1 (.ref x)) (fun r s' => r = none ∧ s' = s) E s :=
    wpAny_tryCompare_declines hT slot (wpAny_call_entry slot hT entry (hB _ ⟨_, rfl, rfl, rfl, rfl⟩) ha)
  have hne : (Value.type T != Value.ref C) = true := bne_iff_ne.mpr fun q => by cases q
  unfold richCompare
  simp only [hT.oneThing_none]
  refine wpAny_holding (wpAny_bind (wpAny_cRoomFor hu ?_))
  refine wpAny_bind (wpAny_typeOf hT (wpAny_bind (I.type.here ?_)))
  simp only [hne, if_true]
  refine wpAny_bind ((looks_mroIn X hm).here ?_)
  simp only [Bool.false_eq_true, if_false]
  refine wpAny_bind (wpAny_mono two (fun r s' z => ?_) fun _ _ e => e)
  obtain ⟨rfl, rfl⟩ := z
  simp only [Bool.not_false, if_true]
  refine wpAny_bind (wpAny_mono one (fun r s' z => ?_) fun _ _ e => e)
  obtain ⟨z, rfl, hq⟩ := z
  exact wpAny_pure hq
theorem sub_not {n : String} {l : List Value} (e : fastBuiltinMro n = some l) (h : ∀ a, l.contains (.ref a) = false) : subIn K (.type n) (.ref C) = some false := by
  show (fastBuiltinMro n).map (·.contains (.ref C)) = some false
  rw [e, Option.map_some, h]
end
theorem looks_ty {M : Model} {s : Shared} {u : Value} {n : String} (h : s.TypeIs u n) : PySem.W.Looks M s.heap (typeOf u) (.type n) := fun A Q E s' k q => by
  refine wpAny_typeOf (T := n) ?_ q
  cases u with
  | ref a =>
    obtain ⟨o, h1, h2⟩ := h
    exact ⟨o, k _ _ h1, h2⟩
  | _ => exact h
/-! ### odd values beside an own object -/
def oddK : List String := ["bool", "NoneType", "str", "tuple", "list", "dict"]
section
variable {X : Cx} {CX : CXT} {k j : Nat} {C : Addr} {cn m : Str} {ps : List Str} {sp : Sp} {E : XK}
/-- a built-in type none of our classes is over, nor they over it -/
theorem odd_is {pins : List (Addr × Obj)} {s : Shared} {σ : L2.St} {H : Hp} {x : V} {u : Value} (I : L2.Inv X pins σ H s) (o : Odd H x) (r : RelV x u) :
    ∃ n ∈ oddK, s.TypeIs u n := by
  cases o with
  | bl b => cases r; exact ⟨"bool", by simp [oddK], rfl⟩
  | non => cases r; exact ⟨"NoneType", by simp [oddK], rfl⟩
  | str z => obtain ⟨t, rfl⟩ := r; exact ⟨"str", by simp [oddK], rfl⟩
  | tup h =>
    cases r
    obtain ⟨_, _, _, o, h1, h2, _⟩ := (show ObjOk X.prog X.w H s.heap _ (.tup _) from I.hok _ _ h)
    exact ⟨"tuple", by simp [oddK], o, h1, h2⟩
  | lst h =>
    cases r
    obtain ⟨_, _, n, _, h1⟩ := (show ObjOk X.prog X.w H s.heap _ (.lst _) from I.hok _ _ h)
    exact ⟨"list", by simp [oddK], _, h1, rfl⟩
  | dic h =>
    cases r
    obtain ⟨_, _, vs, _, o, es, ep, h1, h2, _⟩ := (show ObjOk X.prog X.w H s.heap _ (.dK _) from I.hok _ _ h)
    exact ⟨"dict", by simp [oddK], o, h1, h2.1⟩
theorem odd_first {n : String} (h : n ∈ oddK) : PySem.W.subIn X.K (.type n) (.ref C) = some false := by
  simp only [oddK, List.mem_cons, List.not_mem_nil, or_false] at h
  rcases h with rfl | rfl | rfl | rfl | rfl | rfl
  · exact sub_not (l := [.type "bool", .type "int", .type "object"]) (by decide +kernel) fun a => by simp
  · exact sub_not (l := [.type "NoneType", .type "object"]) (by decide +kernel) fun a => by simp
  · exact sub_not (l := [.type "str", .type "object"]) (by decide +kernel) fun a => by simp
  · exact sub_not (l := [.type "tuple", .type "object"]) (by decide +kernel) fun a => by simp
  · exact sub_not (l := [.type "list", .type "object"]) (by decide +kernel) fun a => by simp
  · exact sub_not (l := [.type "dict", .type "object"]) (by decide +kernel) fun a => by simp
/-- a method of the text's own asked by the machine, somewhere below the running body -/
theorem run_ownA {A : Around} {f : Addr} {fd : FuncData} {pins : List (Addr × Obj)} {σ : L2.St} {H : Hp} {s : Shared} {Q : VK} {us : List Value} {vs : List V} (F : FnOk X.prog X.w X.K X.mg X.base CX k f fd ps sp) (sb : Sub X k A) (hb : L2.Binds X.K fd ps []) (hx : Passes CX X E)
    (I : L2.Inv X pins σ H s) (r : Vals vs us) (h : sp vs H Q E) : wpAny (model X.prog X.w) A (call (.ref f) us) (PySem.W.CmpBack (EP X pins σ Q)) X.xe s := by
  have e0 : Env0 X.prog X.w X.K X.mg X.base A X.stack s H := by
    have e := I.env0
    exact ⟨by rw [sb.fr]; exact e.frames, e.mod, e.bs, e.bsz, e.funs, e.frf, e.hok, e.bare⟩
  have hl := F.len _ _ _ _ h
  refine wpAny_call (codeAny_mono (F.run A X.stack s H ⟨us, []⟩ us vs _ E sb.room e0 (by
    have := hb s us I.kIn (by rw [List.append_nil, ← r.length, hl])
    simpa using this) r h) fun r s' hq => ?_)
  cases r with
  | error e => exact hx pins σ H s e s' I hq
  | ok fl =>
    cases fl with
    | ret w => exact back_of (I.after hq)
    | next => exact False.elim hq
    | brk => exact False.elim hq
    | cont => exact False.elim hq
/-- x == y, x odd, y of the class at C: its own == is asked -/
theorem rc_odd {A : Around} {pins : List (Addr × Obj)} {s : Shared} {σ : L2.St} {H : Hp} {x : V} {u : Value} {b dx : Addr} {fs : List (Str × V)} {Q : VK} (sb : Sub X k A) (M : Meth X.K C "__eq__" (He.fAd X.K (cn, some "__eq__")))
    (hm : ∀ n ∈ oddK, PySem.W.mroIn X.K C (.type n) = some false) (O : OkD X.prog X.w X.K X.mg X.base CX k (cn, some "__eq__") ps [] sp) (hx : Passes CX X E) (I : L2.Inv X pins σ H s) (o : Odd H x) (rx : RelV x u) (hb : H b = some (.ins C dx fs)) (h0 : sp [.ref b, x] H Q E) :
    wpAny (model X.prog X.w) A (richCompare .Eq u (.ref b)) (EP X pins σ Q) X.xe s := by
  obtain ⟨fd, ds, F, bi, v⟩ := O.ex
  cases v
  obtain ⟨mA, J, _⟩ := ins_get I.hok hb
  obtain ⟨od, J, _⟩ := J.look
  have go := run_ownA (vs := [V.ref b, x]) (us := [.ref b, u]) F sb bi hx I (.cons rfl (.cons rx .nil)) h0
  have hu := sb.room.units0
  cases o with
  | bl y =>
    cases rx
    exact eq_any_own (T := "bool") rfl hu I.kIn J M.at_ M.fn (hm _ (by simp [oddK])) PySem.F.slot_bool_eq PySem.F.entry_int_eq (PySem.F.args_int_eq_2 _ _) (fun Q q => eq_no_int (.inl ⟨_, rfl⟩) rfl J.at_ q) go
  | non =>
    cases rx
    exact eq_any_own (T := "NoneType") rfl hu I.kIn J M.at_ M.fn (hm _ (by simp [oddK])) PySem.F.slot_NoneType_eq PySem.F.entry_NoneType_eq (PySem.F.args_NoneType_eq_2 _ _) (fun Q q => eq_no_none q) go
  | str z =>
    obtain ⟨t, rfl⟩ := rx
    exact eq_any_own (T := "str") rfl hu I.kIn J M.at_ M.fn (hm _ (by simp [oddK])) PySem.F.slot_str_eq PySem.F.entry_str_eq (PySem.F.args_str_eq_2 _ _) (fun Q q => eq_no_str rfl J.at_ q) go
  | tup h =>
    cases rx
    obtain ⟨_, _, _, o, h1, h2, _⟩ := (show ObjOk X.prog X.w H s.heap _ (.tup _) from I.hok _ _ h)
    exact eq_any_own (T := "tuple") ⟨o, h1, h2⟩ hu I.kIn J M.at_ M.fn (hm _ (by simp [oddK])) PySem.F.slot_tuple_eq PySem.F.entry_tuple_eq (PySem.F.args_tuple_eq_2 _ _) (fun Q q => eq_no_tup I.kIn J (hm _ (by simp [oddK])) q) go
  | lst h =>
    cases rx
    obtain ⟨_, _, n, _, h1⟩ := (show ObjOk X.prog X.w H s.heap _ (.lst _) from I.hok _ _ h)
    exact eq_any_own (T := "list") ⟨_, h1, rfl⟩ hu I.kIn J M.at_ M.fn (hm _ (by simp [oddK])) PySem.F.slot_list_eq PySem.F.entry_list_eq (PySem.F.args_list_eq_2 _ _) (fun Q q => eq_no_lst I.kIn J (hm _ (by simp [oddK])) q) go
  | dic h =>
    cases rx
    obtain ⟨_, _, vs, _, o, es, ep, h1, h2, _⟩ := (show ObjOk X.prog X.w H s.heap _ (.dK _) from I.hok _ _ h)
    exact eq_any_own (T := "dict") ⟨o, h1, h2.1⟩ hu I.kIn J M.at_ M.fn (hm _ (by simp [oddK])) PySem.F.slot_dict_eq PySem.F.entry_dict_eq (PySem.F.args_dict_eq_2 _ _) (fun Q q => eq_no_dic h1 I.kIn J (hm _ (by simp [oddK])) q) go
/-- odd == o -/
def rDO (C : Addr) (sp : Sp) (E : XK) : R2 := fun x y H Q => ∃ b dx fs, Odd H x ∧ y = .ref b ∧ H b = some (.ins C dx fs) ∧ sp [y, x] H Q E
theorem eq_do (M : Meth X.K C "__eq__" (He.fAd X.K (cn, some "__eq__"))) (hm : ∀ n ∈ oddK, PySem.W.mroIn X.K C (.type n) = some false) (O : OkD X.prog X.w X.K X.mg X.base CX k (cn, some "__eq__") ps [] sp) (hr : Room j X.A) (hj : k ≤ j) (hx : Passes CX X E) : OpR X (compareOp .Eq) (rDO C sp E) := by
  intro pins s σ H x y v u Q I rx ry h
  obtain ⟨b, dx, fs, o, rfl, hb, hsp⟩ := h
  cases ry
  exact rc_odd ⟨hr.mono hj, rfl⟩ M hm O hx I o rx hb hsp
/-- o ? odd -/
def rOD (C : Addr) (sp : Sp) (E : XK) : R2 := fun x y H Q => ∃ a dx fs, x = .ref a ∧ H a = some (.ins C dx fs) ∧ Odd H y ∧ sp [x, y] H Q E
theorem cmp_od {op : CmpOp} (hd : (cmpInfo op).2.1 = m) (hop : compareOp op = richCompare op) (M : Meth X.K C m (He.fAd X.K (cn, some m))) (O : OkD X.prog X.w X.K X.mg X.base CX k (cn, some m) ps [] sp) (hr : Room j X.A) (hj : k ≤ j) (hx : Passes CX X E) : OpR X (compareOp op) (rOD C sp E) := by
  obtain ⟨fd, ds, F, b, v⟩ := O.ex
  cases v
  intro pins s σ H x y v u Q I rx ry h
  obtain ⟨a, dx, fs, rfl, ha, o, hsp⟩ := h
  cases rx
  obtain ⟨mA, J, _⟩ := ins_get I.hok ha
  obtain ⟨od, J, _⟩ := J.look
  obtain ⟨mm, hF⟩ := I.fr
  obtain ⟨n, hn, ht⟩ := odd_is I o ry
  rw [hop]
  exact PySem.W.cmp_K (tb := .type n) hr.units0 hF I.ok.mod.kin J (looks_ty ht) (by unfold PySem.W.notFirst; rw [odd_first hn]; simp) (by rw [hd]; exact M.at_) M.fn (run_own (vs := [V.ref a, y]) F (hr.mono hj) b hx I (.cons rfl (.cons ry .nil)) hsp)
/-! ### x in a list, where == is the text's own -/
/-- == inside a built-in's body: its answer; it only makes objects -/
abbrev Eqb := V → V → Hp → Bool → Prop
def EqB (X : Cx) (n : Nat) (D : Eqb) : Prop :=
  ∀ (A : Around) (pins : List (Addr × Obj)) (s : Shared) (σ : L2.St) (H : Hp) (x y : V) (u v : Value) (b : Bool), Sub X n A → L2.Inv X pins σ H s → RelV x u → RelV y v → D x y H b →
    wpAny (model X.prog X.w) A (eqBool u v) (fun r s' => r = b ∧ ∃ H', L2.Inv X pins σ H' s' ∧ Ext H H') X.xe s
theorem EqB.or {n : Nat} {D D' : Eqb} (h : EqB X n D) (h' : EqB X n D') : EqB X n (fun x y H b => D x y H b ∨ D' x y H b) := fun A pins s σ H x y u v b sb I rx ry d => by
  rcases d with d | d
  · exact h A pins s σ H x y u v b sb I rx ry d
  · exact h' A pins s σ H x y u v b sb I rx ry d
def DOO (C : Addr) (sp : Sp) (E : XK) : Eqb := fun x y H b => ∃ a c dx dy fs gs, x = .ref a ∧ y = .ref c ∧ H a = some (.ins C dx fs) ∧ H c = some (.ins C dy gs) ∧ (a = c → b = true) ∧ sp [x, y] H (fun v H' => v = .bl b ∧ Ext H H') E
def DDO (C : Addr) (sp : Sp) (E : XK) : Eqb := fun x y H b => ∃ c dy gs, Odd H x ∧ y = .ref c ∧ H c = some (.ins C dy gs) ∧ (x = y → b = true) ∧ sp [y, x] H (fun v H' => v = .bl b ∧ Ext H H') E
theorem eqB_of_rc {A : Around} {pins : List (Addr × Obj)} {s : Shared} {σ : L2.St} {H : Hp} {u v : Value} {b : Bool} (hs : (u == v) = true → b = true) (hf : ∀ i t, u ≠ .float i t) (I : L2.Inv X pins σ H s)
    (h : wpAny (model X.prog X.w) A (richCompare .Eq u v) (EP X pins σ (fun v H' => v = .bl b ∧ Ext H H')) X.xe s) : wpAny (model X.prog X.w) A (eqBool u v) (fun r s' => r = b ∧ ∃ H', L2.Inv X pins σ H' s' ∧ Ext H H') X.xe s := by
  unfold eqBool
  refine wpAny_holding ?_
  refine wpAny_ite_split (fun hab => ?_) (fun _ => ?_)
  · refine wpAny_bind (wpAny_rule ?_)
    exact wpAny_pure ⟨(hs hab).symm, H, I, Ext.rfl'⟩
  · have tail : wpAny (model X.prog X.w) A (richCompare .Eq u v >>= truthOfDropped) (fun r s' => r = b ∧ ∃ H', L2.Inv X pins σ H' s' ∧ Ext H H') X.xe s := by
      refine wpAny_bind (wpAny_mono h (fun z s' hz => ?_) fun _ _ x => x)
      obtain ⟨v', H', I', rz, e, ex⟩ := hz
      subst e
      cases rz
      exact wpAny_truthy_bool ⟨rfl, H', I', ex⟩
    cases u with
    | float i t => exact absurd rfl (hf i t)
    | _ => exact tail
theorem eqB_oo {n : Nat} (M : Meth X.K C "__eq__" (He.fAd X.K (cn, some "__eq__"))) (O : OkD X.prog X.w X.K X.mg X.base CX n (cn, some "__eq__") ps [] sp) (hx : Passes CX X E) : EqB X n (DOO C sp E) := by
  obtain ⟨fd, ds, F, bi, v⟩ := O.ex
  cases v
  intro A pins s σ H x y u v b sb I rx ry d
  obtain ⟨a, c, dx, dy, fs, gs, rfl, rfl, ha, hc, he, hsp⟩ := d
  cases rx
  cases ry
  obtain ⟨mA, J, _⟩ := ins_get I.hok ha
  obtain ⟨mB, J', _⟩ := ins_get I.hok hc
  obtain ⟨od, J, _⟩ := J.look
  obtain ⟨od', J', _⟩ := J'.look
  obtain ⟨mm, hF⟩ := I.fr
  refine eqB_of_rc (fun h => he (by have := eq_of_beq h; injection this)) (fun _ _ z => nomatch z) I ?_
  exact PySem.W.cmp_K (op := .Eq) (tb := .ref C) sb.room.units0 hF I.ok.mod.kin J J'.type (by simp [PySem.W.notFirst]) M.at_ M.fn (run_ownA (vs := [V.ref a, V.ref c]) F sb bi hx I (.cons rfl (.cons rfl .nil)) hsp)
theorem eqB_do {n : Nat} (M : Meth X.K C "__eq__" (He.fAd X.K (cn, some "__eq__"))) (hm : ∀ n ∈ oddK, PySem.W.mroIn X.K C (.type n) = some false) (O : OkD X.prog X.w X.K X.mg X.base CX n (cn, some "__eq__") ps [] sp) (hx : Passes CX X E) : EqB X n (DDO C sp E) := by
  intro A pins s σ H x y u v b sb I rx ry d
  obtain ⟨c, dy, gs, o, rfl, hc, he, hsp⟩ := d
  cases ry
  refine eqB_of_rc (fun h => he ?_) (fun i t z => ?_) I (rc_odd sb M hm O hx I o rx hc hsp)
  · have := eq_of_beq h
    subst this
    cases x with
    | ref a => cases rx; rfl
    | int i => obtain ⟨t, h⟩ := rx; cases h
    | str i => obtain ⟨t, h⟩ := rx; cases h
    | byt i => obtain ⟨t, h⟩ := rx; cases h
    | flt i => obtain ⟨t, h⟩ := rx; cases h
    | _ => cases rx
  · subst z
    cases o with
    | bl => cases rx
    | non => cases rx
    | str => obtain ⟨t, h⟩ := rx; cases h
    | tup => cases rx
    | lst => cases rx
    | dic => cases rx
/-- the loop of list.__contains__; at each turn the list is read anew -/
theorem in_loop {P : Program} {w : World} {A : Around} {R : Result → Shared → Prop} {l : Addr} {N : Nat} {x : Value} (J : Shared → Prop) (e : Nat → Bool)
    (hl : ∀ i s, J s → ∃ (its : List Value) (n : Nat) (dd : Option Addr) (sl : Array (Option Value)), s.heap.get? l = some { cls := .type "list", dict := dd, data := .seq its.toArray n, slots := sl } ∧ its.length = N ∧ ∀ h : i < its.length, wpAny (model P w) A.in1 (eqBool its[i] x) (fun r s' => r = e i ∧ J s') (fun e s' => R (.error e) s') s) (k : Nat) :
    ∀ i : Nat, N - i = k → i ≤ N → ∀ s, J s → (∀ s', J s' → R (.ok (.ret (.bool ((List.range' i k).any e)))) s') →
      wpAny (model P w) A.in1 (Builtin.«list.__contains__.loop» ⟨[.ref l, x, rawInt i], []⟩) (GQ.FinOf P w A R) (fun e s' => R (.error e) s') s := by
  induction k with
  | zero =>
    intro i hk hi s h fin
    obtain ⟨items, n, dd, sl, ho, hn, _⟩ := hl i s h
    have q := fin s h
    obtain ⟨hp, g, d, tk, os⟩ := s
    wp_walk using AutoSeq1.wpAny_loadPart' ho
    have hi : items.toArray[((i : Nat) : Int).toNat]? = none := by simp; omega
    rw [hi]
    wp_walk
    exact q
  | succ k ih =>
    intro i hk hi s h fin
    obtain ⟨items, n, dd, sl, ho, hn, turn⟩ := hl i s h
    have hlt : i < items.length := by omega
    have t := turn hlt
    obtain ⟨hp, g, d, tk, os⟩ := s
    wp_walk using AutoSeq1.wpAny_loadPart' ho
    have hi : items.toArray[((i : Nat) : Int).toNat]? = some items[i] := by simp [hlt]
    rw [hi]
    refine wpAny_bind (wpAny_mono t (fun r s2 q => ?_) fun _ _ z => z)
    obtain ⟨rfl, h2⟩ := q
    rw [List.range'_succ, List.any_cons] at fin
    cases hb : e i with
    | true =>
      rw [hb] at fin
      have q := fin s2 h2
      obtain ⟨hp2, g2, d2, tk2, os2⟩ := s2
      wp_walk
      exact q
    | false =>
      rw [hb] at fin
      have hc : ((i : Int) + 1) = ((i + 1 : Nat) : Int) := by push_cast; rfl
      have go := ih (i + 1) (by omega) (by omega) s2 h2 (fun s' h' => by simpa using fin s' h')
      obtain ⟨hp2, g2, d2, tk2, os2⟩ := s2
      wp_walk
      rw [hc]
      exact ⟨plainId_quiet MeetsSeq.plain_contains_loop _, codeAny_builtin MeetsSeq.entry_contains_loop (by
        rw [Around.under_plainId MeetsSeq.plain_contains_loop _]
        exact go)⟩
/-- x in the list at y: item by item D says how they compare -/
def rInB (K : PySem.W.Frag) (neg : Bool) (D : Eqb) : R2 := fun x y H Q => ∃ (p : Addr) (xs : List V) (bs : List Bool), y = .ref p ∧ SqL K H p xs ∧ Paired (fun z b => ∀ H', Ext H H' → D z x H' b) xs bs ∧ ∀ H', Ext H H' → Q (.bl (if neg then !bs.any id else bs.any id)) H'
theorem any_range (bs : List Bool) : (List.range' 0 bs.length).any (fun i => bs.getD i false) = bs.any id := by
  rw [← List.range_eq_range']
  rw [Bool.eq_iff_iff, List.any_eq_true, List.any_eq_true]
  constructor
  · rintro ⟨i, hi, e⟩
    have h := List.mem_range.mp hi
    refine ⟨bs[i], List.getElem_mem h, ?_⟩
    simpa [List.getD_eq_getElem?_getD, List.getElem?_eq_getElem h] using e
  · rintro ⟨b, hb, e⟩
    obtain ⟨i, h, rfl⟩ := List.mem_iff_getElem.mp hb
    exact ⟨i, List.mem_range.mpr h, by simpa [List.getD_eq_getElem?_getD, List.getElem?_eq_getElem h] using e⟩
theorem paired_get {α β : Type} {R : α → β → Prop} : ∀ {xs : List α} {bs : List β}, Paired R xs bs → ∀ i (h : i < xs.length), ∃ b, bs[i]? = some b ∧ R xs[i] b
  | _, _, .nil, i, h => absurd h (Nat.not_lt_zero _)
  | _ :: _, _ :: _, .cons r p, 0, _ => ⟨_, rfl, r⟩
  | _ :: _, _ :: _, .cons r p, i + 1, h => paired_get p i (by simpa using h)
theorem paired_len {α β : Type} {R : α → β → Prop} : ∀ {xs : List α} {bs : List β}, Paired R xs bs → xs.length = bs.length
  | _, _, .nil => rfl
  | _, _, .cons _ p => congrArg (· + 1) (paired_len p)
theorem in_body {n : Nat} {D : Eqb} {neg : Bool} (h : EqB X n D) (hr : Room (n + 1) X.A) {pins : List (Addr × Obj)} {s : Shared} {σ : L2.St} {H : Hp} {x y : V} {u v : Value} {Q : VK} (I : L2.Inv X pins σ H s) (rx : RelV x u) (ry : RelV y v) (hq : rInB X.K neg D x y H Q) :
    wpAny (model X.prog X.w) X.A (contains v u) (fun r s' => EP X pins σ Q (.bool (if neg then !r else r)) s') X.xe s := by
  obtain ⟨p, xs, bs, rfl, hS, pr, q⟩ := hq
  cases ry
  obtain ⟨its, r, pl, hz⟩ := I.list hS
  have hT : s.TypeIs (.ref p) "list" := by
    obtain ⟨⟨cls, dd, data, sl⟩, n', ho, hc, _⟩ := id pl
    exact ⟨_, ho, hc⟩
  have J0 : (fun s' => ∃ H', L2.Inv X pins σ H' s' ∧ Ext H H') s := ⟨H, I, Ext.rfl'⟩
  refine wpAny_contains_slot hT PySem.F.slot_list_contains ?_
  refine GQ.call_here PySem.F.slot_list_contains hT PySem.F.entry_list_contains (PySem.F.args_list_contains_2 _ _) ?_
  have lp := in_loop (P := X.prog) (w := X.w) (A := X.A) (R := wants (fun r s' => wpAny (model X.prog X.w) X.A (truthy r) (fun r s' => EP X pins σ Q (Value.bool (if neg = true then !r else r)) s') X.xe s') X.xe) (l := p) (N := xs.length) (x := u) (fun s' => ∃ H', L2.Inv X pins σ H' s' ∧ Ext H H') (fun i => bs.getD i false) ?hl bs.length 0 (by rw [paired_len pr]; rfl) (Nat.zero_le _) s J0 ?fin
  case hl =>
    rintro i s' ⟨H', I', e⟩
    obtain ⟨its', r', pl', _⟩ := I'.list (SqL.ext hS e)
    obtain ⟨o, n', ho, hc, hd, hs⟩ := pl'
    obtain ⟨cls, dd, data, sl⟩ := o
    dsimp only at hc hd hs
    refine ⟨its', n', dd, sl, by first | (rw [ho, hc, hs]) | (rw [ho]; subst hc; subst hs; rfl), r'.length.symm, fun hi => ?_⟩
    have hx : i < xs.length := by rw [r'.length]; exact hi
    obtain ⟨z, hz', rz⟩ := r'.get (List.getElem?_eq_getElem hx)
    rw [List.getElem?_eq_getElem hi] at hz'
    obtain ⟨b, hb, hd'⟩ := paired_get pr i hx
    have eb : bs.getD i false = b := by simp [List.getD_eq_getElem?_getD, hb]
    rw [Option.some.inj hz', eb]
    refine wpAny_mono (h X.A.in1 pins s' σ H' _ x _ u b ⟨hr.in1, rfl⟩ I' rz rx (hd' _ e)) (fun r2 s2 q2 => ?_) fun _ _ z => z
    obtain ⟨h2, H2, I2, e2⟩ := q2
    exact ⟨h2, H2, I2, e.trans e2⟩
  case fin =>
    rintro s' ⟨H', I', e⟩
    rw [any_range]
    exact wpAny_truthy_bool ⟨.bl _, H', I', rfl, q H' e⟩
  obtain ⟨hp, g, d, tk, os⟩ := s
  wp_walk
  exact ⟨plainId_quiet MeetsSeq.plain_contains_loop _, codeAny_builtin MeetsSeq.entry_contains_loop (by
    rw [Around.under_plainId MeetsSeq.plain_contains_loop _]
    exact lp)⟩
theorem op_inB {n : Nat} {D : Eqb} (h : EqB X n D) (hr : Room (n + 1) X.A) : OpR X (compareOp .In) (rInB X.K false D) := fun pins s σ H x y v u Q I rx ry hq => by
  show wpAny (model X.prog X.w) X.A (do return Value.bool (← contains u v)) (EP X pins σ Q) X.xe s
  exact wpAny_bind (wpAny_mono (in_body h hr I rx ry hq) (fun _ _ z => wpAny_pure z) fun _ _ z => z)
theorem op_notInB {n : Nat} {D : Eqb} (h : EqB X n D) (hr : Room (n + 1) X.A) : OpR X (compareOp .NotIn) (rInB X.K true D) := fun pins s σ H x y v u Q I rx ry hq => by
  show wpAny (model X.prog X.w) X.A (do return Value.bool (!(← contains u v))) (EP X pins σ Q) X.xe s
  exact wpAny_bind (wpAny_mono (in_body h hr I rx ry hq) (fun _ _ z => wpAny_pure z) fun _ _ z => z)
end
end Vf

set_option Elab.async false
set_option linter.all false
set_option maxRecDepth 100000
set_option maxHeartbeats 2000000
namespace Vf
open PySem PySem.Spec PyProof.Rows L2
/-! ### names of the text that stand for an int, a text, a tuple of texts -/
section
variable {X : Cx}
theorem c_gint {x : Str} {i : Int} {pos : Pos} (hm : ∃ t, X.mg x = some (.int i t)) (hg : Gl X x := by rfl) (hd : (x == ("__debug__" : Str)) = false := by decide) : PE X (.Name x pos) (tC (.int i)) := by
  obtain ⟨t, h⟩ := hm
  exact pe_glob hg h ⟨t, rfl⟩ hd
theorem c_gstr {x z : Str} {pos : Pos} (hm : ∃ t, X.mg x = some (.str z t)) (hg : Gl X x := by rfl) (hd : (x == ("__debug__" : Str)) = false := by decide) : PE X (.Name x pos) (tC (.str z)) := by
  obtain ⟨t, h⟩ := hm
  exact pe_glob hg h ⟨t, rfl⟩ hd
end
def strsB : List Value → List Str → Bool
  | [], [] => true
  | .str y _ :: us, z :: zs => decide (y = z) && strsB us zs
  | _, _ => false
theorem strsB_ok : ∀ {us : List Value} {zs : List Str}, strsB us zs = true → Vals (zs.map V.str) us
  | [], [], _ => .nil
  | .str y t :: us, z :: zs, h => by
    obtain ⟨h1, h2⟩ := He.ba h
    have e := of_decide_eq_true h1
    subst e
    exact .cons ⟨t, rfl⟩ (strsB_ok h2)
/-- at a a tuple of the texts zs -/
def kTup (K : PySem.W.Frag) (a : Addr) (zs : List Str) : Bool := match K.lookup a with
  | some ⟨.type n, _, .seq its _, _⟩ => decide (n = "tuple") && (decide (its.size ≤ sizeLine) && strsB its.toList zs)
  | _ => false
theorem kTup_ok {K : PySem.W.Frag} {a : Addr} {zs : List Str} (h : kTup K a zs = true) (H : Hp) : SqT K H a (zs.map V.str) := by
  unfold kTup at h
  split at h
  · rename_i n od its m sl e
    obtain ⟨h1, h2⟩ := He.ba h
    obtain ⟨h2, h3⟩ := He.ba h2
    have e1 := of_decide_eq_true h1
    subst e1
    exact .inr ⟨_, its, m, e, rfl, rfl, of_decide_eq_true h2, strsB_ok h3⟩
  · cases h
/-! ### C(.., k = v, ..) -/
structure OkK (P : Program) (w : World) (K : PySem.W.Frag) (mg : Str → Option Value) (base : Heap) (CX : CXT) (k : Nat) (p : Pl) (ps : List Str) (n : Nat) (ks : List Str) (gV : List V → List V → List V) (sp : Sp) : Prop where
  ex : ∃ fd g, FnOk P w K mg base CX k (He.fAd K p) fd ps sp ∧ KBn K fd ps n ks g gV
theorem c_mkK {X : Cx} {CX : CXT} {k j n : Nat} {ps ks : List Str} {sp : Sp} {x : Str} {p pos : Pos} {e : Expr} {es : List Expr} {kws : List Keyword} {t tk : TA} {gV : List V → List V → List V} {E : XK} {C : Addr} (M : Mk X.K C (He.fAd X.K (x, some "__init__"))) (O : OkK X.prog X.w X.K X.mg X.base CX k (x, some "__init__") ps (n + 1) ks gV sp) (hr : Room j X.A) (hj : k + 1 ≤ j) (hm : X.mg x = some (.ref C)) (hx : Passes CX X E) (ha : PA X (e :: es) t) (hkw : PK X kws tk) (hg : Gl X x := by rfl)
    (hall : (backToKw pos (keywordEach kws X.env)).all (·.1.isSome) = true := by rfl) (hks : (backToKw pos (keywordEach kws X.env)).filterMap (·.1) = ks := by rfl) (hdb : (x == ("__debug__" : Str)) = false := by decide)
    (he : starEach (e :: es) X.env = (false, eval e X.env) :: starEach es X.env := by rfl) (hpl : ((backTo pos (starEach (e :: es) X.env)).any (·.1) || (backToKw pos (keywordEach kws X.env)).any (·.1.isNone)) = false := by rfl) :
    PE X (.Call (.Name x p) (e :: es) kws pos) (tMakeK C n ks.length sp gV E t tk) := by
  obtain ⟨fd, g, F, b⟩ := O.ex
  exact pe_makeK M F (hr.mono hj) hg hm b hx ha hkw hall hks hdb he hpl
/-! ### texts -/
/-- one sign in a text -/
theorem sign_in (x : Str) (c : Nat) : (!(Builtin.Str.occurrences x ⟨#[c]⟩ 0 x.length 1).isEmpty) = decide (c ∈ x.cps.toList) := PySem.StrLaws.found_one x c
/-- a value that is no text -/
inductive OddS (H : Hp) : V → Prop where
  | bl (b : Bool) : OddS H (.bl b)
  | non : OddS H .non
  | int (i : Int) : OddS H (.int i)
  | tup {a : Addr} {xs : List V} (h : H a = some (.tup xs)) : OddS H (.ref a)
  | lst {a : Addr} {xs : List V} (h : H a = some (.lst xs)) : OddS H (.ref a)
  | dic {a : Addr} {kvs : List (Key × V)} (h : H a = some (.dK kvs)) : OddS H (.ref a)
theorem oddS_ty (K : PySem.W.Frag) {H : Hp} {x : V} (o : OddS H x) : ∃ n : String, TyX K H x (.type n) ∧ kitB n "str" = some false := by
  cases o with
  | bl b => exact ⟨"bool", .base (.bl b), by decide +kernel⟩
  | non => exact ⟨"NoneType", .base .non, by decide +kernel⟩
  | int i => exact ⟨"int", .base (.int i), by decide +kernel⟩
  | tup h => exact ⟨"tuple", .base (.tup h), by decide +kernel⟩
  | lst h => exact ⟨"list", .base (.lst h), by decide +kernel⟩
  | dic h => exact ⟨"dict", .base (.dK h), by decide +kernel⟩
/-- a value that is no bool -/
inductive OddB (H : Hp) : V → Prop where
  | str (z : Str) : OddB H (.str z)
  | non : OddB H .non
  | int (i : Int) : OddB H (.int i)
  | tup {a : Addr} {xs : List V} (h : H a = some (.tup xs)) : OddB H (.ref a)
  | lst {a : Addr} {xs : List V} (h : H a = some (.lst xs)) : OddB H (.ref a)
  | dic {a : Addr} {kvs : List (Key × V)} (h : H a = some (.dK kvs)) : OddB H (.ref a)
theorem oddB_ty (K : PySem.W.Frag) {H : Hp} {x : V} (o : OddB H x) : ∃ n : String, TyX K H x (.type n) ∧ kitB n "bool" = some false := by
  cases o with
  | str z => exact ⟨"str", .base (.str z), by decide +kernel⟩
  | non => exact ⟨"NoneType", .base .non, by decide +kernel⟩
  | int i => exact ⟨"int", .base (.int i), by decide +kernel⟩
  | tup h => exact ⟨"tuple", .base (.tup h), by decide +kernel⟩
  | lst h => exact ⟨"list", .base (.lst h), by decide +kernel⟩
  | dic h => exact ⟨"dict", .base (.dK h), by decide +kernel⟩
end Vf

set_option Elab.async false
set_option linter.all false
set_option maxRecDepth 100000
set_option maxHeartbeats 2000000
namespace Vf
open PySem PySem.Spec PyProof.Rows L2
/-- the callee's errors are the def's own -/
theorem passE {X : Cx} {E : XK} (hs : X.stack = X.env :: X.outer) (hf : X.env.frame = some X.env.locals) (hex : X.ex = []) {E₁ : Value → Shared → Prop}
    (hx : X.xe = fun e s' => wpAny (model X.prog X.w) X.A (leaving X.env e) (fun _ s'' => L2.CX X.prog X.w X.outer X.H_0 X.s_0 E e s'') E₁ s') : Passes (L2.CX X.prog X.w) X E :=
  passes_call (takes_of hs hf hex hx) fun _ _ _ _ h => h
/-! ### o.m(k = v, ..) -/
def tMethK (C : Addr) (m : Str) (n : Nat) (sp : Sp) (gV : List V → List V → List V) (E : XK) (ta : TE) (tk : TA) : TE := fun σ H Q => ta σ H fun x H1 => ∃ a dx fs, x = .ref a ∧ H1 a = some (.ins C dx fs) ∧ fs.lookup m = none ∧
  tk σ H1 fun zs H2 => zs.length = n ∧ sp (gV [.ref a] zs) H2 Q E
theorem c_meK {X : Cx} {CX : CXT} {k j : Nat} {ps ks : List Str} {sp : Sp} {m cn : Str} {o : Expr} {pos apos : Pos} {kws : List Keyword} {ta : TE} {tk : TA} {gV : List V → List V → List V} {E : XK} {C : Addr} (hC : C = He.ga X.K cn) (hb : PE X o ta) (c : Cls X.K C) (hm : Meth X.K C m (He.fAd X.K (cn, some m)))
    (O : OkK X.prog X.w X.K X.mg X.base CX k (cn, some m) ps 1 ks gV sp) (hr : Room j X.A) (hj : k ≤ j) (hx : Passes CX X E) (hkw : PK X kws tk) {pl : Sem Bool}
    (hall : (backToKw pos (keywordEach kws X.env)).all (·.1.isSome) = true := by rfl) (hks : (backToKw pos (keywordEach kws X.env)).filterMap (·.1) = ks := by rfl)
    (hpl : ((backTo pos (starEach [] X.env)).any (·.1) || (backToKw pos (keywordEach kws X.env)).any (·.1.isNone)) = false := by rfl)
    (ht : eval (.Call (.Attribute o m apos) [] kws pos) X.env = (do
      let ov ← eval o X.env
      standAt apos.atName
      let (f, first) ← holding [ov] (getMethod ov m pl)
      callWith pos f first (backTo pos (starEach [] X.env)) (backToKw pos (keywordEach kws X.env))) := by rfl) :
    PE X (.Call (.Attribute o m apos) [] kws pos) (tMethK C m ks.length sp gV E ta tk) := by
  obtain ⟨fd, g, F, b⟩ := O.ex
  refine ⟨fun pins s σ H Q I h => ?_⟩
  refine PySem.W.methodCall_KW (pl := pl) (thn (hb.run pins s σ H _ I h) fun u s1 ⟨x, H1, I1, rx, a, dx, fs, ex, ea, l, q⟩ => ?_) ht
  subst ex
  obtain rfl : u = Value.ref a := rx
  refine getmeth_ok I1 ea c hm l ?_
  refine PySem.W.callWith_KW0 (first := [.ref a]) (h₀ := X.base) I.ok.mod.kin hm.kp hall ?_ hpl
  refine thn (hkw.run pos pins s1 σ H1 _ I1 q) fun ws s2 ⟨zs, H2, I2, rz, l2, q2⟩ => ⟨I2.kIn, ?_⟩
  rw [hks]
  exact run_fnN (us := [.ref a]) (vs := [.ref a]) F (hr.mono hj) b hx I2 (.cons rfl .nil) rz rfl l2 q2
/-! ### o != o of a class with an own == alone -/
section
open PySem.W PySem.Calls
variable {M : Model} {prog : Program} {w : World} {A : Around} {E : Value → Shared → Prop} {s : Shared} {K : Frag} {x y C f : Addr} {ox oy : Obj} {od od' : Option Obj}
theorem ifBound_objNe {args : List Value} {Q : Option Value → Shared → Prop} (X : K.In s.heap) (I : InstAt s.heap x ox C od) (hs : findIn K (.ref C) "__ne__" = some (some (.builtin "object.__ne__")))
    (h : wpAny M A (call (.builtin "object.__ne__") (.ref x :: args)) (fun v => Q (some v)) E s) : wpAny M A (callSpecialIfBound? (.ref x) "__ne__" args) Q E s := by
  simp only [callSpecialIfBound?, bindSpecialIfBound?]
  refine wpAny_holding (wpAny_bind (wpAny_bind (wpAny_bind (I.type.here ((looks_findIn X hs).here ?_)))))
  refine wpAny_bind (wpAny_askSetting (wpAny_ite ?_))
  have fin : wpAny M A (call (.builtin "object.__ne__") ([.ref x] ++ args) >>= fun v => pure (some v)) Q E s := wpAny_bind (wpAny_mono h (fun v s' h' => wpAny_pure h') fun _ _ h' => h')
  split
  · exact wpAny_bind (wpAny_of_eq (F.cmp_object.ne.bind _) (wpAny_pure (by exact fin)))
  · exact wpAny_tryCatch (wpAny_bind (wpAny_of_eq (F.cmp_object.ne.bind _) (wpAny_pure (by exact fin))))
def NeBack (Q : Value → Shared → Prop) (v : Value) (s' : Shared) : Prop := ∃ t, v = .bool t ∧ Q (.bool (!t)) s'
theorem entry_ne {Q : Fin → Shared → Prop} (hu : A.units < cLine) (X : K.In s.heap) (I : InstAt s.heap x ox C od) (hs : findIn K (.ref C) "__eq__" = some (some (.ref f))) (hf : isFn K (.ref f) = true)
    (h : wpAny (model prog w) A (call (.ref f) [.ref x, .ref y]) (NeBack fun v => Q (.done (.ret v))) E s) : wpAny (model prog w) A (Builtin.«object.__ne__» ⟨[.ref x, .ref y], []⟩) Q E s := by
  have e : wpAny (model prog w) A (callSpecialIfBound? (.ref x) "__eq__" [.ref y]) (fun r s' => ∃ t, r = some (.bool t) ∧ Q (.done (.ret (.bool (!t)))) s') E s :=
    ifBound_K X I hs hf (wpAny_mono h (fun v s' hv => by obtain ⟨t, rfl, q⟩ := hv; exact ⟨t, rfl, q⟩) fun _ _ e => e)
  unfold Builtin.«object.__ne__»
  repeat (first | with_reducible refine wpAny_cRoomFor hu ?_ | with_reducible refine wpAny_mono e ?_ (fun _ _ e => e) | wp_step)
  rintro r s' ⟨t, rfl, q⟩
  refine wpAny_bind (wpAny_truthy_bool ?_)
  exact wpAny_pure q
theorem call_ne {Q : Value → Shared → Prop} (hu : A.in1.units < cLine) (X : K.In s.heap) (I : InstAt s.heap x ox C od) (hm : mroIn K C (.type "object") = some true) (hs : findIn K (.ref C) "__eq__" = some (some (.ref f))) (hf : isFn K (.ref f) = true)
    (h : wpAny (model prog w) A.in1 (call (.ref f) [.ref x, .ref y]) (NeBack Q) E s) :
    wpAny (model prog w) A (call (.builtin "object.__ne__") [.ref x, .ref y]) Q E s :=
  wpAny_call (codeAny_call_builtin F.cmp_object.ne.plain F.cmpEntry_ne (check_slot F.cmpKind_ne F.cmpSplit_ne (I.type.andThen (looks_mroIn X hm)) (F.cmpArgs_ne _ _) (entry_ne hu X I hs hf h)))
theorem rc_ne {Q : Value → Shared → Prop} (hu : A.units < cLine) (hu1 : A.in1.units < cLine) (X : K.In s.heap) (I : InstAt s.heap x ox C od) (I' : InstAt s.heap y oy C od') (hm : mroIn K C (.type "object") = some true)
    (hn : findIn K (.ref C) "__ne__" = some (some (.builtin "object.__ne__"))) (hs : findIn K (.ref C) "__eq__" = some (some (.ref f))) (hf : isFn K (.ref f) = true)
    (h : wpAny (model prog w) A.in1 (call (.ref f) [.ref x, .ref y]) (NeBack Q) E s) : wpAny (model prog w) A (richCompare .NotEq (.ref x) (.ref y)) Q E s := by
  have one : wpAny (model prog w) A (tryCompare (.ref x) "__ne__" (.ref y)) (fun r s' => ∃ v, r = some v ∧ Q v s') E s := by
    unfold tryCompare
    refine wpAny_bind (ifBound_objNe X I hn (call_ne hu1 X I hm hs hf (wpAny_mono h (fun v s' hv => ?_) fun _ _ e => e)))
    obtain ⟨t, rfl, q⟩ := hv
    exact ⟨t, rfl, wpAny_pure ⟨_, rfl, q⟩⟩
  unfold richCompare
  simp only [oneThing_ref]
  refine wpAny_holding (wpAny_bind (wpAny_cRoomFor hu ?_))
  refine wpAny_bind (I.type.here (wpAny_bind (I'.type.here ?_)))
  split
  · rename_i q
    exact absurd q (by simp)
  · refine wpAny_bind (wpAny_pure ?_)
    simp only [Bool.false_eq_true, if_false]
    refine wpAny_bind (wpAny_mono one (fun r s' z => ?_) fun _ _ e => e)
    obtain ⟨v, rfl, hq⟩ := z
    exact wpAny_pure hq
end
def rNeO (C : Addr) (sp : Sp) : R2 := fun x y H Q => ∃ a b dx dy fs gs, x = .ref a ∧ y = .ref b ∧ H a = some (.ins C dx fs) ∧ H b = some (.ins C dy gs) ∧ sp [.ref a, .ref b] H (fun v H' => ∃ t, v = .bl t ∧ Q (.bl (!t)) H') fun _ _ _ => False
theorem cmp_neO {X : Cx} {k j : Nat} {C : Addr} {cn : Str} {ps : List Str} {sp : Sp} (hC : C = He.ga X.K cn) (M : Meth X.K C "__eq__" (He.fAd X.K (cn, some "__eq__"))) (hn : PySem.W.findIn X.K (.ref C) "__ne__" = some (some (.builtin "object.__ne__"))) (hm : PySem.W.mroIn X.K C (.type "object") = some true)
    (O : OkD X.prog X.w X.K X.mg X.base CX0 k (cn, some "__eq__") ps [] sp) (hr : Room j X.A) (hj : k + 1 ≤ j) : OpR X (compareOp .NotEq) (rNeO C sp) := by
  obtain ⟨fd, ds, F, b, v⟩ := O.ex
  cases v
  intro pins s σ H x y v u Q I rx ry h
  obtain ⟨a, b', dx, dy, fs, gs, rfl, rfl, ha, hb, hsp⟩ := h
  cases rx
  cases ry
  obtain ⟨mA, J, _⟩ := ins_get I.hok ha
  obtain ⟨mB, J', _⟩ := ins_get I.hok hb
  obtain ⟨od, J, _⟩ := J.look
  obtain ⟨od', J', _⟩ := J'.look
  have hr1 : Room k X.A.in1 := (hr.mono hj).in1
  refine rc_ne hr.units0 hr1.units0 I.kIn J J' hm hn M.at_ M.fn ?_
  have hl := F.len _ _ _ _ hsp
  have hbb := b s [.ref a, .ref b'] I.kIn (by simpa using hl)
  simp only [List.append_nil] at hbb
  refine wpAny_call (codeAny_mono (F.run X.A.in1 X.stack s H ⟨[.ref a, .ref b'], []⟩ [.ref a, .ref b'] [.ref a, .ref b'] _ _ hr1 I.env0.in1 hbb (.cons rfl (.cons rfl .nil)) hsp) fun r s' hq => ?_)
  cases r with
  | error e => exact hq.elim
  | ok fl =>
    cases fl with
    | ret w =>
      obtain ⟨z, H', I', rz, t, ez, q⟩ := I.after hq
      subst ez
      cases rz
      exact ⟨t, rfl, .bl (!t), H', I', rfl, q⟩
    | next => exact False.elim hq
    | brk => exact False.elim hq
    | cont => exact False.elim hq
end Vf

set_option Elab.async false
set_option linter.all false
set_option maxRecDepth 100000
set_option maxHeartbeats 2000000
/-! ### enumerate over a tuple -/
namespace PySem
open Sem (wp)
open AutoSeq1 (wpAny_loadPart')
theorem vf_enum_newT (l : Addr) (items : Array Value) (n : Nat) (dct : Option Addr) (sl : Array (Option Value)) :
    Meets (Builtin.«enumerate.__new__» ⟨[.type "enumerate", .ref l], []⟩) (fun _ R s => s.heap.get? l = some { cls := .type "tuple", dict := dct, data := .seq items n, slots := sl } ∧
      R (.ok (.ret (.ref (s.heap.push { cls := .type "tuple_iterator", data := .fields #[.ref l, .int 0 0] }).objs.size)))
        { s with heap := (s.heap.push { cls := .type "tuple_iterator", data := .fields #[.ref l, .int 0 0] }).push { cls := .type "enumerate", data := .fields #[.none, .bool false, .ref s.heap.objs.size, rawInt 0, .none, .none] } }) :=
  .of_wp fun prog w A R s h => by
    obtain ⟨hp, g, d, tk, os⟩ := s; obtain ⟨hl, h⟩ := h
    have hsub := sub_enumerate
    have hL : Heap.IsTuple (Shared.heap ⟨hp, g, d, tk, os⟩) l items := ⟨_, hl, rfl, n, rfl⟩
    wp_walk using wpAny_loadPart' hl
    refine wpAny_stack_any fun st => wpAny_pure ?_
    split
    · rename_i c _ _ _ _ _
      cases (c == Value.type "enumerate")
      · wp_walk using wpAny_loadPart' hl, wpAny_pyIter_tuple hL
        exact ⟨_, rfl, h⟩
      · wp_walk using wpAny_loadPart' hl, wpAny_pyIter_tuple hL
        exact ⟨_, rfl, h⟩
    · wp_walk using wpAny_loadPart' hl, wpAny_pyIter_tuple hL
      exact ⟨_, rfl, h⟩
section
variable {prog : Program} {w : World} {A : Around} {E : Value → Shared → Prop} {s : Shared}
theorem vf_call_enumT {l : Addr} {items : Array Value} {Q : Value → Shared → Prop} (hL : s.heap.IsTuple l items)
    (h : ∀ h', IsEnum h' (s.heap.objs.size + 1) s.heap.objs.size 0 .none → h'.IsTupleIter s.heap.objs.size l 0 → h'.objs.size = s.heap.objs.size + 2 →
      (∀ b o, s.heap.get? b = some o → h'.get? b = some o) → Q (.ref (s.heap.objs.size + 1)) { s with heap := h' }) :
    wpAny (model prog w) A (call (.type "enumerate") [.ref l]) Q E s := by
  obtain ⟨⟨c, dct, dt, sl⟩, hl, hc, n, hd⟩ := hL
  replace hc : c = .type "tuple" := hc
  replace hd : dt = .seq items n := hd
  subst hc hd
  refine callType_new F.called_enumerate (by decide) (F.typeCall_enumerate_1 _) (F.newCall_enumerate_1 _) (fun obj => F.args_object_init_2 obj _) F.entry_enumerate_new
    (vf_enum_newT l items n dct sl) ⟨hl, ?_⟩
  have hz : (s.heap.push { cls := .type "tuple_iterator", data := .fields #[.ref l, .int 0 0] }).objs.size = s.heap.objs.size + 1 := Heap.size_push ..
  show _ ∧ _
  rw [hz]
  have he : IsEnum ((s.heap.push { cls := .type "tuple_iterator", data := .fields #[.ref l, .int 0 0] }).push
      { cls := .type "enumerate", data := .fields #[.none, .bool false, .ref s.heap.objs.size, rawInt 0, .none, .none] }) (s.heap.objs.size + 1) s.heap.objs.size 0 .none := by
    have := Heap.get?_push_size (s.heap.push { cls := .type "tuple_iterator", data := .fields #[.ref l, .int 0 0] })
      (o := { cls := .type "enumerate", data := .fields #[.none, .bool false, .ref s.heap.objs.size, rawInt 0, .none, .none] }) rfl
    rw [hz] at this; exact this
  refine ⟨⟨_, he, rfl⟩, h _ he ⟨_, Heap.get?_push_of_some _ (Heap.get?_push_size _ rfl), rfl, rfl⟩ (by rw [Heap.size_push, hz]) fun b o x => Heap.get?_push_of_some _ (Heap.get?_push_of_some _ x)⟩
end
end PySem
namespace Vf
open PySem PySem.Spec PyProof.Rows L2
/-- the tuple at a, each item in a new pair -/
def IteT (K : PySem.W.Frag) (a : Addr) : It :=
  ⟨fun i H => ∃ (xs : List V) (x : V), SqT K H a xs ∧ xs[i]? = some x, fun i H v H' => ∃ T x, v = .ref T ∧ H T = none ∧ H' = upd H T (.tup [.int (i : Nat), x]) ∧ ∀ xs, SqT K H a xs → xs[i]? = some x, fun i H => ∃ xs : List V, SqT K H a xs ∧ xs.length = i⟩
theorem turn_enumT {P : Program} {w : World} {K : PySem.W.Frag} {elts : List Expr} {kk : Nat} {tpos : Pos} (a e it : Addr) :
    Turn P w K (.Tuple elts kk tpos) (IteT K a) [e, it] e (fun i h => (∃ old, IsEnum h e it ((i : Nat) : Int) old) ∧ h.IsTupleIter it a i ∧ e ≠ it) where
  mem := by simp
  obj := fun i h st b hb => by
    obtain ⟨⟨old, he⟩, ⟨o, ho, hc, hd⟩, _⟩ := st
    have e' : b = e ∨ b = it := by simpa using hb
    rcases e' with z | z
    · rw [z]; exact ⟨_, he, fun v q => nomatch q⟩
    · rw [z]; exact ⟨o, ho, fun v q => by rw [hd] at q; cases q⟩
  keep := fun i h h' st k => let ⟨⟨old, he⟩, hi, hne⟩ := st; ⟨⟨old, k e (by simp) _ he⟩, hi.at fun o q => k it (by simp) o q, hne⟩
  item := by
    intro X hP hw hK hc i pins s σ H E I hf st hg
    subst hP hw hK
    obtain ⟨⟨old, he⟩, hit, hne⟩ := st
    obtain ⟨xs, x, hq, hx⟩ := hg
    obtain ⟨its, rv, p, hz⟩ := I.tuple hq
    obtain ⟨u, hu, ru⟩ := rv.get hx
    have pT : s.heap.IsTuple a its.toArray := p
    have hel : e < s.heap.objs.size := Heap.lt_size he
    have hil : it < s.heap.objs.size := by obtain ⟨_, q, _⟩ := hit; exact Heap.lt_size q
    have nai : a ≠ it := fun z => by
      subst z
      obtain ⟨o1, h1, c1, _⟩ := pT
      obtain ⟨o2, h2, c2, _⟩ := hit
      rw [h1] at h2
      cases h2
      rw [c1] at c2
      injection c2 with c2
      exact absurd c2 (by decide)
    have nae : a ≠ e := fun z => by
      subst z
      obtain ⟨o1, h1, c1, _⟩ := pT
      rw [show s.heap.get? a = _ from he] at h1
      cases h1
      injection c1 with c1
      exact absurd c1 (by decide)
    have hli : i < its.toArray.size := by
      have := (List.getElem?_eq_some_iff.mp hu).1
      simpa using this
    have hh : X.A.in1.handled = none := I.ok.hd hc
    refine wpAny_pyNext_enum_itemD (Draws.tuple hh it a nai its.toArray) he ⟨hit, pT⟩ hli hne (by simp [hne, nae.symm]) fun v h' tk hv ho hit' hT hsz hk => ?_
    have ev : v = u := by
      have h1 : its[i]? = some v := by simpa using hv
      rw [hu] at h1
      exact (Option.some.inj h1).symm
    subst ev
    refine ⟨_, rfl, wpAny_letOwnedTupleGo_enum (s := { s with heap := h', toks := tk + 1 }) ho fun h'' he' sb => ?_⟩
    have hT2 : h''.get? s.heap.objs.size = some { cls := .type "tuple", data := .seq #[.int i tk, v] } := (sb.2 _ (Nat.ne_of_gt hel)).trans hT
    have new : ObjOk X.prog X.w (upd H s.heap.objs.size (.tup [.int (i : Nat), x])) h'' s.heap.objs.size (.tup [.int (i : Nat), x]) :=
      ⟨by show 2 ≤ sizeLine; decide, [.int i tk, v], .cons ⟨_, rfl⟩ (.cons ru .nil), ⟨_, hT2, rfl, _, rfl⟩⟩
    have I1 : Inv X pins σ (upd H s.heap.objs.size (.tup [.int (i : Nat), x])) { s with heap := h'', toks := tk + 1 } :=
      I.turnedNew (ch := [e, it]) (fun b ob hb q => (sb.2 b (fun z => hb (by simp [z]))).trans (hk b ob (fun z => hb (by simp [z])) (fun z => hb (by simp [z])) q)) hf (Nat.le_refl _) new
    refine ⟨.ref s.heap.objs.size, _, I1, rfl, ⟨_, x, rfl, I.hok.fresh (Nat.le_refl _), rfl, fun ys hy => by rw [I.tuple_inj hy hq]; exact hx⟩, ⟨⟨v, ?_⟩, hit'.1.at fun o q => (sb.2 it (Ne.symm hne)).trans q, hne⟩, fun b hb => ?_⟩
    · have e1 : ((i + 1 : Nat) : Int) = (i : Int) + 1 := by omega
      rw [e1]; exact he'
    · have hb' : b < s.heap.objs.size := by
        have e' : b = e ∨ b = it := by simpa using hb
        rcases e' with z | z
        · rw [z]; exact hel
        · rw [z]; exact hil
      rw [upd_ne (Nat.ne_of_lt hb')]
      exact (hf b hb).1
  done := by
    intro X hP hw hK hc i pins s σ H E I hf st hg
    subst hP hw hK
    obtain ⟨⟨old, he⟩, hit, hne⟩ := st
    obtain ⟨xs, hq, hx⟩ := hg
    obtain ⟨its, rv, p, hz⟩ := I.tuple hq
    have pT : s.heap.IsTuple a its.toArray := p
    obtain ⟨f0, f1, f2, f3, f4, f5⟩ := hf it (by simp)
    have hl := rv.length
    have nai : a ≠ it := fun z => by
      subst z
      obtain ⟨o1, h1, c1, _⟩ := pT
      obtain ⟨o2, h2, c2, _⟩ := hit
      rw [h1] at h2
      cases h2
      rw [c1] at c2
      injection c2 with c2
      exact absurd c2 (by decide)
    have hh : X.A.in1.handled = none := I.ok.hd hc
    have hin : its.toArray.size = i := by simp; omega
    subst hin
    exact wpAny_pyNext_enum_endD (Draws.tuple hh it a nai its.toArray) he ⟨hit, pT⟩ fun h' eb => ⟨rfl, I.turned (t' := s.toks) (fun b o hb q => eb b o hb q) f0 f1 f3 f4 f5⟩
  self := fun A i s Q E st h => let ⟨⟨_, he⟩, _⟩ := st; wpAny_pyIter_enum he h
def iEnumT (K : PySem.W.Frag) (ta : TA) : TI := fun σ H R => ta σ H fun vs H1 => ∃ a xs, vs = [.ref a] ∧ SqT K H1 a xs ∧ R (IteT K a) H1
theorem pi_enumT {X : Cx} {e : Expr} {ta : TA} {p pos tpos : Pos} {elts : List Expr} {kk : Nat} (hg : Gl X "enumerate") (hm : X.mg "enumerate" = none) (ha : PA X [e] ta) (hs : starEach [e] X.env = [(false, eval e X.env)] := by rfl) :
    PI X (.Tuple elts kk tpos) (.Call (.Name "enumerate" p) [e] [] pos) (iEnumT X.K ta) := by
  refine ⟨fun pins s σ H R I h => ?_⟩
  refine Call_ (ld_blt I hg hm boot_enumerate (PyProof.Rows.callWith_type1 (thn (ha.run pos pins s σ H _ I h) fun us s1 ⟨vs, H1, I1, r1, q1⟩ => ?_) hs rfl))
  obtain ⟨a, xs, ex, hq, q⟩ := q1
  subst ex
  cases r1 with
  | cons r rr =>
    cases rr
    cases r
    obtain ⟨its, rv, p', hz⟩ := I1.tuple hq
    refine vf_call_enumT (show s1.heap.IsTuple a its.toArray from p') fun h' he hit hsz hk => wpAny_pyIter_enum he ?_
    have I2 : Inv X pins σ H1 { s1 with heap := h' } := I1.kept (t' := s1.toks) hk
    refine ⟨s1.heap.objs.size + 1, [s1.heap.objs.size + 1, s1.heap.objs.size], _, _, H1, rfl, I2, turn_enumT a (s1.heap.objs.size + 1) s1.heap.objs.size, ⟨⟨.none, he⟩, hit, Nat.succ_ne_self _⟩, fun b hb => ?_, q⟩
    have e' : b = s1.heap.objs.size + 1 ∨ b = s1.heap.objs.size := by simpa using hb
    have hle : s1.heap.objs.size ≤ b := by
      rcases e' with z | z
      · rw [z]; exact Nat.le_add_right _ _
      · rw [z]; exact Nat.le_refl _
    exact I1.fpOk hle (I1.hok.fresh hle)
theorem walk_enumT {K : PySem.W.Frag} {a : Addr} {xs : List V} : Walk (IteT K a) xs.length (fun H => SqT K H a xs) (YPair (fun i => some (.int (i : Nat))) (fun i => xs[i]?)) := by
  refine ⟨fun i _ hi q => ⟨xs, xs[i], q, by simp [hi]⟩, fun _ q => ⟨xs, q, rfl⟩, fun i H v H' _ q y => ?_⟩
  obtain ⟨T, x, h1, h2, h3, h4⟩ := y
  exact ⟨T, .int (i : Nat), x, h1, h2, h3, rfl, h4 xs q⟩
theorem ix_listK {X : Cx} {K : PySem.W.Frag} (h : X.K = K) : IxR X (rIxL K) := h ▸ ix_list
theorem ix_tupK {X : Cx} {K : PySem.W.Frag} (h : X.K = K) : IxR X (rIxT K) := h ▸ ix_tup
/-- a dict comprehension over any walk -/
theorem dc_it {J : It} {n : Nat} {G : Hp → Prop} {Y : Nat → Hp → V → Hp → Prop} (w : Walk J n G Y) {g : TG} {tt : TT} {tk tv : TE} {vs : List Nat} {σ : L2.St} {H1 : Hp} {D : Addr} {Qd : Hp → Prop} (Pv : Nat → Hp → Prop) (h0 : Pv 0 (upd H1 D (.dK []))) (hG : ∀ i H, i ≤ n → Pv i H → G H)
    (hs : ∀ i x H H', i < n → Pv i H → Y i H x H' → g x (wipe σ vs) H' fun σ2 H2 => wipe σ2 vs = wipe σ vs ∧ tt σ2 H2 fun b H3 =>
      if b = true then tk σ2 H3 fun y H4 => tv σ2 H4 fun z H5 => ∃ kvs k, y = kV k ∧ H5 D = some (.dK kvs) ∧ kvs.length < sizeLine ∧ Pv (i + 1) (upd H5 D (.dK (putK kvs k z))) else Pv (i + 1) H3) (hd : ∀ H, Pv n H → Qd H) :
    ∃ W : Nat → Nat → Hp → Prop, (∃ m, W 0 m (upd H1 D (.dK []))) ∧ ∀ i m H, W i m H →
      (J.stop i H ∧ Qd H) ∨ (J.go i H ∧ ∃ Nx : Hp → Prop, (∀ H', Nx H' → ∃ m', m' < m ∧ W (i + 1) m' H') ∧ ∀ x H', J.yld i H x H' → g x (wipe σ vs) H' fun σ2 H2 => wipe σ2 vs = wipe σ vs ∧ tt σ2 H2 fun b H3 =>
        if b = true then tk σ2 H3 fun y H4 => tv σ2 H4 fun z H5 => ∃ kvs k, y = kV k ∧ H5 D = some (.dK kvs) ∧ kvs.length < sizeLine ∧ Nx (upd H5 D (.dK (putK kvs k z))) else Nx H3) := by
  refine ⟨fun i m H => m = n - i ∧ i ≤ n ∧ Pv i H, ⟨n, by simp, Nat.zero_le _, h0⟩, ?_⟩
  rintro i m H ⟨rfl, hi, p⟩
  have q := hG i H hi p
  by_cases hlt : i < n
  · exact .inr ⟨w.goes i H hlt q, Pv (i + 1), fun H' p' => ⟨n - (i + 1), by omega, rfl, hlt, p'⟩, fun x H' y => hs i x H H' hlt p (w.yields i H x H' hlt q y)⟩
  · have e : i = n := by omega
    subst e
    exact .inl ⟨w.stops H q, hd H p⟩
end Vf

set_option Elab.async false
set_option linter.all false
set_option maxRecDepth 100000
set_option maxHeartbeats 2000000
namespace Vf
open PySem PySem.Spec PyProof.Rows L2
/-! ### x in o, o[x], len(o) of a class of the text's own -/
section
variable {X : Cx} {k j : Nat} {C : Addr} {cn : Str} {ps : List Str} {sp : Sp}
def rInO (neg : Bool) (C : Addr) (sp : Sp) : R2 := fun x y H Q => ∃ b dx fs, y = .ref b ∧ H b = some (.ins C dx fs) ∧ sp [.ref b, x] H (fun v H' => ∃ t, v = .bl t ∧ Q (.bl (if neg then !t else t)) H') fun _ _ _ => False
theorem in_run (M : Meth X.K C "__contains__" (He.fAd X.K (cn, some "__contains__"))) (O : OkD X.prog X.w X.K X.mg X.base CX0 k (cn, some "__contains__") ps [] sp) (hr : Room j X.A) (hj : k ≤ j) {pins : List (Addr × Obj)} {σ : L2.St} {H : Hp} {s : Shared} {x : V} {u : Value} {b : Addr} {Qv : VK}
    (I : L2.Inv X pins σ H s) (rx : RelV x u) (hsp : sp [.ref b, x] H (fun v H' => ∃ t, v = .bl t ∧ Qv (.bl t) H') fun _ _ _ => False) {Q : Value → Shared → Prop} (hq : ∀ t s' H', L2.Inv X pins σ H' s' → Qv (.bl t) H' → wpAny (model X.prog X.w) X.A (truthy (.bool t)) (fun b => Q (.bool b)) X.xe s') :
    wpAny (model X.prog X.w) X.A (call (.ref (He.fAd X.K (cn, some "__contains__"))) [.ref b, u]) (fun r s' => wpAny (model X.prog X.w) X.A (truthy r) (fun b => Q (.bool b)) X.xe s') X.xe s := by
  obtain ⟨fd, ds, F, bi, v⟩ := O.ex
  cases v
  have hl := F.len _ _ _ _ hsp
  have hb := bi s [.ref b, u] I.kIn (by simpa using hl)
  simp only [List.append_nil] at hb
  refine wpAny_call (codeAny_mono (F.run X.A X.stack s H ⟨[.ref b, u], []⟩ [.ref b, u] [.ref b, x] _ _ (hr.mono hj) I.env0 hb (.cons rfl (.cons rx .nil)) hsp) fun r s' hq' => ?_)
  cases r with
  | error e => exact hq'.elim
  | ok fl =>
    cases fl with
    | ret w =>
      obtain ⟨z, H', I', rz, t, ez, q⟩ := I.after hq'
      subst ez
      cases rz
      exact hq t s' H' I' q
    | next => exact False.elim hq'
    | brk => exact False.elim hq'
    | cont => exact False.elim hq'
theorem op_inO (M : Meth X.K C "__contains__" (He.fAd X.K (cn, some "__contains__"))) (O : OkD X.prog X.w X.K X.mg X.base CX0 k (cn, some "__contains__") ps [] sp) (hr : Room j X.A) (hj : k ≤ j) : OpR X (compareOp .In) (rInO false C sp) := by
  intro pins s σ H x y v u Q I rx ry h
  obtain ⟨b, dx, fs, rfl, hb, hsp⟩ := h
  cases ry
  obtain ⟨mA, J, _⟩ := ins_get I.hok hb
  obtain ⟨od, J, _⟩ := J.look
  obtain ⟨mm, hF⟩ := I.fr
  exact PySem.W.in_K hF I.ok.mod.kin J M.at_ M.fn (in_run (cn := cn) M O hr hj I rx hsp fun t s' H' I' q => wpAny_truthy_bool ⟨.bl t, H', I', rfl, q⟩)
theorem op_notInO (M : Meth X.K C "__contains__" (He.fAd X.K (cn, some "__contains__"))) (O : OkD X.prog X.w X.K X.mg X.base CX0 k (cn, some "__contains__") ps [] sp) (hr : Room j X.A) (hj : k ≤ j) : OpR X (compareOp .NotIn) (rInO true C sp) := by
  obtain ⟨fd, ds, F, bi, vd⟩ := O.ex
  cases vd
  intro pins s σ H x y v u Q I rx ry h
  obtain ⟨b, dx, fs, rfl, hb, hsp⟩ := h
  cases ry
  obtain ⟨mA, J, _⟩ := ins_get I.hok hb
  obtain ⟨od, J, _⟩ := J.look
  obtain ⟨mm, hF⟩ := I.fr
  have hl := F.len _ _ _ _ hsp
  have hb := bi s [.ref b, v] I.kIn (by simpa using hl)
  simp only [List.append_nil] at hb
  refine PySem.W.notIn_K hF I.ok.mod.kin J M.at_ M.fn (wpAny_call (codeAny_mono (F.run X.A X.stack s H ⟨[.ref b, v], []⟩ [.ref b, v] [.ref b, x] _ _ (hr.mono hj) I.env0 hb (.cons rfl (.cons rx .nil)) hsp) fun r s' hq' => ?_))
  cases r with
  | error e => exact hq'.elim
  | ok fl =>
    cases fl with
    | ret w =>
      obtain ⟨z, H', I', rz, t, ez, q⟩ := I.after hq'
      subst ez
      cases rz
      exact wpAny_truthy_bool ⟨.bl (!t), H', I', rfl, q⟩
    | next => exact False.elim hq'
    | brk => exact False.elim hq'
    | cont => exact False.elim hq'
/-- o[x] -/
def rSubO (C : Addr) (sp : Sp) (E : XK) : R2 := fun x y H Q => ∃ a dx fs, x = .ref a ∧ H a = some (.ins C dx fs) ∧ sp [.ref a, y] H Q E
theorem pe_subO {CX : CXT} {E : XK} {a b : Expr} {pos : Pos} {ta tb : TE} (ha : PE X a ta) (hb : PE X b tb) (M : Meth X.K C "__getitem__" (He.fAd X.K (cn, some "__getitem__"))) (hfn : PySem.W.fnIn X.K (He.fAd X.K (cn, some "__getitem__")) = true)
    (O : OkD X.prog X.w X.K X.mg X.base CX k (cn, some "__getitem__") ps [] sp) (hr : Room j X.A) (hj : k + 1 ≤ j) (hx : Passes CX X E)
    (hsl : ∀ x i, subscripted b true (.ref x) i = runValue (.builtin "lifetime.subscript" ⟨[.ref x, i], []⟩) := by intro _ _; rfl) : PE X (.Subscript a b pos) (tOp (rSubO C sp E) ta tb) := by
  obtain ⟨fd, ds, F, bi, v⟩ := O.ex
  cases v
  refine ⟨fun pins s σ H Q I h => ?_⟩
  refine Subscript_ (binT ha hb I h fun v u s2 x y H2 I2 rx ry q => ?_)
  obtain ⟨p, dx, fs, rfl, hp, hsp⟩ := q
  cases rx
  obtain ⟨mA, J, _⟩ := ins_get I2.hok hp
  obtain ⟨od, J, _⟩ := J.look
  obtain ⟨mm, hF⟩ := I2.fr
  have hl := F.len _ _ _ _ hsp
  have hbb := bi s2 [.ref p, u] I2.kIn (by simpa using hl)
  simp only [List.append_nil] at hbb
  refine PySem.W.sub_K hF I2.ok.mod.kin J M.at_ hfn M.fn (wpAny_call (codeAny_mono (F.run X.A.in1 X.stack s2 H2 ⟨[.ref p, u], []⟩ [.ref p, u] [.ref p, y] _ _ ((hr.mono hj).in1) I2.env0.in1 hbb (.cons rfl (.cons ry .nil)) hsp) fun r s' hq => ?_)) (hsl _ _)
  cases r with
  | error e => exact hx pins σ H2 s2 e s' I2 hq
  | ok fl =>
    cases fl with
    | ret w => exact I2.after hq
    | next => exact False.elim hq
    | brk => exact False.elim hq
    | cont => exact False.elim hq
/-- len(o) -/
def rLenO (C : Addr) (sp : Sp) : List V → Hp → VK → Prop := fun xs H Q => ∃ a dx fs, xs = [.ref a] ∧ H a = some (.ins C dx fs) ∧ sp [.ref a] H (fun v H' => ∃ n : Int, v = .int n ∧ 0 ≤ n ∧ n < 2 ^ 62 ∧ Q (.int n) H') fun _ _ _ => False
theorem call_lenO (M : Meth X.K C "__len__" (He.fAd X.K (cn, some "__len__"))) (O : OkD X.prog X.w X.K X.mg X.base CX0 k (cn, some "__len__") ps [] sp) (hr : Room j X.A) (hj : k + 1 ≤ j) : CallR X (.builtin "len") (rLenO C sp) := by
  obtain ⟨fd, ds, F, bi, v⟩ := O.ex
  cases v
  intro pins s σ H xs us Q I r h
  obtain ⟨a, dx, fs, rfl, ha, hsp⟩ := h
  obtain ⟨u, rfl, ru⟩ : ∃ u, us = [u] ∧ RelV (.ref a) u := by
    cases r with
    | cons p q => cases q; exact ⟨_, rfl, p⟩
  cases ru
  obtain ⟨mA, J, _⟩ := ins_get I.hok ha
  obtain ⟨od, J, _⟩ := J.look
  obtain ⟨mm, hF⟩ := I.fr
  have hl := F.len _ _ _ _ hsp
  have hb := bi s [.ref a] I.kIn (by simpa using hl)
  simp only [List.append_nil] at hb
  refine PySem.W.len_K hF I.ok.mod.kin J M.at_ M.fn (wpAny_call (codeAny_mono (F.run X.A.in1 X.stack s H ⟨[.ref a], []⟩ [.ref a] [.ref a] _ _ ((hr.mono hj).in1) I.env0.in1 hb (.cons rfl .nil) hsp) fun r s' hq => ?_))
  cases r with
  | error e => exact hq.elim
  | ok fl =>
    cases fl with
    | ret w =>
      obtain ⟨z, H', I', rz, n, ez, n0, n1, q⟩ := I.after hq
      subst ez
      obtain ⟨t, rfl⟩ := rz
      exact ⟨⟨n0, by omega⟩, .int n, H', I'.tok _, ⟨_, rfl⟩, q⟩
    | next => exact False.elim hq
    | brk => exact False.elim hq
    | cont => exact False.elim hq
end
end Vf
/-! ### == of dicts whose values have an == that runs -/
namespace PySem.W
open Lean Elab Tactic Meta PySem PySem.Calls PyProof.Rows PyProof.V PySem.Spec
section
variable {prog : Program} {w : World} {K : Type} [DecidableEq K] {knd : KeyKind prog w K} {A : Around} {E : Value → Shared → Prop} {s : Shared}
def VfEqJ (prog : Program) (w : World) (A : Around) (E : Value → Shared → Prop) (J : Shared → Prop) (v y : Value) (e : Bool) : Prop := ∀ (s : Shared) (Q : Bool → Shared → Prop), J s → (∀ s', J s' → Q e s') → wpAny (model prog w) A (eqBool v y) Q E s
inductive VfHits {K : Type} [DecidableEq K] (prog : Program) (w : World) (A : Around) (E : Value → Shared → Prop) (J : Shared → Prop) (kb : List (K × Value)) : List (K × Value) → Bool → Prop
  | nil : VfHits prog w A E J kb [] true
  | miss {k : K} {v : Value} {r : List (K × Value)} : valueAt kb k = none → VfHits prog w A E J kb ((k, v) :: r) false
  | hit {k : K} {v y : Value} {r : List (K × Value)} {e b : Bool} : valueAt kb k = some y → VfEqJ prog w A E J v y e → VfHits prog w A E J kb r b → VfHits prog w A E J kb ((k, v) :: r) (e && b)
theorem VfHits.inv {J : Shared → Prop} {kb : List (K × Value)} {k : K} {v : Value} {r : List (K × Value)} {b : Bool} (h : VfHits prog w A E J kb ((k, v) :: r) b) :
    (valueAt kb k = none ∧ b = false) ∨ ∃ y e b', valueAt kb k = some y ∧ VfEqJ prog w A E J v y e ∧ VfHits prog w A E J kb r b' ∧ b = (e && b') := by
  cases h with
  | miss hn => exact .inl ⟨hn, rfl⟩
  | hit hy he hr => exact .inr ⟨_, _, _, hy, he, hr, rfl⟩
theorem vf_samePairs {J : Shared → Prop} {nm : String} {a b : Addr} {ka kb : List (K × Value)} {r : Bool} {Q : Bool → Shared → Prop} (ha : (a == sysModules) = false) (hb : (b == sysModules) = false)
    (hJ : ∀ s', J s' → s'.heap.get? a = s.heap.get? a ∧ s'.heap.get? b = s.heap.get? b) (h0 : J s) (da : s.heap.DictOf knd a ka) (db : s.heap.DictOf knd b kb) (hits : ka.length = kb.length → VfHits prog w A E J kb ka r) (h : ∀ s', J s' → Q (ka.length == kb.length && r) s') :
    wpAny (model prog w) A (Builtin.Dict.samePairs nm a b) Q E s := by
  obtain ⟨oa, es, ep, hoa, _, hda, hka, hpa, _⟩ := da
  obtain ⟨ob, es', ep', hob, _, hdb, hkb, hpb, _⟩ := db
  have hla : ka.length = es.size := by rw [← hpa.length]; exact Array.length_toList
  have hlb : kb.length = es'.size := by rw [← hpb.length]; exact Array.length_toList
  have hfind : ∀ k, findBy knd.is es' k = valueAt kb k := fun k => by
    rw [← hpb.find k]
    clear hlb hpb hkb hdb hob
    obtain ⟨l⟩ := es'
    simp [findBy]
  have hA : ∀ {s'}, J s' → s'.heap.get? a = some oa := fun j => (hJ _ j).1.trans hoa
  have hB : ∀ {s'}, J s' → s'.heap.get? b = some ob := fun j => (hJ _ j).2.trans hob
  rw [hla, hlb] at h
  unfold Builtin.Dict.samePairs Builtin.Dict.showsAll
  rw [if_neg (show ¬ (a == sysModules) = true by rw [ha]; exact Bool.false_ne_true), if_neg (show ¬ (b == sysModules) = true by rw [hb]; exact Bool.false_ne_true)]
  refine wpAny_bind (wpAny_pure (wpAny_bind (wpAny_pure ?_)))
  refine wpAny_bind (wpAny_dictEntries hoa hda ?_)
  dsimp only
  refine wpAny_bind (wpAny_dictEntries hob hdb ?_)
  by_cases hsz : es.size = es'.size
  case neg =>
    rw [if_pos (by simpa using hsz)]
    have hbf : (es.size == es'.size) = false := by simpa using hsz
    rw [hbf, Bool.false_and] at h
    exact wpAny_bind (wpAny_rule (wpAny_pure (h _ h0)))
  case pos =>
    have h' : ∀ s', J s' → Q r s' := fun s' j => by simpa [hsz] using h s' j
    have hits' := hits (by rw [hla, hlb]; exact hsz)
    rw [if_neg (by rw [hsz]; simp)]
    refine wpAny_bind (wpAny_dictEpoch hoa hda ?_)
    refine wpAny_bind ?_
    rw [Std.Legacy.Range.forIn_eq_forIn_range']
    simp only [Std.Legacy.Range.size, Nat.sub_zero, Nat.add_sub_cancel, Nat.div_one]
    refine wpAny_forIn_list _
      (fun rest q s' => J s' ∧ q = (none, ()) ∧ ∃ i, rest = List.range' i (es.size - i) ∧ i ≤ es.size ∧ VfHits prog w A E J kb (ka.drop i) r)
      _ ?_ ?_ _ _ ⟨h0, rfl, 0, by simp, Nat.zero_le _, hits'⟩
    · rintro x rest q s' ⟨js, rfl, i, hr, hi, hpre⟩
      have hlt : i < es.size := by
        rcases Nat.lt_or_ge i es.size with h | h
        · exact h
        · rw [Nat.sub_eq_zero_of_le h] at hr; simp at hr
      obtain ⟨rfl, hrest⟩ : x = i ∧ rest = List.range' (i + 1) (es.size - (i + 1)) := by
        have e : es.size - i = (es.size - (i + 1)) + 1 := by omega
        rw [e, List.range'_succ] at hr
        injection hr with h1 h2
        exact ⟨h1, h2⟩
      refine wpAny_bind (wpAny_dictEntries (hA js) hda ?_)
      rw [Array.getElem?_eq_getElem hlt]
      have hlt' : x < ka.length := by rw [hla]; exact hlt
      obtain ⟨k, v, hkv⟩ : ∃ k v, ka[x] = (k, v) := ⟨_, _, rfl⟩
      have hdrop : ka.drop x = (k, v) :: ka.drop (x + 1) := by rw [← hkv]; exact List.drop_eq_getElem_cons hlt'
      obtain ⟨hkey, hval⟩ := hpa.get? (i := x) (e := es[x]) (k := k) (v := v) (by rw [Array.getElem?_toList]; exact Array.getElem?_eq_getElem hlt) (by rw [List.getElem?_eq_getElem hlt', hkv])
      obtain ⟨k', hk', hh⟩ := hka es[x] (Array.getElem_mem hlt)
      have ekk : k' = k := knd.inj _ _ _ hk' hkey
      rw [ekk] at hh
      rw [hdrop] at hpre
      show wpAny _ _ (holding [es[x].key, es[x].val] _ >>= _) _ _ _
      rw [hh]
      refine wpAny_bind (wpAny_holding (wpAny_bind (wpAny_dictFind_of hkey (hB js) hdb hkb ?_)))
      cases hj : es'.findIdx? fun e => knd.is k e.key with
      | none =>
        have hn : valueAt kb k = none := by rw [← hfind k, findBy_of_findIdx?, hj]
        rcases hpre.inv with ⟨_, er⟩ | ⟨y, _, _, hy, _⟩
        · rw [er] at h'
          refine wpAny_pure ?_
          show wpAny _ _ (if (!false) = true then _ else _) _ _ _
          rw [if_pos (by decide)]
          exact wpAny_pure (wpAny_pure (h' _ js))
        · rw [hn] at hy; exact nomatch hy
      | some j =>
        obtain ⟨hjlt, _, _⟩ := Array.findIdx?_eq_some_iff_getElem.mp hj
        have hv' : valueAt kb k = some es'[j].val := by
          rw [← hfind k, findBy_of_findIdx?, hj]
          simp [Array.getElem?_eq_getElem hjlt]
        refine wpAny_bind (wpAny_dictEntries (hB js) hdb ?_)
        rw [Array.getElem?_eq_getElem hjlt]
        rcases hpre.inv with ⟨hn, _⟩ | ⟨y, e, b', hy, he, hrr, er⟩
        · rw [hv'] at hn; exact nomatch hn
        · have ey : es'[j].val = y := Option.some.inj (hv'.symm.trans hy)
          rw [← ey, ← hval] at he
          refine wpAny_holding (he _ _ js fun s2 js2 => ?_)
          cases e with
          | false =>
            rw [er, Bool.false_and] at h'
            show wpAny _ _ (if (!false) = true then _ else _) _ _ _
            rw [if_pos (by decide)]
            exact wpAny_pure (wpAny_pure (h' _ js2))
          | true =>
            rw [Bool.true_and] at er
            rw [← er] at hrr
            show wpAny _ _ (if (!true) = true then _ else _) _ _ _
            rw [if_neg (by decide)]
            refine wpAny_bind (wpAny_dictEpoch (hA js2) hda ?_)
            rw [if_neg (by simp)]
            exact wpAny_pure ⟨js2, rfl, x + 1, hrest, hlt, hrr⟩
    · rintro q s' ⟨js, rfl, i, hr, hi, hpre⟩
      have hin : i = es.size := by
        rcases Nat.lt_or_ge i es.size with h | h
        · have e : es.size - i = (es.size - (i + 1)) + 1 := by omega
          rw [e, List.range'_succ] at hr; exact nomatch hr
        · exact Nat.le_antisymm hi h
      refine wpAny_pure ?_
      rw [hin, ← hla, List.drop_length] at hpre
      cases hpre
      exact h' _ js
theorem vf_rcDicts {J : Shared → Prop} {a b : Addr} {ka kb : List (K × Value)} {r : Bool} (ha : (a == sysModules) = false) (hb : (b == sysModules) = false)
    (hJ : ∀ s', J s' → s'.heap.get? a = s.heap.get? a ∧ s'.heap.get? b = s.heap.get? b) (h0 : J s) (da : s.heap.DictOf knd a ka) (db : s.heap.DictOf knd b kb) (hu : A.units < cLine) (hits : ka.length = kb.length → VfHits prog w A.in1 E J kb ka r) {Q : Value → Shared → Prop} (h : ∀ s', J s' → Q (.bool (ka.length == kb.length && r)) s') : wpAny (model prog w) A (compareOp .Eq (.ref a) (.ref b)) Q E s := by
  refine wpAny_richCompare_same_room (op := .Eq) da.typeIs db.typeIs PySem.F.slot_dict_eq (wpAny_call_entry PySem.F.slot_dict_eq da.typeIs PySem.F.entry_dict_eq ?_ (PySem.F.args_dict_eq_2 _ _)) hu
  show wpAny _ _ (Builtin.Dict.dictSlotArgs "__eq__" ⟨[.ref a, .ref b], []⟩ >>= _) _ _ s
  refine wpAny_bind ?_
  unfold Builtin.Dict.dictSlotArgs
  refine wpAny_bind (wpAny_notOrdered_dict da.typeIs ?_)
  show wpAny _ _ (pure (Value.ref a, Value.ref b)) _ _ s
  refine wpAny_pure ?_
  refine wpAny_bind (wpAny_isInstance (T := "dict") db.typeIs PySem.F.sub_dict_dict ?_)
  simp only [Bool.not_true, Bool.false_eq_true, if_false]
  refine wpAny_bind (wpAny_pure (wpAny_bind (wpAny_pure ?_)))
  refine wpAny_bind (vf_samePairs ha hb hJ h0 da db hits fun s' js => ?_)
  refine wpAny_pure ⟨_, rfl, ?_, ?_⟩
  · exact fun x => nomatch x
  · simpa using h s' js
end
end PySem.W
namespace Vf
open PySem PySem.Spec PyProof.Rows L2
/-- the entries of a dict against another dict; ls: the other one -/
inductive DHits (D : V → V → Bool → Prop) (ls : List (Key × V)) : List (Key × V) → Bool → Prop
  | nil : DHits D ls [] true
  | miss {k : Key} {v : V} {r : List (Key × V)} : valV ls k = none → DHits D ls ((k, v) :: r) false
  | hit {k : Key} {v y : V} {r : List (Key × V)} {e b : Bool} : valV ls k = some y → D v y e → DHits D ls r b → DHits D ls ((k, v) :: r) (e && b)
theorem DHits.vf {P : Program} {w : World} {A : Around} {E : Value → Shared → Prop} {J : Shared → Prop} {D : V → V → Bool → Prop} {ls : List (Key × V)} {vb : List (Key × Value)} (rb : KV ls vb)
    (hD : ∀ {x y u v b}, D x y b → RelV x u → RelV y v → PySem.W.VfEqJ P w A E J u v b) : ∀ {ks : List (Key × V)} {va : List (Key × Value)} {r : Bool}, KV ks va → DHits D ls ks r → PySem.W.VfHits P w A E J vb va r
  | [], _, _, ra, h => by
    cases h
    cases ra
    exact .nil
  | (k, x) :: ks, va, r, ra, h => by
    cases ra with
    | @cons _ q _ qs h1 h2 =>
      obtain ⟨e, rx⟩ := h1
      obtain ⟨k', u⟩ := q
      dsimp only at e
      subst e
      have hv := rb.val k
      cases h with
      | miss hn =>
        rw [hn] at hv
        refine .miss ?_
        cases hq : valueAt vb k with
        | none => rfl
        | some z =>
          rw [hq] at hv
          exact hv.elim
      | hit hy he hr =>
        rw [hy] at hv
        obtain ⟨z, hz, rz⟩ := hv.some_of
        exact .hit hz (hD he rx rz) (DHits.vf rb hD h2 hr)
section
variable {X : Cx}
/-- == of two dicts by the values' own == -/
def rEqDB (D : Eqb) : R2 := fun x y H Q => ∃ a b ks ls r, x = .ref a ∧ y = .ref b ∧ a ≠ b ∧ H a = some (.dK ks) ∧ H b = some (.dK ls) ∧
  (ks.length = ls.length → DHits (fun v y e => ∀ H', (∀ c o, c ≠ a → c ≠ b → H c = some o → H' c = some o) → D v y H' e) ls ks r) ∧ ∀ H', Ext H H' → Q (.bl (ks.length == ls.length && r)) H'
theorem op_eqDB {n : Nat} {D : Eqb} (h : EqB X n D) (hr : Room (n + 1) X.A) : OpR X (compareOp .Eq) (rEqDB D) := by
  intro pins s σ H x y v u Q I rx ry hq
  obtain ⟨a, b, ks, ls, r, rfl, rfl, nab, ea, eb, hits, q⟩ := hq
  cases rx
  cases ry
  obtain ⟨_, ya, va, ra, da⟩ := (show ObjOk X.prog X.w H s.heap a (.dK ks) from I.hok a _ ea)
  obtain ⟨_, yb, vb, rb, db⟩ := (show ObjOk X.prog X.w H s.heap b (.dK ls) from I.hok b _ eb)
  obtain ⟨oa, Ia⟩ := I.lock ea trivial
  have eb1 : (upd H a (.frz oa (.dK ks))) b = some (.dK ls) := by rw [upd_ne nab.symm]; exact eb
  obtain ⟨ob, Ib⟩ := Ia.lock eb1 trivial
  have fa : (upd (upd H a (.frz oa (.dK ks))) b (.frz ob (.dK ls))) a = some (.frz oa (.dK ks)) := by rw [upd_ne nab, upd_same]
  have fb : (upd (upd H a (.frz oa (.dK ks))) b (.frz ob (.dK ls))) b = some (.frz ob (.dK ls)) := upd_same
  have out : ∀ c o, c ≠ a → c ≠ b → H c = some o → (upd (upd H a (.frz oa (.dK ks))) b (.frz ob (.dK ls))) c = some o := fun c o h1 h2 e => by rw [upd_ne h2, upd_ne h1]; exact e
  have noa := I.nofrz ea trivial
  have nob := Ia.nofrz eb1 trivial
  generalize upd (upd H a (.frz oa (.dK ks))) b (.frz ob (.dK ls)) = H2 at Ib fa fb out
  refine PySem.W.vf_rcDicts (knd := mixKind X.prog X.w) (r := r) (J := fun s' => ∃ H', L2.Inv X pins σ H' s' ∧ Ext H2 H') ya yb (fun s' js => ?_) ⟨H2, Ib, Ext.rfl'⟩ da db hr.units0 (fun hl => ?_) fun s' js => ?_
  · obtain ⟨H', I', e⟩ := js
    exact ⟨(I'.frzK (e _ _ fa)).2.1.trans (Ib.frzK fa).2.1.symm, (I'.frzK (e _ _ fb)).2.1.trans (Ib.frzK fb).2.1.symm⟩
  · refine DHits.vf rb (fun {x y u v bb} hd rx ry s2 Q2 js k => ?_) ra (hits (by rw [ra.length, rb.length]; exact hl))
    obtain ⟨H', I', e⟩ := js
    refine wpAny_mono (h X.A.in1 pins s2 σ H' x y u v bb ⟨hr.in1, rfl⟩ I' rx ry (hd H' fun c o h1 h2 hc => e _ _ (out c o h1 h2 hc))) (fun r2 s3 q2 => ?_) fun _ _ z => z
    obtain ⟨h2, H3, I3, e2⟩ := q2
    subst h2
    exact k s3 ⟨H3, I3, e.trans e2⟩
  · obtain ⟨H', I', e⟩ := js
    have fa' := e _ _ fa
    have fb' := e _ _ fb
    have I2 := I'.unlock fb' nob
    have fa2 : (upd H' b (.dK ls)) a = some (.frz oa (.dK ks)) := by rw [upd_ne nab]; exact fa'
    have I3 := I2.unlock fa2 noa
    refine ⟨.bl _, _, I3, by rw [← ra.length, ← rb.length]; rfl, q _ fun c o hc => ?_⟩
    by_cases h1 : c = a
    · subst h1
      rw [ea] at hc
      cases hc
      exact upd_same
    · rw [upd_ne h1]
      by_cases h2 : c = b
      · subst h2
        rw [eb] at hc
        cases hc
        exact upd_same
      · rw [upd_ne h2]
        exact e _ _ (out c o h1 h2 hc)
/-- data beside data -/
def DDat (K : PySem.W.Frag) : Eqb := fun x y H b => ∃ d e, Dp K H x d ∧ Dp K H y e ∧ SeqAt.shaped d = true ∧ SeqAt.shaped e = true ∧ b = PyData.eqv d e ∧ (x = y → b = true)
theorem eqB_dat {n : Nat} : EqB X n (DDat X.K) := fun A pins s σ H x y u v b sb I rx ry hd => by
  obtain ⟨d, e, h1, h2, sd, se, rfl, hid⟩ := hd
  obtain ⟨as, r1⟩ := Dp.reads I d x u h1 rx
  obtain ⟨bs, r2⟩ := Dp.reads I e y v h2 ry
  have hf : ∀ i t, u ≠ .float i t := fun i t z => by
    subst z
    cases h1 <;> first | (cases rx; done) | (obtain ⟨_, z⟩ := rx; cases z; done)
  have hxy : (u == v) = true → x = y := fun z => by
    have euv := eq_of_beq z
    subst euv
    cases h1 <;> cases h2 <;> first
      | (cases rx; cases ry; rfl)
      | (cases rx; cases ry; done)
      | (obtain ⟨t, q⟩ := rx; obtain ⟨t', q'⟩ := ry; rw [q] at q'; injection q' with q1 q2; rw [q1])
      | (obtain ⟨t, q⟩ := rx; obtain ⟨t', q'⟩ := ry; rw [q] at q'; cases q'; done)
      | (cases rx; obtain ⟨t, q⟩ := ry; cases q; done)
      | (obtain ⟨t, q⟩ := rx; cases ry; cases q; done)
  exact eqB_of_rc (fun z => hid (hxy z)) hf I (SeqAt.compareEq_shaped (A := A) r1 r2 sd se sb.room.units ⟨.bl _, H, I, rfl, rfl, Ext.rfl'⟩)
end
end Vf

set_option Elab.async false
set_option linter.all false
set_option maxRecDepth 100000
set_option maxHeartbeats 2000000
namespace PySem.W
open PySem PySem.SeqAt MeetsSeq
section
variable {prog : Program} {w : World} {A : Around} {E : Value → Shared → Prop} {s : Shared} {a : Addr} {o : Obj}
theorem vf_no_dic_str {z : Str} {t : Tok} (ha : s.heap.get? a = some o) (hc : o.cls = .type "dict") {Q : Fin → Shared → Prop} (h : Q (.done (.ret .notImplemented)) s) : wpAny (model prog w) A (PySem.Builtin.«dict.__eq__» ⟨[.ref a, .str z t], []⟩) Q E s := by
  have f1 := PySem.F.sub_str_dict
  wp_walk
  exact h
theorem vf_no_str_dic {z : Str} {t : Tok} {es : Array DictEntry} {ep : Nat} (ha : s.heap.get? a = some o) (hd : o.data = .dict es ep) {Q : Fin → Shared → Prop} (h : Q (.done (.ret .notImplemented)) s) : wpAny (model prog w) A (PySem.Builtin.«str.__eq__» ⟨[.str z t, .ref a], []⟩) Q E s := by
  obtain ⟨hp, gg, d, tk, os⟩ := s
  obtain ⟨oc, odd, oda, osl⟩ := o
  dsimp only at hd
  subst hd
  wp_walk using AutoSeq1.wpAny_loadPart' ha
  exact h
theorem vf_rc_str_dict {b : Str} {u : Tok} {es : Array DictEntry} {ep : Nat} (ho : s.heap.get? a = some o) (hc : o.cls = .type "dict") (hd : o.data = .dict es ep) (hu : A.units < cLine) : RcAt A s (.str b u) (.ref a) false := fun prog w E Q h => by
  have tb : s.TypeIs (.ref a) "dict" := ⟨o, ho, hc⟩
  exact rc_eq_decline_or (k := false) (typeIs_str s b u) tb (by decide) PySem.F.sub_dict_str PySem.F.slot_str_eq PySem.F.slot_dict_eq_refl
    (fun _ hq => wpAny_call_entry PySem.F.slot_str_eq (typeIs_str s b u) PySem.F.entry_str_eq (vf_no_str_dic ho hd ⟨_, rfl, hq⟩) (PySem.F.args_str_eq_2 _ _))
    (fun _ hq => wpAny_call_entry PySem.F.slot_dict_eq_refl tb PySem.F.entry_dict_eq (vf_no_dic_str ho hc ⟨_, rfl, hq⟩) (PySem.F.args_dict_eq_2 _ _))
    (fun _ hq => wpAny_of_eq (rfl : isSame (.str b u) (.ref a) = pure false) hq) (.inr hu) h
theorem vf_str_dict {b : Str} {u : Tok} {es : Array DictEntry} {ep : Nat} (ho : s.heap.get? a = some o) (hc : o.cls = .type "dict") (hd : o.data = .dict es ep) (hu : A.units < cLine) : EqAt A s (.str b u) (.ref a) false := fun prog w E Q h => by
  unfold eqBool
  refine wpAny_holding ?_
  refine wpAny_ite_split (fun hab => absurd (eq_of_beq hab) nofun) (fun _ => ?_)
  exact wpAny_bind (vf_rc_str_dict ho hc hd hu prog w E _ (wpAny_truthy_bool h))
end
end PySem.W
namespace Vf
open PySem PySem.Spec PyProof.Rows L2
/-- == of two items, in place -/
inductive EqI (K : PySem.W.Frag) (H : Hp) : V → V → Bool → Prop
  | flat {x y : V} : flatV x = true → flatV y = true → EqI K H x y (eqV x y)
  | same (a : Addr) : EqI K H (.ref a) (.ref a) true
  | strT {z : Str} {a : Addr} {xs : List V} : SqT K H a xs → EqI K H (.str z) (.ref a) false
  | strL {z : Str} {a : Addr} {xs : List V} : SqL K H a xs → EqI K H (.str z) (.ref a) false
  | strD {z : Str} {a : Addr} {ks : List (Key × V)} : H a = some (.dK ks) → EqI K H (.str z) (.ref a) false
section
variable {X : Cx} {pins : List (Addr × Obj)} {σ : L2.St} {H : Hp} {s : Shared}
theorem EqI.at (I : L2.Inv X pins σ H s) {A : Around} {x y : V} {u v : Value} {b : Bool} (h : EqI X.K H x y b) (rx : RelV x u) (ry : RelV y v) (hu : A.units < cLine) : SeqAt.EqAt A s u v b := by
  cases h with
  | flat fx fy => exact eqAt_V rx ry fx fy
  | same a =>
    cases rx
    cases ry
    exact SeqAt.EqAt.same _
  | strT h =>
    obtain ⟨t, rfl⟩ := rx
    cases ry
    obtain ⟨its, r, p, _⟩ := I.tuple h
    exact SeqAt.EqAt.str_tuple _ _ p hu
  | strL h =>
    obtain ⟨t, rfl⟩ := rx
    cases ry
    obtain ⟨its, r, p, _⟩ := I.list h
    exact SeqAt.EqAt.str_list _ _ p.isList hu
  | strD h =>
    obtain ⟨t, rfl⟩ := rx
    cases ry
    obtain ⟨_, _, vs, _, o, es, ep, h1, h2, h3, _⟩ := (show ObjOk X.prog X.w H s.heap _ (.dK _) from I.hok _ _ h)
    exact PySem.W.vf_str_dict h1 h2.1 h3 hu
end
theorem vals_mem : ∀ {xs : List V} {us : List Value} {w : Value}, Vals xs us → w ∈ us → ∃ z ∈ xs, RelV z w
  | _, _, _, .nil, h => nomatch h
  | _, _, _, .cons r t, h => by
    rcases List.mem_cons.mp h with rfl | h
    · exact ⟨_, List.mem_cons_self, r⟩
    · obtain ⟨z, hz, rz⟩ := vals_mem t h
      exact ⟨z, List.mem_cons_of_mem _ hz, rz⟩
def answ (e : V → Bool) (w : Value) : Bool := match absV w with | some z => e z | none => false
theorem answ_of (e : V → Bool) {z : V} {w : Value} (r : RelV z w) : answ e w = e z := by
  unfold answ
  rw [r.abs]
theorem any_answ (e : V → Bool) : ∀ {xs : List V} {us : List Value}, Vals xs us → us.any (answ e) = xs.any e
  | _, _, .nil => rfl
  | _, _, .cons r t => by
    rw [List.any_cons, List.any_cons, answ_of e r, any_answ e t]
theorem items_at {A : Around} {s : Shared} {F : V → V → Prop} (ih : ∀ {x y v u}, RelV x v → RelV y u → F x y → SeqAt.EqAt A s v u true) {xs ys : List V} (hp : Paired F xs ys) :
    ∀ {us ws : List Value}, Vals xs us → Vals ys ws → ∀ j (h1 : j < us.length) (h2 : j < ws.length), SeqAt.EqAt A s us[j] ws[j] true := by
  induction hp with
  | nil =>
    intro us ws r1 r2 j h1 h2
    cases r1
    exact absurd h1 (Nat.not_lt_zero j)
  | cons h _ k =>
    intro us ws r1 r2 j h1 h2
    cases r1 with
    | cons a1 b1 =>
      cases r2 with
      | cons a2 b2 =>
        cases j with
        | zero => exact ih a1 a2 h
        | succ j => exact k b1 b2 j (Nat.lt_of_succ_lt_succ h1) (Nat.lt_of_succ_lt_succ h2)
section
variable {X : Cx}
/-- x not in l, l a list, item by item -/
def rNotInI (K : PySem.W.Frag) : R2 := fun x y H Q => ∃ (p : Addr) (xs : List V) (e : V → Bool), y = .ref p ∧ SqL K H p xs ∧ (∀ z ∈ xs, EqI K H z x (e z)) ∧ Q (.bl (!xs.any e)) H
theorem op_notInI (hu : X.A.units + 64 < cLine) : OpR X (compareOp .NotIn) (rNotInI X.K) := by
  intro pins s σ H x y v u Q I rx ry h
  obtain ⟨p, xs, e, rfl, hx, hall, q⟩ := h
  cases ry
  obtain ⟨its, r, pl, hz⟩ := I.list hx
  refine SeqAt.notIn_listAt (answ e) pl.isList (fun w hw => ?_) ⟨.bl _, H, I, rfl, ?_⟩
  · obtain ⟨z, hz, rz⟩ := vals_mem r (by simpa using hw)
    rw [answ_of e rz]
    exact (hall z hz).at I rz rx (by show X.A.units + 1 < cLine; omega)
  · rw [List.any_toArray, any_answ e r]
    exact q
/-- l != m, two lists or two tuples of equal items -/
def rNe0 (K : PySem.W.Frag) : R2 := fun x y H Q => ∃ (a b : Addr) (xs ys : List V), x = .ref a ∧ y = .ref b ∧ ((SqT K H a xs ∧ SqT K H b ys) ∨ (SqL K H a xs ∧ SqL K H b ys)) ∧ Paired (fun z z' => EqI K H z z' true) xs ys ∧ Q (.bl false) H
theorem op_ne0 (hu : X.A.units + 64 < cLine) : OpR X (compareOp .NotEq) (rNe0 X.K) := by
  intro pins s σ H x y v u Q I rx ry h
  obtain ⟨a, b, xs, ys, rfl, rfl, hq, hp, q⟩ := h
  cases rx
  cases ry
  have hu1 : X.A.in1.units < cLine := by show X.A.units + 1 < cLine; omega
  rcases hq with ⟨ha, hb⟩ | ⟨ha, hb⟩
  · obtain ⟨us, r1, p1, _⟩ := I.tuple ha
    obtain ⟨ws, r2, p2, _⟩ := I.tuple hb
    have hs : us.toArray.size = ws.toArray.size := by rw [List.size_toArray, List.size_toArray, ← r1.length, ← r2.length]; exact Paired.length hp
    refine SeqAt.RcNeAt.tuples (e := fun _ => true) p1 p2 (by omega) (fun j h1 h2 => ?_) _ _ _ _ ?_
    · have := items_at (fun r1 r2 k => EqI.at I k r1 r2 hu1) hp r1 r2 j (by simpa using h1) (by simpa using h2)
      simpa using this
    · rw [hs, show ((List.range (min ws.toArray.size ws.toArray.size)).all fun _ => true) = true from List.all_eq_true.mpr fun _ _ => rfl, beq_self_eq_true]
      exact ⟨.bl false, H, I, rfl, q⟩
  · obtain ⟨us, r1, p1, _⟩ := I.list ha
    obtain ⟨ws, r2, p2, _⟩ := I.list hb
    have hs : us.toArray.size = ws.toArray.size := by rw [List.size_toArray, List.size_toArray, ← r1.length, ← r2.length]; exact Paired.length hp
    refine SeqAt.RcNeAt.lists (e := fun _ => true) p1.isList p2.isList hs (by omega) (fun j h1 h2 => ?_) _ _ _ _ ?_
    · have := items_at (fun r1 r2 k => EqI.at I k r1 r2 hu1) hp r1 r2 j (by simpa using h1) (by simpa using h2)
      simpa using this
    · rw [show ((List.range us.toArray.size).all fun _ => true) = true from List.all_eq_true.mpr fun _ _ => rfl]
      exact ⟨.bl false, H, I, rfl, q⟩
/-- d != e, two dicts of equal items -/
def rNe0D (K : PySem.W.Frag) : R2 := fun x y H Q => ∃ (a b : Addr) (ks ls : List (Key × V)), x = .ref a ∧ y = .ref b ∧ H a = some (.dK ks) ∧ H b = some (.dK ls) ∧ ks.length = ls.length ∧ (∀ p ∈ ks, ∃ u, valV ls p.1 = some u ∧ EqI K H p.2 u true) ∧ Q (.bl false) H
theorem op_ne0D (hu : X.A.units + 64 < cLine) : OpR X (compareOp .NotEq) (rNe0D X.K) := by
  intro pins s σ H x y v u Q I rx ry h
  obtain ⟨a, b, ks, ls, rfl, rfl, ha, hb, hl, hp, q⟩ := h
  cases rx
  cases ry
  have hu1 : X.A.in1.units < cLine := by show X.A.units + 1 < cLine; omega
  obtain ⟨_, ya, va, ra, da⟩ := (show ObjOk X.prog X.w H s.heap a (.dK ks) from I.hok a _ ha)
  obtain ⟨_, yb, vb, rb, db⟩ := (show ObjOk X.prog X.w H s.heap b (.dK ls) from I.hok b _ hb)
  have e : va.length = vb.length := by rw [← ra.length, ← rb.length]; exact hl
  refine PySem.W.keq_ne (knd := mixKind X.prog X.w) (r := true) ya yb da db (by omega) (fun _ => ?_) ?_
  · have go : ∀ {ks : List (Key × V)} {va : List (Key × Value)}, KV ks va → (∀ p ∈ ks, ∃ u, valV ls p.1 = some u ∧ EqI X.K H p.2 u true) → PySem.W.KeqHits X.A.in1 s vb va true := by
      intro ks va ra
      unfold KV at ra
      induction ra with
      | nil => intro _; exact .nil
      | @cons p q ps qs h t k =>
        intro hp
        obtain ⟨h1, h2⟩ := h
        obtain ⟨u, e, f⟩ := hp p List.mem_cons_self
        have rr : RelO (some u) (valueAt vb p.1) := by rw [← e]; exact rb.val p.1
        obtain ⟨y, hy, ry⟩ := rr.some_of
        obtain ⟨key, v⟩ := q
        have h1' : p.1 = key := h1
        rw [h1'] at hy
        show PySem.W.KeqHits X.A.in1 s vb ((key, v) :: qs) (true && true)
        exact .hit hy (f.at I h2 ry hu1) (k fun p' hm => hp p' (List.mem_cons_of_mem _ hm))
    exact go ra hp
  · rw [show (!(va.length == vb.length && true)) = false from by rw [e]; simp]
    exact ⟨.bl false, H, I, rfl, q⟩
end
end Vf

set_option Elab.async false
set_option linter.all false
set_option maxRecDepth 100000
set_option maxHeartbeats 2000000
namespace Vf
open PySem PySem.Spec PyProof.Rows L2
/-! ### properties: their getters, found by the class and the name -/
def gAd (K : PySem.W.Frag) (c m : Str) : Addr := match PySem.W.recIn K (He.ma K (He.ga K c) m) "property" with
  | some (.ref f :: _) => f
  | _ => 0
structure GetD where
  cls : Str
  attr : Str
  d : He.DefD
def GetD.val (g : GetD) : He.FnW := g.d.val
def gnW (K : PySem.W.Frag) (g : GetD) : He.FnW := match K.lookup (gAd K g.cls g.attr) with
  | some ⟨_, _, .func fd, _⟩ => some (fd.name, fd.qualname, fd.params, fd.body, fd.scope, fd.globals, fd.closure, fd.builtins)
  | _ => none
def propB (K : PySem.W.Frag) (C : Addr) (m : Str) : Bool := He.eqO (PySem.W.findIn K (.ref C) m) (some (some (.ref (He.ma K C m)))) && (He.eqO (PySem.W.specialIn K (.ref (He.ma K C m)) "__get__") (some (some (.builtin "property.__get__"))) &&
  (decide (PySem.W.takesIn K (.ref (He.ma K C m)) = some true) && (match PySem.W.recIn K (He.ma K C m) "property" with
    | some (.ref _ :: _) => true
    | _ => false)))
def GetD.ok (K : PySem.W.Frag) (g : GetD) : Bool := propB K (He.ga K g.cls) g.attr && (PySem.W.keepIn K (.ref (gAd K g.cls g.attr)) && (match K.lookup (gAd K g.cls g.attr) with
  | some ⟨_, _, .func fd, _⟩ => PySem.W.codeIn K fd.code g.d.qual && (He.dflB K fd.defaults (g.d.dvs K) && He.kwdB K fd.kwdefaults (g.d.kws K))
  | _ => false))
theorem propB_ok {K : PySem.W.Frag} {c m : Str} (h : propB K (He.ga K c) m = true) : PropOf K (He.ga K c) m (He.ma K (He.ga K c) m) (gAd K c m) := by
  obtain ⟨h1, h⟩ := He.ba h
  obtain ⟨h2, h⟩ := He.ba h
  obtain ⟨h3, h4⟩ := He.ba h
  refine ⟨He.eqO_ok h1, He.eqO_ok h2, of_decide_eq_true h3, ?_⟩
  unfold gAd
  split at h4
  · rename_i f r e
    exact ⟨r, by rw [e]⟩
  · cases h4
theorem GetD.funD {K : PySem.W.Frag} {g : GetD} (e : gnW K g = g.d.val) (c : g.ok K = true) : (∃ fd, FunD K g.d.name g.d.qual g.d.params g.d.body g.d.scope (g.d.dvs K) (g.d.kws K) (gAd K g.cls g.attr) fd) ∧ PropOf K (He.ga K g.cls) g.attr (He.ma K (He.ga K g.cls) g.attr) (gAd K g.cls g.attr) := by
  obtain ⟨pr, c⟩ := He.ba c
  refine ⟨?_, propB_ok pr⟩
  obtain ⟨kp, c2⟩ := He.ba c
  unfold gnW at e
  cases q : K.lookup (gAd K g.cls g.attr) with
  | none =>
    rw [q] at c2
    cases c2
  | some o =>
    obtain ⟨oc, od, dt, osl⟩ := o
    rw [q] at c2 e
    cases dt with
    | func fd =>
      obtain ⟨n1, n2, n3, n4, n5, n6, n7, n8, n9, n10, n11, n12, n13, n14, n15⟩ := fd
      have e2 : (some (n1, n2, n3, n4, n5, n6, n7, n15) : He.FnW) = some (g.d.name, g.d.qual, g.d.params, .stmts g.d.body, g.d.scope, mainGlobals, [], builtinsNs) := e
      simp only [Option.some.injEq, Prod.mk.injEq] at e2
      obtain ⟨h1, h2, h3, h4, h5, h6, h7, h8⟩ := e2
      subst h1 h2 h3 h4 h5 h6 h7 h8
      have c3 : (PySem.W.codeIn K n13 g.d.qual && (He.dflB K n8 (g.d.dvs K) && He.kwdB K n9 (g.d.kws K))) = true := c2
      obtain ⟨k1, k2⟩ := He.ba c3
      obtain ⟨k3, k4⟩ := He.ba k2
      exact ⟨_, ⟨oc, od, n8, n9, n10, n11, n12, n13, n14, osl, rfl, q, k1, He.dflB_ok k3, He.kwdB_ok k4⟩, kp⟩
    | _ => cases c2
/-! ### the head's hook, with properties -/
abbrev AlP : Type := Bool × List He.FnW × List He.FnW
def obsP (ex : PySem.W.Frag → Bool) (fn : List He.DefD) (gs : List GetD) (K : PySem.W.Frag) : AlP := (ex K && ((fn.all fun d => d.ok K) && gs.all fun g => g.ok K), fn.map fun d => He.fnW K d.at_, gs.map (gnW K))
def SaysP (ex : PySem.W.Frag → Bool) (fn : List He.DefD) (gs : List GetD) (K : PySem.W.Frag) : Prop := obsP ex fn gs K = (true, fn.map He.DefD.val, gs.map GetD.val)
def obsPG (n : Nat) (ex : PySem.W.Frag → Bool) (fn : List He.DefD) (gs : List GetD) (g : Addr → Option Obj) : AlP := obsP ex fn gs (He.frG g (He.asD g n))
def hookP (n : Nat) (ex : PySem.W.Frag → Bool) (fn : List He.DefD) (gs : List GetD) : PySem.W.Hook where
  α := AlP
  obs := fun s => obsPG n ex fn gs s.heap.get?
  val := fun _ => (true, fn.map He.DefD.val, gs.map GetD.val)
  says := fun _ h => ∃ K : PySem.W.Frag, K.In h ∧ SaysP ex fn gs K
  of := fun _ _ e => ⟨_, He.frG_in, e⟩
  keeps := fun _ _ _ ⟨K, hK, c⟩ k => ⟨K, PySem.W.Frag.In.keeps hK k, c⟩
theorem obsPG_eq {n : Nat} {ex : PySem.W.Frag → Bool} {fn : List He.DefD} {gs : List GetD} {g : Addr → Option Obj} {s : Shared} (h : ∀ a, g a = s.heap.get? a) : obsPG n ex fn gs g = (hookP n ex fn gs).obs s := by
  have e : g = s.heap.get? := funext h
  rw [e]
  rfl
theorem SaysP.ex {ex : PySem.W.Frag → Bool} {fn : List He.DefD} {gs : List GetD} {K : PySem.W.Frag} (c : SaysP ex fn gs K) : ex K = true := (He.ba (congrArg (fun z : AlP => z.1) c)).1
theorem SaysP.fn {ex : PySem.W.Frag → Bool} {fn : List He.DefD} {gs : List GetD} {K : PySem.W.Frag} (c : SaysP ex fn gs K) (i : Nat) {d : He.DefD} (h : fn[i]? = some d := by rfl) : ∃ fd, FunD K d.name d.qual d.params d.body d.scope (d.dvs K) (d.kws K) (He.fAd K d.at_) fd := by
  have c2 := (He.ba (He.ba (congrArg (fun z : AlP => z.1) c)).2).1
  have e : fn.map (fun d => He.fnW K d.at_) = fn.map He.DefD.val := congrArg (fun z : AlP => z.2.1) c
  have e2 : He.fnW K d.at_ = d.val := by
    have e3 : (fn.map fun d => He.fnW K d.at_)[i]? = (fn.map He.DefD.val)[i]? := by rw [e]
    simp only [List.getElem?_map, h, Option.map_some] at e3
    exact Option.some.inj e3
  exact He.DefD.funD e2 (List.all_eq_true.mp c2 d (List.mem_of_getElem? h))
theorem SaysP.gt {ex : PySem.W.Frag → Bool} {fn : List He.DefD} {gs : List GetD} {K : PySem.W.Frag} (c : SaysP ex fn gs K) (i : Nat) {g : GetD} (h : gs[i]? = some g := by rfl) : (∃ fd, FunD K g.d.name g.d.qual g.d.params g.d.body g.d.scope (g.d.dvs K) (g.d.kws K) (gAd K g.cls g.attr) fd) ∧ PropOf K (He.ga K g.cls) g.attr (He.ma K (He.ga K g.cls) g.attr) (gAd K g.cls g.attr) := by
  have c2 := (He.ba (He.ba (congrArg (fun z : AlP => z.1) c)).2).2
  have e : (gs.map (gnW K)) = gs.map GetD.val := congrArg (fun z : AlP => z.2.2) c
  have e2 : gnW K g = g.val := by
    have e3 : (gs.map (gnW K))[i]? = (gs.map GetD.val)[i]? := by rw [e]
    simp only [List.getElem?_map, h, Option.map_some] at e3
    exact Option.some.inj e3
  exact GetD.funD e2 (List.all_eq_true.mp c2 g (List.mem_of_getElem? h))
/-- the getter keeps its promise -/
structure OkG (P : Program) (w : World) (K : PySem.W.Frag) (mg : Str → Option Value) (base : Heap) (CX : CXT) (k : Nat) (c m : Str) (sp : Sp) : Prop where
  ex : ∃ fd, FnOk P w K mg base CX k (gAd K c m) fd ["self"] sp ∧ Binds K fd ["self"] []
  pr : PropOf K (He.ga K c) m (He.ma K (He.ga K c) m) (gAd K c m)
theorem pe_propG {X : Cx} {k j : Nat} {c m : Str} {sp : Sp} {e : Expr} {pos : Pos} {ta : TE} (he : PE X e ta) (cl : Cls X.K (He.ga X.K c)) (O : OkG X.prog X.w X.K X.mg X.base CX0 k c m sp) (hr : Room j X.A) (hj : k + 1 ≤ j)
    (hab : attributeBase e m X.env (eval e X.env) = eval e X.env) : PE X (.Attribute e m pos) (tProp (He.ga X.K c) sp [] E0 ta) := by
  obtain ⟨fd, F, b⟩ := O.ex
  exact pe_prop he cl O.pr F (hr.mono hj) b .nil pass0 hab
end Vf

set_option Elab.async false
set_option linter.all false
set_option maxRecDepth 100000
set_option maxHeartbeats 2000000
namespace PySem.W
open PySem PySem.SeqAt MeetsSeq
section
variable {prog : Program} {w : World} {A : Around} {E : Value → Shared → Prop} {s : Shared} {a b : Addr} {o : Obj}
/-- a dict's slot declines what is no dict -/
theorem vf_dic_no {v : Value} {T : String} (ha : s.TypeIs (.ref a) "dict") (hT : s.TypeIs v T) (hs : isSubtype (.type T) (.type "dict") = pure false) {Q : Fin → Shared → Prop} (h : Q (.done (.ret .notImplemented)) s) : wpAny (model prog w) A (PySem.Builtin.«dict.__eq__» ⟨[.ref a, v], []⟩) Q E s := by
  wp_walk using wpAny_isInstance hT hs
  exact h
theorem vf_none_no {Q : Fin → Shared → Prop} (h : Q (.done (.ret .notImplemented)) s) : wpAny (model prog w) A (PySem.Builtin.«NoneType.__eq__» ⟨[.none, .ref a], []⟩) Q E s := by
  wp_walk
  exact h
theorem vf_int_no {v : Value} {es : Array DictEntry} {ep : Nat} (hv : (∃ c, v = .bool c) ∨ ∃ i t, v = .int i t) (ha : s.heap.get? a = some o) (hd : o.data = .dict es ep) {Q : Fin → Shared → Prop} (h : Q (.done (.ret .notImplemented)) s) : wpAny (model prog w) A (PySem.Builtin.«int.__eq__» ⟨[v, .ref a], []⟩) Q E s := by
  obtain ⟨hp, gg, d, tk, os⟩ := s
  obtain ⟨oc, odd, oda, osl⟩ := o
  dsimp only at hd
  subst hd
  rcases hv with ⟨c, rfl⟩ | ⟨i, t, rfl⟩
  · wp_walk using AutoSeq1.wpAny_loadPart' ha
    exact h
  · wp_walk using AutoSeq1.wpAny_loadPart' ha
    exact h
theorem vf_tup_no {T : String} (hT : s.TypeIs (.ref a) T) (hs : isSubtype (.type T) (.type "tuple") = pure false) {Q : Fin → Shared → Prop} (h : Q (.done (.ret .notImplemented)) s) : wpAny (model prog w) A (PySem.Builtin.«tuple.__eq__» ⟨[.ref b, .ref a], []⟩) Q E s := by
  wp_walk using wpAny_isInstance hT hs
  exact h
theorem vf_lst_no {T : String} (hT : s.TypeIs (.ref a) T) (hs : isSubtype (.type T) (.type "list") = pure false) {Q : Fin → Shared → Prop} (h : Q (.done (.ret .notImplemented)) s) : wpAny (model prog w) A (PySem.Builtin.«list.__eq__» ⟨[.ref b, .ref a], []⟩) Q E s := by
  wp_walk using wpAny_isInstance hT hs
  exact h
end
end PySem.W
namespace PySem.W
open PySem PySem.SeqAt MeetsSeq
/-- == answers no, asked either way -/
structure NoAt (A : Around) (s : Shared) (x y : Value) : Prop where
  rc : RcAt A s x y false
  eq : EqAt A s x y false
theorem eq_of_rc {A : Around} {s : Shared} {x y : Value} {b : Bool} (hxy : (x == y) = true → b = true) (hf : ∀ i t, x ≠ .float i t) (rc : RcAt A s x y b) : EqAt A s x y b := fun prog w E Q h => by
  unfold eqBool
  refine wpAny_holding ?_
  refine wpAny_ite_split (fun hab => ?_) (fun _ => ?_)
  · rw [hxy hab] at h
    first
      | exact wpAny_pure h
      | exact wpAny_bind (wpAny_rule (wpAny_pure h))
  · cases x with
    | float i t => exact absurd rfl (hf i t)
    | _ => exact wpAny_bind (rc prog w E _ (wpAny_truthy_bool h))
/-- both slots decline: not equal -/
theorem vf_no {A : Around} {s : Shared} {x y : Value} {Tx Ty idx idy : String} {Bx By : Builtin} (hx : s.TypeIs x Tx) (hy : s.TypeIs y Ty) (hne : (Value.type Tx != Value.type Ty) = true) (hxy : (x == y) = false) (hsub : isSubtype (.type Ty) (.type Tx) = pure false)
    (sx : Slot Tx (cmpInfo .Eq).2.1 idx) (sy : Slot Ty (cmpInfo .Eq).2.2 idy) (sy1 : Slot Ty (cmpInfo .Eq).2.1 idy) (ex : entryFor table idx = some Bx) (ey : entryFor table idy = some By) (ax : argsOk idx ⟨[x, y], []⟩) (ay : argsOk idy ⟨[y, x], []⟩)
    (bx : ∀ (prog : Program) (w : World) (A : Around) (E : Value → Shared → Prop) (Q : Fin → Shared → Prop), Q (.done (.ret .notImplemented)) s → wpAny (model prog w) A (Bx ⟨[x, y], []⟩) Q E s)
    (by_ : ∀ (prog : Program) (w : World) (A : Around) (E : Value → Shared → Prop) (Q : Fin → Shared → Prop), Q (.done (.ret .notImplemented)) s → wpAny (model prog w) A (By ⟨[y, x], []⟩) Q E s)
    (hs : ∀ (prog : Program) (w : World) (A : Around) (E : Value → Shared → Prop) (Q : Bool → Shared → Prop), Q false s → wpAny (model prog w) A (isSame x y) Q E s) (hf : ∀ i t, x ≠ .float i t) (hu : A.units < cLine) : NoAt A s x y := by
  have rc : RcAt A s x y false := fun prog w E Q h =>
    rc_eq_decline_or (k := false) hx hy hne hsub sx sy
      (fun _ hq => wpAny_call_entry sx hx ex (bx _ _ _ _ _ ⟨_, rfl, hq⟩) ax)
      (fun _ hq => wpAny_call_entry sy1 hy ey (by_ _ _ _ _ _ ⟨_, rfl, hq⟩) ay)
      (fun _ hq => hs _ _ _ _ _ hq) (.inr hu) h
  exact ⟨rc, eq_of_rc (fun z => absurd (z.symm.trans hxy) (by decide)) hf rc⟩
end PySem.W
namespace Vf
open PySem PySem.Spec PyProof.Rows L2 PySem.W
/-- == of two values: data, or a dict beside what is none, or two empty dicts -/
inductive EqW (K : PySem.W.Frag) (H : Hp) : V → V → Bool → Prop
  | dat {x y : V} {d e : PyData} : Dp K H x d → Dp K H y e → SeqAt.shaped d = true → SeqAt.shaped e = true → EqW K H x y (PyData.eqv d e)
  | dicL {y : V} {e : PyData} {a : Addr} {ks : List (Key × V)} : H a = some (.dK ks) → Dp K H y e → EqW K H (.ref a) y false
  | dicR {x : V} {d : PyData} {a : Addr} {ks : List (Key × V)} : Dp K H x d → H a = some (.dK ks) → EqW K H x (.ref a) false
  | dd {a b : Addr} : H a = some (.dK []) → H b = some (.dK []) → EqW K H (.ref a) (.ref b) true
section
variable {X : Cx} {pins : List (Addr × Obj)} {σ : L2.St} {H : Hp} {s : Shared}
theorem dic_obj (I : L2.Inv X pins σ H s) {a : Addr} {ks : List (Key × V)} (h : H a = some (.dK ks)) : ∃ o es ep, s.heap.get? a = some o ∧ o.cls = .type "dict" ∧ o.data = .dict es ep := by
  obtain ⟨_, _, vs, _, o, es, ep, h1, h2, h3, _⟩ := (show ObjOk X.prog X.w H s.heap _ (.dK _) from I.hok _ _ h)
  exact ⟨o, es, ep, h1, h2.1, h3⟩
theorem eqW_dicR (I : L2.Inv X pins σ H s) {A : Around} {x : V} {u : Value} {d : PyData} {a : Addr} {ks : List (Key × V)} (h : Dp X.K H x d) (ha : H a = some (.dK ks)) (rx : RelV x u) (hu : A.units < cLine) : NoAt A s u (.ref a) := by
  obtain ⟨o, es, ep, ho, hc, hd⟩ := dic_obj I ha
  have ta : s.TypeIs (.ref a) "dict" := ⟨o, ho, hc⟩
  cases h with
  | non =>
    cases rx
    exact vf_no (rfl : s.TypeIs .none "NoneType") ta (by decide) rfl PySem.F.sub_dict_NoneType PySem.F.slot_NoneType_eq PySem.F.slot_dict_eq_refl PySem.F.slot_dict_eq PySem.F.entry_NoneType_eq PySem.F.entry_dict_eq (PySem.F.args_NoneType_eq_2 _ _) (PySem.F.args_dict_eq_2 _ _)
      (fun _ _ _ _ _ q => vf_none_no q) (fun _ _ _ _ _ q => vf_dic_no (v := .none) (T := "NoneType") ta rfl PySem.F.sub_NoneType_dict q) (fun _ _ _ _ _ q => wpAny_of_eq (rfl : isSame .none (.ref a) = pure false) q) (fun _ _ z => nomatch z) hu
  | bl b =>
    cases rx
    exact vf_no (rfl : s.TypeIs (.bool b) "bool") ta (by decide) rfl PySem.F.sub_dict_bool PySem.F.slot_bool_eq PySem.F.slot_dict_eq_refl PySem.F.slot_dict_eq PySem.F.entry_int_eq PySem.F.entry_dict_eq (PySem.F.args_int_eq_2 _ _) (PySem.F.args_dict_eq_2 _ _)
      (fun _ _ _ _ _ q => vf_int_no (.inl ⟨_, rfl⟩) ho hd q) (fun _ _ _ _ _ q => vf_dic_no (v := .bool b) (T := "bool") ta rfl PySem.F.sub_bool_dict q) (fun _ _ _ _ _ q => wpAny_of_eq (rfl : isSame (.bool b) (.ref a) = pure false) q) (fun _ _ z => nomatch z) hu
  | int i =>
    obtain ⟨t, rfl⟩ := rx
    exact vf_no (rfl : s.TypeIs (.int i t) "int") ta (by decide) rfl PySem.F.sub_dict_int PySem.F.slot_int_eq PySem.F.slot_dict_eq_refl PySem.F.slot_dict_eq PySem.F.entry_int_eq PySem.F.entry_dict_eq (PySem.F.args_int_eq_2 _ _) (PySem.F.args_dict_eq_2 _ _)
      (fun _ _ _ _ _ q => vf_int_no (.inr ⟨_, _, rfl⟩) ho hd q) (fun _ _ _ _ _ q => vf_dic_no (v := .int i t) (T := "int") ta rfl PySem.F.sub_int_dict q) (fun _ _ _ _ _ q => wpAny_of_eq (rfl : isSame (.int i t) (.ref a) = pure false) q) (fun _ _ z => nomatch z) hu
  | str z =>
    obtain ⟨t, rfl⟩ := rx
    exact ⟨vf_rc_str_dict ho hc hd hu, vf_str_dict ho hc hd hu⟩
  | @lst l _ _ hs _ =>
    cases rx
    obtain ⟨its, r, p, _⟩ := I.list hs
    obtain ⟨ol, n, hl, hlc, hld, hlx⟩ := p
    have tl : s.TypeIs (.ref l) "list" := ⟨_, hl, hlc⟩
    have hne : l ≠ a := fun e => by
      rw [e, ho] at hl
      cases hl
      rw [hc] at hlc
      exact absurd hlc (by simp)
    exact vf_no tl ta (by decide) (by simpa using hne) PySem.F.sub_dict_list PySem.F.slot_list_eq PySem.F.slot_dict_eq_refl PySem.F.slot_dict_eq PySem.F.entry_list_eq PySem.F.entry_dict_eq (PySem.F.args_list_eq_2 _ _) (PySem.F.args_dict_eq_2 _ _)
      (fun _ _ _ _ _ q => vf_lst_no ta PySem.F.sub_dict_list q) (fun _ _ _ _ _ q => vf_dic_no ta tl PySem.F.sub_list_dict q) (fun _ _ _ _ _ q => SeqAt.wpAny_isSame_ref_other' hne hl ho (by rw [hc]; simp) q) (fun _ _ z => nomatch z) hu
  | @tup l _ _ hs _ =>
    cases rx
    obtain ⟨its, r, p, _⟩ := I.tuple hs
    obtain ⟨ol, hl, hlc, hld⟩ := p
    have tl : s.TypeIs (.ref l) "tuple" := ⟨_, hl, hlc⟩
    have hne : l ≠ a := fun e => by
      rw [e, ho] at hl
      cases hl
      rw [hc] at hlc
      exact absurd hlc (by simp)
    exact vf_no tl ta (by decide) (by simpa using hne) PySem.F.sub_dict_tuple PySem.F.slot_tuple_eq PySem.F.slot_dict_eq_refl PySem.F.slot_dict_eq PySem.F.entry_tuple_eq PySem.F.entry_dict_eq (PySem.F.args_tuple_eq_2 _ _) (PySem.F.args_dict_eq_2 _ _)
      (fun _ _ _ _ _ q => vf_tup_no ta PySem.F.sub_dict_tuple q) (fun _ _ _ _ _ q => vf_dic_no ta tl PySem.F.sub_tuple_dict q) (fun _ _ _ _ _ q => SeqAt.wpAny_isSame_ref_other' hne hl ho (by rw [hc]; simp) q) (fun _ _ z => nomatch z) hu
theorem eqW_dicL (I : L2.Inv X pins σ H s) {A : Around} {x : V} {u : Value} {d : PyData} {a : Addr} {ks : List (Key × V)} (h : Dp X.K H x d) (ha : H a = some (.dK ks)) (rx : RelV x u) (hu : A.units < cLine) : NoAt A s (.ref a) u := by
  obtain ⟨o, es, ep, ho, hc, hd⟩ := dic_obj I ha
  have ta : s.TypeIs (.ref a) "dict" := ⟨o, ho, hc⟩
  cases h with
  | non =>
    cases rx
    exact vf_no ta (show s.TypeIs .none "NoneType" from rfl) (by decide) rfl PySem.F.sub_NoneType_dict PySem.F.slot_dict_eq PySem.F.slot_NoneType_eq_refl PySem.F.slot_NoneType_eq PySem.F.entry_dict_eq PySem.F.entry_NoneType_eq (PySem.F.args_dict_eq_2 _ _) (PySem.F.args_NoneType_eq_2 _ _)
      (fun _ _ _ _ _ q => vf_dic_no (v := .none) (T := "NoneType") ta rfl PySem.F.sub_NoneType_dict q) (fun _ _ _ _ _ q => vf_none_no q) (fun _ _ _ _ _ q => wpAny_of_eq (rfl : isSame (.ref a) .none = pure false) q) (fun _ _ z => nomatch z) hu
  | bl b =>
    cases rx
    exact vf_no ta (show s.TypeIs (.bool b) "bool" from rfl) (by decide) rfl PySem.F.sub_bool_dict PySem.F.slot_dict_eq PySem.F.slot_bool_eq_refl PySem.F.slot_bool_eq PySem.F.entry_dict_eq PySem.F.entry_int_eq (PySem.F.args_dict_eq_2 _ _) (PySem.F.args_int_eq_2 _ _)
      (fun _ _ _ _ _ q => vf_dic_no (v := .bool b) (T := "bool") ta rfl PySem.F.sub_bool_dict q) (fun _ _ _ _ _ q => vf_int_no (.inl ⟨_, rfl⟩) ho hd q) (fun _ _ _ _ _ q => wpAny_of_eq (rfl : isSame (.ref a) (.bool b) = pure false) q) (fun _ _ z => nomatch z) hu
  | int i =>
    obtain ⟨t, rfl⟩ := rx
    exact vf_no ta (show s.TypeIs (.int i t) "int" from rfl) (by decide) rfl PySem.F.sub_int_dict PySem.F.slot_dict_eq PySem.F.slot_int_eq_refl PySem.F.slot_int_eq PySem.F.entry_dict_eq PySem.F.entry_int_eq (PySem.F.args_dict_eq_2 _ _) (PySem.F.args_int_eq_2 _ _)
      (fun _ _ _ _ _ q => vf_dic_no (v := .int i t) (T := "int") ta rfl PySem.F.sub_int_dict q) (fun _ _ _ _ _ q => vf_int_no (.inr ⟨_, _, rfl⟩) ho hd q) (fun _ _ _ _ _ q => wpAny_of_eq (rfl : isSame (.ref a) (.int i t) = pure false) q) (fun _ _ z => nomatch z) hu
  | str z =>
    obtain ⟨t, rfl⟩ := rx
    exact vf_no ta (show s.TypeIs (.str z t) "str" from rfl) (by decide) rfl PySem.F.sub_str_dict PySem.F.slot_dict_eq PySem.F.slot_str_eq_refl PySem.F.slot_str_eq PySem.F.entry_dict_eq PySem.F.entry_str_eq (PySem.F.args_dict_eq_2 _ _) (PySem.F.args_str_eq_2 _ _)
      (fun _ _ _ _ _ q => vf_dic_no (v := .str z t) (T := "str") ta rfl PySem.F.sub_str_dict q) (fun _ _ _ _ _ q => vf_no_str_dic ho hd q) (fun _ _ _ _ _ q => wpAny_of_eq (rfl : isSame (.ref a) (.str z t) = pure false) q) (fun _ _ z => nomatch z) hu
  | @lst l _ _ hs _ =>
    cases rx
    obtain ⟨its, r, p, _⟩ := I.list hs
    obtain ⟨ol, n, hl, hlc, hld, hlx⟩ := p
    have tl : s.TypeIs (.ref l) "list" := ⟨_, hl, hlc⟩
    have hne : a ≠ l := fun e => by
      rw [← e, ho] at hl
      cases hl
      rw [hc] at hlc
      exact absurd hlc (by simp)
    exact vf_no ta tl (by decide) (by simpa using hne) PySem.F.sub_list_dict PySem.F.slot_dict_eq PySem.F.slot_list_eq_refl PySem.F.slot_list_eq PySem.F.entry_dict_eq PySem.F.entry_list_eq (PySem.F.args_dict_eq_2 _ _) (PySem.F.args_list_eq_2 _ _)
      (fun _ _ _ _ _ q => vf_dic_no ta tl PySem.F.sub_list_dict q) (fun _ _ _ _ _ q => vf_lst_no ta PySem.F.sub_dict_list q) (fun _ _ _ _ _ q => wpAny_isSame_ref_other hne ho hl (by rw [hc]; simp) q) (fun _ _ z => nomatch z) hu
  | @tup l _ _ hs _ =>
    cases rx
    obtain ⟨its, r, p, _⟩ := I.tuple hs
    obtain ⟨ol, hl, hlc, hld⟩ := p
    have tl : s.TypeIs (.ref l) "tuple" := ⟨_, hl, hlc⟩
    have hne : a ≠ l := fun e => by
      rw [← e, ho] at hl
      cases hl
      rw [hc] at hlc
      exact absurd hlc (by simp)
    exact vf_no ta tl (by decide) (by simpa using hne) PySem.F.sub_tuple_dict PySem.F.slot_dict_eq PySem.F.slot_tuple_eq_refl PySem.F.slot_tuple_eq PySem.F.entry_dict_eq PySem.F.entry_tuple_eq (PySem.F.args_dict_eq_2 _ _) (PySem.F.args_tuple_eq_2 _ _)
      (fun _ _ _ _ _ q => vf_dic_no ta tl PySem.F.sub_tuple_dict q) (fun _ _ _ _ _ q => vf_tup_no ta PySem.F.sub_dict_tuple q) (fun _ _ _ _ _ q => wpAny_isSame_ref_other hne ho hl (by rw [hc]; simp) q) (fun _ _ z => nomatch z) hu
theorem EqW.run (I : L2.Inv X pins σ H s) {A : Around} {x y : V} {u v : Value} {b : Bool} (h : EqW X.K H x y b) (rx : RelV x u) (ry : RelV y v) (hu : A.units + 64 < cLine) :
    (∀ E Q : Value → Shared → Prop, Q (.bool b) s → wpAny (model X.prog X.w) A (richCompare .Eq u v) Q E s) ∧ SeqAt.EqP X.prog X.w A s u v b := by
  cases h with
  | dat h1 h2 sd se =>
    obtain ⟨as, r1⟩ := Dp.reads I _ x u h1 rx
    obtain ⟨bs, r2⟩ := Dp.reads I _ y v h2 ry
    exact ⟨fun E Q q => SeqAt.compareEq_shaped r1 r2 sd se hu q, (SeqAt.eqAt_reads _ _ A s u v as bs r1 r2 (SeqAt.canLay_of_shaped sd) (SeqAt.canLay_of_shaped se) (SeqAt.room_of_shaped sd hu)).eqP⟩
  | dicL h1 h2 =>
    cases rx
    have := eqW_dicL I (A := A) h2 h1 ry (by omega)
    exact ⟨this.rc X.prog X.w, this.eq.eqP⟩
  | dicR h1 h2 =>
    cases ry
    have := eqW_dicR I (A := A) h1 h2 rx (by omega)
    exact ⟨this.rc X.prog X.w, this.eq.eqP⟩
  | @dd a b h1 h2 =>
    cases rx
    cases ry
    obtain ⟨_, ya, va, ra, da⟩ := (show ObjOk X.prog X.w H s.heap a (.dK []) from I.hok a _ h1)
    obtain ⟨_, yb, vb, rb, db⟩ := (show ObjOk X.prog X.w H s.heap b (.dK []) from I.hok b _ h2)
    cases ra
    cases rb
    have rc : ∀ E Q : Value → Shared → Prop, Q (.bool true) s → wpAny (model X.prog X.w) A (richCompare .Eq (.ref a) (.ref b)) Q E s := fun E Q q =>
      PySem.W.rcP_dicts (knd := mixKind X.prog X.w) (r := true) ya yb da db (by omega) (fun _ => .nil) E Q q
    refine ⟨rc, ?_⟩
    by_cases e : a = b
    · subst e
      exact (SeqAt.EqAt.same _).eqP
    · exact SeqAt.eqP_refs e rc
/-- x == y of such values -/
def rEqW (K : PySem.W.Frag) : R2 := fun x y H Q => ∃ b, EqW K H x y b ∧ Q (.bl b) H
theorem op_eqW (hu : X.A.units + 64 < cLine) : OpR X (compareOp .Eq) (rEqW X.K) := by
  intro pins s σ H x y v u Q I rx ry h
  obtain ⟨b, h, q⟩ := h
  exact (h.run I rx ry hu).1 _ _ ⟨.bl b, H, I, rfl, q⟩
/-- in, not in: such values -/
def DW (K : PySem.W.Frag) : Eqb := fun x y H b => EqW K H x y b
theorem eqB_w {n : Nat} : EqB X n (DW X.K) := fun A pins s σ H x y u v b sb I rx ry hd => (hd.run I rx ry sb.room.units).2 _ _ ⟨rfl, H, I, Ext.rfl'⟩
mutual
theorem Dp_ext {K : PySem.W.Frag} {H H' : Hp} (sm : Same H H') : ∀ (d : PyData) (x : V), Dp K H x d → Dp K H' x d
  | _, _, .non => .non
  | _, _, .bl b => .bl b
  | _, _, .int i => .int i
  | _, _, .str z => .str z
  | .list ds, _, .lst h hs => .lst (sm.seq h) (DpAll_ext sm ds _ hs)
  | .tuple ds, _, .tup h hs => .tup (SqT.ext h sm) (DpAll_ext sm ds _ hs)
theorem DpAll_ext {K : PySem.W.Frag} {H H' : Hp} (sm : Same H H') : ∀ (ds : List PyData) (xs : List V), DpAll K H xs ds → DpAll K H' xs ds
  | _, _, .nil => .nil
  | d :: ds, _, .cons h hs => .cons (Dp_ext sm d _ h) (DpAll_ext sm ds _ hs)
end
theorem EqW.ext {K : PySem.W.Frag} {H H' : Hp} (sm : Same H H') {x y : V} {b : Bool} (h : EqW K H x y b) : EqW K H' x y b := by
  cases h with
  | dat h1 h2 sd se => exact .dat (Dp_ext sm _ _ h1) (Dp_ext sm _ _ h2) sd se
  | dicL h1 h2 => exact .dicL (sm _ _ h1) (Dp_ext sm _ _ h2)
  | dicR h1 h2 => exact .dicR (Dp_ext sm _ _ h1) (sm _ _ h2)
  | dd h1 h2 => exact .dd (sm _ _ h1) (sm _ _ h2)
end
end Vf

set_option Elab.async false
set_option linter.all false
set_option maxRecDepth 100000
set_option maxHeartbeats 2000000
/-! try with several clauses that bind their error; over the library's readings of one clause and of clauses without names. -/
namespace Vf
open PySem PySem.Spec PyProof.Rows L2
abbrev Clause : Type := Value × Nat × (Addr → Value → Option Addr → TS)
/-- the ends of a clause: its name goes -/
def goneE (i : Nat) (D : Ends) : Ends := { nx := fun τ G => D.nx (τ.set i none) G, rt := D.rt, bk := fun τ G => D.bk (τ.set i none) G, ct := fun τ G => D.ct (τ.set i none) G }
def wClauses (K : PySem.W.Frag) (Wout : WX) (D : Ends) : List Clause → WX
  | [] => Wout
  | (c, i, ts) :: r => fun cls d τ G => ∃ t, PySem.W.exmOne K cls c = some t ∧ (t = true → ∀ a, G a = none → ts a cls d (goneE i D) (τ.set i (some (.ref a))) G) ∧ (t = false → wClauses K Wout D r cls d τ G)
inductive Clauses (X : Cx) : List ExceptHandler → List Clause → Prop
  | nil : Clauses X [] []
  | cons {x n : Str} {c : Value} {i : Nat} {ts : Addr → Value → Option Addr → TS} {b₀ : Stmt} {suite : List Stmt} {np np' : Pos} {hds : List ExceptHandler} {l : List Clause} (hi : X.N[i]? = some n) (hl : X.env.kindOf n = some .local) (hc : Names X x c)
      (hsu : ∀ (a : Addr) (oe : Obj) (cls : Value) (d : Option Addr) (pn : List (Addr × Obj)), Zc cls d oe → (∃ vs, oe.data = .fields vs) → PSs (X.suite a ((a, oe) :: pn)) (b₀ :: suite) (ts a cls d)) (r : Clauses X hds l) :
      Clauses X (.ExceptHandler (some (.Name x np)) (some n) (b₀ :: suite) np' :: hds) ((c, i, ts) :: l)
section
variable {X : Cx} {body : List Stmt} {h₀ : ExceptHandler} {hds : List ExceptHandler} {l : List Clause} {pos : Pos} {tb : WX → TS} {Wout : WX}
theorem ps_try_clauses (hst : X.stack = X.env :: X.outer) (hfr0 : X.env.frame = some X.env.locals) (hN : X.N.Nodup) (tk : Takes X Wout)
    (hb : ∀ (W : WX) (pn : List (Addr × Obj)) (xe : Value → Shared → Prop), Takes (X.tr pn xe) W → PassesOwn (model X.prog X.w) X.A X.env xe → PSs (X.tr pn xe) body (tb W))
    (hh : Clauses X (h₀ :: hds) l) : PS X (.Try body (h₀ :: hds) [] [] pos) (fun D σ H => tb (wClauses X.K Wout D l) D σ H) := by
  refine ⟨fun pins s σ H D I hyp => ?_⟩
  have iok := I.ok
  have hframes : X.A.frames = some (X.env :: X.outer) := by rw [iok.frames, hst]
  refine wpAny_Try_except (wpAny_mono ((hb (wClauses X.K Wout D l) (X.pn ++ pins) (fun er t1 => wpAny (model X.prog X.w) X.A (noteFrame er X.env) (fun _ t2 => wpAny (model X.prog X.w) X.A (setFlight er none) (fun _ t3 =>
    wpAny (model X.prog X.w) X.A (handleBy er X.env (h₀ :: hds)) (SP X pins D) X.xe t3) X.xe t2) X.xe t1) (fun u s' air => ?_) PassesOwn.looking).run [] s σ H D (I.toTry _) hyp) (fun fl t1 done => ?_) (fun er t1 q => q))
  · obtain ⟨a, B, sI, pins', τ, G, cls, d, rfl, Ja, newB, upA, sky, gNone, osEq, bare, wish⟩ := air
    have Jb : Inv X pins τ G sI := Ja.ofTry iok
    have skyB : Sky B (X.env :: X.outer) a (Zc cls d) X.env.locals s'.heap := by rw [← hst]; exact sky
    show wpAny (model X.prog X.w) X.A (noteFrame (.ref a) X.env) _ _ _
    refine Sky.land Zc.steady hframes hfr0 skyB fun hp3 fly3 up3 => ?_
    have J3 : Inv X pins τ G { s' with heap := hp3 } := Jb.landed newB fly3.1 (upA.trans up3) osEq bare
    obtain ⟨o3, w3, there3, zc3, dat3⟩ := fly3.there
    have off : a ∉ frs (X.env :: X.outer) := fun hm => by
      obtain ⟨_, o', e', hno⟩ := fly3.2.2.1.mem hm
      rw [there3] at e'
      cases e'
      exact hno _ dat3
    have offL : a ≠ X.env.locals := fun z => off (List.mem_filterMap.mpr ⟨X.env, List.mem_cons_self, by rw [hfr0, z]⟩)
    have offF : a ∉ X.fs := fun hm => by
      obtain ⟨en, hen, q⟩ := List.mem_filterMap.mp hm
      exact off (List.mem_filterMap.mpr ⟨en, List.mem_cons_of_mem _ hen, q⟩)
    have S3 := J3.suite there3 dat3 gNone offL offF
    have walk : ∀ {hs2 : List ExceptHandler} {l2 : List Clause}, Clauses X hs2 l2 → wClauses X.K Wout D l2 cls d τ G → wpAny (model X.prog X.w) X.A (handleBy (.ref a) X.env hs2) (SP X pins D) X.xe { s' with heap := hp3 } := by
      intro hs2 l2 hk
      induction hk with
      | nil =>
        intro out
        refine wpAny_handleBy_nil ?_
        obtain ⟨_, _, _, oe, vs, T, oT, _, there, zc, dat, v1, _⟩ := id fly3
        unfold PySem.passOn
        refine wpAny_bind (wpAny_field there dat v1 ?_)
        rw [if_neg (by simp : ¬ ((Value.ref T == Value.none) = true))]
        have last : wpAny (model X.prog X.w) X.A (setFlight (.ref a) X.env.frame) (fun _ t4 => wpAny (model X.prog X.w) X.A (throw (.ref a) : Sem Flow) (SP X pins D) X.xe t4) X.xe { s' with heap := hp3 } := by
          rw [hfr0]
          refine HandSPX.setFlight_upZ fly3 fun hp4 fly4 up4 => wpAny_throw (tk _ _ ⟨a, B, sI, pins, τ, G, cls, d, rfl, Jb, newB, (upA.trans up3).trans up4, .inr (.inr (by rw [hst]; exact fly4)), gNone, osEq, bare, out⟩)
        first
          | exact wpAny_bind (wpAny_pure (wpAny_bind last))
          | exact wpAny_bind last
      | @cons x n c i ts b₀ suite np np' hds2 l2 hi hl hc hsu r ih =>
        rintro ⟨t, et, yes, no⟩
        refine wpAny_handleBy_cons (codeAny_handlers_test ?_) (by intro q; cases q)
        have look : PySem.W.Looks (model X.prog X.w) hp3 (typeOf (.ref a)) cls := fun A Q E t keep q => wpAny_typeOf_ref (keep _ _ there3) (by rw [zc3.1]; exact q)
        have match_ := PySem.W.exm_one (M := model X.prog X.w) (J3.kIn) look et
        have name : ∀ {Q E : Value → Shared → Prop}, Q c { s' with heap := hp3 } → wpAny (model X.prog X.w) (X.A.mark (some (.ref a))) (eval (.Name x np) X.env) Q E { s' with heap := hp3 } := fun {Q E} q => by
          obtain ⟨g1, g2, g3 | ⟨g3, g4, g5⟩⟩ := hc
          · exact ld_glob (X := X.suite a ((a, o3) :: (X.pn ++ pins))) S3 g1 g3 q g2
          · exact ld_blt (X := X.suite a ((a, o3) :: (X.pn ++ pins))) S3 g1 g3 g4 q g5 g2
        refine name (match_.here ?_)
        cases t with
        | false =>
          show wpAny _ X.A (handleBy (.ref a) X.env hds2) _ _ _
          exact ih (no rfl)
        | true =>
          refine codeAny_handlers_suite_as (HandSPX.lands_againZ fly3 fun hp4 fly4 up4 => ?_)
          have J4 : Inv X pins τ G { s' with heap := hp4 } := Jb.landed newB fly4.1 ((upA.trans up3).trans up4) osEq bare
          obtain ⟨o4, w4, there4, zc4, dat4⟩ := fly4.there
          refine store_ok (X := X.suite a ((a, o4) :: (X.pn ++ pins))) (v := .ref a) (J4.suite there4 dat4 gNone offL offF) hN hi (.inl hl) rfl (fun t5 S5 => ?_) (.inr hl)
          refine wpAny_mono ((hsu a o4 cls d (X.pn ++ pins) zc4 ⟨_, dat4⟩).run [] t5 _ G _ S5 (yes rfl a gNone)) (fun fl t6 done => ?_) (fun _ _ z => False.elim z)
          have bye : ∀ {τ6 : L2.St} {G6 : Hp} {Q : Shared → Prop}, Inv (X.suite a ((a, o4) :: (X.pn ++ pins))) [] τ6 G6 t6 → (∀ t7, Inv X pins (τ6.set i none) G6 t7 → Q t7) →
              wpAny (model X.prog X.w) X.A (do bindName X.env n .none; unbindBehindTheSuite X.env n np') (fun _ t7 => Q t7) X.xe t6 := fun {τ6 G6 Q} S6 q => gone_ok (S6.unsuite iok) hN hi hl q
          cases fl with
          | ret u =>
            obtain ⟨v6, τ6, G6, S6, r6, q6⟩ := done
            exact bye S6 fun t7 J7 => ⟨_, _, _, J7, r6, q6⟩
          | _ =>
            obtain ⟨τ6, G6, S6, q6⟩ := done
            exact bye S6 fun t7 J7 => ⟨_, _, J7, q6⟩
    exact walk hh wish
  · cases fl with
    | ret u =>
      obtain ⟨v, τ, G, Ja, rv, q⟩ := done
      exact ⟨v, τ, G, Ja.ofTry iok, rv, q⟩
    | next =>
      obtain ⟨τ, G, Ja, q⟩ := done
      exact wpAny_execs_nil ⟨τ, G, Ja.ofTry iok, q⟩
    | _ =>
      obtain ⟨τ, G, Ja, q⟩ := done
      exact ⟨τ, G, Ja.ofTry iok, q⟩
end
end Vf

set_option Elab.async false
set_option linter.all false
set_option maxRecDepth 100000
set_option maxHeartbeats 2000000
namespace K8
open PySem PySem.Spec PyProof.Rows L2 Vf
def top (i : Nat) : Stmt := PySem.Challenge.pw_seenshares_k08_with_let.main.body.getD i (.Pass ⟨0, 0, 0, 0⟩)
abbrev OkF (P : Program) (w : World) (K : PySem.W.Frag) (mg : Str → Option Value) (base : Heap) (CX : CXT) (k : Nat) (x : Str) (ps : List Str) (sp : Sp) : Prop := OkD P w K mg base CX k (x, none) ps [] sp
abbrev OkM (P : Program) (w : World) (K : PySem.W.Frag) (mg : Str → Option Value) (base : Heap) (CX : CXT) (k : Nat) (c m : Str) (ps : List Str) (sp : Sp) : Prop := OkD P w K mg base CX k (c, some m) ps [] sp
abbrev FnD (K : PySem.W.Frag) (p : Pl) (x q : Str) (st : Stmt) (fd : FuncData) : Prop := FunD K x q (defArgs st) (defBody st) (defScope st) [] [] (He.fAd K p) fd
abbrev CP (K : PySem.W.Frag) : Addr := He.ga K "Place"
abbrev CBP (K : PySem.W.Frag) : Addr := He.ga K "BadPlace"
def KEPT : List Str := ["any", "closed", "end", "open", "to"]
def LET : Str := "abcdefghijklmnopqrstuvwxyz"
structure PTxt (K : PySem.W.Frag) (mg : Str → Option Value) : Prop where
  z_int : mg "int" = none
  z_bool : mg "bool" = none
  z_str : mg "str" = none
  z_len : mg "len" = none
  z_all : mg "all" = none
  z_isinstance : mg "isinstance" = none
  i_LONGEST_NAME : ∃ t, mg "LONGEST_NAME" = some (.int 8 t)
  i_MOST_TICKS : ∃ t, mg "MOST_TICKS" = some (.int 6 t)
  i_LETTERS : ∃ t, mg "LETTERS" = some (.str LET t)
  g_KEPT_WORDS : mg "KEPT_WORDS" = some (.ref (He.ga K "KEPT_WORDS"))
  t_KEPT : kTup K (He.ga K "KEPT_WORDS") KEPT = true
  g_is_integer : mg "is_integer" = some (.ref (He.ga K "is_integer"))
  g_is_integer_from : mg "is_integer_from" = some (.ref (He.ga K "is_integer_from"))
  g_is_flag : mg "is_flag" = some (.ref (He.ga K "is_flag"))
  g_is_name : mg "is_name" = some (.ref (He.ga K "is_name"))
  g_Place : mg "Place" = some (.ref (He.ga K "Place"))
  g_BadPlace : mg "BadPlace" = some (.ref (He.ga K "BadPlace"))
  c_Place : Cls K (He.ga K "Place")
  m_Place : Mk K (He.ga K "Place") (He.fAd K ("Place", some "__init__"))
  nN : NoAttr K (He.ga K "Place") "name"
  nL : NoAttr K (He.ga K "Place") "least"
  nM : NoAttr K (He.ga K "Place") "most"
  nT : NoAttr K (He.ga K "Place") "let"
  x_BadPlace : ExI K "BadPlace" "why"
  hn : PySem.W.specialIn K (.builtin "object.__class__") "__get__" = some (some (.builtin "getset_descriptor.__get__"))
  ht : PySem.W.takesIn K (.builtin "object.__class__") = some true
  ha : PySem.W.findIn K (.ref (He.ga K "Place")) "__class__" = some (some (.builtin "object.__class__"))
  hm : PySem.W.mroIn K (He.ga K "Place") (.type "object") = some true
  k1 : PySem.W.kitOne K (.ref (He.ga K "Place")) (.ref (He.ga K "Place")) = some true
/-! ### a place's fields -/
def plf (z : Str) (l m : Int) (b : Bool) : List (Str × V) := putF "let" (.bl b) (putF "most" (.int m) (putF "least" (.int l) (putF "name" (.str z) [])))
theorem plf_name (z : Str) (l m : Int) (b : Bool) : (plf z l m b).lookup ("name" : Str) = some (.str z) := by
  unfold plf
  rw [lookup_putF, if_neg (by decide +kernel), lookup_putF, if_neg (by decide +kernel), lookup_putF, if_neg (by decide +kernel), lookup_putF, if_pos rfl]
theorem plf_least (z : Str) (l m : Int) (b : Bool) : (plf z l m b).lookup ("least" : Str) = some (.int l) := by
  unfold plf
  rw [lookup_putF, if_neg (by decide +kernel), lookup_putF, if_neg (by decide +kernel), lookup_putF, if_pos rfl]
theorem plf_most (z : Str) (l m : Int) (b : Bool) : (plf z l m b).lookup ("most" : Str) = some (.int m) := by
  unfold plf
  rw [lookup_putF, if_neg (by decide +kernel), lookup_putF, if_pos rfl]
theorem plf_let (z : Str) (l m : Int) (b : Bool) : (plf z l m b).lookup ("let" : Str) = some (.bl b) := by
  unfold plf
  rw [lookup_putF, if_pos rfl]
/-- at p a place -/
def PlA (C : Addr) (H : Hp) (p : Addr) (z : Str) (l m : Int) (b : Bool) : Prop := ∃ dx, H p = some (.ins C dx (plf z l m b))
theorem PlA.ext {C : Addr} {H H' : Hp} {p : Addr} {z : Str} {l m : Int} {b : Bool} (h : PlA C H p z l m b) (s : Same H H') : PlA C H' p z l m b := by
  obtain ⟨dx, e⟩ := h
  exact ⟨dx, s _ _ e⟩
theorem same_new {H : Hp} {p : Addr} {o : HO} (h : H p = none) : Same H (upd H p o) := fun b u e => by
  rw [upd_ne (ne_of_none e h)]
  exact e
theorem same_make {H : Hp} {x dx : Addr} {o1 o2 : HO} (nx : H x = none) (ndx : H dx = none) : Same H (upd (upd H dx o1) x o2) := fun b o e => by
  rw [upd_ne (ne_of_none e nx), upd_ne (ne_of_none e ndx)]
  exact e
theorem same_make2 {H : Hp} {x dx : Addr} {o1 o2 o3 : HO} (nx : H x = none) (ndx : H dx = none) : Same H (upd (upd (upd H dx o1) x o2) x o3) := by
  rw [upd_upd]
  exact same_make nx ndx
theorem same_app {H H1 H2 : Hp} {D : Addr} {o : HO} (s : Same H H1) (s2 : Same H1 H2) (nD : H D = none) : Same H (upd H2 D o) := fun b u e => by
  rw [upd_ne (ne_of_none e nD)]
  exact s2 _ _ (s _ _ e)
section
variable {P : Program} {w : World} {K : PySem.W.Frag} {mg : Str → Option Value} {base : Heap}
theorem okd {CX : CXT} {k : Nat} {p : Pl} {x q : Str} {st : Stmt} {fd : FuncData} {ps : List Str} {sp : Sp} (F : FnD K p x q st fd) (ok : FnOk P w K mg base CX k (He.fAd K p) fd ps sp)
    (h : ∀ (kV doc pm : Value) (an : Option Addr) (cdv ct : Value) (us : List Value), us.length = ps.length → bindArgs (PySem.W.fnOf x q (defArgs st) (defBody st) (defScope st) .none kV doc pm an cdv ct) ⟨us, []⟩ = pure (ps.zip us)) : OkD P w K mg base CX k p ps [] sp :=
  ⟨⟨fd, [], ok, FunD.bindsN F h, .nil⟩, F.kp⟩
abbrev s_is_integer : Stmt := top 9
theorem sc_is_integer : FnScope ["x"] ["x"] (defScope s_is_integer) := ⟨rfl, rfl, rfl, by decide +kernel, rfl, by decide +kernel, by decide +kernel⟩
-- slots: 0 x
theorem ok_is_integer {fd : FuncData} (F : FnD K ("is_integer", none) "is_integer" "is_integer" s_is_integer fd) (T : PTxt K mg) : OkF P w K mg base CX0 1 "is_integer" ["x"] spIsInt := by
  refine okd F (F.ok sc_is_integer (fun vs H Q E h => ?_) fun cdv A outer s H vs Q E hr h => ⟨t_isint K, PSs.nox ?_, run_isint h⟩) fun _ _ _ _ _ _ us hl => match us, hl with | [_], _ => rfl
  · obtain ⟨x, rfl, _⟩ := h
    rfl
  · exact (pss_one (ps_ret (pe_and (pe_callB (id := "isinstance") call_isi (by rfl) T.z_isinstance (by decide +kernel) (pa_cons (pv 0) (pa_cons (pe_ty (n := "int") T.z_int (by decide +kernel)) pa_nil))) (pe_one (pe_not (pe_callB (id := "isinstance") call_isi (by rfl) T.z_isinstance (by decide +kernel) (pa_cons (pv 0) (pa_cons (pe_ty (n := "bool") T.z_bool (by decide +kernel)) pa_nil))))))))
abbrev s_is_integer_from : Stmt := top 10
theorem sc_is_integer_from : FnScope ["x", "low", "high"] ["x", "low", "high"] (defScope s_is_integer_from) := ⟨rfl, rfl, rfl, by decide +kernel, rfl, by decide +kernel, by decide +kernel⟩
-- slots: 0 x, 1 low, 2 high
/-- l is no integer from lo to hi -/
def NotFr (H : Hp) (l : V) (lo hi : Int) : Prop := (∃ n, l = .int n ∧ ¬ (lo ≤ n ∧ n ≤ hi)) ∨ Odd H l
def spFr : Sp := fun vs H Q _ => ∃ (x : V) (lo hi : Int), vs = [x, .int lo, .int hi] ∧ ((∃ n, x = .int n ∧ lo ≤ n ∧ n ≤ hi ∧ Q (.bl true) H) ∨ (NotFr H x lo hi ∧ Q (.bl false) H))
theorem ok_is_integer_from {fd : FuncData} (F : FnD K ("is_integer_from", none) "is_integer_from" "is_integer_from" s_is_integer_from fd) (T : PTxt K mg) (O_is_integer : OkF P w K mg base CX0 1 "is_integer" ["x"] spIsInt) : OkF P w K mg base CX0 2 "is_integer_from" ["x", "low", "high"] spFr := by
  refine okd F (F.ok sc_is_integer_from (fun vs H Q E h => ?_) fun cdv A outer s H vs Q E hr h => ?_) fun _ _ _ _ _ _ us hl => match us, hl with | [_, _, _], _ => rfl
  · obtain ⟨x, lo, hi, rfl, _⟩ := h
    rfl
  · obtain ⟨x, lo, hi, rfl, h⟩ := h
    refine ⟨_, PSs.nox (pss_one (ps_ret (pe_and (c_fn O_is_integer hr (by decide) T.g_is_integer pass0 (pa_cons (pv 0) pa_nil)) (pe_one (pe_chain op_le op_le (pv 1) (pv 0) (pv 2)))))), ?_⟩
    rcases h with ⟨n, rfl, l1, l2, q⟩ | ⟨⟨n, rfl, hn⟩ | o, q⟩
    · refine ⟨_, rfl, _, rfl, .inl ⟨⟨n, rfl⟩, true, rfl, iteT ?_⟩⟩
      refine ⟨_, rfl, _, rfl, lo, n, rfl, rfl, true, congrArg V.bl (decide_eq_true l1), iteT ⟨_, rfl, n, hi, rfl, rfl, ?_⟩⟩
      show Q (.bl (decide (n ≤ hi))) H
      rw [decide_eq_true l2]
      exact q
    · refine ⟨_, rfl, _, rfl, .inl ⟨⟨n, rfl⟩, true, rfl, iteT ?_⟩⟩
      by_cases l1 : lo ≤ n
      · have l2 : ¬ n ≤ hi := fun z => hn ⟨l1, z⟩
        refine ⟨_, rfl, _, rfl, lo, n, rfl, rfl, true, congrArg V.bl (decide_eq_true l1), iteT ⟨_, rfl, n, hi, rfl, rfl, ?_⟩⟩
        show Q (.bl (decide (n ≤ hi))) H
        rw [decide_eq_false l2]
        exact q
      · exact ⟨_, rfl, _, rfl, lo, n, rfl, rfl, false, congrArg V.bl (decide_eq_false l1), iteF q⟩
    · exact ⟨_, rfl, _, rfl, .inr ⟨o, false, rfl, iteF q⟩⟩
abbrev s_is_flag : Stmt := top 11
theorem sc_is_flag : FnScope ["x"] ["x"] (defScope s_is_flag) := ⟨rfl, rfl, rfl, by decide +kernel, rfl, by decide +kernel, by decide +kernel⟩
-- slots: 0 x
def spFlag : Sp := fun vs H Q _ => ∃ x, vs = [x] ∧ ((∃ b, x = .bl b ∧ Q (.bl true) H) ∨ (OddB H x ∧ Q (.bl false) H))
theorem ok_is_flag {fd : FuncData} (F : FnD K ("is_flag", none) "is_flag" "is_flag" s_is_flag fd) (T : PTxt K mg) : OkF P w K mg base CX0 1 "is_flag" ["x"] spFlag := by
  refine okd F (F.ok sc_is_flag (fun vs H Q E h => ?_) fun cdv A outer s H vs Q E hr h => ?_) fun _ _ _ _ _ _ us hl => match us, hl with | [_], _ => rfl
  · obtain ⟨x, rfl, _⟩ := h
    rfl
  · obtain ⟨x, rfl, h⟩ := h
    refine ⟨_, PSs.nox (pss_one (ps_ret (pe_callB (id := "isinstance") call_isi (by rfl) T.z_isinstance (by decide +kernel) (pa_cons (pv 0) (pa_cons (pe_ty (n := "bool") T.z_bool (by decide +kernel)) pa_nil))))), ?_⟩
    rcases h with ⟨b, rfl, q⟩ | ⟨o, q⟩
    · exact ⟨_, rfl, .bl b, .ty "bool", .type "bool", .type "bool", true, rfl, .ty _, .base (.bl _), kit_ty (by decide +kernel), q⟩
    · obtain ⟨n, t1, k1⟩ := oddB_ty K o
      exact ⟨_, rfl, x, .ty "bool", .type n, .type "bool", false, rfl, .ty _, t1, kit_ty k1, q⟩
abbrev s_is_name : Stmt := top 12
theorem sc_is_name : FnScope ["x", "letter"] ["x"] (defScope s_is_name) := ⟨rfl, rfl, rfl, by decide +kernel, rfl, by decide +kernel, by decide +kernel⟩
-- slots: 0 x, 1 letter
/-- a text that is a name -/
def nmB (z : Str) : Bool := decide (1 ≤ z.length) && (decide (z.length ≤ 8) && (!inV (.str z) (KEPT.map V.str) && z.cps.toList.all fun c => decide (c ∈ LET.cps.toList)))
def spName : Sp := fun vs H Q _ => ∃ x, vs = [x] ∧ ((∃ z, x = .str z ∧ z.length ≤ sizeLine ∧ ∀ H', Same H H' → Q (.bl (nmB z)) H') ∨ (OddS H x ∧ Q (.bl false) H))
theorem ok_is_name {fd : FuncData} (F : FnD K ("is_name", none) "is_name" "is_name" s_is_name fd) (T : PTxt K mg) : OkF P w K mg base CX0 1 "is_name" ["x"] spName := by
  refine okd F (F.ok sc_is_name (fun vs H Q E h => ?_) fun cdv A outer s H vs Q E hr h => ?_) fun _ _ _ _ _ _ us hl => match us, hl with | [_], _ => rfl
  · obtain ⟨x, rfl, _⟩ := h
    rfl
  · obtain ⟨x, rfl, h⟩ := h
    refine ⟨_, PSs.nox (pss_cons (ps_if (PW.pt (pw_or (pt_not (pt_val (pe_callB (id := "isinstance") call_isi (by rfl) T.z_isinstance (by decide +kernel) (pa_cons (pv 0) (pa_cons (pe_ty (n := "str") T.z_str (by decide +kernel)) pa_nil))))) (pw_or1 (pt_not (pt_chain op_le op_le pe_int (pe_callB call_len_str (by rfl) T.z_len (by decide +kernel) (pa_cons (pv 0) pa_nil)) (c_gint T.i_LONGEST_NAME)))))) (pss_one (ps_ret pe_bl))
  pss_nil)
  (pss_one (ps_ret (pe_and (pe_cmpR op_notIn_seq (pv 0) (pe_cl T.g_KEPT_WORDS) rfl) (pe_one (pe_callB (id := "all") (cr_all rfl) (by rfl) T.z_all (by decide +kernel) (pa_cons (pe_lc (own := [("letter", 1)]) (g := gName 1) (tt := tYes) (by rfl) sc_is_name.nd (pi_str (pv 0)) (blkOk_by (N := ["x", "letter"]) (sc := defScope s_is_name) (by decide +kernel)) (fun _ _ _ _ _ => pg_name (i := 1) sc_is_name.nd rfl (Or.inl rfl)) (fun _ _ _ _ _ => pts_nil) (fun _ _ _ _ _ => (pe_cmpR op_in_str (pv 1) (c_gstr T.i_LETTERS) rfl))) pa_nil))))))), ?_⟩
    rcases h with ⟨z, rfl, hz, k⟩ | ⟨o, q⟩
    · refine ⟨_, rfl, .str z, .ty "str", .type "str", .type "str", true, rfl, .ty _, .base (.str _), kit_ty (by decide +kernel), true, rfl, iteF ?_⟩
      have go : ∀ b : Bool, nmB z = b → ∀ H', Same H H' → Q (.bl b) H' := fun b e H' s => e ▸ k H' s
      by_cases l1 : (1 : Int) ≤ z.length
      · by_cases l2 : (z.length : Int) ≤ 8
        · refine ⟨_, rfl, z, rfl, hz, 1, z.length, rfl, rfl, true, congrArg V.bl (decide_eq_true l1), iteT ⟨z.length, 8, rfl, rfl, true, congrArg V.bl (decide_eq_true l2), iteF ?_⟩⟩
          refine ⟨_, rfl, _, _, rfl, .inr (kTup_ok T.t_KEPT _), rfl, by decide +kernel, _, rfl, ?_⟩
          have e1 : decide (1 ≤ z.length) = true := decide_eq_true (by omega)
          have e2 : decide (z.length ≤ 8) = true := decide_eq_true (by omega)
          unfold nmB at go
          rw [e1, e2, Bool.true_and, Bool.true_and] at go
          show if (!inV (.str z) (KEPT.map V.str)) = true then _ else _
          cases hv : inV (.str z) (KEPT.map V.str) with
          | true =>
            rw [hv] at go
            exact iteF (go false rfl _ fun _ _ h => h)
          | false =>
            rw [hv] at go
            refine iteT ?_
            refine ⟨_, rfl, z, rfl, fun D nD => lc_it walk_str (fun i H' => Same H H' ∧ H' D = some (.lst ((z.cps.toList.take i).map fun c => V.bl (decide (c ∈ LET.cps.toList))))) ⟨same_new nD, upd_same⟩ (fun _ _ _ _ => trivial) ?_ ?_⟩
            · rintro i x H1 H' hi ⟨sg, hD⟩ ⟨rfl, c, hc, rfl⟩
              have hc2 : z.cps.toList[i]? = some c := by simpa using hc
              refine ⟨rfl, _, rfl, _, _, rfl, rfl, ?_⟩
              refine ⟨_, hD, ?_, same_app sg (Same.refl _) nD, ?_⟩
              · rw [List.length_map, List.length_take]
                have hl : z.cps.toList.length = z.length := by simp [Str.length]
                have : min i z.cps.toList.length < 9 := by omega
                exact Nat.lt_of_lt_of_le this (by decide)
              · rw [upd_same, sign_in, List.take_add_one, List.map_append, hc2]
                rfl
            · rintro H' ⟨sg, hD⟩
              have hD2 : H' D = some (.lst ((z.cps.toList.map fun c => decide (c ∈ LET.cps.toList)).map V.bl)) := by
                rw [hD, List.map_map, List.take_of_length_le (by simp)]
                rfl
              refine ⟨D, _, rfl, SqL.of hD2, go _ ?_ _ sg⟩
              rw [List.all_map]
              rfl
        · refine ⟨_, rfl, z, rfl, hz, 1, z.length, rfl, rfl, true, congrArg V.bl (decide_eq_true l1), iteT ⟨z.length, 8, rfl, rfl, false, congrArg V.bl (decide_eq_false l2), iteT ?_⟩⟩
          refine go false ?_ _ fun _ _ h => h
          unfold nmB
          rw [show decide (z.length ≤ 8) = false from decide_eq_false (by omega)]
          simp
      · refine ⟨_, rfl, z, rfl, hz, 1, z.length, rfl, rfl, false, congrArg V.bl (decide_eq_false l1), iteF ⟨false, rfl, iteT ?_⟩⟩
        refine go false ?_ _ fun _ _ h => h
        unfold nmB
        rw [show decide (1 ≤ z.length) = false from decide_eq_false (by omega)]
        simp
    · obtain ⟨n, t1, k1⟩ := oddS_ty K o
      exact ⟨_, rfl, x, .ty "str", .type n, .type "str", false, rfl, .ty _, t1, kit_ty k1, false, rfl, iteT q⟩
end
end K8

set_option Elab.async false
set_option linter.all false
set_option maxRecDepth 100000
set_option maxHeartbeats 2000000
namespace K8
open PySem PySem.Spec PyProof.Rows L2 Vf
section
variable {P : Program} {w : World} {K : PySem.W.Frag} {mg : Str → Option Value} {base : Heap}
abbrev s_BadPlace_init : Stmt := inClass (top 2) 0
theorem sc_BadPlace_init : FnScope ["self", "why"] ["self", "why"] (defScope s_BadPlace_init) := ⟨rfl, rfl, rfl, by decide +kernel, rfl, by decide +kernel, by decide +kernel⟩
-- slots: 0 self, 1 why
theorem ok_BadPlace_init {fd : FuncData} (F : FnD K ("BadPlace", some "__init__") "__init__" "BadPlace.__init__" s_BadPlace_init fd) : OkD P w K mg base CX0 1 ("BadPlace", some "__init__") ["self", "why"] [] (spExI K (CBP K) "why") := by
  refine okd F (F.ok sc_BadPlace_init (fun vs H Q E h => ?_) fun cdv A outer s H vs Q E hr h => ⟨tOst K "why" (tVar 0) (tVar 1), PSs.nox ?_, run_exI h⟩) fun _ _ _ _ _ _ us hl => match us, hl with | [_, _], _ => rfl
  · obtain ⟨a, v, rfl, _⟩ := h
    rfl
  · exact pss_one (ps_ost (pv 0) (pv 1))
/-- what a place is made of -/
inductive PlIn (H : Hp) (x l m t : V) : Str → Prop where
  | name (h : (∃ z, x = .str z ∧ z.length ≤ sizeLine ∧ nmB z = false) ∨ OddS H x) : PlIn H x l m t "name"
  | least (z : Str) (hx : x = .str z) (hz : z.length ≤ sizeLine) (hn : nmB z = true) (h : NotFr H l 1 6) : PlIn H x l m t "least"
  | most (z : Str) (hx : x = .str z) (hz : z.length ≤ sizeLine) (hn : nmB z = true) (n : Int) (hl : l = .int n) (n1 : 1 ≤ n) (n2 : n ≤ 6) (hm : m ≠ .non) (h : NotFr H m n 6) : PlIn H x l m t "most"
  | let_ (z : Str) (hx : x = .str z) (hz : z.length ≤ sizeLine) (hn : nmB z = true) (n : Int) (hl : l = .int n) (n1 : 1 ≤ n) (n2 : n ≤ 6) (hm : m = .non ∨ ∃ k : Int, m = .int k ∧ n ≤ k ∧ k ≤ 6) (h : OddB H t) : PlIn H x l m t "let"
/-- the parts of a place that is made -/
def PlOk (x l m t : V) (z : Str) (n k : Int) (b : Bool) : Prop := x = .str z ∧ z.length ≤ sizeLine ∧ nmB z = true ∧ l = .int n ∧ 1 ≤ n ∧ n ≤ k ∧ k ≤ 6 ∧ (m = .int k ∨ (m = .non ∧ k = n)) ∧ t = .bl b
theorem Odd.same {H H' : Hp} {x : V} (o : Odd H x) (s : Same H H') : Odd H' x := o.ext s
theorem oddB_ext {H H' : Hp} {x : V} (o : OddB H x) (s : Same H H') : OddB H' x := by
  cases o with
  | str z => exact .str z
  | non => exact .non
  | int i => exact .int i
  | tup h => exact .tup (s _ _ h)
  | lst h => exact .lst (s _ _ h)
  | dic h => exact .dic (s _ _ h)
theorem NotFr.ext {H H' : Hp} {x : V} {lo hi : Int} (o : NotFr H x lo hi) (s : Same H H') : NotFr H' x lo hi := o.elim .inl fun o => .inr (o.ext s)
def spPlI (K : PySem.W.Frag) : Sp := fun vs H Q E => ∃ (p dx : Addr) (x l m t : V), vs = [.ref p, x, l, m, t] ∧ H p = some (.ins (CP K) dx []) ∧
  ((∃ w, PlIn H x l m t w ∧ ∀ H' d, Same H H' → H' d = none → E (.ref (CBP K)) (some d) (upd H' d (.xd [("why", .str w)]))) ∨
   (∃ z n k b, PlOk x l m t z n k b ∧ ∀ H', Same H H' → Q .non (upd H' p (.ins (CP K) dx (plf z n k b)))))
abbrev s_Place_init : Stmt := inClass (top 17) 0
theorem sc_Place_init : FnScope ["self", "name", "least", "most", "let"] ["self", "name", "least", "most", "let"] (defScope s_Place_init) := ⟨rfl, rfl, rfl, by decide +kernel, rfl, by decide +kernel, by decide +kernel⟩
-- slots: 0 self, 1 name, 2 least, 3 most, 4 let
theorem ok_Place_init {fd : FuncData} (F : FunD K "__init__" "Place.__init__" (defArgs s_Place_init) (defBody s_Place_init) (defScope s_Place_init) [.int 1, .non] [("let", .bl true)] (He.fAd K ("Place", some "__init__")) fd) (T : PTxt K mg)
    (O_is_name : OkF P w K mg base CX0 1 "is_name" ["x"] spName) (O_is_integer_from : OkF P w K mg base CX0 2 "is_integer_from" ["x", "low", "high"] spFr) (O_is_flag : OkF P w K mg base CX0 1 "is_flag" ["x"] spFlag)
    (O_BadPlace_init : OkD P w K mg base CX0 1 ("BadPlace", some "__init__") ["self", "why"] [] (spExI K (CBP K) "why")) :
    FnOk P w K mg base (L2.CX P w) 4 (He.fAd K ("Place", some "__init__")) fd ["self", "name", "least", "most", "let"] (spPlI K) := by
  refine F.ok sc_Place_init (fun vs H Q E h => ?_) fun cdv A outer s H vs Q E hr h => ?_
  · obtain ⟨p, dx, x, l, m, t, rfl, _⟩ := h
    rfl
  · obtain ⟨p, dx, x, l, m, t, rfl, hp, h⟩ := h
    refine ⟨_, (pss_cons (ps_if (pt_not (pt_val (c_fn O_is_name hr (by decide) T.g_is_name pass0 (pa_cons (pv 1) pa_nil)))) (pss_one (c_raise T.x_BadPlace O_BadPlace_init hr (by decide) T.g_BadPlace (takes_of rfl rfl rfl rfl) (pa_cons pe_str pa_nil)))
  pss_nil)
  (pss_cons (ps_if (pt_not (pt_val (c_fn O_is_integer_from hr (by decide) T.g_is_integer_from pass0 (pa_cons (pv 2) (pa_cons pe_int (pa_cons (c_gint T.i_MOST_TICKS) pa_nil)))))) (pss_one (c_raise T.x_BadPlace O_BadPlace_init hr (by decide) T.g_BadPlace (takes_of rfl rfl rfl rfl) (pa_cons pe_str pa_nil)))
  pss_nil)
  (pss_cons (ps_if (PW.pt (pw_and (pt_cmpR op_notN (pv 3) pe_non (nomark _)) (pw_and1 (pt_not (pt_val (c_fn O_is_integer_from hr (by decide) T.g_is_integer_from pass0 (pa_cons (pv 3) (pa_cons (pv 2) (pa_cons (c_gint T.i_MOST_TICKS) pa_nil))))))))) (pss_one (c_raise T.x_BadPlace O_BadPlace_init hr (by decide) T.g_BadPlace (takes_of rfl rfl rfl rfl) (pa_cons pe_str pa_nil)))
  pss_nil)
  (pss_cons (ps_if (pt_not (pt_val (c_fn O_is_flag hr (by decide) T.g_is_flag pass0 (pa_cons (pv 4) pa_nil)))) (pss_one (c_raise T.x_BadPlace O_BadPlace_init hr (by decide) T.g_BadPlace (takes_of rfl rfl rfl rfl) (pa_cons pe_str pa_nil)))
  pss_nil)
  (pss_cons (ps_fld (pv 0) (pv 1) rfl)
  (pss_cons (ps_fld (pv 0) (pv 2) rfl)
  (pss_cons (ps_fld (pv 0) (pe_ifExp (pt_cmpR op_isN (pv 3) pe_non (nomark _)) (pv 2) (pv 3)) rfl)
  (pss_one (ps_fld (pv 0) (pv 4) rfl))))))))), ?_⟩
    rcases h with ⟨w, hi, k⟩ | ⟨z, n, kk, b, ⟨rfl, hz, hn, rfl, n1, n2, n3, hm, rfl⟩, k⟩
    · cases hi with
      | name h =>
        rcases h with ⟨z, rfl, hz, hn⟩ | o
        · refine ⟨_, rfl, _, rfl, .inl ⟨z, rfl, hz, fun H1 s1 => ⟨false, by rw [hn], iteT ⟨_, rfl, fun d hd => k H1 d s1 hd⟩⟩⟩⟩
        · exact ⟨_, rfl, _, rfl, .inr ⟨o, false, rfl, iteT ⟨_, rfl, fun d hd => k H d (Same.refl _) hd⟩⟩⟩
      | least z hx hz hn h =>
        subst hx
        refine ⟨_, rfl, _, rfl, .inl ⟨z, rfl, hz, fun H1 s1 => ⟨true, by rw [hn], iteF ?_⟩⟩⟩
        exact ⟨_, rfl, _, _, _, rfl, .inr ⟨h.ext s1, false, rfl, iteT ⟨_, rfl, fun d hd => k H1 d s1 hd⟩⟩⟩
      | most z hx hz hn n hl n1 n2 hm h =>
        subst hx hl
        refine ⟨_, rfl, _, rfl, .inl ⟨z, rfl, hz, fun H1 s1 => ⟨true, by rw [hn], iteF ?_⟩⟩⟩
        refine ⟨_, rfl, _, _, _, rfl, .inl ⟨n, rfl, n1, n2, true, rfl, iteF ?_⟩⟩
        exact ⟨_, rfl, rfl, true, by rw [decide_eq_false hm]; rfl, iteT ⟨_, rfl, _, rfl, _, _, _, rfl, .inr ⟨h.ext s1, false, rfl, iteT ⟨_, rfl, fun d hd => k H1 d s1 hd⟩⟩⟩⟩
      | let_ z hx hz hn n hl n1 n2 hm h =>
        subst hx hl
        refine ⟨_, rfl, _, rfl, .inl ⟨z, rfl, hz, fun H1 s1 => ⟨true, by rw [hn], iteF ?_⟩⟩⟩
        refine ⟨_, rfl, _, _, _, rfl, .inl ⟨n, rfl, n1, n2, true, rfl, iteF ?_⟩⟩
        have fin := fun d hd => k H1 d s1 hd
        rcases hm with rfl | ⟨kk, rfl, k1, k2⟩
        · exact ⟨_, rfl, rfl, false, rfl, iteF ⟨_, rfl, _, rfl, .inr ⟨oddB_ext h s1, false, rfl, iteT ⟨_, rfl, fin⟩⟩⟩⟩
        · exact ⟨_, rfl, rfl, true, rfl, iteT ⟨_, rfl, _, rfl, _, _, _, rfl, .inl ⟨kk, rfl, k1, k2, true, rfl, iteF ⟨_, rfl, _, rfl, .inr ⟨oddB_ext h s1, false, rfl, iteT ⟨_, rfl, fin⟩⟩⟩⟩⟩⟩
    · refine ⟨_, rfl, _, rfl, .inl ⟨z, rfl, hz, fun H1 s1 => ⟨true, by rw [hn], iteF ?_⟩⟩⟩
      refine ⟨_, rfl, _, _, _, rfl, .inl ⟨n, rfl, n1, by omega, true, rfl, iteF ?_⟩⟩
      have hp1 := s1 _ _ hp
      have z0 : (0 : Nat) < 1000 := by decide
      have fin := k H1 s1
      rcases hm with rfl | ⟨rfl, rfl⟩
      · refine ⟨_, rfl, rfl, true, rfl, iteT ⟨_, rfl, _, rfl, _, _, _, rfl, .inl ⟨kk, rfl, n2, n3, true, rfl, iteF ⟨_, rfl, _, rfl, .inl ⟨b, rfl, true, rfl, iteF ?_⟩⟩⟩⟩⟩
        refine ⟨_, rfl, _, rfl, p, _, dx, [], rfl, hp1, T.c_Place, T.nN, (by show 0 < 1000; decide), ?_⟩
        refine ⟨_, rfl, _, rfl, p, _, dx, _, rfl, upd_same, T.c_Place, T.nL, (by show 1 < 1000; decide), ?_⟩
        rw [upd_upd]
        refine ⟨_, rfl, rfl, false, rfl, iteF ⟨_, rfl, _, rfl, p, _, dx, _, rfl, upd_same, T.c_Place, T.nM, (by show 2 < 1000; decide), ?_⟩⟩
        rw [upd_upd]
        refine ⟨_, rfl, _, rfl, p, _, dx, _, rfl, upd_same, T.c_Place, T.nT, (by show 3 < 1000; decide), ?_⟩
        rw [upd_upd]
        exact fin
      · refine ⟨_, rfl, rfl, false, rfl, iteF ⟨_, rfl, _, rfl, .inl ⟨b, rfl, true, rfl, iteF ?_⟩⟩⟩
        refine ⟨_, rfl, _, rfl, p, _, dx, [], rfl, hp1, T.c_Place, T.nN, (by show 0 < 1000; decide), ?_⟩
        refine ⟨_, rfl, _, rfl, p, _, dx, _, rfl, upd_same, T.c_Place, T.nL, (by show 1 < 1000; decide), ?_⟩
        rw [upd_upd]
        refine ⟨_, rfl, rfl, true, rfl, iteT ⟨_, rfl, _, rfl, p, _, dx, _, rfl, upd_same, T.c_Place, T.nM, (by show 2 < 1000; decide), ?_⟩⟩
        rw [upd_upd]
        refine ⟨_, rfl, _, rfl, p, _, dx, _, rfl, upd_same, T.c_Place, T.nT, (by show 3 < 1000; decide), ?_⟩
        rw [upd_upd]
        exact fin
/-- Place(name, least, most, let=t); the shorter ones -/
theorem O_Place3k {fd : FuncData} (F : FunD K "__init__" "Place.__init__" (defArgs s_Place_init) (defBody s_Place_init) (defScope s_Place_init) [.int 1, .non] [("let", .bl true)] (He.fAd K ("Place", some "__init__")) fd) (G : FnOk P w K mg base (L2.CX P w) 4 (He.fAd K ("Place", some "__init__")) fd ["self", "name", "least", "most", "let"] (spPlI K)) :
    OkK P w K mg base (L2.CX P w) 4 ("Place", some "__init__") ["self", "name", "least", "most", "let"] 4 ["let"] (fun vs zs => vs ++ zs) (spPlI K) := by
  obtain ⟨its, mv, b⟩ := F.kbinds (ps := ["self", "name", "least", "most", "let"]) 4 ["let"] [] (fun us _ _ ws => us ++ ws) (by decide) (by decide) (fun _ h => nomatch h) (fun r1 _ _ r4 => r1.append r4)
    fun T D doc pm an cdv ct us its mv ws h1 h2 h3 h4 => match us, its, mv, ws, h1, h2, h3, h4 with | [_, _, _, _], [_, _], [], [_], _, _, _, _ => ⟨_, rfl, rfl⟩
  exact ⟨fd, _, G, b⟩
theorem O_Place2 {fd : FuncData} (F : FunD K "__init__" "Place.__init__" (defArgs s_Place_init) (defBody s_Place_init) (defScope s_Place_init) [.int 1, .non] [("let", .bl true)] (He.fAd K ("Place", some "__init__")) fd) (G : FnOk P w K mg base (L2.CX P w) 4 (He.fAd K ("Place", some "__init__")) fd ["self", "name", "least", "most", "let"] (spPlI K)) :
    OkK P w K mg base (L2.CX P w) 4 ("Place", some "__init__") ["self", "name", "least", "most", "let"] 3 [] (fun vs _ => vs ++ [.non, .bl true]) (spPlI K) := by
  obtain ⟨its, mv, b⟩ := F.kbinds (ps := ["self", "name", "least", "most", "let"]) 3 [] [("let", .bl true)] (fun us its mv _ => us ++ (its.drop 1 ++ mv)) (by decide) (by decide) (fun _ h => h) (fun r1 r2 r3 _ => r1.append ((r2.drop 1).append r3))
    fun T D doc pm an cdv ct us its mv ws h1 h2 h3 h4 => match us, its, mv, ws, h1, h2, h3, h4 with | [_, _, _], [_, _], [_], [], _, _, _, _ => ⟨_, rfl, _, _, _, _, _, _, rfl, rfl, rfl⟩
  exact ⟨fd, _, G, b⟩
theorem O_Place1 {fd : FuncData} (F : FunD K "__init__" "Place.__init__" (defArgs s_Place_init) (defBody s_Place_init) (defScope s_Place_init) [.int 1, .non] [("let", .bl true)] (He.fAd K ("Place", some "__init__")) fd) (G : FnOk P w K mg base (L2.CX P w) 4 (He.fAd K ("Place", some "__init__")) fd ["self", "name", "least", "most", "let"] (spPlI K)) :
    OkK P w K mg base (L2.CX P w) 4 ("Place", some "__init__") ["self", "name", "least", "most", "let"] 2 [] (fun vs _ => vs ++ [.int 1, .non, .bl true]) (spPlI K) := by
  obtain ⟨its, mv, b⟩ := F.kbinds (ps := ["self", "name", "least", "most", "let"]) 2 [] [("let", .bl true)] (fun us its mv _ => us ++ (its ++ mv)) (by decide) (by decide) (fun _ h => h) (fun r1 r2 r3 _ => r1.append (r2.append r3))
    fun T D doc pm an cdv ct us its mv ws h1 h2 h3 h4 => match us, its, mv, ws, h1, h2, h3, h4 with | [_, _], [_, _], [_], [], _, _, _, _ => ⟨_, rfl, _, _, _, _, _, _, rfl, rfl, rfl⟩
  exact ⟨fd, _, G, b⟩
abbrev s_Place_eq : Stmt := inClass (top 17) 1
theorem sc_Place_eq : FnScope ["self", "other"] ["self", "other"] (defScope s_Place_eq) := ⟨rfl, rfl, rfl, by decide +kernel, rfl, by decide +kernel, by decide +kernel⟩
-- slots: 0 self, 1 other
def plB (z z' : Str) (l l' m m' : Int) (b b' : Bool) : Bool := decide (z = z') && (decide (l = l') && (decide (m = m') && decide (b = b')))
def spPlE (C : Addr) : Sp := fun vs H Q _ => ∃ (p q : Addr) (z z' : Str) (l l' m m' : Int) (b b' : Bool), vs = [.ref p, .ref q] ∧ PlA C H p z l m b ∧ PlA C H q z' l' m' b' ∧ Q (.bl (plB z z' l l' m m' b b')) H
theorem str_dec (a c : Str) : decide (V.str a = V.str c) = decide (a = c) := decide_eq_decide.mpr ⟨fun h => V.str.inj h, fun h => by rw [h]⟩
theorem int_dec (a c : Int) : decide (V.int a = V.int c) = decide (a = c) := decide_eq_decide.mpr ⟨fun h => V.int.inj h, fun h => by rw [h]⟩
theorem bl_dec (a c : Bool) : decide (V.bl a = V.bl c) = decide (a = c) := decide_eq_decide.mpr ⟨fun h => V.bl.inj h, fun h => by rw [h]⟩
theorem ok_Place_eq {fd : FuncData} (F : FnD K ("Place", some "__eq__") "__eq__" "Place.__eq__" s_Place_eq fd) (T : PTxt K mg) : OkM P w K mg base CX0 1 "Place" "__eq__" ["self", "other"] (spPlE (CP K)) := by
  refine okd F (F.ok sc_Place_eq (fun vs H Q E h => ?_) fun cdv A outer s H vs Q E hr h => ?_) fun _ _ _ _ _ _ us hl => match us, hl with | [_, _], _ => rfl
  · obtain ⟨p, q, z, z', l, l', m, m', b, b', rfl, _⟩ := h
    rfl
  · obtain ⟨p, q, z, z', l, l', m, m', b, b', rfl, ⟨dx, hp⟩, ⟨dy, hq⟩, k⟩ := h
    refine ⟨_, PSs.nox (pss_one (ps_ret (pe_and (pe_callB (id := "isinstance") call_isi (by rfl) T.z_isinstance (by decide +kernel) (pa_cons (pv 1) (pa_cons (pe_cl T.g_Place) pa_nil))) (pe_and (pe_cmpR op_eq (pe_fld (pv 0) rfl) (pe_fld (pv 1) rfl) (nomark _)) (pe_and (pe_cmpR op_eq (pe_fld (pv 0) rfl) (pe_fld (pv 1) rfl) (nomark _)) (pe_and (pe_cmpR op_eq (pe_fld (pv 0) rfl) (pe_fld (pv 1) rfl) (nomark _)) (pe_one (pe_cmpR op_eq (pe_fld (pv 0) rfl) (pe_fld (pv 1) rfl) (nomark _))))))))), ?_⟩
    refine ⟨_, rfl, .ref q, .ref (CP K), .ref (CP K), .ref (CP K), true, rfl, .own _, .base (.ins hq T.c_Place T.ha T.hn T.ht T.hm), T.k1, true, rfl, iteT ?_⟩
    unfold plB at k
    rw [← str_dec, ← int_dec, ← int_dec, ← bl_dec] at k
    refine ⟨_, rfl, p, _, dx, _, _, rfl, hp, T.c_Place, T.nN, plf_name .., _, rfl, q, _, dy, _, _, rfl, hq, T.c_Place, T.nN, plf_name .., rfl, _, rfl, ?_⟩
    cases e1 : decide (V.str z = V.str z') with
    | false =>
      rw [e1] at k
      exact iteF k
    | true =>
      rw [e1] at k
      refine iteT ⟨_, rfl, p, _, dx, _, _, rfl, hp, T.c_Place, T.nL, plf_least .., _, rfl, q, _, dy, _, _, rfl, hq, T.c_Place, T.nL, plf_least .., rfl, _, rfl, ?_⟩
      cases e2 : decide (V.int l = V.int l') with
      | false =>
        rw [e2] at k
        exact iteF k
      | true =>
        rw [e2] at k
        refine iteT ⟨_, rfl, p, _, dx, _, _, rfl, hp, T.c_Place, T.nM, plf_most .., _, rfl, q, _, dy, _, _, rfl, hq, T.c_Place, T.nM, plf_most .., rfl, _, rfl, ?_⟩
        cases e3 : decide (V.int m = V.int m') with
        | false =>
          rw [e3] at k
          exact iteF k
        | true =>
          rw [e3] at k
          exact iteT ⟨_, rfl, p, _, dx, _, _, rfl, hp, T.c_Place, T.nT, plf_let .., _, rfl, q, _, dy, _, _, rfl, hq, T.c_Place, T.nT, plf_let .., rfl, k⟩
end
end K8

set_option Elab.async false
set_option linter.all false
set_option maxRecDepth 100000
set_option maxHeartbeats 2000000
namespace K8
open PySem PySem.Spec PyProof.Rows L2 Vf
section
variable {P : Program} {w : World} {K : PySem.W.Frag} {mg : Str → Option Value} {base : Heap}
structure GTxt (K : PySem.W.Frag) (mg : Str → Option Value) : Prop extends PTxt K mg where
  z_enumerate : mg "enumerate" = none
  z_list : mg "list" = none
  z_tuple : mg "tuple" = none
  z_dict : mg "dict" = none
  i_MOST_PLACES : ∃ t, mg "MOST_PLACES" = some (.int 6 t)
  g_has_twins : mg "has_twins" = some (.ref (He.ga K "has_twins"))
  g_is_one_of : mg "is_one_of" = some (.ref (He.ga K "is_one_of"))
  g_are_places : mg "are_places" = some (.ref (He.ga K "are_places"))
  g_are_nexts : mg "are_nexts" = some (.ref (He.ga K "are_nexts"))
  g_is_choice : mg "is_choice" = some (.ref (He.ga K "is_choice"))
  g_Program : mg "Program" = some (.ref (He.ga K "Program"))
  g_BadProgram : mg "BadProgram" = some (.ref (He.ga K "BadProgram"))
  g_NoPlace : mg "NoPlace" = some (.ref (He.ga K "NoPlace"))
  c_Program : Cls K (He.ga K "Program")
  m_Program : Mk K (He.ga K "Program") (He.fAd K ("Program", some "__init__"))
  nA : NoAttr K (He.ga K "Program") "names"
  nB : NoAttr K (He.ga K "Program") "start"
  nC : NoAttr K (He.ga K "Program") "_places"
  nD : NoAttr K (He.ga K "Program") "_nexts"
  x_BadProgram : ExI K "BadProgram" "why"
  x_NoPlace : ExI K "NoPlace" "name"
  pa : PySem.W.findIn K (.ref (He.ga K "Program")) "__class__" = some (some (.builtin "object.__class__"))
  pm : PySem.W.mroIn K (He.ga K "Program") (.type "object") = some true
  pk : PySem.W.kitOne K (.ref (He.ga K "Program")) (.ref (He.ga K "Program")) = some true
abbrev CG (K : PySem.W.Frag) : Addr := He.ga K "Program"
abbrev CBG (K : PySem.W.Frag) : Addr := He.ga K "BadProgram"
theorem pe_fldK {X : Cx} {K : PySem.W.Frag} {e : Expr} {f : Str} {pos : Pos} {ta : TE} (hK : X.K = K) (he : PE X e ta) (hb : attributeBase e f X.env (eval e X.env) = eval e X.env) : PE X (.Attribute e f pos) (tFld K ta f) := hK ▸ pe_fld he hb
theorem call_isiB {X : Cx} {K : PySem.W.Frag} (hK : X.K = K) : CallR X (.builtin "isinstance") (rIsi K) := hK ▸ call_isi
theorem cutV_upto {xs : List V} {i : Nat} (h : i ≤ xs.length) : cutV xs none (some (i : Int)) = xs.take i := by
  unfold cutV
  have e1 : HT.sIx xs.length 0 none = 0 := rfl
  have e2 : HT.sIx xs.length xs.length (some (i : Int)) = i := by
    rw [HT.sIx_nat]
    omega
  rw [e1, e2]
  simp
theorem nodup_snoc (zs : List Str) (z : Str) : (!decide (zs ++ [z]).Nodup) = (!decide zs.Nodup || decide (z ∈ zs)) := by
  rw [Bool.eq_iff_iff]
  simp only [Bool.not_eq_true', decide_eq_false_iff_not, Bool.or_eq_true, decide_eq_true_eq, List.nodup_append, List.mem_singleton]
  constructor
  · intro h
    by_cases hn : zs.Nodup
    · right
      exact Classical.byContradiction fun hz => h ⟨hn, by simp, fun a ha b hb => by rw [hb]; exact fun e => hz (e ▸ ha)⟩
    · exact .inl hn
  · rintro (h | h) ⟨h1, _, h3⟩
    · exact h h1
    · exact h3 z h z rfl rfl
abbrev s_has_twins : Stmt := top 13
theorem sc_has_twins : FnScope ["items", "at", "item", "earlier"] ["items"] (defScope s_has_twins) := ⟨rfl, rfl, rfl, by decide +kernel, rfl, by decide +kernel, by decide +kernel⟩
-- slots: 0 items, 1 at, 2 item, 3 earlier
/-- texts at a: are two of them equal -/
def spTw (K : PySem.W.Frag) : Sp := fun vs H Q _ => ∃ (a : Addr) (zs : List Str), vs = [.ref a] ∧ zs.length ≤ 1000 ∧ (SqL K H a (zs.map V.str) ∨ SqT K H a (zs.map V.str)) ∧ ∀ H', Same H H' → Q (.bl (!decide zs.Nodup)) H'
theorem ok_has_twins {fd : FuncData} (F : FnD K ("has_twins", none) "has_twins" "has_twins" s_has_twins fd) (T : GTxt K mg) : OkF P w K mg base CX0 1 "has_twins" ["items"] (spTw K) := by
  refine okd F (F.ok sc_has_twins (fun vs H Q E h => ?_) fun cdv A outer s H vs Q E hr h => ?_) fun _ _ _ _ _ _ us hl => match us, hl with | [_], _ => rfl
  · obtain ⟨a, zs, rfl, _⟩ := h
    rfl
  · obtain ⟨a, zs, rfl, hlen, hS | hS, k⟩ := h
    · refine ⟨_, PSs.nox (pss_cons (ps_for PassesOwn.never rfl (pi_enum (by rfl) T.z_enumerate (pa_cons (pv 0) pa_nil)) (pg_tup rfl (pgs_cons (pg_name (i := 1) sc_has_twins.nd rfl (Or.inl rfl)) (pgs_cons (pg_name (i := 2) sc_has_twins.nd rfl (Or.inl rfl)) pgs_nil)))
  (pss_one (ps_for PassesOwn.never rfl (pi_list (pe_slice sl_list (pv 0) po_none (po_some (pv 1)))) (pg_name (i := 3) sc_has_twins.nd rfl (Or.inl rfl))
  (pss_one (ps_if (pt_cmpR op_eq (pv 2) (pv 3) (nomark _)) (pss_one (ps_ret pe_bl))
  pss_nil)))))
  (pss_one (ps_ret pe_bl))), ?_⟩
      refine ⟨_, rfl, a, _, rfl, hS, for_it walk_enum (fun i σ H' => Same H H' ∧ (zs.take i).Nodup ∧ ∃ v1 v2 v3 : Option V, σ = [some (.ref a), v1, v2, v3]) ⟨Same.refl _, List.nodup_nil, none, none, none, rfl⟩ (fun i σ H' _ h => h.1.seq hS) ?_ ?_⟩
      · rintro i x σ H1 H2 hi ⟨sg, hn, v1, v2, v3, rfl⟩ hy
        obtain ⟨T', x', y', rfl, nT', rfl, hx', hy'⟩ := hy
        cases (Option.some.inj hx')
        replace hy' : (zs.map V.str)[i]? = some y' := hy'
        rw [List.getElem?_map] at hy'
        obtain ⟨z, hz, rfl⟩ : ∃ z, zs[i]? = some z ∧ y' = .str z := by
          cases hq : zs[i]? with
          | none => rw [hq] at hy'; cases hy'
          | some z =>
            rw [hq] at hy'
            exact ⟨z, rfl, (Option.some.inj hy').symm⟩
        have hi' : i < zs.length := (List.getElem?_eq_some_iff.mp hz).1
        have sT := sg.trans (same_new (o := .tup [.int (i : Nat), .str z]) nT')
        refine ⟨T', _, rfl, SqT.of upd_same, rfl, _, _, rfl, _, _, rfl, rfl, ?_⟩
        have ecut : cutV (zs.map V.str) none (some ((i : Nat) : Int)) = (zs.take i).map V.str := by
          rw [cutV_upto (xs := zs.map V.str) (i := i) (by rw [List.length_map]; omega), List.map_take]
        refine ⟨_, rfl, _, rfl, (i : Int), rfl, a, _, rfl, sT.seq hS, fun p np => ?_⟩
        rw [ecut]
        have sp := sT.trans (same_new (o := .lst ((zs.take i).map V.str)) np)
        have hp := upd_same (H := upd H1 T' (.tup [.int (i : Nat), .str z])) (a := p) (o := .lst ((zs.take i).map V.str))
        generalize upd (upd H1 T' (.tup [.int (i : Nat), .str z])) p (.lst ((zs.take i).map V.str)) = H3 at sp hp ⊢
        refine ⟨p, rfl, ⟨_, SqL.of hp⟩, for_list (K := K) (a := p) (xs := (zs.take i).map V.str) (fun j σ H' => H' = H3 ∧ (∀ w ∈ (zs.take i).take j, w ≠ z) ∧ ∃ v3 : Option V, σ = [some (.ref a), some (.int (i : Int)), some (.str z), v3]) ⟨rfl, (fun _ h => by cases h), v3, rfl⟩ (fun j σ H' _ h => h.1 ▸ SqL.of hp) ?_ ?_⟩
        · rintro j w σ H' hj ⟨rfl, hne, v, rfl⟩
          rw [List.getElem?_map] at hj
          obtain ⟨u, hu, rfl⟩ : ∃ u, (zs.take i)[j]? = some u ∧ w = .str u := by
            cases hq : (zs.take i)[j]? with
            | none => rw [hq] at hj; cases hj
            | some u =>
              rw [hq] at hj
              exact ⟨u, rfl, (Option.some.inj hj).symm⟩
          refine ⟨_, rfl, _, rfl, rfl, _, rfl, ite2 (fun e => ?_) fun e => ?_⟩
          · have ez : z = u := V.str.inj (of_decide_eq_true e)
            have hd : ¬ zs.Nodup := fun hn2 => by
              have h1 : (zs.take (i + 1)).Nodup := hn2.sublist (List.take_sublist _ _)
              rw [List.take_add_one, hz] at h1
              exact (List.nodup_append.mp h1).2.2 u (List.mem_of_getElem? hu) z (by simp) ez.symm
            have := k _ sp
            rw [decide_eq_false hd] at this
            exact this
          · refine ⟨rfl, fun v hv => ?_, _, rfl⟩
            rw [List.take_add_one, hu] at hv
            rcases List.mem_append.mp hv with hv | hv
            · exact hne v hv
            · have : v = u := by simpa using hv
              rw [this]
              exact fun ez => e (decide_eq_true (by rw [ez]))
        · rintro σ H' ⟨rfl, hne, v, rfl⟩
          refine ⟨sp, ?_, _, _, _, rfl⟩
          rw [List.length_map, List.take_length] at hne
          rw [List.take_add_one, hz]
          exact List.nodup_append.mpr ⟨hn, by simp, fun w hw w' hw' => by
            have : w' = z := by simpa using hw'
            rw [this]
            exact hne w hw⟩
      · rintro σ H1 ⟨sg, hn, v1, v2, v3, rfl⟩
        rw [List.length_map, List.take_length] at hn
        have := k H1 sg
        rw [decide_eq_true hn] at this
        exact this
    · refine ⟨_, PSs.nox (pss_cons (ps_for PassesOwn.never rfl (pi_enumT (by rfl) T.z_enumerate (pa_cons (pv 0) pa_nil)) (pg_tup rfl (pgs_cons (pg_name (i := 1) sc_has_twins.nd rfl (Or.inl rfl)) (pgs_cons (pg_name (i := 2) sc_has_twins.nd rfl (Or.inl rfl)) pgs_nil)))
  (pss_one (ps_for PassesOwn.never rfl (pi_tup (pe_slice sl_tup (pv 0) po_none (po_some (pv 1)))) (pg_name (i := 3) sc_has_twins.nd rfl (Or.inl rfl))
  (pss_one (ps_if (pt_cmpR op_eq (pv 2) (pv 3) (nomark _)) (pss_one (ps_ret pe_bl))
  pss_nil)))))
  (pss_one (ps_ret pe_bl))), ?_⟩
      refine ⟨_, rfl, a, _, rfl, hS, for_it walk_enumT (fun i σ H' => Same H H' ∧ (zs.take i).Nodup ∧ ∃ v1 v2 v3 : Option V, σ = [some (.ref a), v1, v2, v3]) ⟨Same.refl _, List.nodup_nil, none, none, none, rfl⟩ (fun i σ H' _ h => SqT.ext hS h.1) ?_ ?_⟩
      · rintro i x σ H1 H2 hi ⟨sg, hn, v1, v2, v3, rfl⟩ hy
        obtain ⟨T', x', y', rfl, nT', rfl, hx', hy'⟩ := hy
        cases (Option.some.inj hx')
        replace hy' : (zs.map V.str)[i]? = some y' := hy'
        rw [List.getElem?_map] at hy'
        obtain ⟨z, hz, rfl⟩ : ∃ z, zs[i]? = some z ∧ y' = .str z := by
          cases hq : zs[i]? with
          | none => rw [hq] at hy'; cases hy'
          | some z =>
            rw [hq] at hy'
            exact ⟨z, rfl, (Option.some.inj hy').symm⟩
        have hi' : i < zs.length := (List.getElem?_eq_some_iff.mp hz).1
        have sT := sg.trans (same_new (o := .tup [.int (i : Nat), .str z]) nT')
        refine ⟨T', _, rfl, SqT.of upd_same, rfl, _, _, rfl, _, _, rfl, rfl, ?_⟩
        have ecut : cutV (zs.map V.str) none (some ((i : Nat) : Int)) = (zs.take i).map V.str := by
          rw [cutV_upto (xs := zs.map V.str) (i := i) (by rw [List.length_map]; omega), List.map_take]
        have nw : ¬ (HT.sIx (zs.map V.str).length 0 none = 0 ∧ HT.sIx (zs.map V.str).length (zs.map V.str).length (some (i : Int)) = (zs.map V.str).length) := fun z => by
          have e1 : HT.sIx (zs.map V.str).length (zs.map V.str).length (some (i : Int)) = min i (zs.map V.str).length := HT.sIx_nat ..
          rw [e1, List.length_map] at z
          omega
        refine ⟨_, rfl, _, rfl, (i : Int), rfl, a, _, rfl, SqT.ext hS sT, nw, fun p np => ?_⟩
        rw [ecut]
        have sp := sT.trans (same_new (o := .tup ((zs.take i).map V.str)) np)
        have hp := upd_same (H := upd H1 T' (.tup [.int (i : Nat), .str z])) (a := p) (o := .tup ((zs.take i).map V.str))
        generalize upd (upd H1 T' (.tup [.int (i : Nat), .str z])) p (.tup ((zs.take i).map V.str)) = H3 at sp hp ⊢
        refine ⟨p, rfl, ⟨_, SqT.of hp⟩, for_tup (K := K) (a := p) (xs := (zs.take i).map V.str) (fun j σ H' => H' = H3 ∧ (∀ w ∈ (zs.take i).take j, w ≠ z) ∧ ∃ v3 : Option V, σ = [some (.ref a), some (.int (i : Int)), some (.str z), v3]) ⟨rfl, (fun _ h => by cases h), v3, rfl⟩ (fun j σ H' _ h => h.1 ▸ SqT.of hp) ?_ ?_⟩
        · rintro j w σ H' hj ⟨rfl, hne, v, rfl⟩
          rw [List.getElem?_map] at hj
          obtain ⟨u, hu, rfl⟩ : ∃ u, (zs.take i)[j]? = some u ∧ w = .str u := by
            cases hq : (zs.take i)[j]? with
            | none => rw [hq] at hj; cases hj
            | some u =>
              rw [hq] at hj
              exact ⟨u, rfl, (Option.some.inj hj).symm⟩
          refine ⟨_, rfl, _, rfl, rfl, _, rfl, ite2 (fun e => ?_) fun e => ?_⟩
          · have ez : z = u := V.str.inj (of_decide_eq_true e)
            have hd : ¬ zs.Nodup := fun hn2 => by
              have h1 : (zs.take (i + 1)).Nodup := hn2.sublist (List.take_sublist _ _)
              rw [List.take_add_one, hz] at h1
              exact (List.nodup_append.mp h1).2.2 u (List.mem_of_getElem? hu) z (by simp) ez.symm
            have := k _ sp
            rw [decide_eq_false hd] at this
            exact this
          · refine ⟨rfl, fun v hv => ?_, _, rfl⟩
            rw [List.take_add_one, hu] at hv
            rcases List.mem_append.mp hv with hv | hv
            · exact hne v hv
            · have : v = u := by simpa using hv
              rw [this]
              exact fun ez => e (decide_eq_true (by rw [ez]))
        · rintro σ H' ⟨rfl, hne, v, rfl⟩
          refine ⟨sp, ?_, _, _, _, rfl⟩
          rw [List.length_map, List.take_length] at hne
          rw [List.take_add_one, hz]
          exact List.nodup_append.mpr ⟨hn, by simp, fun w hw w' hw' => by
            have : w' = z := by simpa using hw'
            rw [this]
            exact hne w hw⟩
      · rintro σ H1 ⟨sg, hn, v1, v2, v3, rfl⟩
        rw [List.length_map, List.take_length] at hn
        have := k H1 sg
        rw [decide_eq_true hn] at this
        exact this
theorem inV_str (z : Str) (zs : List Str) : inV (.str z) (zs.map V.str) = decide (z ∈ zs) := by
  rw [Bool.eq_iff_iff, decide_eq_true_eq]
  unfold inV
  rw [List.any_eq_true]
  constructor
  · rintro ⟨y, hy, he⟩
    obtain ⟨w, hw, rfl⟩ := List.mem_map.mp hy
    have : (w == z) = true := he
    rw [← eq_of_beq this]
    exact hw
  · intro h
    exact ⟨.str z, List.mem_map_of_mem h, by show (z == z) = true; simp⟩
theorem flat_str (zs : List Str) : (zs.map V.str).all flatV = true := by
  rw [List.all_map, List.all_eq_true]
  exact fun _ _ => rfl
abbrev s_is_one_of : Stmt := top 19
theorem sc_is_one_of : FnScope ["x", "names"] ["x", "names"] (defScope s_is_one_of) := ⟨rfl, rfl, rfl, by decide +kernel, rfl, by decide +kernel, by decide +kernel⟩
-- slots: 0 x, 1 names
/-- is x one of the texts at t -/
def spOne (K : PySem.W.Frag) : Sp := fun vs H Q _ => ∃ (x : V) (t : Addr) (zs : List Str), vs = [x, .ref t] ∧ SqT K H t (zs.map V.str) ∧ ((∃ z, x = .str z ∧ Q (.bl (decide (z ∈ zs))) H) ∨ (OddS H x ∧ Q (.bl false) H))
theorem ok_is_one_of {fd : FuncData} (F : FnD K ("is_one_of", none) "is_one_of" "is_one_of" s_is_one_of fd) (T : GTxt K mg) : OkF P w K mg base CX0 1 "is_one_of" ["x", "names"] (spOne K) := by
  refine okd F (F.ok sc_is_one_of (fun vs H Q E h => ?_) fun cdv A outer s H vs Q E hr h => ?_) fun _ _ _ _ _ _ us hl => match us, hl with | [_, _], _ => rfl
  · obtain ⟨x, t, zs, rfl, _⟩ := h
    rfl
  · obtain ⟨x, t, zs, rfl, hS, h⟩ := h
    refine ⟨_, PSs.nox (pss_one (ps_ret (pe_and (pe_callB (id := "isinstance") call_isi (by rfl) T.z_isinstance (by decide +kernel) (pa_cons (pv 0) (pa_cons (pe_ty (n := "str") T.z_str (by decide +kernel)) pa_nil))) (pe_one (pe_cmpR op_in_seq (pv 0) (pv 1) rfl))))), ?_⟩
    rcases h with ⟨z, rfl, q⟩ | ⟨o, q⟩
    · refine ⟨_, rfl, .str z, .ty "str", .type "str", .type "str", true, rfl, .ty _, .base (.str _), kit_ty (by decide +kernel), true, rfl, iteT ?_⟩
      refine ⟨_, rfl, _, rfl, t, _, rfl, .inr hS, rfl, flat_str zs, ?_⟩
      show Q (.bl (inV (.str z) (zs.map V.str))) H
      rw [inV_str]
      exact q
    · obtain ⟨n, t1, k1⟩ := oddS_ty K o
      exact ⟨_, rfl, x, .ty "str", .type n, .type "str", false, rfl, .ty _, t1, kit_ty k1, false, rfl, iteF q⟩
end
end K8

set_option Elab.async false
set_option linter.all false
set_option maxRecDepth 100000
set_option maxHeartbeats 2000000
namespace K8
open PySem PySem.Spec PyProof.Rows L2 Vf
section
variable {P : Program} {w : World} {K : PySem.W.Frag} {mg : Str → Option Value} {base : Heap}
abbrev s_is_choice : Stmt := top 22
theorem sc_is_choice : FnScope ["ways", "names", "way"] ["ways", "names"] (defScope s_is_choice) := ⟨rfl, rfl, rfl, by decide +kernel, rfl, by decide +kernel, by decide +kernel⟩
-- slots: 0 ways, 1 names, 2 way
def spChoice (K : PySem.W.Frag) : Sp := fun vs H Q _ => ∃ (t n : Addr) (ws zs : List Str), vs = [.ref t, .ref n] ∧ H t = some (.tup (ws.map V.str)) ∧ H n = some (.tup (zs.map V.str)) ∧ (∀ y ∈ ws, y ∈ zs) ∧ ws.Nodup ∧ ws.length ≤ 1000 ∧ ∀ H', Same H H' → Q (.bl true) H'
theorem take_rep (i : Nat) : (List.replicate i true).map V.bl ++ [V.bl true] = (List.replicate (i + 1) true).map V.bl := by
  rw [List.replicate_succ', List.map_append]
  rfl
theorem all_rep (i : Nat) : (List.replicate i true).all id = true := by
  rw [List.all_eq_true]
  intro x hx
  rw [List.mem_replicate] at hx
  rw [hx.2]
  rfl
theorem ok_is_choice {fd : FuncData} (F : FnD K ("is_choice", none) "is_choice" "is_choice" s_is_choice fd) (T : GTxt K mg) (O_is_one_of : OkF P w K mg base CX0 1 "is_one_of" ["x", "names"] (spOne K)) (O_has_twins : OkF P w K mg base CX0 1 "has_twins" ["items"] (spTw K)) : OkF P w K mg base CX0 2 "is_choice" ["ways", "names"] (spChoice K) := by
  refine okd F (F.ok sc_is_choice (fun vs H Q E h => ?_) fun cdv A outer s H vs Q E hr h => ?_) fun _ _ _ _ _ _ us hl => match us, hl with | [_, _], _ => rfl
  · obtain ⟨t, n, ws, zs, rfl, _⟩ := h
    rfl
  · obtain ⟨t, n, ws, zs, rfl, ht, hn, hsub, hnd, hlen, k⟩ := h
    refine ⟨_, PSs.nox (pss_cons (ps_if (PW.pt (pw_or (pt_not (pt_val (pe_callB (id := "isinstance") call_isi (by rfl) T.z_isinstance (by decide +kernel) (pa_cons (pv 0) (pa_cons (pe_ty (n := "tuple") T.z_tuple (by decide +kernel)) pa_nil))))) (pw_or1 (pt_not (pt_val (pe_callB (id := "all") (cr_all rfl) (by rfl) T.z_all (by decide +kernel) (pa_cons (pe_lc (own := [("way", 2)]) (g := gName 2) (tt := tYes) (by rfl) sc_is_choice.nd (pi_tup (pv 0)) (blkOk_by (N := ["ways", "names", "way"]) (sc := defScope s_is_choice) (by decide +kernel)) (fun _ _ _ _ _ => pg_name (i := 2) sc_is_choice.nd rfl (Or.inl rfl)) (fun _ _ _ _ _ => pts_nil) (fun _ _ _ _ _ => (c_fn O_is_one_of hr (by decide) T.g_is_one_of pass0 (pa_cons (pv 2) (pa_cons (pv 1) pa_nil))))) pa_nil))))))) (pss_one (ps_ret pe_bl))
  pss_nil)
  (pss_one (ps_ret (pe_not (c_fn O_has_twins hr (by decide) T.g_has_twins pass0 (pa_cons (pv 0) pa_nil)))))), ?_⟩
    refine ⟨_, rfl, .ref t, .ty "tuple", .type "tuple", .type "tuple", true, rfl, .ty _, .base (.tup ht), kit_ty (by decide +kernel), true, rfl, iteF ?_⟩
    refine ⟨_, rfl, t, rfl, ⟨_, SqT.of ht⟩, fun D nD => lc_it walk_tup (fun i H' => Same H H' ∧ H' D = some (.lst ((List.replicate i true).map V.bl))) ⟨same_new nD, upd_same⟩ (fun i H' _ h => SqT.ext (SqT.of ht) h.1) ?_ ?_⟩
    · rintro i x H1 H' hi ⟨sg, hD⟩ ⟨rfl, hx⟩
      rw [List.getElem?_map] at hx
      obtain ⟨y, hy, rfl⟩ : ∃ y, ws[i]? = some y ∧ x = .str y := by
        cases hq : ws[i]? with
        | none => rw [hq] at hx; cases hx
        | some y =>
          rw [hq] at hx
          exact ⟨y, rfl, (Option.some.inj hx).symm⟩
      have hin := hsub y (List.mem_of_getElem? hy)
      refine ⟨rfl, _, rfl, _, rfl, .str y, n, zs, rfl, SqT.ext (SqT.of hn) sg, .inl ⟨y, rfl, ?_⟩⟩
      rw [decide_eq_true hin]
      refine ⟨_, hD, ?_, same_app sg (Same.refl _) nD, by rw [upd_same, take_rep]⟩
      rw [List.length_map, List.length_replicate]
      rw [List.length_map] at hi
      exact Nat.lt_of_lt_of_le hi (Nat.le_trans hlen (by decide))
    · rintro H' ⟨sg, hD⟩
      refine ⟨D, _, rfl, SqL.of hD, ?_⟩
      rw [all_rep]
      refine ⟨true, rfl, iteF ⟨_, rfl, t, ws, rfl, hlen, .inr (SqT.ext (SqT.of ht) sg), fun H2 s2 => ?_⟩⟩
      rw [decide_eq_true hnd]
      exact ⟨_, rfl, k H2 (sg.trans s2)⟩
structure Rw where
  z : Str
  l : Int
  m : Int
  b : Bool
  ns : List Str
deriving DecidableEq
/-- a place, the tuple of its nexts, its row -/
abbrev PgE : Type := Addr × Addr × Rw
def zsOf (xs : List PgE) : List Str := xs.map fun x => x.2.2.z
def PlE (K : PySem.W.Frag) (H : Hp) (x : PgE) : Prop := PlA (CP K) H x.1 x.2.2.z x.2.2.l x.2.2.m x.2.2.b
theorem PlE.ext {K : PySem.W.Frag} {H H' : Hp} {x : PgE} (h : PlE K H x) (s : Same H H') : PlE K H' x := PlA.ext h s
theorem getE {xs : List PgE} {f : PgE → V} {i : Nat} {x : V} (h : (xs.map f)[i]? = some x) : ∃ y, xs[i]? = some y ∧ x = f y := by
  rw [List.getElem?_map] at h
  cases hq : xs[i]? with
  | none => rw [hq] at h; cases h
  | some y =>
    rw [hq] at h
    exact ⟨y, rfl, (Option.some.inj h).symm⟩
abbrev s_are_places : Stmt := top 20
theorem sc_are_places : FnScope ["places", "place"] ["places"] (defScope s_are_places) := ⟨rfl, rfl, rfl, by decide +kernel, rfl, by decide +kernel, by decide +kernel⟩
-- slots: 0 places, 1 place
def spArePl (K : PySem.W.Frag) : Sp := fun vs H Q _ => ∃ (L : Addr) (xs : List PgE), vs = [.ref L] ∧ (H L = some (.lst (xs.map fun x => V.ref x.1)) ∨ H L = some (.tup (xs.map fun x => V.ref x.1))) ∧ (∀ x ∈ xs, PlE K H x) ∧ 1 ≤ xs.length ∧ xs.length ≤ 6 ∧ (zsOf xs).Nodup ∧ ∀ H', Same H H' → Q (.bl true) H'
theorem ok_are_places {fd : FuncData} (F : FnD K ("are_places", none) "are_places" "are_places" s_are_places fd) (T : GTxt K mg) (O_has_twins : OkF P w K mg base CX0 1 "has_twins" ["items"] (spTw K)) : OkF P w K mg base CX0 2 "are_places" ["places"] (spArePl K) := by
  refine okd F (F.ok sc_are_places (fun vs H Q E h => ?_) fun cdv A outer s H vs Q E hr h => ?_) fun _ _ _ _ _ _ us hl => match us, hl with | [_], _ => rfl
  · obtain ⟨L, xs, rfl, _⟩ := h
    rfl
  · obtain ⟨L, xs, rfl, hL | hL, hp, l1, l6, hnd, k⟩ := h
    · refine ⟨_, PSs.nox (pss_cons (ps_if (PW.pt (pw_or (pt_not (pt_val (pe_callB (id := "isinstance") call_isiT (by rfl) T.z_isinstance (by decide +kernel) (pa_cons (pv 0) (pa_cons (pe_tup (pa_cons (pe_ty (n := "list") T.z_list (by decide +kernel)) (pa_cons (pe_ty (n := "tuple") T.z_tuple (by decide +kernel)) pa_nil))) pa_nil))))) (pw_or1 (pt_not (pt_chain op_le op_le pe_int (pe_callB (id := "len") call_len_seq (by rfl) T.z_len (by decide +kernel) (pa_cons (pv 0) pa_nil)) (c_gint T.i_MOST_PLACES)))))) (pss_one (ps_ret pe_bl))
  pss_nil)
  (pss_cons (ps_if (pt_not (pt_val (pe_callB (id := "all") (cr_all rfl) (by rfl) T.z_all (by decide +kernel) (pa_cons (pe_lc (own := [("place", 1)]) (g := gName 1) (tt := tYes) (by rfl) sc_are_places.nd (pi_list (pv 0)) (blkOk_by (N := ["places", "place"]) (sc := defScope s_are_places) (by decide +kernel)) (fun _ _ _ _ _ => pg_name (i := 1) sc_are_places.nd rfl (Or.inl rfl)) (fun _ _ _ _ _ => pts_nil) (fun _ _ _ _ _ => (pe_callB (id := "isinstance") (call_isiB (K := K) rfl) (by rfl) T.z_isinstance (by decide +kernel) (pa_cons (pv 1) (pa_cons (pe_cl T.g_Place) pa_nil))))) pa_nil)))) (pss_one (ps_ret pe_bl))
  pss_nil)
  (pss_one (ps_ret (pe_not (c_fn O_has_twins hr (by decide) T.g_has_twins pass0 (pa_cons (pe_lc (own := [("place", 1)]) (g := gName 1) (tt := tYes) (by rfl) sc_are_places.nd (pi_list (pv 0)) (blkOk_by (N := ["places", "place"]) (sc := defScope s_are_places) (by decide +kernel)) (fun _ _ _ _ _ => pg_name (i := 1) sc_are_places.nd rfl (Or.inl rfl)) (fun _ _ _ _ _ => pts_nil) (fun _ _ _ _ _ => (pe_fldK (K := K) rfl (pv 1) rfl))) pa_nil))))))), ?_⟩
      refine ⟨_, rfl, (by show 2 ≤ sizeLine; decide), fun tp ntp => ⟨.ref L, tp, [.ty "list", .ty "tuple"], .type "list", [.type "list", .type "tuple"], true, rfl, upd_same, .cons (.ty _) (.cons (.ty _) .nil), .base (.lst (same_new ntp _ _ hL)), kitAny_cons (b := true) (kit_ty (by decide +kernel)) (fun z => nomatch z) (fun _ => rfl), true, rfl, iteF ?_⟩⟩
      have s1 := same_new (o := .tup [.ty "list", .ty "tuple"]) ntp
      have hL1 := s1 _ _ hL
      generalize upd H tp (.tup [.ty "list", .ty "tuple"]) = H1 at s1 hL1 ⊢
      clear ntp
      refine ⟨_, rfl, L, _, rfl, .inl (SqL.of hL1), 1, _, rfl, rfl, true, congrArg V.bl (decide_eq_true (by rw [List.length_map]; omega)), iteT ⟨_, 6, rfl, rfl, true, congrArg V.bl (decide_eq_true (by rw [List.length_map]; omega)), iteF ?_⟩⟩
      refine ⟨_, rfl, L, rfl, ⟨_, SqL.of hL1⟩, fun D nD => lc_it walk_list (fun i H' => Same H1 H' ∧ H' D = some (.lst ((List.replicate i true).map V.bl))) ⟨same_new nD, upd_same⟩ (fun i H' _ h => h.1.seq (SqL.of hL1)) ?_ ?_⟩
      · rintro i x H2 H' hi ⟨sg, hD⟩ ⟨rfl, hx⟩
        obtain ⟨y, hy, rfl⟩ := getE hx
        obtain ⟨dy, ey⟩ := (hp y (List.mem_of_getElem? hy)).ext (s1.trans sg)
        refine ⟨rfl, _, rfl, .ref y.1, .ref (CP K), .ref (CP K), .ref (CP K), true, rfl, .own _, .base (.ins ey T.c_Place T.ha T.hn T.ht T.hm), T.k1, ?_⟩
        refine ⟨_, hD, ?_, same_app sg (Same.refl _) nD, by rw [upd_same, take_rep]⟩
        rw [List.length_map, List.length_replicate]
        rw [List.length_map] at hi
        exact Nat.lt_of_lt_of_le hi (Nat.le_trans l6 (by decide))
      · rintro H2 ⟨sg, hD⟩
        refine ⟨D, _, rfl, SqL.of hD, ?_⟩
        rw [all_rep]
        refine ⟨true, rfl, iteF ?_⟩
        have hL2 := sg _ _ hL1
        refine ⟨_, rfl, L, rfl, ⟨_, SqL.of hL2⟩, fun D2 nD2 => lc_it walk_list (fun i H' => Same H2 H' ∧ H' D2 = some (.lst (((zsOf xs).take i).map V.str))) ⟨same_new nD2, upd_same⟩ (fun i H' _ h => h.1.seq (SqL.of hL2)) ?_ ?_⟩
        · rintro i x H3 H' hi ⟨sg3, hD3⟩ ⟨rfl, hx⟩
          obtain ⟨y, hy, rfl⟩ := getE hx
          obtain ⟨dy, ey⟩ := (hp y (List.mem_of_getElem? hy)).ext (s1.trans (sg.trans sg3))
          refine ⟨rfl, _, rfl, y.1, _, dy, _, _, rfl, ey, T.c_Place, T.nN, plf_name .., ?_⟩
          refine ⟨_, hD3, ?_, same_app sg3 (Same.refl _) nD2, ?_⟩
          · rw [List.length_map, List.length_take]
            rw [List.length_map] at hi
            exact Nat.lt_of_le_of_lt (Nat.min_le_left _ _) (Nat.lt_of_lt_of_le hi (Nat.le_trans l6 (by decide)))
          · rw [upd_same, List.take_add_one, List.map_append]
            have : (zsOf xs)[i]? = some y.2.2.z := by
              unfold zsOf
              rw [List.getElem?_map, hy]
              rfl
            rw [this]
            rfl
        · rintro H3 ⟨sg3, hD3⟩
          have hlz : (zsOf xs).length = xs.length := List.length_map ..
          rw [List.length_map, ← hlz, List.take_length] at hD3
          refine ⟨D2, zsOf xs, rfl, by omega, .inl (SqL.of hD3), fun H4 s4 => ?_⟩
          rw [decide_eq_true hnd]
          exact ⟨_, rfl, k H4 (s1.trans (sg.trans (sg3.trans s4)))⟩
    · refine ⟨_, PSs.nox (pss_cons (ps_if (PW.pt (pw_or (pt_not (pt_val (pe_callB (id := "isinstance") call_isiT (by rfl) T.z_isinstance (by decide +kernel) (pa_cons (pv 0) (pa_cons (pe_tup (pa_cons (pe_ty (n := "list") T.z_list (by decide +kernel)) (pa_cons (pe_ty (n := "tuple") T.z_tuple (by decide +kernel)) pa_nil))) pa_nil))))) (pw_or1 (pt_not (pt_chain op_le op_le pe_int (pe_callB (id := "len") call_len_seq (by rfl) T.z_len (by decide +kernel) (pa_cons (pv 0) pa_nil)) (c_gint T.i_MOST_PLACES)))))) (pss_one (ps_ret pe_bl))
  pss_nil)
  (pss_cons (ps_if (pt_not (pt_val (pe_callB (id := "all") (cr_all rfl) (by rfl) T.z_all (by decide +kernel) (pa_cons (pe_lc (own := [("place", 1)]) (g := gName 1) (tt := tYes) (by rfl) sc_are_places.nd (pi_tup (pv 0)) (blkOk_by (N := ["places", "place"]) (sc := defScope s_are_places) (by decide +kernel)) (fun _ _ _ _ _ => pg_name (i := 1) sc_are_places.nd rfl (Or.inl rfl)) (fun _ _ _ _ _ => pts_nil) (fun _ _ _ _ _ => (pe_callB (id := "isinstance") (call_isiB (K := K) rfl) (by rfl) T.z_isinstance (by decide +kernel) (pa_cons (pv 1) (pa_cons (pe_cl T.g_Place) pa_nil))))) pa_nil)))) (pss_one (ps_ret pe_bl))
  pss_nil)
  (pss_one (ps_ret (pe_not (c_fn O_has_twins hr (by decide) T.g_has_twins pass0 (pa_cons (pe_lc (own := [("place", 1)]) (g := gName 1) (tt := tYes) (by rfl) sc_are_places.nd (pi_tup (pv 0)) (blkOk_by (N := ["places", "place"]) (sc := defScope s_are_places) (by decide +kernel)) (fun _ _ _ _ _ => pg_name (i := 1) sc_are_places.nd rfl (Or.inl rfl)) (fun _ _ _ _ _ => pts_nil) (fun _ _ _ _ _ => (pe_fldK (K := K) rfl (pv 1) rfl))) pa_nil))))))), ?_⟩
      refine ⟨_, rfl, (by show 2 ≤ sizeLine; decide), fun tp ntp => ⟨.ref L, tp, [.ty "list", .ty "tuple"], .type "tuple", [.type "list", .type "tuple"], true, rfl, upd_same, .cons (.ty _) (.cons (.ty _) .nil), .base (.tup (same_new ntp _ _ hL)), kitAny_cons (b := false) (kit_ty (by decide +kernel)) (fun _ => kitAny_cons (b := true) (kit_ty (by decide +kernel)) (fun z => nomatch z) (fun _ => rfl)) (fun z => nomatch z), true, rfl, iteF ?_⟩⟩
      have s1 := same_new (o := .tup [.ty "list", .ty "tuple"]) ntp
      have hL1 := s1 _ _ hL
      generalize upd H tp (.tup [.ty "list", .ty "tuple"]) = H1 at s1 hL1 ⊢
      clear ntp
      refine ⟨_, rfl, L, _, rfl, .inr (SqT.of hL1), 1, _, rfl, rfl, true, congrArg V.bl (decide_eq_true (by rw [List.length_map]; omega)), iteT ⟨_, 6, rfl, rfl, true, congrArg V.bl (decide_eq_true (by rw [List.length_map]; omega)), iteF ?_⟩⟩
      refine ⟨_, rfl, L, rfl, ⟨_, SqT.of hL1⟩, fun D nD => lc_it walk_tup (fun i H' => Same H1 H' ∧ H' D = some (.lst ((List.replicate i true).map V.bl))) ⟨same_new nD, upd_same⟩ (fun i H' _ h => SqT.ext (SqT.of hL1) h.1) ?_ ?_⟩
      · rintro i x H2 H' hi ⟨sg, hD⟩ ⟨rfl, hx⟩
        obtain ⟨y, hy, rfl⟩ := getE hx
        obtain ⟨dy, ey⟩ := (hp y (List.mem_of_getElem? hy)).ext (s1.trans sg)
        refine ⟨rfl, _, rfl, .ref y.1, .ref (CP K), .ref (CP K), .ref (CP K), true, rfl, .own _, .base (.ins ey T.c_Place T.ha T.hn T.ht T.hm), T.k1, ?_⟩
        refine ⟨_, hD, ?_, same_app sg (Same.refl _) nD, by rw [upd_same, take_rep]⟩
        rw [List.length_map, List.length_replicate]
        rw [List.length_map] at hi
        exact Nat.lt_of_lt_of_le hi (Nat.le_trans l6 (by decide))
      · rintro H2 ⟨sg, hD⟩
        refine ⟨D, _, rfl, SqL.of hD, ?_⟩
        rw [all_rep]
        refine ⟨true, rfl, iteF ?_⟩
        have hL2 := sg _ _ hL1
        refine ⟨_, rfl, L, rfl, ⟨_, SqT.of hL2⟩, fun D2 nD2 => lc_it walk_tup (fun i H' => Same H2 H' ∧ H' D2 = some (.lst (((zsOf xs).take i).map V.str))) ⟨same_new nD2, upd_same⟩ (fun i H' _ h => SqT.ext (SqT.of hL2) h.1) ?_ ?_⟩
        · rintro i x H3 H' hi ⟨sg3, hD3⟩ ⟨rfl, hx⟩
          obtain ⟨y, hy, rfl⟩ := getE hx
          obtain ⟨dy, ey⟩ := (hp y (List.mem_of_getElem? hy)).ext (s1.trans (sg.trans sg3))
          refine ⟨rfl, _, rfl, y.1, _, dy, _, _, rfl, ey, T.c_Place, T.nN, plf_name .., ?_⟩
          refine ⟨_, hD3, ?_, same_app sg3 (Same.refl _) nD2, ?_⟩
          · rw [List.length_map, List.length_take]
            rw [List.length_map] at hi
            exact Nat.lt_of_le_of_lt (Nat.min_le_left _ _) (Nat.lt_of_lt_of_le hi (Nat.le_trans l6 (by decide)))
          · rw [upd_same, List.take_add_one, List.map_append]
            have : (zsOf xs)[i]? = some y.2.2.z := by
              unfold zsOf
              rw [List.getElem?_map, hy]
              rfl
            rw [this]
            rfl
        · rintro H3 ⟨sg3, hD3⟩
          have hlz : (zsOf xs).length = xs.length := List.length_map ..
          rw [List.length_map, ← hlz, List.take_length] at hD3
          refine ⟨D2, zsOf xs, rfl, by omega, .inl (SqL.of hD3), fun H4 s4 => ?_⟩
          rw [decide_eq_true hnd]
          exact ⟨_, rfl, k H4 (s1.trans (sg.trans (sg3.trans s4)))⟩
end
end K8

set_option Elab.async false
set_option linter.all false
set_option maxRecDepth 100000
set_option maxHeartbeats 2000000
namespace K8
open PySem PySem.Spec PyProof.Rows L2 Vf
section
variable {P : Program} {w : World} {K : PySem.W.Frag} {mg : Str → Option Value} {base : Heap}
theorem dget_of {H : Hp} {N : Addr} {kvs : List (Key × V)} {z : Str} {o : Option V} (hN : H N = some (.dK kvs)) (hv : valV kvs (Sum.inr z) = o) : DGet H N (.str z) o := hv ▸ DGet.k (k := Sum.inr z) hN
/-- the dict at N: for each row the tuple of its nexts -/
def NxA (H : Hp) (N : Addr) (xs : List PgE) : Prop := ∃ kvs, H N = some (.dK kvs) ∧ kvs.length = xs.length ∧ ∀ x ∈ xs, valV kvs (Sum.inr x.2.2.z) = some (.ref x.2.1)
theorem NxA.ext {H H' : Hp} {N : Addr} {xs : List PgE} (h : NxA H N xs) (s : Same H H') : NxA H' N xs := by
  obtain ⟨kvs, h1, h2, h3⟩ := h
  exact ⟨kvs, s _ _ h1, h2, h3⟩
/-- the tuple of a row's nexts -/
def NsE (H : Hp) (zs : List Str) (x : PgE) : Prop := H x.2.1 = some (.tup (x.2.2.ns.map V.str)) ∧ (∀ y ∈ x.2.2.ns, y ∈ zs) ∧ x.2.2.ns.Nodup ∧ x.2.2.ns.length ≤ 1000
theorem NsE.ext {H H' : Hp} {zs : List Str} {x : PgE} (h : NsE H zs x) (s : Same H H') : NsE H' zs x := ⟨s _ _ h.1, h.2⟩
theorem zsAt {xs : List PgE} {i : Nat} {v : V} (h : ((zsOf xs).map V.str)[i]? = some v) : ∃ x, xs[i]? = some x ∧ v = .str x.2.2.z := by
  rw [zsOf, List.map_map] at h
  exact getE h
abbrev s_are_nexts : Stmt := top 21
theorem sc_are_nexts : FnScope ["nexts", "names", "name"] ["nexts", "names"] (defScope s_are_nexts) := ⟨rfl, rfl, rfl, by decide +kernel, rfl, by decide +kernel, by decide +kernel⟩
-- slots: 0 nexts, 1 names, 2 name
def spAreNx (K : PySem.W.Frag) : Sp := fun vs H Q _ => ∃ (N n : Addr) (xs : List PgE), vs = [.ref N, .ref n] ∧ NxA H N xs ∧ H n = some (.tup ((zsOf xs).map V.str)) ∧ (∀ x ∈ xs, NsE H (zsOf xs) x) ∧ xs.length ≤ 6 ∧ ∀ H', Same H H' → Q (.bl true) H'
theorem ok_are_nexts {fd : FuncData} (F : FnD K ("are_nexts", none) "are_nexts" "are_nexts" s_are_nexts fd) (T : GTxt K mg) (O_is_choice : OkF P w K mg base CX0 2 "is_choice" ["ways", "names"] (spChoice K)) : OkF P w K mg base CX0 3 "are_nexts" ["nexts", "names"] (spAreNx K) := by
  refine okd F (F.ok sc_are_nexts (fun vs H Q E h => ?_) fun cdv A outer s H vs Q E hr h => ?_) fun _ _ _ _ _ _ us hl => match us, hl with | [_, _], _ => rfl
  · obtain ⟨N, n, xs, rfl, _⟩ := h
    rfl
  · obtain ⟨N, n, xs, rfl, ⟨kvs, hN, hlen, hv⟩, hn, hns, l6, k⟩ := h
    refine ⟨_, PSs.nox (pss_cons (ps_if (PW.pt (pw_or (pt_not (pt_val (pe_callB (id := "isinstance") call_isi (by rfl) T.z_isinstance (by decide +kernel) (pa_cons (pv 0) (pa_cons (pe_ty (n := "dict") T.z_dict (by decide +kernel)) pa_nil))))) (pw_or1 (pt_cmpR op_ne (pe_callB call_lenD (by rfl) T.z_len (by decide +kernel) (pa_cons (pv 0) pa_nil)) (pe_callB (id := "len") call_len_seq (by rfl) T.z_len (by decide +kernel) (pa_cons (pv 1) pa_nil)) (nomark _))))) (pss_one (ps_ret pe_bl))
  pss_nil)
  (pss_one (ps_ret (pe_callB (id := "all") (cr_all rfl) (by rfl) T.z_all (by decide +kernel) (pa_cons (pe_lc (own := [("name", 2)]) (g := gName 2) (tt := tYes) (by rfl) sc_are_nexts.nd (pi_tup (pv 1)) (blkOk_by (N := ["nexts", "names", "name"]) (sc := defScope s_are_nexts) (by decide +kernel)) (fun _ _ _ _ _ => pg_name (i := 2) sc_are_nexts.nd rfl (Or.inl rfl)) (fun _ _ _ _ _ => pts_nil) (fun _ _ _ _ _ => (pe_and (pe_cmp (pc_din (hu_of hr) (pv 2) (pv 0)) rfl) (pe_one (c_fn O_is_choice hr (by decide) T.g_is_choice pass0 (pa_cons (pe_dget (hu_of hr) (pv 0) (pv 2) (fun _ _ => rfl)) (pa_cons (pv 1) pa_nil))))))) pa_nil))))), ?_⟩
    have hlz : (zsOf xs).length = xs.length := List.length_map ..
    refine ⟨_, rfl, .ref N, .ty "dict", .type "dict", .type "dict", true, rfl, .ty _, .base (.dK hN), kit_ty (by decide +kernel), true, rfl, iteF ?_⟩
    refine ⟨_, rfl, N, kvs, rfl, hN, _, rfl, n, _, rfl, .inr (SqT.of hn), rfl, false, ?_, iteF ?_⟩
    · rw [List.length_map, hlz, hlen, decide_eq_true rfl]
      rfl
    refine ⟨_, rfl, n, rfl, ⟨_, SqT.of hn⟩, fun D nD => lc_it walk_tup (fun i H' => Same H H' ∧ H' D = some (.lst ((List.replicate i true).map V.bl))) ⟨same_new nD, upd_same⟩ (fun i H' _ h => SqT.ext (SqT.of hn) h.1) ?_ ?_⟩
    · rintro i x H1 H' hi ⟨sg, hD⟩ ⟨rfl, hx⟩
      obtain ⟨y, hy, rfl⟩ := zsAt hx
      have hm := List.mem_of_getElem? hy
      obtain ⟨e1, e2, e3, e4⟩ := (hns y hm).ext sg
      refine ⟨rfl, _, rfl, _, rfl, N, _, rfl, dget_of (sg _ _ hN) (hv y hm), true, rfl, iteT ?_⟩
      refine ⟨_, rfl, _, rfl, N, _, rfl, dget_of (sg _ _ hN) (hv y hm), _, rfl, y.2.1, n, y.2.2.ns, zsOf xs, rfl, e1, sg _ _ hn, e2, e3, e4, fun H2 s2 => ?_⟩
      refine ⟨_, s2 _ _ hD, ?_, same_app sg s2 nD, by rw [upd_same, take_rep]⟩
      rw [List.length_map, List.length_replicate]
      rw [List.length_map, hlz] at hi
      exact Nat.lt_of_lt_of_le hi (Nat.le_trans l6 (by decide))
    · rintro H2 ⟨sg, hD⟩
      refine ⟨D, _, rfl, SqL.of hD, ?_⟩
      rw [all_rep]
      exact k H2 sg
/-! ### a program's fields -/
def pgf (tn : Addr) (st : Str) (dP dN : Addr) : List (Str × V) := putF "_nexts" (.ref dN) (putF "_places" (.ref dP) (putF "start" (.str st) (putF "names" (.ref tn) [])))
section
variable (tn : Addr) (st : Str) (dP dN : Addr)
theorem pgf_names : (pgf tn st dP dN).lookup ("names" : Str) = some (.ref tn) := by
  unfold pgf
  rw [lookup_putF, if_neg (by decide +kernel), lookup_putF, if_neg (by decide +kernel), lookup_putF, if_neg (by decide +kernel), lookup_putF, if_pos rfl]
theorem pgf_start : (pgf tn st dP dN).lookup ("start" : Str) = some (.str st) := by
  unfold pgf
  rw [lookup_putF, if_neg (by decide +kernel), lookup_putF, if_neg (by decide +kernel), lookup_putF, if_pos rfl]
theorem pgf_places : (pgf tn st dP dN).lookup ("_places" : Str) = some (.ref dP) := by
  unfold pgf
  rw [lookup_putF, if_neg (by decide +kernel), lookup_putF, if_pos rfl]
theorem pgf_nexts : (pgf tn st dP dN).lookup ("_nexts" : Str) = some (.ref dN) := by
  unfold pgf
  rw [lookup_putF, if_pos rfl]
end
def kvP (xs : List PgE) : List (Key × V) := xs.map fun x => (Sum.inr x.2.2.z, V.ref x.1)
def kvN (xs : List PgE) : List (Key × V) := xs.map fun x => (Sum.inr x.2.2.z, V.ref x.2.1)
/-- at g a program of the rows xs with the start st -/
structure PgA (K : PySem.W.Frag) (H : Hp) (g : Addr) (xs : List PgE) (st : Str) (dx tn dP dN : Addr) : Prop where
  hg : H g = some (.ins (CG K) dx (pgf tn st dP dN))
  hn : H tn = some (.tup ((zsOf xs).map V.str))
  hP : H dP = some (.dK (kvP xs))
  hN : H dN = some (.dK (kvN xs))
  pl : ∀ x ∈ xs, PlE K H x
  ns : ∀ x ∈ xs, NsE H (zsOf xs) x
  nd : (zsOf xs).Nodup
  l1 : 1 ≤ xs.length
  l6 : xs.length ≤ 6
  nm : ∀ z ∈ zsOf xs, nmB z = true
theorem PgA.ext {K : PySem.W.Frag} {H H' : Hp} {g : Addr} {xs : List PgE} {st : Str} {dx tn dP dN : Addr} (h : PgA K H g xs st dx tn dP dN) (s : Same H H') : PgA K H' g xs st dx tn dP dN :=
  ⟨s _ _ h.hg, s _ _ h.hn, s _ _ h.hP, s _ _ h.hN, fun x hx => (h.pl x hx).ext s, fun x hx => (h.ns x hx).ext s, h.nd, h.l1, h.l6, h.nm⟩
/-- all but what stands at d is as it was -/
def SameX (d : Addr) (H H' : Hp) : Prop := ∀ b o, b ≠ d → H b = some o → H' b = some o
theorem SameX.trans {d : Addr} {H H1 H2 : Hp} (a : SameX d H H1) (b : SameX d H1 H2) : SameX d H H2 := fun c o n h => b c o n (a c o n h)
theorem same_x {d : Addr} {H H' : Hp} (s : Same H H') : SameX d H H' := fun b o _ h => s b o h
theorem SameX.upd {d : Addr} {H : Hp} {o : HO} : SameX d H (upd H d o) := fun b u n h => by rw [upd_ne n]; exact h
/-- keys apart: what a row's name finds -/
theorem val_row {f : PgE → V} : ∀ {xs : List PgE} {i : Nat} {x : PgE}, (zsOf xs).Nodup → xs[i]? = some x → valV (xs.map fun y => ((Sum.inr y.2.2.z : Key), f y)) (Sum.inr x.2.2.z) = some (f x)
  | y :: ys, 0, x, nd, h => by
    cases h
    exact valV_pos rfl
  | y :: ys, i + 1, x, nd, h => by
    have h' : ys[i]? = some x := h
    have nd' : (y.2.2.z :: zsOf ys).Nodup := nd
    rw [List.nodup_cons] at nd'
    rw [List.map_cons, valV_neg fun z => nd'.1 ?_]
    · exact val_row nd'.2 h'
    · have : y.2.2.z = x.2.2.z := Sum.inr.inj z
      rw [this]
      exact List.mem_map_of_mem (List.mem_of_getElem? h')
theorem val_miss {f : PgE → V} {z : Str} : ∀ {xs : List PgE}, z ∉ zsOf xs → valV (xs.map fun y => ((Sum.inr y.2.2.z : Key), f y)) (Sum.inr z) = none
  | [], _ => rfl
  | y :: ys, h => by
    have h1 : ¬ y.2.2.z = z := fun e => h (e ▸ List.mem_cons_self ..)
    rw [List.map_cons, valV_neg (fun e => h1 (Sum.inr.inj e))]
    exact val_miss fun hm => h (List.mem_cons_of_mem _ hm)
theorem put_row {f : PgE → V} {xs : List PgE} {i : Nat} {x : PgE} (nd : (zsOf xs).Nodup) (h : xs[i]? = some x) : putK ((xs.take i).map fun y => ((Sum.inr y.2.2.z : Key), f y)) (Sum.inr x.2.2.z) (f x) = (xs.take (i + 1)).map fun y => ((Sum.inr y.2.2.z : Key), f y) := by
  have hn : x.2.2.z ∉ zsOf (xs.take i) := fun hm => by
    have h1 : (zsOf (xs.take (i + 1))).Nodup := by
      have : zsOf (xs.take (i + 1)) = (zsOf xs).take (i + 1) := List.map_take ..
      rw [this]
      exact nd.sublist (List.take_sublist _ _)
    rw [List.take_add_one, h] at h1
    have h2 : (zsOf (xs.take i) ++ [x.2.2.z]).Nodup := by simpa [zsOf] using h1
    exact (List.nodup_append.mp h2).2.2 _ hm _ (by simp) rfl
  rw [putK_new _ (val_miss hn), List.take_add_one, h, List.map_append]
  rfl
end
end K8

set_option Elab.async false
set_option linter.all false
set_option maxRecDepth 100000
set_option maxHeartbeats 2000000
namespace K8
open PySem PySem.Spec PyProof.Rows L2 Vf
section
variable {P : Program} {w : World} {K : PySem.W.Frag} {mg : Str → Option Value} {base : Heap}
abbrev s_BadProgram_init : Stmt := inClass (top 3) 0
theorem sc_BadProgram_init : FnScope ["self", "why"] ["self", "why"] (defScope s_BadProgram_init) := ⟨rfl, rfl, rfl, by decide +kernel, rfl, by decide +kernel, by decide +kernel⟩
-- slots: 0 self, 1 why
theorem ok_BadProgram_init {fd : FuncData} (F : FnD K ("BadProgram", some "__init__") "__init__" "BadProgram.__init__" s_BadProgram_init fd) : OkD P w K mg base CX0 1 ("BadProgram", some "__init__") ["self", "why"] [] (spExI K (CBG K) "why") := by
  refine okd F (F.ok sc_BadProgram_init (fun vs H Q E h => ?_) fun cdv A outer s H vs Q E hr h => ⟨tOst K "why" (tVar 0) (tVar 1), PSs.nox ?_, run_exI h⟩) fun _ _ _ _ _ _ us hl => match us, hl with | [_, _], _ => rfl
  · obtain ⟨a, v, rfl, _⟩ := h
    rfl
  · exact pss_one (ps_ost (pv 0) (pv 1))
theorem pl_ne {K : PySem.W.Frag} {H : Hp} {x : PgE} {g dx : Addr} (h : PlE K H x) (hg : H g = some (.ins (CG K) dx [])) : x.1 ≠ g := by
  obtain ⟨dy, e⟩ := h
  refine ne_of e hg fun z => ?_
  injection z with _ _ z
  have := plf_name x.2.2.z x.2.2.l x.2.2.m x.2.2.b
  rw [z] at this
  cases this
/-- the parts of a right program -/
structure PartsOk (K : PySem.W.Frag) (H : Hp) (o : List V → HO) (L N : Addr) (xs : List PgE) : Prop where
  hL : H L = some (o (xs.map fun x => V.ref x.1))
  pl : ∀ x ∈ xs, PlE K H x
  nx : NxA H N xs
  ns : ∀ x ∈ xs, NsE H (zsOf xs) x
  nd : (zsOf xs).Nodup
  l1 : 1 ≤ xs.length
  l6 : xs.length ≤ 6
  nm : ∀ z ∈ zsOf xs, nmB z = true
  ho : o = HO.lst ∨ o = HO.tup
theorem PartsOk.ext {K : PySem.W.Frag} {H H' : Hp} {o : List V → HO} {L N : Addr} {xs : List PgE} (h : PartsOk K H o L N xs) (s : Same H H') : PartsOk K H' o L N xs := ⟨s _ _ h.hL, fun x hx => (h.pl x hx).ext s, h.nx.ext s, fun x hx => (h.ns x hx).ext s, h.nd, h.l1, h.l6, h.nm, h.ho⟩
theorem PartsOk.extX {K : PySem.W.Frag} {H H' : Hp} {o : List V → HO} {L N g dx : Addr} {xs : List PgE} (h : PartsOk K H o L N xs) (hg : H g = some (.ins (CG K) dx [])) (s : SameX g H H') : PartsOk K H' o L N xs := by
  refine ⟨s _ _ (ne_of h.hL hg (by intro z; rcases h.ho with e | e <;> (rw [e] at z; cases z))) h.hL, fun x hx => ?_, ?_, fun x hx => ?_, h.nd, h.l1, h.l6, h.nm, h.ho⟩
  · have n := pl_ne (h.pl x hx) hg
    obtain ⟨dy, e⟩ := h.pl x hx
    exact ⟨dy, s _ _ n e⟩
  · obtain ⟨kvs, h1, h2, h3⟩ := h.nx
    exact ⟨kvs, s _ _ (ne_of h1 hg (by intro z; cases z)) h1, h2, h3⟩
  · obtain ⟨h1, h2⟩ := h.ns x hx
    exact ⟨s _ _ (ne_of h1 hg (by intro z; cases z)) h1, h2⟩
def spPgI (K : PySem.W.Frag) : Sp := fun vs H Q _ => ∃ (g dx L N : Addr) (o : List V → HO) (xs : List PgE) (st : V) (s : Str), vs = [.ref g, .ref L, .ref N, st] ∧ H g = some (.ins (CG K) dx []) ∧ PartsOk K H o L N xs ∧ s ∈ zsOf xs ∧ (st = .str s ∨ (st = .non ∧ (zsOf xs)[0]? = some s)) ∧
  ∀ H' dx tn dP dN, SameX g H H' → PgA K H' g xs s dx tn dP dN → H dP = none → H dN = none → Q .non H'
theorem same_xg {d : Addr} {H H1 H2 : Hp} (a : SameX d H H1) (b : Same H1 H2) : SameX d H H2 := a.trans (same_x b)
abbrev s_Program_init : Stmt := inClass (top 18) 0
theorem sc_Program_init : FnScope ["self", "places", "nexts", "start", "names", "place", "name"] ["self", "places", "nexts", "start"] (defScope s_Program_init) := ⟨rfl, rfl, rfl, by decide +kernel, rfl, by decide +kernel, by decide +kernel⟩
-- slots: 0 self, 1 places, 2 nexts, 3 start, 4 names, 5 place, 6 name
theorem ok_Program_init {fd : FuncData} (F : FunD K "__init__" "Program.__init__" (defArgs s_Program_init) (defBody s_Program_init) (defScope s_Program_init) [] [("start", .non)] (He.fAd K ("Program", some "__init__")) fd) (T : GTxt K mg)
    (O_are_places : OkF P w K mg base CX0 2 "are_places" ["places"] (spArePl K)) (O_are_nexts : OkF P w K mg base CX0 3 "are_nexts" ["nexts", "names"] (spAreNx K)) (O_is_one_of : OkF P w K mg base CX0 1 "is_one_of" ["x", "names"] (spOne K))
    (O_BadProgram_init : OkD P w K mg base CX0 1 ("BadProgram", some "__init__") ["self", "why"] [] (spExI K (CBG K) "why")) :
    FnOk P w K mg base (L2.CX P w) 5 (He.fAd K ("Program", some "__init__")) fd ["self", "places", "nexts", "start"] (spPgI K) := by
  refine F.ok sc_Program_init (fun vs H Q E h => ?_) fun cdv A outer s H vs Q E hr h => ?_
  · obtain ⟨g, dx, L, N, o, xs, st, s, rfl, _⟩ := h
    rfl
  · obtain ⟨g, dx, L, N, o, xs, st, z, rfl, hg, hp, hz, hst, k⟩ := h
    have hpo := hp.ho
    rcases hpo with rfl | rfl
    · refine ⟨_, (pss_cons (ps_if (pt_not (pt_val (c_fn O_are_places hr (by decide) T.g_are_places pass0 (pa_cons (pv 1) pa_nil)))) (pss_one (c_raise T.x_BadProgram O_BadProgram_init hr (by decide) T.g_BadProgram (takes_of rfl rfl rfl rfl) (pa_cons pe_str pa_nil)))
  pss_nil)
  (pss_cons (ps_set (i := 4) sc_Program_init.nd rfl (Or.inl rfl) (pe_callTy call_tuple_of (by rfl) T.z_tuple (by decide +kernel) (pa_cons (pe_lc (own := [("place", 5)]) (g := gName 5) (tt := tYes) (by rfl) sc_Program_init.nd (pi_list (pv 1)) (blkOk_by (N := ["self", "places", "nexts", "start", "names", "place", "name"]) (sc := defScope s_Program_init) (by decide +kernel)) (fun _ _ _ _ _ => pg_name (i := 5) sc_Program_init.nd rfl (Or.inl rfl)) (fun _ _ _ _ _ => pts_nil) (fun _ _ _ _ _ => (pe_fldK (K := K) rfl (pv 5) rfl))) pa_nil)))
  (pss_cons (ps_if (pt_not (pt_val (c_fn O_are_nexts hr (by decide) T.g_are_nexts pass0 (pa_cons (pv 2) (pa_cons (pv 4) pa_nil))))) (pss_one (c_raise T.x_BadProgram O_BadProgram_init hr (by decide) T.g_BadProgram (takes_of rfl rfl rfl rfl) (pa_cons pe_str pa_nil)))
  pss_nil)
  (pss_cons (ps_if (PW.pt (pw_and (pt_cmpR op_notN (pv 3) pe_non (nomark _)) (pw_and1 (pt_not (pt_val (c_fn O_is_one_of hr (by decide) T.g_is_one_of pass0 (pa_cons (pv 3) (pa_cons (pv 4) pa_nil)))))))) (pss_one (c_raise T.x_BadProgram O_BadProgram_init hr (by decide) T.g_BadProgram (takes_of rfl rfl rfl rfl) (pa_cons pe_str pa_nil)))
  pss_nil)
  (pss_cons (ps_fld (pv 0) (pv 4) rfl)
  (pss_cons (ps_fld (pv 0) (pe_ifExp (pt_cmpR op_isN (pv 3) pe_non (nomark _)) (pe_ix ix_tup (pv 4) pe_int (fun _ _ => rfl)) (pv 3)) rfl)
  (pss_cons (ps_fld (pv 0) (pe_dc (own := [("place", 5)]) (g := gName 5) (tt := tYes) (by rfl) sc_Program_init.nd (pi_list (pv 1)) (blkOk_by (N := ["self", "places", "nexts", "start", "names", "place", "name"]) (sc := defScope s_Program_init) (by decide +kernel)) (fun _ _ _ _ _ => pg_name (i := 5) sc_Program_init.nd rfl (Or.inl rfl)) (fun _ _ _ _ _ => pts_nil) (fun _ _ _ _ _ => (pe_fldK (K := K) rfl (pv 5) rfl)) (fun _ _ _ _ _ => (pv 5))) rfl)
  (pss_one (ps_fld (pv 0) (pe_dc (own := [("name", 6)]) (g := gName 6) (tt := tYes) (by rfl) sc_Program_init.nd (pi_tup (pv 4)) (blkOk_by (N := ["self", "places", "nexts", "start", "names", "place", "name"]) (sc := defScope s_Program_init) (by decide +kernel)) (fun _ _ _ _ _ => pg_name (i := 6) sc_Program_init.nd rfl (Or.inl rfl)) (fun _ _ _ _ _ => pts_nil) (fun _ _ _ _ _ => (pv 6)) (fun _ _ _ _ _ => (pe_dget (hu_of hr) (pv 2) (pv 6) (fun _ _ => rfl)))) rfl))))))))), ?_⟩
      have hlz : (zsOf xs).length = xs.length := List.length_map ..
      refine ⟨_, rfl, L, xs, rfl, .inl hp.hL, hp.pl, hp.l1, hp.l6, hp.nd, fun H1 s1 => ⟨true, rfl, iteF ?_⟩⟩
      have hp1 := hp.ext s1
      -- the names
      refine ⟨_, rfl, L, rfl, ⟨_, SqL.of hp1.hL⟩, fun D nD => lc_it walk_list (fun i H' => Same H1 H' ∧ H' D = some (.lst (((zsOf xs).take i).map V.str))) ⟨same_new nD, upd_same⟩ (fun i H' _ h => h.1.seq (SqL.of hp1.hL)) ?_ ?_⟩
      · rintro i x H3 H' hi ⟨sg3, hD3⟩ ⟨rfl, hx⟩
        obtain ⟨y, hy, rfl⟩ := getE hx
        obtain ⟨dy, ey⟩ := (hp1.pl y (List.mem_of_getElem? hy)).ext sg3
        refine ⟨rfl, _, rfl, y.1, _, dy, _, _, rfl, ey, T.c_Place, T.nN, plf_name .., ?_⟩
        refine ⟨_, hD3, ?_, same_app sg3 (Same.refl _) nD, ?_⟩
        · rw [List.length_map, List.length_take]
          rw [List.length_map] at hi
          exact Nat.lt_of_le_of_lt (Nat.min_le_left _ _) (Nat.lt_of_lt_of_le hi (Nat.le_trans hp.l6 (by decide)))
        · rw [upd_same, List.take_add_one, List.map_append]
          have : (zsOf xs)[i]? = some y.2.2.z := by
            unfold zsOf
            rw [List.getElem?_map, hy]
            rfl
          rw [this]
          rfl
      rintro H2 ⟨s12, hD⟩
      rw [List.length_map, ← hlz, List.take_length] at hD
      refine ⟨D, _, rfl, .inl ⟨SqL.of hD, fun tn ntn => ?_⟩⟩
      have s2t := same_new (o := .tup ((zsOf xs).map V.str)) ntn
      have hn : (upd H2 tn (.tup ((zsOf xs).map V.str))) tn = some (.tup ((zsOf xs).map V.str)) := upd_same
      have s3 := s1.trans (s12.trans s2t)
      generalize upd H2 tn (.tup ((zsOf xs).map V.str)) = H3 at hn s3 ⊢
      clear s2t ntn hD nD s12 hp1 s1
      have hp3 := hp.ext s3
      refine ⟨_, rfl, _, rfl, N, tn, xs, rfl, hp3.nx, hn, hp3.ns, hp.l6, fun H4 s34 => ⟨true, rfl, iteF ?_⟩⟩
      have s4 := s3.trans s34
      have hn4 := s34 _ _ hn
      have hg4 := s4 _ _ hg
      have ngt : tn ≠ g := ne_of hn4 hg4 (by intro z; cases z)
      clear hp3 hn s34 s3 H1 H2 H3
      have none_x : ∀ {H5 : Hp} {D : Addr}, SameX g H H5 → D ≠ g → H5 D = none → H D = none := fun {H5 D} x n e => by
        cases q : H D with
        | none => rfl
        | some o =>
          have := x D o n q
          rw [e] at this
          cases this
      have fin : ∀ H5 : Hp, SameX g H H5 → H5 tn = some (.tup ((zsOf xs).map V.str)) → ∀ dP : Addr, H5 dP = some (.dK (kvP xs)) → ∀ dN : Addr, H5 dN = some (.dK (kvN xs)) → H5 g = some (.ins (CG K) dx (pgf tn z dP dN)) → H dP = none → H dN = none → Q .non H5 := fun H5 x5 h1 dP h2 dN h3 h4 h5 h6 => by
        have hq := hp.extX hg x5
        exact k H5 dx tn dP dN x5 ⟨h4, h1, h2, h3, hq.pl, hq.ns, hq.nd, hq.l1, hq.l6, hq.nm⟩ h5 h6
      rcases hst with rfl | ⟨rfl, h0⟩
      · refine ⟨_, rfl, rfl, true, rfl, iteT ⟨_, rfl, _, rfl, .str z, tn, zsOf xs, rfl, SqT.of hn4, .inl ⟨z, rfl, true, by rw [decide_eq_true hz], iteF ?_⟩⟩⟩
        refine ⟨_, rfl, _, rfl, g, _, dx, [], rfl, hg4, T.c_Program, T.nA, (by show 0 < 1000; decide), ?_⟩
        refine ⟨_, rfl, rfl, false, rfl, iteF ⟨_, rfl, _, rfl, g, _, dx, _, rfl, upd_same, T.c_Program, T.nB, (by show 1 < 1000; decide), ?_⟩⟩
        have x5 : SameX g H (upd (upd H4 g (.ins (CG K) dx (putF "names" (.ref tn) []))) g (.ins (CG K) dx (putF "start" (.str z) (putF "names" (.ref tn) [])))) := (same_x s4).trans (SameX.upd.trans SameX.upd)
        have hg5 : (upd (upd H4 g (.ins (CG K) dx (putF "names" (.ref tn) []))) g (.ins (CG K) dx (putF "start" (.str z) (putF "names" (.ref tn) [])))) g = some (.ins (CG K) dx (putF "start" (.str z) (putF "names" (.ref tn) []))) := upd_same
        have hn5 : (upd (upd H4 g (.ins (CG K) dx (putF "names" (.ref tn) []))) g (.ins (CG K) dx (putF "start" (.str z) (putF "names" (.ref tn) [])))) tn = some (.tup ((zsOf xs).map V.str)) := by rw [upd_ne ngt, upd_ne ngt]; exact hn4
        generalize upd (upd H4 g (.ins (CG K) dx (putF "names" (.ref tn) []))) g (.ins (CG K) dx (putF "start" (.str z) (putF "names" (.ref tn) []))) = H5 at x5 hg5 hn5 ⊢
        clear hn4 hg4 s4 H4
        have hp5 := hp.extX hg x5
        refine ⟨_, rfl, L, rfl, ⟨_, SqL.of hp5.hL⟩, fun D nD => dc_it walk_list (fun i H' => Same H5 H' ∧ H' D = some (.dK ((xs.take i).map fun y => ((Sum.inr y.2.2.z : Key), V.ref y.1)))) ⟨same_new nD, by rw [upd_same]; rfl⟩ (fun i H' _ h => h.1.seq (SqL.of hp5.hL)) ?_ ?_⟩
        · rintro i x H6 H' hi ⟨sg, hD⟩ ⟨rfl, hx⟩
          obtain ⟨y, hy, rfl⟩ := getE hx
          obtain ⟨dy, ey⟩ := (hp5.pl y (List.mem_of_getElem? hy)).ext sg
          refine ⟨rfl, _, rfl, y.1, _, dy, _, _, rfl, ey, T.c_Place, T.nN, plf_name .., _, rfl, _, Sum.inr y.2.2.z, rfl, hD, ?_, same_app sg (Same.refl _) nD, ?_⟩
          · rw [List.length_map, List.length_take]
            rw [List.length_map] at hi
            exact Nat.lt_of_le_of_lt (Nat.min_le_left _ _) (Nat.lt_of_lt_of_le hi (Nat.le_trans hp.l6 (by decide)))
          · rw [upd_same, put_row (f := fun y => V.ref y.1) hp.nd hy]
        rintro H6 ⟨s56, hD⟩
        rw [List.length_map, List.take_length] at hD
        have hg6 := s56 _ _ hg5
        have nDg : D ≠ g := ne_of hD hg6 (by intro z; cases z)
        refine ⟨_, rfl, g, _, dx, _, rfl, hg6, T.c_Program, T.nC, (by show 2 < 1000; decide), ?_⟩
        have x7 : SameX g H (upd H6 g (.ins (CG K) dx (putF "_places" (.ref D) (putF "start" (.str z) (putF "names" (.ref tn) []))))) := (x5.trans (same_x s56)).trans SameX.upd
        have hg7 : (upd H6 g (.ins (CG K) dx (putF "_places" (.ref D) (putF "start" (.str z) (putF "names" (.ref tn) []))))) g = some (.ins (CG K) dx (putF "_places" (.ref D) (putF "start" (.str z) (putF "names" (.ref tn) [])))) := upd_same
        have hn7 : (upd H6 g (.ins (CG K) dx (putF "_places" (.ref D) (putF "start" (.str z) (putF "names" (.ref tn) []))))) tn = some (.tup ((zsOf xs).map V.str)) := by rw [upd_ne ngt]; exact s56 _ _ hn5
        have hD7 : (upd H6 g (.ins (CG K) dx (putF "_places" (.ref D) (putF "start" (.str z) (putF "names" (.ref tn) []))))) D = some (.dK (kvP xs)) := by rw [upd_ne nDg]; exact hD
        generalize upd H6 g (.ins (CG K) dx (putF "_places" (.ref D) (putF "start" (.str z) (putF "names" (.ref tn) [])))) = H7 at x7 hg7 hn7 hD7 ⊢
        have nD0 := none_x x5 nDg nD
        clear hg6 hD s56 nD hp5 hn5 hg5 x5 H6 H5
        have hp7 := hp.extX hg x7
        obtain ⟨kvs, hN, hl, hv⟩ := hp7.nx
        refine ⟨_, rfl, tn, rfl, ⟨_, SqT.of hn7⟩, fun D2 nD2 => dc_it walk_tup (fun i H' => Same H7 H' ∧ H' D2 = some (.dK ((xs.take i).map fun y => ((Sum.inr y.2.2.z : Key), V.ref y.2.1)))) ⟨same_new nD2, by rw [upd_same]; rfl⟩ (fun i H' _ h => SqT.ext (SqT.of hn7) h.1) ?_ ?_⟩
        · rintro i x H8 H' hi ⟨sg, hD2⟩ ⟨rfl, hx⟩
          obtain ⟨y, hy, rfl⟩ := zsAt hx
          refine ⟨rfl, _, rfl, _, rfl, _, rfl, N, _, rfl, dget_of (sg _ _ hN) (hv y (List.mem_of_getElem? hy)), _, Sum.inr y.2.2.z, rfl, hD2, ?_, same_app sg (Same.refl _) nD2, ?_⟩
          · rw [List.length_map, List.length_take]
            rw [List.length_map, hlz] at hi
            exact Nat.lt_of_le_of_lt (Nat.min_le_left _ _) (Nat.lt_of_lt_of_le hi (Nat.le_trans hp.l6 (by decide)))
          · rw [upd_same, put_row (f := fun y => V.ref y.2.1) hp.nd hy]
        rintro H8 ⟨s78, hD2⟩
        rw [List.length_map, hlz, List.take_length] at hD2
        have hg8 := s78 _ _ hg7
        have nDg2 : D2 ≠ g := ne_of hD2 hg8 (by intro z; cases z)
        refine ⟨_, rfl, g, _, dx, _, rfl, hg8, T.c_Program, T.nD, (by show 3 < 1000; decide), ?_⟩
        exact fin _ ((x7.trans (same_x s78)).trans SameX.upd) (by rw [upd_ne ngt]; exact s78 _ _ hn7) D (by rw [upd_ne nDg]; exact s78 _ _ hD7) D2 (by rw [upd_ne nDg2]; exact hD2) upd_same nD0 (none_x x7 nDg2 nD2)
      · refine ⟨_, rfl, rfl, false, rfl, iteF ?_⟩
        refine ⟨_, rfl, _, rfl, g, _, dx, [], rfl, hg4, T.c_Program, T.nA, (by show 0 < 1000; decide), ?_⟩
        have a0 : atI ((zsOf xs).map V.str) 0 = some (.str z) := atI_nat (j := 0) (by rw [List.getElem?_map, h0]; rfl)
        have hn4' : (upd H4 g (.ins (CG K) dx (putF "names" (.ref tn) []))) tn = some (.tup ((zsOf xs).map V.str)) := by rw [upd_ne ngt]; exact hn4
        refine ⟨_, rfl, rfl, true, rfl, iteT ⟨_, rfl, tn, _, 0, .str z, rfl, rfl, SqT.of hn4', a0, _, rfl, g, _, dx, _, rfl, upd_same, T.c_Program, T.nB, (by show 1 < 1000; decide), ?_⟩⟩
        clear hn4' a0
        have x5 : SameX g H (upd (upd H4 g (.ins (CG K) dx (putF "names" (.ref tn) []))) g (.ins (CG K) dx (putF "start" (.str z) (putF "names" (.ref tn) [])))) := (same_x s4).trans (SameX.upd.trans SameX.upd)
        have hg5 : (upd (upd H4 g (.ins (CG K) dx (putF "names" (.ref tn) []))) g (.ins (CG K) dx (putF "start" (.str z) (putF "names" (.ref tn) [])))) g = some (.ins (CG K) dx (putF "start" (.str z) (putF "names" (.ref tn) []))) := upd_same
        have hn5 : (upd (upd H4 g (.ins (CG K) dx (putF "names" (.ref tn) []))) g (.ins (CG K) dx (putF "start" (.str z) (putF "names" (.ref tn) [])))) tn = some (.tup ((zsOf xs).map V.str)) := by rw [upd_ne ngt, upd_ne ngt]; exact hn4
        generalize upd (upd H4 g (.ins (CG K) dx (putF "names" (.ref tn) []))) g (.ins (CG K) dx (putF "start" (.str z) (putF "names" (.ref tn) []))) = H5 at x5 hg5 hn5 ⊢
        clear hn4 hg4 s4 H4
        have hp5 := hp.extX hg x5
        refine ⟨_, rfl, L, rfl, ⟨_, SqL.of hp5.hL⟩, fun D nD => dc_it walk_list (fun i H' => Same H5 H' ∧ H' D = some (.dK ((xs.take i).map fun y => ((Sum.inr y.2.2.z : Key), V.ref y.1)))) ⟨same_new nD, by rw [upd_same]; rfl⟩ (fun i H' _ h => h.1.seq (SqL.of hp5.hL)) ?_ ?_⟩
        · rintro i x H6 H' hi ⟨sg, hD⟩ ⟨rfl, hx⟩
          obtain ⟨y, hy, rfl⟩ := getE hx
          obtain ⟨dy, ey⟩ := (hp5.pl y (List.mem_of_getElem? hy)).ext sg
          refine ⟨rfl, _, rfl, y.1, _, dy, _, _, rfl, ey, T.c_Place, T.nN, plf_name .., _, rfl, _, Sum.inr y.2.2.z, rfl, hD, ?_, same_app sg (Same.refl _) nD, ?_⟩
          · rw [List.length_map, List.length_take]
            rw [List.length_map] at hi
            exact Nat.lt_of_le_of_lt (Nat.min_le_left _ _) (Nat.lt_of_lt_of_le hi (Nat.le_trans hp.l6 (by decide)))
          · rw [upd_same, put_row (f := fun y => V.ref y.1) hp.nd hy]
        rintro H6 ⟨s56, hD⟩
        rw [List.length_map, List.take_length] at hD
        have hg6 := s56 _ _ hg5
        have nDg : D ≠ g := ne_of hD hg6 (by intro z; cases z)
        refine ⟨_, rfl, g, _, dx, _, rfl, hg6, T.c_Program, T.nC, (by show 2 < 1000; decide), ?_⟩
        have x7 : SameX g H (upd H6 g (.ins (CG K) dx (putF "_places" (.ref D) (putF "start" (.str z) (putF "names" (.ref tn) []))))) := (x5.trans (same_x s56)).trans SameX.upd
        have hg7 : (upd H6 g (.ins (CG K) dx (putF "_places" (.ref D) (putF "start" (.str z) (putF "names" (.ref tn) []))))) g = some (.ins (CG K) dx (putF "_places" (.ref D) (putF "start" (.str z) (putF "names" (.ref tn) [])))) := upd_same
        have hn7 : (upd H6 g (.ins (CG K) dx (putF "_places" (.ref D) (putF "start" (.str z) (putF "names" (.ref tn) []))))) tn = some (.tup ((zsOf xs).map V.str)) := by rw [upd_ne ngt]; exact s56 _ _ hn5
        have hD7 : (upd H6 g (.ins (CG K) dx (putF "_places" (.ref D) (putF "start" (.str z) (putF "names" (.ref tn) []))))) D = some (.dK (kvP xs)) := by rw [upd_ne nDg]; exact hD
        generalize upd H6 g (.ins (CG K) dx (putF "_places" (.ref D) (putF "start" (.str z) (putF "names" (.ref tn) [])))) = H7 at x7 hg7 hn7 hD7 ⊢
        have nD0 := none_x x5 nDg nD
        clear hg6 hD s56 nD hp5 hn5 hg5 x5 H6 H5
        have hp7 := hp.extX hg x7
        obtain ⟨kvs, hN, hl, hv⟩ := hp7.nx
        refine ⟨_, rfl, tn, rfl, ⟨_, SqT.of hn7⟩, fun D2 nD2 => dc_it walk_tup (fun i H' => Same H7 H' ∧ H' D2 = some (.dK ((xs.take i).map fun y => ((Sum.inr y.2.2.z : Key), V.ref y.2.1)))) ⟨same_new nD2, by rw [upd_same]; rfl⟩ (fun i H' _ h => SqT.ext (SqT.of hn7) h.1) ?_ ?_⟩
        · rintro i x H8 H' hi ⟨sg, hD2⟩ ⟨rfl, hx⟩
          obtain ⟨y, hy, rfl⟩ := zsAt hx
          refine ⟨rfl, _, rfl, _, rfl, _, rfl, N, _, rfl, dget_of (sg _ _ hN) (hv y (List.mem_of_getElem? hy)), _, Sum.inr y.2.2.z, rfl, hD2, ?_, same_app sg (Same.refl _) nD2, ?_⟩
          · rw [List.length_map, List.length_take]
            rw [List.length_map, hlz] at hi
            exact Nat.lt_of_le_of_lt (Nat.min_le_left _ _) (Nat.lt_of_lt_of_le hi (Nat.le_trans hp.l6 (by decide)))
          · rw [upd_same, put_row (f := fun y => V.ref y.2.1) hp.nd hy]
        rintro H8 ⟨s78, hD2⟩
        rw [List.length_map, hlz, List.take_length] at hD2
        have hg8 := s78 _ _ hg7
        have nDg2 : D2 ≠ g := ne_of hD2 hg8 (by intro z; cases z)
        refine ⟨_, rfl, g, _, dx, _, rfl, hg8, T.c_Program, T.nD, (by show 3 < 1000; decide), ?_⟩
        exact fin _ ((x7.trans (same_x s78)).trans SameX.upd) (by rw [upd_ne ngt]; exact s78 _ _ hn7) D (by rw [upd_ne nDg]; exact s78 _ _ hD7) D2 (by rw [upd_ne nDg2]; exact hD2) upd_same nD0 (none_x x7 nDg2 nD2)
    · refine ⟨_, (pss_cons (ps_if (pt_not (pt_val (c_fn O_are_places hr (by decide) T.g_are_places pass0 (pa_cons (pv 1) pa_nil)))) (pss_one (c_raise T.x_BadProgram O_BadProgram_init hr (by decide) T.g_BadProgram (takes_of rfl rfl rfl rfl) (pa_cons pe_str pa_nil)))
  pss_nil)
  (pss_cons (ps_set (i := 4) sc_Program_init.nd rfl (Or.inl rfl) (pe_callTy call_tuple_of (by rfl) T.z_tuple (by decide +kernel) (pa_cons (pe_lc (own := [("place", 5)]) (g := gName 5) (tt := tYes) (by rfl) sc_Program_init.nd (pi_tup (pv 1)) (blkOk_by (N := ["self", "places", "nexts", "start", "names", "place", "name"]) (sc := defScope s_Program_init) (by decide +kernel)) (fun _ _ _ _ _ => pg_name (i := 5) sc_Program_init.nd rfl (Or.inl rfl)) (fun _ _ _ _ _ => pts_nil) (fun _ _ _ _ _ => (pe_fldK (K := K) rfl (pv 5) rfl))) pa_nil)))
  (pss_cons (ps_if (pt_not (pt_val (c_fn O_are_nexts hr (by decide) T.g_are_nexts pass0 (pa_cons (pv 2) (pa_cons (pv 4) pa_nil))))) (pss_one (c_raise T.x_BadProgram O_BadProgram_init hr (by decide) T.g_BadProgram (takes_of rfl rfl rfl rfl) (pa_cons pe_str pa_nil)))
  pss_nil)
  (pss_cons (ps_if (PW.pt (pw_and (pt_cmpR op_notN (pv 3) pe_non (nomark _)) (pw_and1 (pt_not (pt_val (c_fn O_is_one_of hr (by decide) T.g_is_one_of pass0 (pa_cons (pv 3) (pa_cons (pv 4) pa_nil)))))))) (pss_one (c_raise T.x_BadProgram O_BadProgram_init hr (by decide) T.g_BadProgram (takes_of rfl rfl rfl rfl) (pa_cons pe_str pa_nil)))
  pss_nil)
  (pss_cons (ps_fld (pv 0) (pv 4) rfl)
  (pss_cons (ps_fld (pv 0) (pe_ifExp (pt_cmpR op_isN (pv 3) pe_non (nomark _)) (pe_ix ix_tup (pv 4) pe_int (fun _ _ => rfl)) (pv 3)) rfl)
  (pss_cons (ps_fld (pv 0) (pe_dc (own := [("place", 5)]) (g := gName 5) (tt := tYes) (by rfl) sc_Program_init.nd (pi_tup (pv 1)) (blkOk_by (N := ["self", "places", "nexts", "start", "names", "place", "name"]) (sc := defScope s_Program_init) (by decide +kernel)) (fun _ _ _ _ _ => pg_name (i := 5) sc_Program_init.nd rfl (Or.inl rfl)) (fun _ _ _ _ _ => pts_nil) (fun _ _ _ _ _ => (pe_fldK (K := K) rfl (pv 5) rfl)) (fun _ _ _ _ _ => (pv 5))) rfl)
  (pss_one (ps_fld (pv 0) (pe_dc (own := [("name", 6)]) (g := gName 6) (tt := tYes) (by rfl) sc_Program_init.nd (pi_tup (pv 4)) (blkOk_by (N := ["self", "places", "nexts", "start", "names", "place", "name"]) (sc := defScope s_Program_init) (by decide +kernel)) (fun _ _ _ _ _ => pg_name (i := 6) sc_Program_init.nd rfl (Or.inl rfl)) (fun _ _ _ _ _ => pts_nil) (fun _ _ _ _ _ => (pv 6)) (fun _ _ _ _ _ => (pe_dget (hu_of hr) (pv 2) (pv 6) (fun _ _ => rfl)))) rfl))))))))), ?_⟩
      have hlz : (zsOf xs).length = xs.length := List.length_map ..
      refine ⟨_, rfl, L, xs, rfl, .inr hp.hL, hp.pl, hp.l1, hp.l6, hp.nd, fun H1 s1 => ⟨true, rfl, iteF ?_⟩⟩
      have hp1 := hp.ext s1
      -- the names
      refine ⟨_, rfl, L, rfl, ⟨_, SqT.of hp1.hL⟩, fun D nD => lc_it walk_tup (fun i H' => Same H1 H' ∧ H' D = some (.lst (((zsOf xs).take i).map V.str))) ⟨same_new nD, upd_same⟩ (fun i H' _ h => SqT.ext (SqT.of hp1.hL) h.1) ?_ ?_⟩
      · rintro i x H3 H' hi ⟨sg3, hD3⟩ ⟨rfl, hx⟩
        obtain ⟨y, hy, rfl⟩ := getE hx
        obtain ⟨dy, ey⟩ := (hp1.pl y (List.mem_of_getElem? hy)).ext sg3
        refine ⟨rfl, _, rfl, y.1, _, dy, _, _, rfl, ey, T.c_Place, T.nN, plf_name .., ?_⟩
        refine ⟨_, hD3, ?_, same_app sg3 (Same.refl _) nD, ?_⟩
        · rw [List.length_map, List.length_take]
          rw [List.length_map] at hi
          exact Nat.lt_of_le_of_lt (Nat.min_le_left _ _) (Nat.lt_of_lt_of_le hi (Nat.le_trans hp.l6 (by decide)))
        · rw [upd_same, List.take_add_one, List.map_append]
          have : (zsOf xs)[i]? = some y.2.2.z := by
            unfold zsOf
            rw [List.getElem?_map, hy]
            rfl
          rw [this]
          rfl
      rintro H2 ⟨s12, hD⟩
      rw [List.length_map, ← hlz, List.take_length] at hD
      refine ⟨D, _, rfl, .inl ⟨SqL.of hD, fun tn ntn => ?_⟩⟩
      have s2t := same_new (o := .tup ((zsOf xs).map V.str)) ntn
      have hn : (upd H2 tn (.tup ((zsOf xs).map V.str))) tn = some (.tup ((zsOf xs).map V.str)) := upd_same
      have s3 := s1.trans (s12.trans s2t)
      generalize upd H2 tn (.tup ((zsOf xs).map V.str)) = H3 at hn s3 ⊢
      clear s2t ntn hD nD s12 hp1 s1
      have hp3 := hp.ext s3
      refine ⟨_, rfl, _, rfl, N, tn, xs, rfl, hp3.nx, hn, hp3.ns, hp.l6, fun H4 s34 => ⟨true, rfl, iteF ?_⟩⟩
      have s4 := s3.trans s34
      have hn4 := s34 _ _ hn
      have hg4 := s4 _ _ hg
      have ngt : tn ≠ g := ne_of hn4 hg4 (by intro z; cases z)
      clear hp3 hn s34 s3 H1 H2 H3
      have none_x : ∀ {H5 : Hp} {D : Addr}, SameX g H H5 → D ≠ g → H5 D = none → H D = none := fun {H5 D} x n e => by
        cases q : H D with
        | none => rfl
        | some o =>
          have := x D o n q
          rw [e] at this
          cases this
      have fin : ∀ H5 : Hp, SameX g H H5 → H5 tn = some (.tup ((zsOf xs).map V.str)) → ∀ dP : Addr, H5 dP = some (.dK (kvP xs)) → ∀ dN : Addr, H5 dN = some (.dK (kvN xs)) → H5 g = some (.ins (CG K) dx (pgf tn z dP dN)) → H dP = none → H dN = none → Q .non H5 := fun H5 x5 h1 dP h2 dN h3 h4 h5 h6 => by
        have hq := hp.extX hg x5
        exact k H5 dx tn dP dN x5 ⟨h4, h1, h2, h3, hq.pl, hq.ns, hq.nd, hq.l1, hq.l6, hq.nm⟩ h5 h6
      rcases hst with rfl | ⟨rfl, h0⟩
      · refine ⟨_, rfl, rfl, true, rfl, iteT ⟨_, rfl, _, rfl, .str z, tn, zsOf xs, rfl, SqT.of hn4, .inl ⟨z, rfl, true, by rw [decide_eq_true hz], iteF ?_⟩⟩⟩
        refine ⟨_, rfl, _, rfl, g, _, dx, [], rfl, hg4, T.c_Program, T.nA, (by show 0 < 1000; decide), ?_⟩
        refine ⟨_, rfl, rfl, false, rfl, iteF ⟨_, rfl, _, rfl, g, _, dx, _, rfl, upd_same, T.c_Program, T.nB, (by show 1 < 1000; decide), ?_⟩⟩
        have x5 : SameX g H (upd (upd H4 g (.ins (CG K) dx (putF "names" (.ref tn) []))) g (.ins (CG K) dx (putF "start" (.str z) (putF "names" (.ref tn) [])))) := (same_x s4).trans (SameX.upd.trans SameX.upd)
        have hg5 : (upd (upd H4 g (.ins (CG K) dx (putF "names" (.ref tn) []))) g (.ins (CG K) dx (putF "start" (.str z) (putF "names" (.ref tn) [])))) g = some (.ins (CG K) dx (putF "start" (.str z) (putF "names" (.ref tn) []))) := upd_same
        have hn5 : (upd (upd H4 g (.ins (CG K) dx (putF "names" (.ref tn) []))) g (.ins (CG K) dx (putF "start" (.str z) (putF "names" (.ref tn) [])))) tn = some (.tup ((zsOf xs).map V.str)) := by rw [upd_ne ngt, upd_ne ngt]; exact hn4
        generalize upd (upd H4 g (.ins (CG K) dx (putF "names" (.ref tn) []))) g (.ins (CG K) dx (putF "start" (.str z) (putF "names" (.ref tn) []))) = H5 at x5 hg5 hn5 ⊢
        clear hn4 hg4 s4 H4
        have hp5 := hp.extX hg x5
        refine ⟨_, rfl, L, rfl, ⟨_, SqT.of hp5.hL⟩, fun D nD => dc_it walk_tup (fun i H' => Same H5 H' ∧ H' D = some (.dK ((xs.take i).map fun y => ((Sum.inr y.2.2.z : Key), V.ref y.1)))) ⟨same_new nD, by rw [upd_same]; rfl⟩ (fun i H' _ h => SqT.ext (SqT.of hp5.hL) h.1) ?_ ?_⟩
        · rintro i x H6 H' hi ⟨sg, hD⟩ ⟨rfl, hx⟩
          obtain ⟨y, hy, rfl⟩ := getE hx
          obtain ⟨dy, ey⟩ := (hp5.pl y (List.mem_of_getElem? hy)).ext sg
          refine ⟨rfl, _, rfl, y.1, _, dy, _, _, rfl, ey, T.c_Place, T.nN, plf_name .., _, rfl, _, Sum.inr y.2.2.z, rfl, hD, ?_, same_app sg (Same.refl _) nD, ?_⟩
          · rw [List.length_map, List.length_take]
            rw [List.length_map] at hi
            exact Nat.lt_of_le_of_lt (Nat.min_le_left _ _) (Nat.lt_of_lt_of_le hi (Nat.le_trans hp.l6 (by decide)))
          · rw [upd_same, put_row (f := fun y => V.ref y.1) hp.nd hy]
        rintro H6 ⟨s56, hD⟩
        rw [List.length_map, List.take_length] at hD
        have hg6 := s56 _ _ hg5
        have nDg : D ≠ g := ne_of hD hg6 (by intro z; cases z)
        refine ⟨_, rfl, g, _, dx, _, rfl, hg6, T.c_Program, T.nC, (by show 2 < 1000; decide), ?_⟩
        have x7 : SameX g H (upd H6 g (.ins (CG K) dx (putF "_places" (.ref D) (putF "start" (.str z) (putF "names" (.ref tn) []))))) := (x5.trans (same_x s56)).trans SameX.upd
        have hg7 : (upd H6 g (.ins (CG K) dx (putF "_places" (.ref D) (putF "start" (.str z) (putF "names" (.ref tn) []))))) g = some (.ins (CG K) dx (putF "_places" (.ref D) (putF "start" (.str z) (putF "names" (.ref tn) [])))) := upd_same
        have hn7 : (upd H6 g (.ins (CG K) dx (putF "_places" (.ref D) (putF "start" (.str z) (putF "names" (.ref tn) []))))) tn = some (.tup ((zsOf xs).map V.str)) := by rw [upd_ne ngt]; exact s56 _ _ hn5
        have hD7 : (upd H6 g (.ins (CG K) dx (putF "_places" (.ref D) (putF "start" (.str z) (putF "names" (.ref tn) []))))) D = some (.dK (kvP xs)) := by rw [upd_ne nDg]; exact hD
        generalize upd H6 g (.ins (CG K) dx (putF "_places" (.ref D) (putF "start" (.str z) (putF "names" (.ref tn) [])))) = H7 at x7 hg7 hn7 hD7 ⊢
        have nD0 := none_x x5 nDg nD
        clear hg6 hD s56 nD hp5 hn5 hg5 x5 H6 H5
        have hp7 := hp.extX hg x7
        obtain ⟨kvs, hN, hl, hv⟩ := hp7.nx
        refine ⟨_, rfl, tn, rfl, ⟨_, SqT.of hn7⟩, fun D2 nD2 => dc_it walk_tup (fun i H' => Same H7 H' ∧ H' D2 = some (.dK ((xs.take i).map fun y => ((Sum.inr y.2.2.z : Key), V.ref y.2.1)))) ⟨same_new nD2, by rw [upd_same]; rfl⟩ (fun i H' _ h => SqT.ext (SqT.of hn7) h.1) ?_ ?_⟩
        · rintro i x H8 H' hi ⟨sg, hD2⟩ ⟨rfl, hx⟩
          obtain ⟨y, hy, rfl⟩ := zsAt hx
          refine ⟨rfl, _, rfl, _, rfl, _, rfl, N, _, rfl, dget_of (sg _ _ hN) (hv y (List.mem_of_getElem? hy)), _, Sum.inr y.2.2.z, rfl, hD2, ?_, same_app sg (Same.refl _) nD2, ?_⟩
          · rw [List.length_map, List.length_take]
            rw [List.length_map, hlz] at hi
            exact Nat.lt_of_le_of_lt (Nat.min_le_left _ _) (Nat.lt_of_lt_of_le hi (Nat.le_trans hp.l6 (by decide)))
          · rw [upd_same, put_row (f := fun y => V.ref y.2.1) hp.nd hy]
        rintro H8 ⟨s78, hD2⟩
        rw [List.length_map, hlz, List.take_length] at hD2
        have hg8 := s78 _ _ hg7
        have nDg2 : D2 ≠ g := ne_of hD2 hg8 (by intro z; cases z)
        refine ⟨_, rfl, g, _, dx, _, rfl, hg8, T.c_Program, T.nD, (by show 3 < 1000; decide), ?_⟩
        exact fin _ ((x7.trans (same_x s78)).trans SameX.upd) (by rw [upd_ne ngt]; exact s78 _ _ hn7) D (by rw [upd_ne nDg]; exact s78 _ _ hD7) D2 (by rw [upd_ne nDg2]; exact hD2) upd_same nD0 (none_x x7 nDg2 nD2)
      · refine ⟨_, rfl, rfl, false, rfl, iteF ?_⟩
        refine ⟨_, rfl, _, rfl, g, _, dx, [], rfl, hg4, T.c_Program, T.nA, (by show 0 < 1000; decide), ?_⟩
        have a0 : atI ((zsOf xs).map V.str) 0 = some (.str z) := atI_nat (j := 0) (by rw [List.getElem?_map, h0]; rfl)
        have hn4' : (upd H4 g (.ins (CG K) dx (putF "names" (.ref tn) []))) tn = some (.tup ((zsOf xs).map V.str)) := by rw [upd_ne ngt]; exact hn4
        refine ⟨_, rfl, rfl, true, rfl, iteT ⟨_, rfl, tn, _, 0, .str z, rfl, rfl, SqT.of hn4', a0, _, rfl, g, _, dx, _, rfl, upd_same, T.c_Program, T.nB, (by show 1 < 1000; decide), ?_⟩⟩
        clear hn4' a0
        have x5 : SameX g H (upd (upd H4 g (.ins (CG K) dx (putF "names" (.ref tn) []))) g (.ins (CG K) dx (putF "start" (.str z) (putF "names" (.ref tn) [])))) := (same_x s4).trans (SameX.upd.trans SameX.upd)
        have hg5 : (upd (upd H4 g (.ins (CG K) dx (putF "names" (.ref tn) []))) g (.ins (CG K) dx (putF "start" (.str z) (putF "names" (.ref tn) [])))) g = some (.ins (CG K) dx (putF "start" (.str z) (putF "names" (.ref tn) []))) := upd_same
        have hn5 : (upd (upd H4 g (.ins (CG K) dx (putF "names" (.ref tn) []))) g (.ins (CG K) dx (putF "start" (.str z) (putF "names" (.ref tn) [])))) tn = some (.tup ((zsOf xs).map V.str)) := by rw [upd_ne ngt, upd_ne ngt]; exact hn4
        generalize upd (upd H4 g (.ins (CG K) dx (putF "names" (.ref tn) []))) g (.ins (CG K) dx (putF "start" (.str z) (putF "names" (.ref tn) []))) = H5 at x5 hg5 hn5 ⊢
        clear hn4 hg4 s4 H4
        have hp5 := hp.extX hg x5
        refine ⟨_, rfl, L, rfl, ⟨_, SqT.of hp5.hL⟩, fun D nD => dc_it walk_tup (fun i H' => Same H5 H' ∧ H' D = some (.dK ((xs.take i).map fun y => ((Sum.inr y.2.2.z : Key), V.ref y.1)))) ⟨same_new nD, by rw [upd_same]; rfl⟩ (fun i H' _ h => SqT.ext (SqT.of hp5.hL) h.1) ?_ ?_⟩
        · rintro i x H6 H' hi ⟨sg, hD⟩ ⟨rfl, hx⟩
          obtain ⟨y, hy, rfl⟩ := getE hx
          obtain ⟨dy, ey⟩ := (hp5.pl y (List.mem_of_getElem? hy)).ext sg
          refine ⟨rfl, _, rfl, y.1, _, dy, _, _, rfl, ey, T.c_Place, T.nN, plf_name .., _, rfl, _, Sum.inr y.2.2.z, rfl, hD, ?_, same_app sg (Same.refl _) nD, ?_⟩
          · rw [List.length_map, List.length_take]
            rw [List.length_map] at hi
            exact Nat.lt_of_le_of_lt (Nat.min_le_left _ _) (Nat.lt_of_lt_of_le hi (Nat.le_trans hp.l6 (by decide)))
          · rw [upd_same, put_row (f := fun y => V.ref y.1) hp.nd hy]
        rintro H6 ⟨s56, hD⟩
        rw [List.length_map, List.take_length] at hD
        have hg6 := s56 _ _ hg5
        have nDg : D ≠ g := ne_of hD hg6 (by intro z; cases z)
        refine ⟨_, rfl, g, _, dx, _, rfl, hg6, T.c_Program, T.nC, (by show 2 < 1000; decide), ?_⟩
        have x7 : SameX g H (upd H6 g (.ins (CG K) dx (putF "_places" (.ref D) (putF "start" (.str z) (putF "names" (.ref tn) []))))) := (x5.trans (same_x s56)).trans SameX.upd
        have hg7 : (upd H6 g (.ins (CG K) dx (putF "_places" (.ref D) (putF "start" (.str z) (putF "names" (.ref tn) []))))) g = some (.ins (CG K) dx (putF "_places" (.ref D) (putF "start" (.str z) (putF "names" (.ref tn) [])))) := upd_same
        have hn7 : (upd H6 g (.ins (CG K) dx (putF "_places" (.ref D) (putF "start" (.str z) (putF "names" (.ref tn) []))))) tn = some (.tup ((zsOf xs).map V.str)) := by rw [upd_ne ngt]; exact s56 _ _ hn5
        have hD7 : (upd H6 g (.ins (CG K) dx (putF "_places" (.ref D) (putF "start" (.str z) (putF "names" (.ref tn) []))))) D = some (.dK (kvP xs)) := by rw [upd_ne nDg]; exact hD
        generalize upd H6 g (.ins (CG K) dx (putF "_places" (.ref D) (putF "start" (.str z) (putF "names" (.ref tn) [])))) = H7 at x7 hg7 hn7 hD7 ⊢
        have nD0 := none_x x5 nDg nD
        clear hg6 hD s56 nD hp5 hn5 hg5 x5 H6 H5
        have hp7 := hp.extX hg x7
        obtain ⟨kvs, hN, hl, hv⟩ := hp7.nx
        refine ⟨_, rfl, tn, rfl, ⟨_, SqT.of hn7⟩, fun D2 nD2 => dc_it walk_tup (fun i H' => Same H7 H' ∧ H' D2 = some (.dK ((xs.take i).map fun y => ((Sum.inr y.2.2.z : Key), V.ref y.2.1)))) ⟨same_new nD2, by rw [upd_same]; rfl⟩ (fun i H' _ h => SqT.ext (SqT.of hn7) h.1) ?_ ?_⟩
        · rintro i x H8 H' hi ⟨sg, hD2⟩ ⟨rfl, hx⟩
          obtain ⟨y, hy, rfl⟩ := zsAt hx
          refine ⟨rfl, _, rfl, _, rfl, _, rfl, N, _, rfl, dget_of (sg _ _ hN) (hv y (List.mem_of_getElem? hy)), _, Sum.inr y.2.2.z, rfl, hD2, ?_, same_app sg (Same.refl _) nD2, ?_⟩
          · rw [List.length_map, List.length_take]
            rw [List.length_map, hlz] at hi
            exact Nat.lt_of_le_of_lt (Nat.min_le_left _ _) (Nat.lt_of_lt_of_le hi (Nat.le_trans hp.l6 (by decide)))
          · rw [upd_same, put_row (f := fun y => V.ref y.2.1) hp.nd hy]
        rintro H8 ⟨s78, hD2⟩
        rw [List.length_map, hlz, List.take_length] at hD2
        have hg8 := s78 _ _ hg7
        have nDg2 : D2 ≠ g := ne_of hD2 hg8 (by intro z; cases z)
        refine ⟨_, rfl, g, _, dx, _, rfl, hg8, T.c_Program, T.nD, (by show 3 < 1000; decide), ?_⟩
        exact fin _ ((x7.trans (same_x s78)).trans SameX.upd) (by rw [upd_ne ngt]; exact s78 _ _ hn7) D (by rw [upd_ne nDg]; exact s78 _ _ hD7) D2 (by rw [upd_ne nDg2]; exact hD2) upd_same nD0 (none_x x7 nDg2 nD2)
theorem O_Program2k {fd : FuncData} (F : FunD K "__init__" "Program.__init__" (defArgs s_Program_init) (defBody s_Program_init) (defScope s_Program_init) [] [("start", .non)] (He.fAd K ("Program", some "__init__")) fd) (G : FnOk P w K mg base (L2.CX P w) 5 (He.fAd K ("Program", some "__init__")) fd ["self", "places", "nexts", "start"] (spPgI K)) :
    OkK P w K mg base (L2.CX P w) 5 ("Program", some "__init__") ["self", "places", "nexts", "start"] 3 ["start"] (fun vs zs => vs ++ zs) (spPgI K) := by
  obtain ⟨mv, b⟩ := F.kbinds0 (ps := ["self", "places", "nexts", "start"]) 3 ["start"] [] (fun us _ ws => us ++ ws) (by decide) (fun _ h => nomatch h) (fun r1 _ r4 => r1.append r4)
    fun D doc pm an cdv ct us mv ws h1 h3 h4 => match us, mv, ws, h1, h3, h4 with | [_, _, _], [], [_], _, _, _ => rfl
  exact ⟨fd, _, G, b⟩
theorem O_Program2 {fd : FuncData} (F : FunD K "__init__" "Program.__init__" (defArgs s_Program_init) (defBody s_Program_init) (defScope s_Program_init) [] [("start", .non)] (He.fAd K ("Program", some "__init__")) fd) (G : FnOk P w K mg base (L2.CX P w) 5 (He.fAd K ("Program", some "__init__")) fd ["self", "places", "nexts", "start"] (spPgI K)) :
    OkK P w K mg base (L2.CX P w) 5 ("Program", some "__init__") ["self", "places", "nexts", "start"] 3 [] (fun vs _ => vs ++ [.non]) (spPgI K) := by
  obtain ⟨mv, b⟩ := F.kbinds0 (ps := ["self", "places", "nexts", "start"]) 3 [] [("start", .non)] (fun us mv _ => us ++ mv) (by decide) (fun _ h => h) (fun r1 r2 _ => r1.append r2)
    fun D doc pm an cdv ct us mv ws h1 h3 h4 => match us, mv, ws, h1, h3, h4 with | [_, _, _], [_], [], _, _, _ => ⟨_, _, _, _, _, _, rfl, rfl, rfl⟩
  exact ⟨fd, _, G, b⟩
end
end K8

set_option Elab.async false
set_option linter.all false
set_option maxRecDepth 100000
set_option maxHeartbeats 2000000
namespace K8
open PySem PySem.Spec PyProof.Rows L2 Vf
section
variable {P : Program} {w : World} {K : PySem.W.Frag} {mg : Str → Option Value} {base : Heap}
structure GMeth (K : PySem.W.Frag) : Prop where
  p_eq : Meth K (He.ga K "Place") "__eq__" (He.fAd K ("Place", some "__eq__"))
  p_ne : PySem.W.findIn K (.ref (He.ga K "Place")) "__ne__" = some (some (.builtin "object.__ne__"))
  m_eq : Meth K (He.ga K "Program") "__eq__" (He.fAd K ("Program", some "__eq__"))
  m_ne : PySem.W.findIn K (.ref (He.ga K "Program")) "__ne__" = some (some (.builtin "object.__ne__"))
  m_contains : Meth K (He.ga K "Program") "__contains__" (He.fAd K ("Program", some "__contains__"))
  m_getitem : Meth K (He.ga K "Program") "__getitem__" (He.fAd K ("Program", some "__getitem__"))
  f_getitem : PySem.W.fnIn K (He.fAd K ("Program", some "__getitem__")) = true
abbrev s_NoPlace_init : Stmt := inClass (top 4) 0
theorem sc_NoPlace_init : FnScope ["self", "name"] ["self", "name"] (defScope s_NoPlace_init) := ⟨rfl, rfl, rfl, by decide +kernel, rfl, by decide +kernel, by decide +kernel⟩
-- slots: 0 self, 1 name
abbrev CNP (K : PySem.W.Frag) : Addr := He.ga K "NoPlace"
theorem ok_NoPlace_init {fd : FuncData} (F : FnD K ("NoPlace", some "__init__") "__init__" "NoPlace.__init__" s_NoPlace_init fd) : OkD P w K mg base CX0 1 ("NoPlace", some "__init__") ["self", "name"] [] (spExI K (CNP K) "name") := by
  refine okd F (F.ok sc_NoPlace_init (fun vs H Q E h => ?_) fun cdv A outer s H vs Q E hr h => ⟨tOst K "name" (tVar 0) (tVar 1), PSs.nox ?_, run_exI h⟩) fun _ _ _ _ _ _ us hl => match us, hl with | [_, _], _ => rfl
  · obtain ⟨a, v, rfl, _⟩ := h
    rfl
  · exact pss_one (ps_ost (pv 0) (pv 1))
abbrev s_Program_contains : Stmt := inClass (top 18) 4
theorem sc_Program_contains : FnScope ["self", "x"] ["self", "x"] (defScope s_Program_contains) := ⟨rfl, rfl, rfl, by decide +kernel, rfl, by decide +kernel, by decide +kernel⟩
-- slots: 0 self, 1 x
def spCon (K : PySem.W.Frag) : Sp := fun vs H Q _ => ∃ (g : Addr) (x : V) (xs : List PgE) (st : Str) (dx tn dP dN : Addr), vs = [.ref g, x] ∧ PgA K H g xs st dx tn dP dN ∧ ((∃ z, x = .str z ∧ Q (.bl (decide (z ∈ zsOf xs))) H) ∨ (OddS H x ∧ Q (.bl false) H))
theorem ok_Program_contains {fd : FuncData} (F : FnD K ("Program", some "__contains__") "__contains__" "Program.__contains__" s_Program_contains fd) (T : GTxt K mg) (O_is_one_of : OkF P w K mg base CX0 1 "is_one_of" ["x", "names"] (spOne K)) : OkM P w K mg base CX0 2 "Program" "__contains__" ["self", "x"] (spCon K) := by
  refine okd F (F.ok sc_Program_contains (fun vs H Q E h => ?_) fun cdv A outer s H vs Q E hr h => ?_) fun _ _ _ _ _ _ us hl => match us, hl with | [_, _], _ => rfl
  · obtain ⟨g, x, xs, st, dx, tn, dP, dN, rfl, _⟩ := h
    rfl
  · obtain ⟨g, x, xs, st, dx, tn, dP, dN, rfl, hp, h⟩ := h
    refine ⟨_, PSs.nox (pss_one (ps_ret (c_fn O_is_one_of hr (by decide) T.g_is_one_of pass0 (pa_cons (pv 1) (pa_cons (pe_fld (pv 0) rfl) pa_nil))))), ?_⟩
    exact ⟨_, rfl, _, rfl, g, _, dx, _, _, rfl, hp.hg, T.c_Program, T.nA, pgf_names .., x, tn, zsOf xs, rfl, SqT.of hp.hn, h⟩
abbrev s_Program_getitem : Stmt := inClass (top 18) 2
theorem sc_Program_getitem : FnScope ["self", "at"] ["self", "at"] (defScope s_Program_getitem) := ⟨rfl, rfl, rfl, by decide +kernel, rfl, by decide +kernel, by decide +kernel⟩
-- slots: 0 self, 1 at
def spGet (K : PySem.W.Frag) : Sp := fun vs H Q E => ∃ (g : Addr) (x : V) (xs : List PgE) (st : Str) (dx tn dP dN : Addr), vs = [.ref g, x] ∧ PgA K H g xs st dx tn dP dN ∧
  ((∃ (i : Nat) (y : PgE), xs[i]? = some y ∧ x = .str y.2.2.z ∧ Q (.ref y.1) H) ∨ (((∃ z, x = .str z ∧ z ∉ zsOf xs) ∨ OddS H x) ∧ ∀ d, H d = none → E (.ref (CNP K)) (some d) (upd H d (.xd [("name", x)]))))
theorem ok_Program_getitem {fd : FuncData} (F : FnD K ("Program", some "__getitem__") "__getitem__" "Program.__getitem__" s_Program_getitem fd) (T : GTxt K mg) (M : GMeth K) (O_contains : OkM P w K mg base CX0 2 "Program" "__contains__" ["self", "x"] (spCon K))
    (O_NoPlace_init : OkD P w K mg base CX0 1 ("NoPlace", some "__init__") ["self", "name"] [] (spExI K (CNP K) "name")) : OkM P w K mg base (L2.CX P w) 4 "Program" "__getitem__" ["self", "at"] (spGet K) := by
  refine okd F (F.ok sc_Program_getitem (fun vs H Q E h => ?_) fun cdv A outer s H vs Q E hr h => ?_) fun _ _ _ _ _ _ us hl => match us, hl with | [_, _], _ => rfl
  · obtain ⟨g, x, xs, st, dx, tn, dP, dN, rfl, _⟩ := h
    rfl
  · obtain ⟨g, x, xs, st, dx, tn, dP, dN, rfl, hp, h⟩ := h
    refine ⟨_, (pss_cons (ps_if (pt_cmpR (op_notInO M.m_contains O_contains hr (by decide)) (pv 1) (pv 0) rfl) (pss_one (c_raise T.x_NoPlace O_NoPlace_init hr (by decide) T.g_NoPlace (takes_of rfl rfl rfl rfl) (pa_cons (pv 1) pa_nil)))
  pss_nil)
  (pss_one (ps_ret (pe_dget (hu_of hr) (pe_fld (pv 0) rfl) (pv 1) (fun _ _ => rfl))))), ?_⟩
    rcases h with ⟨i, y, hy, rfl, q⟩ | ⟨hx, q⟩
    · have hm : y.2.2.z ∈ zsOf xs := List.mem_map_of_mem (List.mem_of_getElem? hy)
      refine ⟨_, rfl, _, rfl, g, dx, _, rfl, hp.hg, g, _, xs, st, dx, tn, dP, dN, rfl, hp, .inl ⟨_, rfl, _, rfl, false, by rw [decide_eq_true hm]; rfl, iteF ?_⟩⟩
      exact ⟨_, rfl, g, _, dx, _, _, rfl, hp.hg, T.c_Program, T.nC, pgf_places .., _, rfl, dP, _, rfl, dget_of hp.hP (val_row (f := fun y => V.ref y.1) hp.nd hy), q⟩
    · rcases hx with ⟨z, rfl, hz⟩ | o
      · exact ⟨_, rfl, _, rfl, g, dx, _, rfl, hp.hg, g, _, xs, st, dx, tn, dP, dN, rfl, hp, .inl ⟨_, rfl, _, rfl, true, by rw [decide_eq_false hz]; rfl, iteT ⟨_, rfl, _, rfl, fun d hd => q d hd⟩⟩⟩
      · exact ⟨_, rfl, _, rfl, g, dx, _, rfl, hp.hg, g, _, xs, st, dx, tn, dP, dN, rfl, hp, .inr ⟨o, _, rfl, true, rfl, iteT ⟨_, rfl, _, rfl, fun d hd => q d hd⟩⟩⟩
/-! ### two programs -/
def plOf (xs : List PgE) : List (Str × Int × Int × Bool) := xs.map fun x => (x.2.2.z, x.2.2.l, x.2.2.m, x.2.2.b)
def nsOf (xs : List PgE) : List (List Str) := xs.map fun x => x.2.2.ns
def pgB (xs xs' : List PgE) (st st' : Str) : Bool := decide (zsOf xs = zsOf xs') && (decide (plOf xs = plOf xs') && (decide (nsOf xs = nsOf xs') && decide (st = st')))
def zipAll (f : PgE → PgE → Bool) : List PgE → List PgE → Bool
  | y :: ys, y' :: ys' => f y y' && zipAll f ys ys'
  | _, _ => true
def plE (y y' : PgE) : Bool := plB y.2.2.z y'.2.2.z y.2.2.l y'.2.2.l y.2.2.m y'.2.2.m y.2.2.b y'.2.2.b
def nsE (y y' : PgE) : Bool := decide (y.2.2.ns = y'.2.2.ns)
theorem cons_dec {α : Type} [DecidableEq α] (a a' : α) (l l' : List α) : decide (a :: l = a' :: l') = (decide (a = a') && decide (l = l')) := by
  rw [Bool.eq_iff_iff]
  simp
theorem zip_pl : ∀ {ys ys' : List PgE}, ys.length = ys'.length → zipAll plE ys ys' = decide (plOf ys = plOf ys')
  | [], [], _ => rfl
  | y :: ys, y' :: ys', h => by
    have e : plE y y' = decide ((y.2.2.z, y.2.2.l, y.2.2.m, y.2.2.b) = (y'.2.2.z, y'.2.2.l, y'.2.2.m, y'.2.2.b)) := by
      unfold plE plB
      rw [Bool.eq_iff_iff]
      simp [Prod.ext_iff]
    show (plE y y' && zipAll plE ys ys') = decide ((y.2.2.z, y.2.2.l, y.2.2.m, y.2.2.b) :: plOf ys = (y'.2.2.z, y'.2.2.l, y'.2.2.m, y'.2.2.b) :: plOf ys')
    rw [cons_dec, zip_pl (Nat.succ.inj h), e]
theorem zip_ns : ∀ {ys ys' : List PgE}, ys.length = ys'.length → zipAll nsE ys ys' = decide (nsOf ys = nsOf ys')
  | [], [], _ => rfl
  | y :: ys, y' :: ys', h => by
    show (nsE y y' && zipAll nsE ys ys') = decide (y.2.2.ns :: nsOf ys = y'.2.2.ns :: nsOf ys')
    rw [cons_dec, zip_ns (Nat.succ.inj h)]
    rfl
theorem hits_rows {D : V → V → Bool → Prop} {f : PgE → V} {r : PgE → PgE → Bool} {xs' : List PgE} (nd : (zsOf xs').Nodup) : ∀ {ys ys' : List PgE}, (∀ y ∈ ys', ∃ i : Nat, xs'[i]? = some y) → zsOf ys = zsOf ys' → (∀ y ∈ ys, ∀ y' ∈ ys', D (f y) (f y') (r y y')) →
    DHits D (xs'.map fun y => ((Sum.inr y.2.2.z : Key), f y)) (ys.map fun y => ((Sum.inr y.2.2.z : Key), f y)) (zipAll r ys ys')
  | [], [], _, _, _ => .nil
  | [], _ :: _, _, h, _ => nomatch h
  | _ :: _, [], _, h, _ => nomatch h
  | y :: ys, y' :: ys', hi, hz, hd => by
    have h1 : y.2.2.z = y'.2.2.z := (List.cons.inj hz).1
    have h2 : zsOf ys = zsOf ys' := (List.cons.inj hz).2
    obtain ⟨i, e⟩ := hi y' (List.mem_cons_self ..)
    refine .hit (y := f y') ?_ (hd y (List.mem_cons_self ..) y' (List.mem_cons_self ..)) (hits_rows nd (fun v hv => hi v (List.mem_cons_of_mem _ hv)) h2 fun v hv v' hv' => hd v (List.mem_cons_of_mem _ hv) v' (List.mem_cons_of_mem _ hv'))
    rw [h1]
    exact val_row nd e
def strD (zs : List Str) : PyData := .tuple (zs.map PyData.str)
theorem strs_dp {H : Hp} : ∀ {zs : List Str}, DpAll K H (zs.map V.str) (zs.map PyData.str)
  | [] => .nil
  | _ :: _ => .cons (.str _) strs_dp
theorem strs_eq : ∀ {zs zs' : List Str}, PyData.eqvAll (zs.map PyData.str) (zs'.map PyData.str) = decide (zs = zs')
  | [], [] => rfl
  | [], _ :: _ => rfl
  | _ :: _, [] => rfl
  | z :: zs, z' :: zs' => by
    rw [cons_dec]
    show ((z == z') && PyData.eqvAll (zs.map PyData.str) (zs'.map PyData.str)) = _
    rw [strs_eq]
    rfl
end
end K8

set_option Elab.async false
set_option linter.all false
set_option maxRecDepth 100000
set_option maxHeartbeats 2000000
namespace K8
open PySem PySem.Spec PyProof.Rows L2 Vf
section
variable {P : Program} {w : World} {K : PySem.W.Frag} {mg : Str → Option Value} {base : Heap}
theorem nm_ok {z : Str} (h : nmB z = true) : PyData.strOk z = true := by
  unfold nmB at h
  simp only [Bool.and_eq_true] at h
  have h4 := h.2.2.2
  have hL : ∀ c ∈ LET.cps.toList, c < 0x110000 := by decide +kernel
  unfold PyData.strOk
  rw [Array.all_eq_true]
  intro i hi
  refine decide_eq_true (hL _ (of_decide_eq_true (List.all_eq_true.mp h4 _ ?_)))
  exact Array.getElem_mem_toList hi
theorem strs_lay : ∀ zs : List Str, (∀ z ∈ zs, nmB z = true) → PyData.canLayAll0 (zs.map PyData.str) = true ∧ PyData.depthAll (zs.map PyData.str) = 0
  | [], _ => ⟨rfl, rfl⟩
  | z :: zs, h => by
    obtain ⟨h1, h2⟩ := strs_lay zs fun y hy => h y (List.mem_cons_of_mem _ hy)
    have h3 := nm_ok (h z (List.mem_cons_self ..))
    refine ⟨?_, ?_⟩
    · show PyData.canLayAll0 (.str z :: zs.map PyData.str) = true
      simp [PyData.canLayAll0, PyData.canLay0, h1, h3]
    · show max (PyData.depth (.str z)) (PyData.depthAll (zs.map PyData.str)) = 0
      rw [h2]
      rfl
theorem strD_sh {zs : List Str} (h : ∀ z ∈ zs, nmB z = true) : SeqAt.shaped (strD zs) = true := by
  obtain ⟨h1, h2⟩ := strs_lay zs h
  unfold SeqAt.shaped strD
  have e : PyData.depth (.tuple (zs.map PyData.str)) = 1 := by
    show PyData.depthAll (zs.map PyData.str) + 1 = 1
    rw [h2]
  rw [e]
  simp [PyData.canLay0, h1]
theorem strD_dp {H : Hp} {t : Addr} {zs : List Str} (h : H t = some (.tup (zs.map V.str))) : Dp K H (.ref t) (strD zs) := .tup (SqT.of h) strs_dp
theorem strD_eq (zs zs' : List Str) : PyData.eqv (strD zs) (strD zs') = decide (zs = zs') := strs_eq
theorem plf_inj {z z' : Str} {l l' m m' : Int} {b b' : Bool} (h : plf z l m b = plf z' l' m' b') : z = z' ∧ l = l' ∧ m = m' ∧ b = b' := by
  have a1 := plf_name z l m b
  have a2 := plf_least z l m b
  have a3 := plf_most z l m b
  have a4 := plf_let z l m b
  rw [h] at a1 a2 a3 a4
  rw [plf_name] at a1
  rw [plf_least] at a2
  rw [plf_most] at a3
  rw [plf_let] at a4
  cases a1
  cases a2
  cases a3
  cases a4
  exact ⟨rfl, rfl, rfl, rfl⟩
theorem plE_same {K : PySem.W.Frag} {H : Hp} {y y' : PgE} (h : PlE K H y) (h' : PlE K H y') (e : y.1 = y'.1) : plE y y' = true := by
  obtain ⟨dx, h1⟩ := h
  obtain ⟨dy, h2⟩ := h'
  rw [e, h2] at h1
  injection h1 with h1
  injection h1 with _ _ h1
  obtain ⟨e1, e2, e3, e4⟩ := plf_inj h1
  unfold plE plB
  simp [e1, e2, e3, e4]
theorem nsE_same {H : Hp} {zs zs' : List Str} {y y' : PgE} (h : NsE H zs y) (h' : NsE H zs' y') (e : y.2.1 = y'.2.1) : nsE y y' = true := by
  have h1 := h.1
  rw [e, h'.1] at h1
  injection h1 with h1
  injection h1 with h1
  unfold nsE
  refine decide_eq_true ?_
  have := List.map_inj_right (f := V.str) (fun a b h => V.str.inj h) |>.mp h1
  exact this.symm
abbrev s_Program_eq : Stmt := inClass (top 18) 6
theorem sc_Program_eq : FnScope ["self", "other"] ["self", "other"] (defScope s_Program_eq) := ⟨rfl, rfl, rfl, by decide +kernel, rfl, by decide +kernel, by decide +kernel⟩
-- slots: 0 self, 1 other
def spPgE (K : PySem.W.Frag) : Sp := fun vs H Q _ => ∃ (g g' : Addr) (xs xs' : List PgE) (st st' : Str) (dx tn dP dN dx' tn' dP' dN' : Addr), vs = [.ref g, .ref g'] ∧ PgA K H g xs st dx tn dP dN ∧ PgA K H g' xs' st' dx' tn' dP' dN' ∧ dP ≠ dP' ∧ dN ≠ dN' ∧ ∀ H', Same H H' → Q (.bl (pgB xs xs' st st')) H'
theorem ok_Program_eq {fd : FuncData} (F : FnD K ("Program", some "__eq__") "__eq__" "Program.__eq__" s_Program_eq fd) (T : GTxt K mg) (M : GMeth K) (O_eq : OkM P w K mg base CX0 1 "Place" "__eq__" ["self", "other"] (spPlE (CP K))) : OkM P w K mg base CX0 4 "Program" "__eq__" ["self", "other"] (spPgE K) := by
  refine okd F (F.ok sc_Program_eq (fun vs H Q E h => ?_) fun cdv A outer s H vs Q E hr h => ?_) fun _ _ _ _ _ _ us hl => match us, hl with | [_, _], _ => rfl
  · obtain ⟨g, g', xs, xs', st, st', dx, tn, dP, dN, dx', tn', dP', dN', rfl, _⟩ := h
    rfl
  · obtain ⟨g, g', xs, xs', st, st', dx, tn, dP, dN, dx', tn', dP', dN', rfl, hp, hq, nP, nN, k⟩ := h
    refine ⟨_, PSs.nox (pss_one (ps_ret (pe_and (pe_callB (id := "isinstance") call_isi (by rfl) T.z_isinstance (by decide +kernel) (pa_cons (pv 1) (pa_cons (pe_cl T.g_Program) pa_nil))) (pe_and (pe_cmpR (op_eqD hr.units) (pe_fld (pv 0) rfl) (pe_fld (pv 1) rfl) (nomark _)) (pe_and (pe_cmpR (op_eqDB (n := 1) (eqB_oo M.p_eq O_eq pass0) (hr.mono (by decide))) (pe_fld (pv 0) rfl) (pe_fld (pv 1) rfl) (nomark _)) (pe_and (pe_cmpR (op_eqDB (n := 1) eqB_dat (hr.mono (by decide))) (pe_fld (pv 0) rfl) (pe_fld (pv 1) rfl) (nomark _)) (pe_one (pe_cmpR op_eq (pe_fld (pv 0) rfl) (pe_fld (pv 1) rfl) (nomark _))))))))), ?_⟩
    refine ⟨_, rfl, .ref g', .ref (CG K), .ref (CG K), .ref (CG K), true, rfl, .own _, .base (.ins hq.hg T.c_Program T.pa T.hn T.ht T.pm), T.pk, true, rfl, iteT ?_⟩
    unfold pgB at k
    refine ⟨_, rfl, g, _, dx, _, _, rfl, hp.hg, T.c_Program, T.nA, pgf_names .., _, rfl, g', _, dx', _, _, rfl, hq.hg, T.c_Program, T.nA, pgf_names .., _, _, strD_dp hp.hn, strD_dp hq.hn, strD_sh hp.nm, strD_sh hq.nm, ?_⟩
    rw [strD_eq]
    refine ⟨_, rfl, ?_⟩
    cases e1 : decide (zsOf xs = zsOf xs') with
    | false =>
      rw [e1] at k
      exact iteF (k H (Same.refl _))
    | true =>
      rw [e1] at k
      have hz := of_decide_eq_true e1
      have hl : xs.length = xs'.length := by
        have := congrArg List.length hz
        simpa [zsOf] using this
      have hl2 : (kvP xs).length = (kvP xs').length := by simpa [kvP] using hl
      have hl3 : (kvN xs).length = (kvN xs').length := by simpa [kvN] using hl
      refine iteT ⟨_, rfl, g, _, dx, _, _, rfl, hp.hg, T.c_Program, T.nC, pgf_places .., _, rfl, g', _, dx', _, _, rfl, hq.hg, T.c_Program, T.nC, pgf_places .., dP, dP', kvP xs, kvP xs', zipAll plE xs xs', rfl, rfl, nP, hp.hP, hq.hP, fun _ => ?_, fun H1 s1 => ?_⟩
      · refine hits_rows (f := fun y => V.ref y.1) hq.nd (fun y hy => List.mem_iff_getElem?.mp hy) hz fun y hy y' hy' H' keep => ?_
        have a1 : PlE K H' y := by
          obtain ⟨d1, h1⟩ := hp.pl y hy
          exact ⟨d1, keep _ _ (ne_of h1 hp.hP (by intro z; cases z)) (ne_of h1 hq.hP (by intro z; cases z)) h1⟩
        have a2 : PlE K H' y' := by
          obtain ⟨d1, h1⟩ := hq.pl y' hy'
          exact ⟨d1, keep _ _ (ne_of h1 hp.hP (by intro z; cases z)) (ne_of h1 hq.hP (by intro z; cases z)) h1⟩
        obtain ⟨d1, h1⟩ := id a1
        obtain ⟨d2, h2⟩ := id a2
        exact ⟨y.1, y'.1, d1, d2, _, _, rfl, rfl, h1, h2, fun e => plE_same a1 a2 e, y.1, y'.1, _, _, _, _, _, _, _, _, rfl, a1, a2, rfl, Ext.rfl'⟩
      rw [hl2, beq_self_eq_true, Bool.true_and, zip_pl hl]
      refine ⟨_, rfl, ?_⟩
      have hp1 := hp.ext s1
      have hq1 := hq.ext s1
      cases e2 : decide (plOf xs = plOf xs') with
      | false =>
        rw [e2] at k
        exact iteF (k H1 s1)
      | true =>
        rw [e2] at k
        refine iteT ⟨_, rfl, g, _, dx, _, _, rfl, hp1.hg, T.c_Program, T.nD, pgf_nexts .., _, rfl, g', _, dx', _, _, rfl, hq1.hg, T.c_Program, T.nD, pgf_nexts .., dN, dN', kvN xs, kvN xs', zipAll nsE xs xs', rfl, rfl, nN, hp1.hN, hq1.hN, fun _ => ?_, fun H2 s2 => ?_⟩
        · refine hits_rows (f := fun y => V.ref y.2.1) hq.nd (fun y hy => List.mem_iff_getElem?.mp hy) hz fun y hy y' hy' H' keep => ?_
          have h1 := (hp1.ns y hy).1
          have h2 := (hq1.ns y' hy').1
          have k1 := keep _ _ (ne_of h1 hp1.hN (by intro z; cases z)) (ne_of h1 hq1.hN (by intro z; cases z)) h1
          have k2 := keep _ _ (ne_of h2 hp1.hN (by intro z; cases z)) (ne_of h2 hq1.hN (by intro z; cases z)) h2
          exact ⟨_, _, strD_dp k1, strD_dp k2, strD_sh (fun z hm => hp.nm z ((hp1.ns y hy).2.1 z hm)), strD_sh (fun z hm => hq.nm z ((hq1.ns y' hy').2.1 z hm)), (strD_eq _ _).symm, fun e => nsE_same (hp1.ns y hy) (hq1.ns y' hy') (V.ref.inj e)⟩
        rw [hl3, beq_self_eq_true, Bool.true_and, zip_ns hl]
        refine ⟨_, rfl, ?_⟩
        have hp2 := hp1.ext s2
        have hq2 := hq1.ext s2
        cases e3 : decide (nsOf xs = nsOf xs') with
        | false =>
          rw [e3] at k
          exact iteF (k H2 (s1.trans s2))
        | true =>
          rw [e3] at k
          refine iteT ⟨_, rfl, g, _, dx, _, _, rfl, hp2.hg, T.c_Program, T.nB, pgf_start .., _, rfl, g', _, dx', _, _, rfl, hq2.hg, T.c_Program, T.nB, pgf_start .., rfl, ?_⟩
          show Q (.bl (decide (V.str st = V.str st'))) H2
          rw [str_dec]
          exact k H2 (s1.trans s2)
end
end K8

set_option Elab.async false
set_option linter.all false
set_option maxRecDepth 100000
set_option maxHeartbeats 2000000
namespace K8
open PySem PySem.Spec PyProof.Rows L2 Vf
section
variable {P : Program} {w : World} {K : PySem.W.Frag} {mg : Str → Option Value} {base : Heap}
structure Txt (K : PySem.W.Frag) (mg : Str → Option Value) : Prop extends GTxt K mg where
  z_range : mg "range" = none
  g_law_cell : mg "_law_cell" = some (.ref (He.ga K "_law_cell"))
  g_law_take : mg "_law_take" = some (.ref (He.ga K "_law_take"))
  g_law_name : mg "_law_name" = some (.ref (He.ga K "_law_name"))
  g_law_rows : mg "_law_rows" = some (.ref (He.ga K "_law_rows"))
  g_law_nexts : mg "_law_nexts" = some (.ref (He.ga K "_law_nexts"))
  g_law_program : mg "_law_program" = some (.ref (He.ga K "_law_program"))
  g_law_with : mg "_law_with" = some (.ref (He.ga K "_law_with"))
  g_law_chosen : mg "_law_chosen" = some (.ref (He.ga K "_law_chosen"))
  g_law_let_rows : mg "_law_let_rows" = some (.ref (He.ga K "_law_let_rows"))
  g_law_spoiled : mg "_law_spoiled" = some (.ref (He.ga K "_law_spoiled"))
abbrev s_law_take : Stmt := top 25
theorem sc_law_take : FnScope ["_law_draw", "_law_size", "_law_taken"] ["_law_draw", "_law_size"] (defScope s_law_take) := ⟨rfl, rfl, rfl, by decide +kernel, rfl, by decide +kernel, by decide +kernel⟩
-- slots: 0 _law_draw, 1 _law_size, 2 _law_taken
theorem ok_law_take {fd : FuncData} (F : FnD K ("_law_take", none) "_law_take" "_law_take" s_law_take fd) (T : Txt K mg) : OkF P w K mg base CX0 1 "_law_take" ["_law_draw", "_law_size"] spTake := by
  refine okd F (F.ok sc_law_take (fun vs H Q E h => ?_) fun cdv A outer s H vs Q E hr h => ?_) fun _ _ _ _ _ _ us hl => match us, hl with | [_, _], _ => rfl
  · obtain ⟨d, n, s, rfl, _⟩ := h
    rfl
  · obtain ⟨d, n, s, rfl, hd, s0, s1, q⟩ := h
    refine ⟨_, PSs.nox (pss_cons (ps_set (i := 2) sc_law_take.nd rfl (Or.inl rfl) (pe_op op_mod (pe_callTy call_int1 (by rfl) T.z_int (by decide +kernel) (pa_cons (pe_ix ix_list (pv 0) pe_int (fun _ _ => rfl)) pa_nil)) (pv 1)))
  (pss_cons (ps_asg (pe_op op_fdiv (pe_ix ix_list (pv 0) pe_int (fun _ _ => rfl)) (pv 1)) (pg_sub (pv 0) pe_int set_list))
  (pss_one (ps_ret (pv 2))))), ?_⟩
    refine ⟨_, rfl, d, [.int n], 0, .int n, rfl, rfl, SqL.of hd, atI0, .inl ⟨n, rfl, _, rfl, n, s, rfl, rfl, s0, ?_⟩⟩
    refine ⟨_, rfl, d, [.int n], 0, .int n, rfl, rfl, SqL.of hd, atI0, _, rfl, n, s, rfl, rfl, ⟨s0, s1⟩, ?_⟩
    refine ⟨_, rfl, d, [.int n], 0, 0, rfl, rfl, hd, ixN0, _, rfl, ?_⟩
    exact q (n % s) (n / s) (Int.emod_nonneg n (by omega)) (Int.emod_lt_of_pos n s0)
abbrev s_law_cell : Stmt := top 24
theorem sc_law_cell : FnScope ["_law_script", "_law_k", "_law_cell_here", "_law_number", "_law_total", "_law_step"] ["_law_script", "_law_k"] (defScope s_law_cell) := ⟨rfl, rfl, rfl, by decide +kernel, rfl, by decide +kernel, by decide +kernel⟩
-- slots: 0 _law_script, 1 _law_k, 2 _law_cell_here, 3 _law_number, 4 _law_total, 5 _law_step
theorem ok_law_cell {fd : FuncData} (F : FnD K ("_law_cell", none) "_law_cell" "_law_cell" s_law_cell fd) (T : Txt K mg) : OkF P w K mg base CX0 1 "_law_cell" ["_law_script", "_law_k"] (Vf.spCell K) := by
  refine okd F (F.ok sc_law_cell (fun vs H Q E h => ?_) fun cdv A outer s H vs Q E hr h => ?_) fun _ _ _ _ _ _ us hl => match us, hl with | [_, _], _ => rfl
  · obtain ⟨l, ns, j, rfl, _⟩ := h
    rfl
  · obtain ⟨l, ns, j, rfl, hS, hj, q⟩ := h
    refine ⟨_, PSs.nox (pss_cons (ps_set (i := 2) sc_law_cell.nd rfl (Or.inl rfl) pe_int)
  (C8.pss_cut (ps_if (pt_cmpR op_lt (pv 1) (pe_callB (id := "len") call_len_seq (by rfl) T.z_len (by decide +kernel) (pa_cons (pv 0) pa_nil)) (nomark _)) (pss_one (ps_set (i := 2) sc_law_cell.nd rfl (Or.inl rfl) (pe_ix ix_list (pv 0) (pv 1) (fun _ _ => rfl))))
  pss_nil)
  (pss_cons (ps_if (pt_cmpR op_ge (pv 2) (pe_op op_pow pe_int pe_int) (nomark _)) (pss_one (ps_ret (pv 2)))
  pss_nil)
  (pss_cons (ps_set (i := 3) sc_law_cell.nd rfl (Or.inl rfl) (pe_op op_mod (pe_callTy call_int1 (by rfl) T.z_int (by decide +kernel) (pa_cons (pe_op op_add (pe_op op_add (pe_op op_mul (pv 2) pe_int) (pe_op op_mul (pv 1) pe_int)) pe_int) pa_nil)) pe_int))
  (pss_cons (ps_set (i := 4) sc_law_cell.nd rfl (Or.inl rfl) pe_int)
  (pss_cons (ps_for PassesOwn.never rfl (pi_range1 rfl T.z_range (pa_cons pe_int pa_nil)) (pg_name (i := 5) sc_law_cell.nd rfl (Or.inl rfl))
  (pss_cons (ps_set (i := 3) sc_law_cell.nd rfl (Or.inl rfl) (pe_op op_mod (pe_callTy call_int1 (by rfl) T.z_int (by decide +kernel) (pa_cons (pe_op op_add (pe_op op_add (pe_op op_mul (pv 3) pe_int) (pe_op op_mul (pv 5) pe_int)) pe_int) pa_nil)) pe_int))
  (pss_cons (ps_set (i := 3) sc_law_cell.nd rfl (Or.inl rfl) (pe_op op_mod (pe_callTy call_int1 (by rfl) T.z_int (by decide +kernel) (pa_cons (pe_op op_mul (pv 3) (pe_op op_add (pe_op op_fdiv (pv 3) pe_int) pe_int)) pa_nil)) pe_int))
  (pss_one (ps_set (i := 4) sc_law_cell.nd rfl (Or.inl rfl) (pe_op op_add (pe_op op_mul (pv 4) pe_int) (pv 3)))))))
  (pss_one (ps_ret (pv 4))))))))), ?_⟩
    refine ⟨fun σ' H' => H' = H ∧ ∃ c : Int, σ' = [some (.ref l), some (.int (j : Int)), some (.int c), none, none, none], ?_, ?_⟩
    · refine ⟨_, rfl, _, rfl, l, _, rfl, .inl hS, _, _, rfl, rfl, _, rfl, ite2 (fun hlt => ?_) fun _ => ⟨rfl, 0, rfl⟩⟩
      have hj2 : j < ns.length := by
        have := of_decide_eq_true hlt
        rw [List.length_map] at this
        omega
      refine ⟨_, rfl, _, rfl, l, _, (j : Int), .int ns[j], rfl, rfl, hS, atI_nat ?_, rfl, _, rfl⟩
      rw [List.getElem?_map, List.getElem?_eq_getElem hj2]
      rfl
    rintro σ' H' ⟨rfl, c, rfl⟩
    refine ⟨_, rfl, 10, 18, rfl, rfl, ⟨by decide, by decide, by decide⟩, _, _, rfl, rfl, _, rfl, ite2 (fun _ => ⟨_, rfl, q c⟩) fun _ => ?_⟩
    refine ⟨_, rfl, c, 7, rfl, rfl, .inr ⟨by decide, by decide⟩, _, rfl, (j : Int), 7919, rfl, rfl, .inr ⟨by decide, by decide⟩, _, _, rfl, rfl, _, _, rfl, rfl, .inl ⟨_, rfl, _, 2147483647, rfl, rfl, (by show (0 : Int) < 2147483647; decide), ?_⟩⟩
    refine ⟨8, rfl, by decide, by decide, for_range (lo := 0) (n := 8) (fun i σ H1 => H1 = H' ∧ ∃ (num tot : Int) (v : Option V), 0 ≤ num ∧ num < 2147483647 ∧ σ = [some (.ref l), some (.int (j : Int)), some (.int c), some (.int num), some (.int tot), v]) ?_ ?_ ?_⟩
    · exact ⟨rfl, _, 0, none, Int.emod_nonneg _ (by decide), Int.emod_lt_of_pos _ (by decide), rfl⟩
    · rintro i σ H1 hi ⟨rfl, num, tot, v, h0, h1, rfl⟩
      refine ⟨_, rfl, num, 48271, rfl, rfl, .inr ⟨by decide, by decide⟩, _, rfl, _, 30103, rfl, rfl, .inr ⟨by decide, by decide⟩, _, _, rfl, rfl, _, 11, rfl, rfl, .inl ⟨_, rfl, _, 2147483647, rfl, rfl, (by show (0 : Int) < 2147483647; decide), ?_⟩⟩
      have b0 := Int.emod_nonneg (num * 48271 + (0 + (i : Int)) * 30103 + 11) (b := 2147483647) (by decide)
      have b1 := Int.emod_lt_of_pos (num * 48271 + (0 + (i : Int)) * 30103 + 11) (b := 2147483647) (by decide)
      refine ⟨_, rfl, _, rfl, _, 1009, rfl, rfl, ⟨by decide, by decide⟩, _, 69621, rfl, rfl, _, _, rfl, rfl, .inl ⟨by omega, by omega⟩, .inl ⟨_, rfl, _, 2147483629, rfl, rfl, (by show (0 : Int) < 2147483629; decide), ?_⟩⟩
      refine ⟨_, rfl, tot, 2147483629, rfl, rfl, .inr ⟨by decide, by decide⟩, _, rfl, _, _, rfl, rfl, ?_⟩
      exact ⟨rfl, _, _, _, Int.emod_nonneg _ (by decide), Int.lt_trans (Int.emod_lt_of_pos _ (by decide)) (by decide), rfl⟩
    · rintro σ H1 ⟨rfl, num, tot, v, h0, h1, rfl⟩
      exact ⟨_, rfl, q tot⟩
abbrev s_law_name : Stmt := top 26
theorem sc_law_name : FnScope ["_law_draw", "_law_used", "_law_letters", "_law_word", "_law_k", "_law_letter"] ["_law_draw", "_law_used"] (defScope s_law_name) := ⟨rfl, rfl, rfl, by decide +kernel, rfl, by decide +kernel, by decide +kernel⟩
-- slots: 0 _law_draw, 1 _law_used, 2 _law_letters, 3 _law_word, 4 _law_k, 5 _law_letter
/-- a name apart from the used ones -/
def spNam : Sp := fun vs H Q _ => ∃ (d u : Addr) (n : Int) (us : List Str), vs = [.ref d, .ref u] ∧ H d = some (.lst [.int n]) ∧ H u = some (.lst (us.map V.str)) ∧ u ≠ d ∧ us.length ≤ 6 ∧ ∀ H' (m : Int) z, SameX d H H' → H' d = some (.lst [.int m]) → nmB z = true → z.length ≤ 8 → z ∉ us → Q (.str z) H'
def okW (z : Str) (i : Nat) : Prop := z.length = i ∧ ∀ c ∈ z.cps.toList, c ∈ LET.cps.toList
theorem okW_nm {z : Str} {i : Nat} (h : okW z i) (h1 : 1 ≤ i) (h2 : i ≤ 8) (hk : inV (.str z) (KEPT.map V.str) = false) : nmB z = true := by
  unfold nmB
  rw [hk, h.1, decide_eq_true h1, decide_eq_true h2]
  simp only [Bool.true_and, Bool.not_false]
  rw [List.all_eq_true]
  exact fun c hc => decide_eq_true (h.2 c hc)
theorem okW_add {z : Str} {i c : Nat} (h : okW z i) (hc : c ∈ LET.cps.toList) : okW (z ++ ⟨#[c]⟩) (i + 1) := by
  have e : (z ++ (⟨#[c]⟩ : Str)).cps.toList = z.cps.toList ++ [c] := by
    show (z.cps ++ #[c]).toList = _
    simp
  refine ⟨?_, fun y hy => ?_⟩
  · show (z.cps ++ #[c]).size = i + 1
    rw [Array.size_append]
    have := h.1
    simp only [Str.length] at this
    simp [this]
  · rw [e] at hy
    rcases List.mem_append.mp hy with hy | hy
    · exact h.2 y hy
    · rw [List.mem_singleton] at hy
      rw [hy]
      exact hc
theorem let_nm {c : Nat} (h : c ∈ LET.cps.toList) : nmB ⟨#[c]⟩ = true := by
  have a : (LET.cps.toList.all fun c => nmB ⟨#[c]⟩) = true := by decide +kernel
  exact List.all_eq_true.mp a c h
theorem nodup_le {α : Type} [DecidableEq α] : ∀ {l u : List α}, l.Nodup → (∀ x ∈ l, x ∈ u) → l.length ≤ u.length
  | [], _, _, _ => Nat.zero_le _
  | a :: l, u, nd, h => by
    rw [List.nodup_cons] at nd
    have ha := h a (List.mem_cons_self ..)
    have h2 : ∀ x ∈ l, x ∈ u.erase a := fun x hx => by
      have hne : x ≠ a := fun e => nd.1 (e ▸ hx)
      exact (List.mem_erase_of_ne hne).mpr (h x (List.mem_cons_of_mem _ hx))
    have := nodup_le nd.2 h2
    rw [List.length_erase_of_mem ha] at this
    have hp : 0 < u.length := List.length_pos_of_mem ha
    rw [List.length_cons]
    omega
theorem some_letter {us : List Str} (h : us.length ≤ 6) : ¬ ∀ c ∈ LET.cps.toList, (⟨#[c]⟩ : Str) ∈ us := fun hall => by
  have nd : (LET.cps.toList.map fun c => (⟨#[c]⟩ : Str)).Nodup := by decide +kernel
  have := nodup_le nd (u := us) fun x hx => by
    obtain ⟨c, hc, rfl⟩ := List.mem_map.mp hx
    exact hall c hc
  rw [List.length_map] at this
  have e : LET.cps.toList.length = 26 := by decide +kernel
  omega
theorem ok_law_name {fd : FuncData} (F : FnD K ("_law_name", none) "_law_name" "_law_name" s_law_name fd) (T : Txt K mg) (O_law_take : OkF P w K mg base CX0 1 "_law_take" ["_law_draw", "_law_size"] spTake) : OkF P w K mg base CX0 2 "_law_name" ["_law_draw", "_law_used"] spNam := by
  refine okd F (F.ok sc_law_name (fun vs H Q E h => ?_) fun cdv A outer s H vs Q E hr h => ?_) fun _ _ _ _ _ _ us hl => match us, hl with | [_, _], _ => rfl
  · obtain ⟨d, u, n, us, rfl, _⟩ := h
    rfl
  · obtain ⟨d, u, n, us, rfl, hd, hu, nud, hus, k⟩ := h
    refine ⟨_, PSs.nox (pss_cons (ps_set (i := 2) sc_law_name.nd rfl (Or.inl rfl) pe_str)
  (pss_cons (ps_set (i := 3) sc_law_name.nd rfl (Or.inl rfl) pe_str)
  (pss_cons (ps_for PassesOwn.never rfl (pi_range1 rfl T.z_range (pa_cons (pe_op op_add pe_int (c_fn O_law_take hr (by decide) T.g_law_take pass0 (pa_cons (pv 0) (pa_cons pe_int pa_nil)))) pa_nil)) (pg_name (i := 4) sc_law_name.nd rfl (Or.inl rfl))
  (pss_one (ps_set (i := 3) sc_law_name.nd rfl (Or.inl rfl) (pe_op op_add_str (pv 3) (pe_ix ix_str (pv 2) (c_fn O_law_take hr (by decide) T.g_law_take pass0 (pa_cons (pv 0) (pa_cons pe_int pa_nil))) (fun _ _ => rfl))))))
  (pss_cons (ps_if (PW.pt (pw_and (pt_cmpR op_notIn_seq (pv 3) (pv 1) rfl) (pw_and1 (pt_cmpR op_notIn_seq (pv 3) (pe_lst (pa_cons pe_str (pa_cons pe_str (pa_cons pe_str (pa_cons pe_str (pa_cons pe_str pa_nil)))))) rfl)))) (pss_one (ps_ret (pv 3)))
  pss_nil)
  (pss_cons (ps_for PassesOwn.never rfl (pi_str (pv 2)) (pg_name (i := 5) sc_law_name.nd rfl (Or.inl rfl))
  (pss_one (ps_if (pt_cmpR op_notIn_seq (pv 5) (pv 1) rfl) (pss_one (ps_ret (pv 5)))
  pss_nil)))
  (pss_one (ps_ret (pv 3)))))))), ?_⟩
    refine ⟨_, rfl, d, n, 8, rfl, hd, by decide, by decide, fun r m r0 r1 => ⟨1, r, rfl, rfl, 1 + r, rfl, by omega, by omega, ?_⟩⟩
    refine for_range (lo := 0) (n := (1 + r).toNat) (fun i σ H' => SameX d H H' ∧ ∃ (m : Int) (z : Str) (v : Option V), H' d = some (.lst [.int m]) ∧ okW z i ∧ σ = [some (.ref d), some (.ref u), some (.str LET), some (.str z), v, none]) ⟨SameX.upd, m, "", none, upd_same, ⟨rfl, fun _ h => nomatch h⟩, rfl⟩ ?_ ?_
    · rintro i σ H' hi ⟨sg, m, z, v, hd', hw, rfl⟩
      refine ⟨_, rfl, _, rfl, _, rfl, d, m, 26, rfl, hd', by decide, by decide, fun q m2 q0 q1 => ?_⟩
      have hl26 : LET.cps.toList.length = 26 := by decide +kernel
      have hq : q.toNat < LET.cps.toList.length := by omega
      refine ⟨LET, q, LET.cps.toList[q.toNat], rfl, rfl, by decide +kernel, ?_, z, ⟨#[LET.cps.toList[q.toNat]]⟩, rfl, rfl, ?_, ?_⟩
      · have h := atI_nat (List.getElem?_eq_getElem hq)
        rw [Int.toNat_of_nonneg q0] at h
        exact h
      · have := hw.1
        have h1 : (⟨#[LET.cps.toList[q.toNat]]⟩ : Str).length = 1 := rfl
        rw [h1, this]
        exact Nat.le_trans (show i + 1 ≤ 9 by omega) (by decide)
      · exact ⟨sg.trans SameX.upd, m2, _, _, upd_same, okW_add hw (List.getElem_mem hq), rfl⟩
    · rintro σ H' ⟨sg, m, z, v, hd', hw, rfl⟩
      have hu' := sg _ _ nud hu
      have fin := fun H2 z' (s2 : Same H' H2) => k H2 m z' (sg.trans (same_x s2)) (s2 _ _ hd')
      -- the letters
      have letters : ∀ H2 : Hp, Same H' H2 → ∀ v : Option V, ∃ W : Nat → Nat → L2.St → Hp → Prop, True := fun _ _ _ => ⟨fun _ _ _ _ => True, trivial⟩
      clear letters
      refine ⟨_, rfl, _, rfl, u, _, rfl, .inl (SqL.of hu'), rfl, flat_str us, _, rfl, ?_⟩
      rw [inV_str]
      by_cases hz : z ∈ us
      · rw [decide_eq_true hz]
        refine iteF ⟨_, rfl, LET, rfl, for_it walk_str (fun i σ' H2 => H2 = H' ∧ (∀ j c, j < i → LET.cps[j]? = some c → (⟨#[c]⟩ : Str) ∈ us) ∧ ∃ v2, σ' = [some (.ref d), some (.ref u), some (.str LET), some (.str z), v, v2]) ⟨rfl, (fun j c h => absurd h (Nat.not_lt_zero _)), _, rfl⟩ (fun _ _ _ _ _ => trivial) ?_ ?_⟩
        · rintro i x σ' H2 H3 hi ⟨rfl, hin, v2, rfl⟩ ⟨rfl, c, hc, rfl⟩
          have hcm : c ∈ LET.cps.toList := by
            have : LET.cps.toList[i]? = some c := by simpa using hc
            exact List.mem_of_getElem? this
          refine ⟨_, rfl, _, rfl, u, _, rfl, .inl (SqL.of hu'), rfl, flat_str us, _, rfl, ?_⟩
          rw [inV_str]
          by_cases hcu : (⟨#[c]⟩ : Str) ∈ us
          · rw [decide_eq_true hcu]
            refine iteF ⟨rfl, fun j c' hj hc' => ?_, _, rfl⟩
            by_cases hji : j = i
            · subst hji
              rw [hc] at hc'
              cases hc'
              exact hcu
            · exact hin j c' (by omega) hc'
          · rw [decide_eq_false hcu]
            exact iteT ⟨_, rfl, fin _ _ (Same.refl _) (let_nm hcm) (show 1 ≤ 8 by decide) hcu⟩
        · rintro σ' H2 ⟨rfl, hin, v2, rfl⟩
          refine absurd (fun c hc => ?_) (some_letter hus)
          obtain ⟨j, hj⟩ := List.mem_iff_getElem?.mp hc
          have hj2 : LET.cps[j]? = some c := by simpa using hj
          exact hin j c (Array.getElem?_eq_some_iff.mp hj2).1 hj2
      · rw [decide_eq_false hz]
        refine iteT ⟨_, rfl, (by show 5 ≤ sizeLine; decide), fun L nL => ⟨L, KEPT.map V.str, rfl, .inl (SqL.of upd_same), rfl, by decide +kernel, _, rfl, ?_⟩⟩
        have sL := same_new (o := .lst (KEPT.map V.str)) nL
        cases hv : inV (.str z) (KEPT.map V.str) with
        | false => exact iteT ⟨_, rfl, fin _ _ sL (okW_nm hw (by omega) (by omega) hv) (by rw [hw.1]; omega) hz⟩
        | true =>
          have hu2 := sL _ _ hu'
          refine iteF ⟨_, rfl, LET, rfl, for_it walk_str (fun i σ' H2 => H2 = upd H' L (.lst (KEPT.map V.str)) ∧ (∀ j c, j < i → LET.cps[j]? = some c → (⟨#[c]⟩ : Str) ∈ us) ∧ ∃ v2, σ' = [some (.ref d), some (.ref u), some (.str LET), some (.str z), v, v2]) ⟨rfl, (fun j c h => absurd h (Nat.not_lt_zero _)), _, rfl⟩ (fun _ _ _ _ _ => trivial) ?_ ?_⟩
          · rintro i x σ' H2 H3 hi ⟨rfl, hin, v2, rfl⟩ ⟨rfl, c, hc, rfl⟩
            have hcm : c ∈ LET.cps.toList := by
              have : LET.cps.toList[i]? = some c := by simpa using hc
              exact List.mem_of_getElem? this
            refine ⟨_, rfl, _, rfl, u, _, rfl, .inl (SqL.of hu2), rfl, flat_str us, _, rfl, ?_⟩
            rw [inV_str]
            by_cases hcu : (⟨#[c]⟩ : Str) ∈ us
            · rw [decide_eq_true hcu]
              refine iteF ⟨rfl, fun j c' hj hc' => ?_, _, rfl⟩
              by_cases hji : j = i
              · subst hji
                rw [hc] at hc'
                cases hc'
                exact hcu
              · exact hin j c' (by omega) hc'
            · rw [decide_eq_false hcu]
              exact iteT ⟨_, rfl, fin _ _ sL (let_nm hcm) (show 1 ≤ 8 by decide) hcu⟩
          · rintro σ' H2 ⟨rfl, hin, v2, rfl⟩
            refine absurd (fun c hc => ?_) (some_letter hus)
            obtain ⟨j, hj⟩ := List.mem_iff_getElem?.mp hc
            have hj2 : LET.cps[j]? = some c := by simpa using hj
            exact hin j c (Array.getElem?_eq_some_iff.mp hj2).1 hj2
end
end K8

set_option Elab.async false
set_option linter.all false
set_option maxRecDepth 100000
set_option maxHeartbeats 2000000
namespace K8
open PySem PySem.Spec PyProof.Rows L2 Vf
section
variable {P : Program} {w : World} {K : PySem.W.Frag} {mg : Str → Option Value} {base : Heap}
/-- all but what stands at d and at e is as it was -/
def Same2 (d e : Addr) (H H' : Hp) : Prop := ∀ b o, b ≠ d → b ≠ e → H b = some o → H' b = some o
theorem Same2.x {d e : Addr} {H H1 H2 : Hp} (a : Same2 d e H H1) (b : SameX d H1 H2) : Same2 d e H H2 := fun c o n m h => b c o n (a c o n m h)
theorem Same2.y {d e : Addr} {H H1 H2 : Hp} (a : Same2 d e H H1) (b : SameX e H1 H2) : Same2 d e H H2 := fun c o n m h => b c o m (a c o n m h)
theorem Same2.s {d e : Addr} {H H1 H2 : Hp} (a : Same2 d e H H1) (b : Same H1 H2) : Same2 d e H H2 := fun c o n m h => b c o (a c o n m h)
/-- a row's list and the tuple of its nexts -/
def RowA (H : Hp) (y : PgE) : Prop := H y.1 = some (.lst [.str y.2.2.z, .int y.2.2.l, .int y.2.2.m, .bl y.2.2.b, .ref y.2.1]) ∧ H y.2.1 = some (.tup (y.2.2.ns.map V.str))
/-- the list at R: rows -/
structure RowsA (H : Hp) (R : Addr) (ys : List PgE) : Prop where
  hR : H R = some (.lst (ys.map fun y => V.ref y.1))
  row : ∀ y ∈ ys, RowA H y
theorem ref_int {ys : List PgE} {n : Int} : HO.lst (ys.map fun y => V.ref y.1) ≠ HO.lst [.int n] := fun z => by
  injection z with z
  cases ys with
  | nil => cases z
  | cons y ys => cases z
theorem RowA.ne_int {H : Hp} {y : PgE} {d : Addr} {n : Int} (h : RowA H y) (hd : H d = some (.lst [.int n])) : y.1 ≠ d ∧ y.2.1 ≠ d := ⟨ne_of h.1 hd (by intro z; cases z), ne_of h.2 hd (by intro z; cases z)⟩
theorem RowA.ne_R {H : Hp} {y : PgE} {R : Addr} {ys : List PgE} (h : RowA H y) (hR : H R = some (.lst (ys.map fun y => V.ref y.1))) : y.1 ≠ R ∧ y.2.1 ≠ R := by
  refine ⟨ne_of h.1 hR fun z => ?_, ne_of h.2 hR (by intro z; cases z)⟩
  injection z with z
  cases ys with
  | nil => cases z
  | cons y ys => cases z
theorem RowA.ext {H H' : Hp} {y : PgE} (h : RowA H y) (s : Same H H') : RowA H' y := ⟨s _ _ h.1, s _ _ h.2⟩
theorem RowsA.ext {H H' : Hp} {R : Addr} {ys : List PgE} (h : RowsA H R ys) (s : Same H H') : RowsA H' R ys := ⟨s _ _ h.hR, fun y hy => (h.row y hy).ext s⟩
theorem RowsA.extX {H H' : Hp} {R d : Addr} {n : Int} {ys : List PgE} (h : RowsA H R ys) (hd : H d = some (.lst [.int n])) (s : SameX d H H') : RowsA H' R ys := by
  refine ⟨s _ _ (ne_of h.hR hd ref_int) h.hR, fun y hy => ?_⟩
  have r := h.row y hy
  exact ⟨s _ _ (r.ne_int hd).1 r.1, s _ _ (r.ne_int hd).2 r.2⟩
theorem RowsA.add {H : Hp} {R a t : Addr} {r : Rw} {ys : List PgE} (h : RowsA H R ys) (hr : RowA H (a, t, r)) : RowsA (upd H R (.lst ((ys.map fun y => V.ref y.1) ++ [.ref a]))) R (ys ++ [(a, t, r)]) := by
  refine ⟨by rw [upd_same, List.map_append]; rfl, fun y hy => ?_⟩
  have hy' : RowA H y := by
    rcases List.mem_append.mp hy with hy | hy
    · exact h.row y hy
    · rw [List.mem_singleton] at hy
      rw [hy]
      exact hr
  exact ⟨by rw [upd_ne (hy'.ne_R h.hR).1]; exact hy'.1, by rw [upd_ne (hy'.ne_R h.hR).2]; exact hy'.2⟩
/-- a row whose list is made anew in place -/
theorem RowsA.put {H : Hp} {R : Addr} {k : Nat} {t : Addr} {y : PgE} {r : Rw} {ys : List PgE} (h : RowsA H R ys) (nd : (ys.map (·.1)).Nodup) (hk : ys[k]? = some y) (ht : H t = some (.tup (r.ns.map V.str))) (hz : t ≠ y.1) :
    RowsA (upd H y.1 (.lst [.str r.z, .int r.l, .int r.m, .bl r.b, .ref t])) R (ys.set k (y.1, t, r)) := by
  have hy := h.row y (List.mem_of_getElem? hk)
  have hlt : k < ys.length := (List.getElem?_eq_some_iff.mp hk).1
  refine ⟨?_, fun v hv => ?_⟩
  · rw [upd_ne (hy.ne_R h.hR).1.symm, h.hR]
    congr 2
    refine List.ext_getElem? fun i => ?_
    rw [List.getElem?_map, List.getElem?_map, List.getElem?_set]
    by_cases e : k = i
    · subst e
      rw [if_pos rfl, if_pos hlt, hk]
      rfl
    · rw [if_neg e]
  · obtain ⟨i, hi⟩ := List.mem_iff_getElem?.mp hv
    rw [List.getElem?_set] at hi
    by_cases e : k = i
    · subst e
      rw [if_pos rfl, if_pos hlt] at hi
      cases hi
      exact ⟨upd_same, by rw [upd_ne hz]; exact ht⟩
    · rw [if_neg e] at hi
      have hv' := h.row v (List.mem_of_getElem? hi)
      have hne : v.1 ≠ y.1 := fun q => by
        have h1 : (ys.map (·.1))[i]? = some v.1 := by rw [List.getElem?_map, hi]; rfl
        have h2 : (ys.map (·.1))[k]? = some v.1 := by rw [List.getElem?_map, hk, q]; rfl
        have hlt2 : k < (ys.map (·.1)).length := by rw [List.length_map]; exact hlt
        exact e ((List.getElem?_inj hlt2 nd).mp (h2.trans h1.symm))
      exact ⟨by rw [upd_ne hne]; exact hv'.1, by rw [upd_ne (ne_of hv'.2 hy.1 (by intro z; cases z))]; exact hv'.2⟩
theorem set_zs {ys : List PgE} {k : Nat} {y : PgE} {t : Addr} {r : Rw} (hk : ys[k]? = some y) (hz : r.z = y.2.2.z) : zsOf (ys.set k (y.1, t, r)) = zsOf ys := by
  unfold zsOf
  refine List.ext_getElem? fun i => ?_
  have hlt : k < ys.length := (List.getElem?_eq_some_iff.mp hk).1
  rw [List.getElem?_map, List.getElem?_map, List.getElem?_set]
  by_cases e : k = i
  · subst e
    rw [if_pos rfl, if_pos hlt, hk]
    show some r.z = some y.2.2.z
    rw [hz]
  · rw [if_neg e]
theorem set_ad {ys : List PgE} {k : Nat} {y : PgE} {t : Addr} {r : Rw} (hk : ys[k]? = some y) : (ys.set k (y.1, t, r)).map (·.1) = ys.map (·.1) := by
  refine List.ext_getElem? fun i => ?_
  have hlt : k < ys.length := (List.getElem?_eq_some_iff.mp hk).1
  rw [List.getElem?_map, List.getElem?_map, List.getElem?_set]
  by_cases e : k = i
  · subst e
    rw [if_pos rfl, if_pos hlt, hk]
    rfl
  · rw [if_neg e]
/-- what a row keeps: its name, its stay -/
def RowK (r : Rw) : Prop := nmB r.z = true ∧ r.z.length ≤ 8 ∧ 1 ≤ r.l ∧ r.l ≤ r.m ∧ r.m ≤ 6
structure RowsOk (ys : List PgE) : Prop where
  nd : (zsOf ys).Nodup
  l1 : 1 ≤ ys.length
  l6 : ys.length ≤ 6
  kp : ∀ y ∈ ys, RowK y.2.2
  ns : ∀ y ∈ ys, (∀ v ∈ y.2.2.ns, v ∈ zsOf ys) ∧ y.2.2.ns.Nodup
theorem mod_inj {n s w a b : Int} (hn : 1 ≤ n) (hn6 : n ≤ 6) (hw : w = 1 ∨ w = -1) (a0 : 0 ≤ a) (a1 : a < n) (b0 : 0 ≤ b) (b1 : b < n) (h : (s + w * a) % n = (s + w * b) % n) : a = b := by
  have h6 : n = 1 ∨ n = 2 ∨ n = 3 ∨ n = 4 ∨ n = 5 ∨ n = 6 := by omega
  rcases hw with rfl | rfl <;> rcases h6 with rfl | rfl | rfl | rfl | rfl | rfl <;> omega
theorem RowsA.extF {H H' : Hp} {R F : Addr} {ys : List PgE} {fs : List Str} (h : RowsA H R ys) (hn : ys ≠ []) (hF : H F = some (.lst (fs.map V.str))) (s : SameX F H H') : RowsA H' R ys := by
  refine ⟨s _ _ (ne_of h.hR hF fun z => ?_) h.hR, fun y hy => ?_⟩
  · injection z with z
    cases ys with
    | nil => exact hn rfl
    | cons y ys =>
      cases fs with
      | nil => cases z
      | cons f fs => cases z
  · have r := h.row y hy
    refine ⟨s _ _ (ne_of r.1 hF fun z => ?_) r.1, s _ _ (ne_of r.2 hF (by intro z; cases z)) r.2⟩
    injection z with z
    cases fs with
    | nil => cases z
    | cons f fs =>
      cases fs with
      | nil => cases z
      | cons g gs => cases z
theorem int_str {n : Int} {fs : List Str} : HO.lst [.int n] ≠ HO.lst (fs.map V.str) := fun z => by
  injection z with z
  cases fs with
  | nil => cases z
  | cons f fs => cases z
theorem ixN4 {n : Nat} : ixN (n + 5) 4 = some 4 := by
  unfold ixN
  rw [if_pos (by omega), if_pos (by omega)]
  all_goals rfl
abbrev s_law_rows : Stmt := top 27
theorem sc_law_rows : FnScope ["_law_draw", "_law_words", "_law_many", "_law_longest", "_law_rows_here", "_law_k", "_law_word", "_law_row_here", "_law_low", "_law_shift", "_law_way", "_law_found", "_law_j"] ["_law_draw", "_law_words", "_law_many", "_law_longest"] (defScope s_law_rows) := ⟨rfl, rfl, rfl, by decide +kernel, rfl, by decide +kernel, by decide +kernel⟩
-- slots: 0 _law_draw, 1 _law_words, 2 _law_many, 3 _law_longest, 4 _law_rows_here, 5 _law_k, 6 _law_word, 7 _law_row_here, 8 _law_low, 9 _law_shift, 10 _law_way, 11 _law_found, 12 _law_j
def spRows : Sp := fun vs H Q _ => ∃ (d e : Addr) (n n' mn lg : Int), vs = [.ref d, .ref e, .int mn, .int lg] ∧ H d = some (.lst [.int n]) ∧ H e = some (.lst [.int n']) ∧ d ≠ e ∧ 1 ≤ mn ∧ mn ≤ 6 ∧ 1 ≤ lg ∧ lg ≤ 6 ∧
  ∀ H' R ys, Same2 d e H H' → (∃ m : Int, H' d = some (.lst [.int m])) → RowsA H' R ys → RowsOk ys → (ys.map (·.1)).Nodup → H R = none → Q (.ref R) H'
theorem zs_add {ys : List PgE} {y : PgE} : zsOf (ys ++ [y]) = zsOf ys ++ [y.2.2.z] := List.map_append ..
theorem nodup_add {α : Type} {l : List α} {a : α} (h : l.Nodup) (n : a ∉ l) : (l ++ [a]).Nodup := List.nodup_append.mpr ⟨h, by simp, fun x hx y hy => by
  rw [List.mem_singleton] at hy
  rw [hy]
  exact fun e => n (e ▸ hx)⟩
theorem ok_law_rows {fd : FuncData} (F : FnD K ("_law_rows", none) "_law_rows" "_law_rows" s_law_rows fd) (T : Txt K mg) (O_law_take : OkF P w K mg base CX0 1 "_law_take" ["_law_draw", "_law_size"] spTake) (O_law_name : OkF P w K mg base CX0 2 "_law_name" ["_law_draw", "_law_used"] spNam) : OkF P w K mg base CX0 3 "_law_rows" ["_law_draw", "_law_words", "_law_many", "_law_longest"] spRows := by
  refine okd F (F.ok sc_law_rows (fun vs H Q E h => ?_) fun cdv A outer s H vs Q E hr h => ?_) fun _ _ _ _ _ _ us hl => match us, hl with | [_, _, _, _], _ => rfl
  · obtain ⟨d, e, n, n', mn, lg, rfl, _⟩ := h
    rfl
  · obtain ⟨d, e, n, n', mn, lg, rfl, hd, he, nde, m1, m6, g1, g6, k⟩ := h
    refine ⟨_, PSs.nox (pss_cons (ps_set (i := 4) sc_law_rows.nd rfl (Or.inl rfl) (pe_lst pa_nil))
  (pss_cons (ps_for PassesOwn.never rfl (pi_range1 rfl T.z_range (pa_cons (pe_op op_add pe_int (c_fn O_law_take hr (by decide) T.g_law_take pass0 (pa_cons (pv 0) (pa_cons (pv 2) pa_nil)))) pa_nil)) (pg_name (i := 5) sc_law_rows.nd rfl (Or.inl rfl))
  (pss_cons (ps_set (i := 6) sc_law_rows.nd rfl (Or.inl rfl) (c_fn O_law_name hr (by decide) T.g_law_name pass0 (pa_cons (pv 1) (pa_cons (pe_lc (own := [("_law_row_here", 7)]) (g := gName 7) (tt := tYes) (by rfl) sc_law_rows.nd (pi_list (pv 4)) (blkOk_by (N := ["_law_draw", "_law_words", "_law_many", "_law_longest", "_law_rows_here", "_law_k", "_law_word", "_law_row_here", "_law_low", "_law_shift", "_law_way", "_law_found", "_law_j"]) (sc := defScope s_law_rows) (by decide +kernel)) (fun _ _ _ _ _ => pg_name (i := 7) sc_law_rows.nd rfl (Or.inl rfl)) (fun _ _ _ _ _ => pts_nil) (fun _ _ _ _ _ => (pe_ix (ix_listK (K := K) rfl) (pv 7) pe_int (fun _ _ => rfl)))) pa_nil))))
  (pss_cons (ps_set (i := 8) sc_law_rows.nd rfl (Or.inl rfl) (pe_op op_add pe_int (c_fn O_law_take hr (by decide) T.g_law_take pass0 (pa_cons (pv 0) (pa_cons (pv 3) pa_nil)))))
  (pss_one (ps_expr (pe_bm PySem.F.plainAttrs_list PySem.F.slot_list_append PySem.F.type_list_append mt_append (pv 4) (pa_cons (pe_lst (pa_cons (pv 6) (pa_cons (pv 8) (pa_cons (pe_op op_add (pv 8) (c_fn O_law_take hr (by decide) T.g_law_take pass0 (pa_cons (pv 0) (pa_cons (pe_op op_sub (pe_op op_add (pv 3) pe_int) (pv 8)) pa_nil)))) (pa_cons (pe_cmpR op_gt (c_fn O_law_take hr (by decide) T.g_law_take pass0 (pa_cons (pv 0) (pa_cons pe_int pa_nil))) pe_int (nomark _)) (pa_cons (pe_tup pa_nil) pa_nil)))))) pa_nil)))))))
  (pss_cons (ps_for PassesOwn.never rfl (pi_range1 rfl T.z_range (pa_cons (pe_callB (id := "len") call_len_seq (by rfl) T.z_len (by decide +kernel) (pa_cons (pv 4) pa_nil)) pa_nil)) (pg_name (i := 5) sc_law_rows.nd rfl (Or.inl rfl))
  (pss_cons (ps_set (i := 9) sc_law_rows.nd rfl (Or.inl rfl) (c_fn O_law_take hr (by decide) T.g_law_take pass0 (pa_cons (pv 0) (pa_cons (pe_callB (id := "len") call_len_seq (by rfl) T.z_len (by decide +kernel) (pa_cons (pv 4) pa_nil)) pa_nil))))
  (pss_cons (ps_set (i := 10) sc_law_rows.nd rfl (Or.inl rfl) (pe_op op_sub pe_int (pe_op op_mul pe_int (c_fn O_law_take hr (by decide) T.g_law_take pass0 (pa_cons (pv 0) (pa_cons pe_int pa_nil))))))
  (pss_cons (ps_set (i := 11) sc_law_rows.nd rfl (Or.inl rfl) (pe_lst pa_nil))
  (pss_cons (ps_for PassesOwn.never rfl (pi_range1 rfl T.z_range (pa_cons (pe_callB (id := "len") call_len_seq (by rfl) T.z_len (by decide +kernel) (pa_cons (pv 4) pa_nil)) pa_nil)) (pg_name (i := 12) sc_law_rows.nd rfl (Or.inl rfl))
  (pss_one (ps_if (pt_cmpR op_gt (c_fn O_law_take hr (by decide) T.g_law_take pass0 (pa_cons (pv 0) (pa_cons pe_int pa_nil))) pe_int (nomark _)) (pss_one (ps_expr (pe_bm PySem.F.plainAttrs_list PySem.F.slot_list_append PySem.F.type_list_append mt_append (pv 11) (pa_cons (pe_ix ix_list (pe_ix ix_list (pv 4) (pe_op op_mod (pe_op op_add (pv 9) (pe_op op_mul (pv 10) (pv 12))) (pe_callB (id := "len") call_len_seq (by rfl) T.z_len (by decide +kernel) (pa_cons (pv 4) pa_nil))) (fun _ _ => rfl)) pe_int (fun _ _ => rfl)) pa_nil))))
  pss_nil)))
  (pss_cons (ps_set (i := 7) sc_law_rows.nd rfl (Or.inl rfl) (pe_ix ix_list (pv 4) (pv 5) (fun _ _ => rfl)))
  (pss_one (ps_asg (pe_callTy call_tuple_of (by rfl) T.z_tuple (by decide +kernel) (pa_cons (pv 11) pa_nil)) (pg_sub (pv 7) pe_int set_list)))))))))
  (pss_one (ps_ret (pv 4)))))), ?_⟩
    refine ⟨(by show 0 ≤ sizeLine; decide), fun R nR => ?_⟩
    have nRd : R ≠ d := (ne_of_none hd nR).symm
    have nRe : R ≠ e := (ne_of_none he nR).symm
    have hd0 := same_new (o := .lst []) nR _ _ hd
    have he0 := same_new (o := .lst []) nR _ _ he
    have s0 : Same2 d e H (upd H R (.lst [])) := fun b o _ _ h => same_new nR _ _ h
    have hR0 : (upd H R (.lst [])) R = some (.lst []) := upd_same
    generalize upd H R (.lst []) = H0 at hd0 he0 s0 hR0 ⊢
    refine ⟨_, rfl, _, rfl, d, n, mn, rfl, hd0, by omega, by omega, fun r m r0 r1 => ⟨1, r, rfl, rfl, 1 + r, rfl, by omega, by omega, ?_⟩⟩
    have hRm : (upd H0 d (.lst [.int m])) R = some (.lst []) := by rw [upd_ne nRd]; exact hR0
    have hem : (upd H0 d (.lst [.int m])) e = some (.lst [.int n']) := by rw [upd_ne nde.symm]; exact he0
    refine for_range (lo := 0) (n := (1 + r).toNat) (fun i σ H' => Same2 d e H H' ∧ (∃ m : Int, H' d = some (.lst [.int m])) ∧ (∃ m : Int, H' e = some (.lst [.int m])) ∧ ∃ (ys : List PgE) (v5 v6 v8 : Option V), RowsA H' R ys ∧ ys.length = i ∧ (zsOf ys).Nodup ∧ (ys.map (·.1)).Nodup ∧ (∀ y ∈ ys, RowK y.2.2 ∧ y.2.2.ns = []) ∧ (∀ a ∈ ys.map (·.1), H a = none) ∧
      σ = [some (.ref d), some (.ref e), some (.int mn), some (.int lg), some (.ref R), v5, v6, none, v8, none, none, none, none]) ⟨s0.x SameX.upd, ⟨m, upd_same⟩, ⟨n', hem⟩, [], none, none, none, ⟨hRm, fun _ h => nomatch h⟩, rfl, List.nodup_nil, List.nodup_nil, (fun _ h => nomatch h), (fun _ h => nomatch h), rfl⟩ ?_ ?_
    · clear hRm hem hR0 s0 he0 hd0 hd he H0 n n' m
      rintro i σ H1 hi ⟨sg, ⟨m, hd⟩, ⟨m', he⟩, ys, v5, v6, v8, hR, hl, hz, ha, hk, hfr, rfl⟩
      have hi6 : ys.length ≤ 5 := by omega
      have hlz : (zsOf ys).length = ys.length := List.length_map ..
      -- the used names
      refine ⟨_, rfl, _, rfl, R, rfl, ⟨_, SqL.of hR.hR⟩, fun D nD => lc_it walk_list (fun i H' => Same H1 H' ∧ H' D = some (.lst (((zsOf ys).take i).map V.str))) ⟨same_new nD, upd_same⟩ (fun i H' _ h => h.1.seq (SqL.of hR.hR)) ?_ ?_⟩
      · rintro j x H3 H' hj ⟨sg3, hD3⟩ ⟨rfl, hx⟩
        obtain ⟨y, hy, rfl⟩ := getE hx
        have hyr := ((hR.ext sg3).row y (List.mem_of_getElem? hy)).1
        refine ⟨rfl, _, rfl, y.1, _, 0, .str y.2.2.z, rfl, rfl, SqL.of hyr, atI0, ?_⟩
        refine ⟨_, hD3, ?_, same_app sg3 (Same.refl _) nD, ?_⟩
        · rw [List.length_map, List.length_take]
          rw [List.length_map] at hj
          exact Nat.lt_of_le_of_lt (Nat.min_le_left _ _) (Nat.lt_of_lt_of_le hj (Nat.le_trans hi6 (by decide)))
        · rw [upd_same, List.take_add_one, List.map_append]
          have : (zsOf ys)[j]? = some y.2.2.z := by
            unfold zsOf
            rw [List.getElem?_map, hy]
            rfl
          rw [this]
          rfl
      rintro H2 ⟨s12, hD⟩
      rw [List.length_map, ← hlz, List.take_length] at hD
      have hd2 := s12 _ _ hd
      have he2 := s12 _ _ he
      have hR2 := hR.ext s12
      have nDe : D ≠ e := (ne_of_none he nD).symm
      refine ⟨e, D, m', zsOf ys, rfl, he2, hD, nDe, by omega, fun H3 m3 z x3 he3 hz1 hz8 hzn => ?_⟩
      have hd3 := x3 _ _ nde hd2
      have hR3 := hR2.extX he2 x3
      have sg3 := (sg.s s12).y x3
      clear hR2 he2 hd2 x3 nDe hD s12 nD hR he hd sg H1 H2
      -- the stay
      refine ⟨_, rfl, _, rfl, d, m, lg, rfl, hd3, by omega, by omega, fun lo m4 lo0 lo1 => ⟨1, lo, rfl, rfl, ?_⟩⟩
      have hd4 : (upd H3 d (.lst [.int m4])) d = some (.lst [.int m4]) := upd_same
      have he4 : (upd H3 d (.lst [.int m4])) e = some (.lst [.int m3]) := by rw [upd_ne nde.symm]; exact he3
      have hR4 := hR3.extX hd3 (SameX.upd (o := .lst [.int m4]))
      have sg4 := sg3.x (SameX.upd (d := d) (H := H3) (o := .lst [.int m4]))
      generalize upd H3 d (.lst [.int m4]) = H4 at hd4 he4 hR4 sg4 ⊢
      clear hR3 he3 hd3 sg3 H3
      refine ⟨_, rfl, .inl ⟨rfl, _, SqL.of hR4.hR⟩, _, rfl, _, rfl, _, rfl, _, rfl, _, rfl, lg, 1, rfl, rfl, _, rfl, lg + 1, 1 + lo, rfl, rfl, d, m4, lg + 1 - (1 + lo), rfl, hd4, by omega, by omega, fun q m5 q0 q1 => ⟨1 + lo, q, rfl, rfl, _, rfl, d, m5, 3, rfl, upd_same, by decide, by decide, fun q' m6 q0' q1' => ⟨q', 0, rfl, rfl, (by show 0 ≤ sizeLine; decide), fun t nt => ⟨(by show 5 ≤ sizeLine; decide), fun a na => ?_⟩⟩⟩⟩
      have x5 : SameX d H4 (upd (upd H4 d (.lst [.int m5])) d (.lst [.int m6])) := SameX.upd.trans SameX.upd
      have hd5 : (upd (upd H4 d (.lst [.int m5])) d (.lst [.int m6])) d = some (.lst [.int m6]) := upd_same
      have he5 := x5 _ _ nde.symm he4
      have hR5 := hR4.extX hd4 x5
      have sg5 := sg4.x x5
      generalize upd (upd H4 d (.lst [.int m5])) d (.lst [.int m6]) = H5 at hd5 he5 hR5 sg5 nt na ⊢
      clear x5 hR4 he4 hd4 sg4 H4
      have st := same_new (o := .tup []) nt
      have sa := same_new (o := .lst [.str z, .int (1 + lo), .int (1 + lo + q), .bl (decide (q' > 0)), .ref t]) na
      have hrow : RowA (upd (upd H5 t (.tup [])) a (.lst [.str z, .int (1 + lo), .int (1 + lo + q), .bl (decide (q' > 0)), .ref t])) (a, t, ⟨z, 1 + lo, 1 + lo + q, decide (q' > 0), []⟩) := ⟨upd_same, sa _ _ upd_same⟩
      have hd6 := sa _ _ (st _ _ hd5)
      have he6 := sa _ _ (st _ _ he5)
      have hR6 := hR5.ext (st.trans sa)
      have sg6 := sg5.s (st.trans sa)
      have nad : a ≠ d := (ne_of_none (st _ _ hd5) na).symm
      have nae : a ≠ e := (ne_of_none (st _ _ he5) na).symm
      have na0 : H a = none := by
        cases q : H a with
        | none => rfl
        | some o =>
          have := st _ _ (sg5 a o nad nae q)
          rw [na] at this
          cases this
      have nas : a ∉ ys.map (·.1) := fun hm => by
        obtain ⟨y, hy, e⟩ := List.mem_map.mp hm
        have := st _ _ (hR5.row y hy).1
        rw [e, na] at this
        cases this
      generalize hG : upd (upd H5 t (.tup [])) a (.lst [.str z, .int (1 + lo), .int (1 + lo + q), .bl (decide (q' > 0)), .ref t]) = H6 at hrow hd6 he6 hR6 sg6 ⊢
      clear hG sa st na nt hR5 he5 hd5 sg5 H5
      refine ⟨R, _, .ref a, rfl, rfl, hR6.hR, ?_, ?_⟩
      · rw [List.length_map]
        exact Nat.lt_of_le_of_lt hi6 (by decide)
      have hR7 := hR6.add hrow
      have nRd' : d ≠ R := nRd.symm
      refine ⟨fun b o h1 h2 h3 => ?_, ⟨m6, by rw [upd_ne nRd']; exact hd6⟩, ⟨m3, by rw [upd_ne nRe.symm]; exact he6⟩, ys ++ [(a, t, ⟨z, 1 + lo, 1 + lo + q, decide (q' > 0), []⟩)], _, _, _, hR7, by rw [List.length_append, hl]; rfl, ?_, ?_, ?_, ?_, rfl⟩
      · rw [upd_ne (ne_of_none h3 nR)]
        exact sg6 b o h1 h2 h3
      · rw [zs_add]
        exact nodup_add hz hzn
      · rw [List.map_append]
        exact nodup_add ha nas
      · intro y hy
        rcases List.mem_append.mp hy with hy | hy
        · exact hk y hy
        · rw [List.mem_singleton] at hy
          rw [hy]
          exact ⟨⟨hz1, hz8, by show 1 ≤ 1 + lo; omega, by show 1 + lo ≤ 1 + lo + q; omega, by show 1 + lo + q ≤ 6; omega⟩, rfl⟩
      · intro b hb
        rw [List.map_append] at hb
        rcases List.mem_append.mp hb with hb | hb
        · exact hfr b hb
        · have : b = a := by simpa using hb
          rw [this]
          exact na0
    · clear hRm hem hR0 s0 he0 hd0 H0 m
      rintro σ H1 ⟨sg, ⟨m, hd1⟩, ⟨me, he1⟩, ys, v5, v6, v8, hR, hl, hz, ha, hk, hfr, rfl⟩
      have hn1 : 1 ≤ ys.length := by omega
      have hn6 : ys.length ≤ 6 := by omega
      have hlz : (zsOf ys).length = ys.length := List.length_map ..
      refine ⟨_, rfl, R, _, rfl, .inl (SqL.of hR.hR), _, rfl, by rw [List.length_map]; omega, by rw [List.length_map]; omega, ?_⟩
      rw [List.length_map]
      refine for_range (lo := 0) (n := (ys.length : Int).toNat) (fun i σ H' => Same2 d e H H' ∧ (∃ m : Int, H' d = some (.lst [.int m])) ∧ (∃ m : Int, H' e = some (.lst [.int m])) ∧ ∃ (ys' : List PgE) (v5 v7 v9 v10 v11 v12 : Option V), RowsA H' R ys' ∧ ys'.length = ys.length ∧ zsOf ys' = zsOf ys ∧ ys'.map (·.1) = ys.map (·.1) ∧ (∀ y ∈ ys', RowK y.2.2) ∧ (∀ y ∈ ys', (∀ v ∈ y.2.2.ns, v ∈ zsOf ys) ∧ y.2.2.ns.Nodup) ∧
        σ = [some (.ref d), some (.ref e), some (.int mn), some (.int lg), some (.ref R), v5, v6, v7, v8, v9, v10, v11, v12]) ⟨sg, ⟨m, hd1⟩, ⟨me, he1⟩, ys, _, none, none, none, none, none, hR, rfl, rfl, rfl, (fun y hy => (hk y hy).1), (fun y hy => by rw [(hk y hy).2]; exact ⟨(fun _ h => nomatch h), List.nodup_nil⟩), rfl⟩ ?_ ?_
      · clear hR hd1 he1 sg m me hk H1
        rintro i σ H1 hi ⟨sg, ⟨m, hd1⟩, ⟨me, he1⟩, ys', v5, v7, v9, v10, v11, v12, hR, hl', hz', ha', hk, hns, rfl⟩
        have hne : ys' ≠ [] := fun z => by rw [z] at hl'; simp at hl'; omega
        refine ⟨_, rfl, _, rfl, R, _, rfl, .inl (SqL.of hR.hR), d, m, _, rfl, hd1, by rw [List.length_map, hl']; omega, by rw [List.length_map, hl']; omega, fun sh m2 sh0 sh1 => ?_⟩
        rw [List.length_map, hl'] at sh1
        refine ⟨_, rfl, d, m2, 2, rfl, upd_same, by decide, by decide, fun q m3 q0 q1 => ⟨2, q, rfl, rfl, .inl ⟨by decide, by decide⟩, 1, 2 * q, rfl, rfl, (by show 0 ≤ sizeLine; decide), fun F nF => ?_⟩⟩
        have hw : 1 - 2 * q = 1 ∨ 1 - 2 * q = -1 := by omega
        have x2 : SameX d H1 (upd (upd H1 d (.lst [.int m2])) d (.lst [.int m3])) := SameX.upd.trans SameX.upd
        have hd2 : (upd (upd H1 d (.lst [.int m2])) d (.lst [.int m3])) d = some (.lst [.int m3]) := upd_same
        have hR2 := hR.extX hd1 x2
        have sg2 := sg.x x2
        generalize upd (upd H1 d (.lst [.int m2])) d (.lst [.int m3]) = H2 at nF x2 hd2 hR2 sg2 ⊢
        have he2 := x2 _ _ nde.symm he1
        have nFd : F ≠ d := (ne_of_none hd2 nF).symm
        have nFe : F ≠ e := (ne_of_none he2 nF).symm
        have nF0 : H F = none := by
          cases hF : H F with
          | none => rfl
          | some o =>
            have := sg2 F o nFd nFe hF
            rw [nF] at this
            cases this
        have sF := same_new (o := .lst []) nF
        have hF3 : (upd H2 F (.lst [])) F = some (.lst ([] : List V)) := upd_same
        have hd3 := sF _ _ hd2
        have he3 := sF _ _ he2
        have hR3 := hR2.ext sF
        have sg3 := sg2.s sF
        generalize upd H2 F (.lst []) = H3 at hF3 hd3 he3 hR3 sg3 ⊢
        clear sF sg2 hR2 hd2 he2 x2 nF hR hd1 he1 sg H2
        refine ⟨_, rfl, R, _, rfl, .inl (SqL.of hR3.hR), _, rfl, by rw [List.length_map]; omega, by rw [List.length_map]; omega, ?_⟩
        rw [List.length_map, hl']
        refine for_range (lo := 0) (n := (ys.length : Int).toNat) (fun j σ H' => Same2 d e H H' ∧ (∃ m : Int, H' d = some (.lst [.int m])) ∧ (∃ m : Int, H' e = some (.lst [.int m])) ∧ RowsA H' R ys' ∧ ∃ (fs : List Str) (v12 : Option V), H' F = some (.lst (fs.map V.str)) ∧ fs.Nodup ∧ fs.length ≤ j ∧ (∀ y ∈ fs, ∃ j' i : Nat, j' < j ∧ (i : Int) = (sh + (1 - 2 * q) * (j' : Int)) % (ys.length : Int) ∧ (zsOf ys)[i]? = some y) ∧
          σ = [some (.ref d), some (.ref e), some (.int mn), some (.int lg), some (.ref R), some (.int (0 + (i : Int))), v6, v7, v8, some (.int sh), some (.int (1 - 2 * q)), some (.ref F), v12]) ⟨sg3, ⟨m3, hd3⟩, ⟨me, he3⟩, hR3, [], v12, hF3, List.nodup_nil, Nat.zero_le _, (fun _ h => nomatch h), rfl⟩ ?_ ?_
        · clear hF3 hd3 he3 hR3 sg3 H3
          rintro j σ H3 hj ⟨sg, ⟨m, hd⟩, ⟨me, he⟩, hR, fs, v12, hF, hfn, hfl, hfs, rfl⟩
          refine ⟨_, rfl, d, m, 3, rfl, hd, by decide, by decide, fun q3 m' q30 q31 => ⟨q3, 0, rfl, rfl, _, rfl, ?_⟩⟩
          have x4 := SameX.upd (d := d) (H := H3) (o := .lst [.int m'])
          have hR4 := hR.extX hd x4
          have hF4 := x4 _ _ nFd hF
          have he4 := x4 _ _ nde.symm he
          have hd4 : (upd H3 d (.lst [.int m'])) d = some (.lst [.int m']) := upd_same
          have sg4 := sg.x x4
          generalize upd H3 d (.lst [.int m']) = H4 at hR4 hF4 he4 hd4 sg4 ⊢
          refine ite2 (fun _ => ?_) fun _ => ?_
          · have hz0 : (0 : Int) < ys.length := by omega
            have b0 := Int.emod_nonneg (sh + (1 - 2 * q) * (0 + (j : Int))) (b := (ys.length : Int)) (by omega)
            have b1 := Int.emod_lt_of_pos (sh + (1 - 2 * q) * (0 + (j : Int))) hz0
            obtain ⟨x, hx⟩ : ∃ x : Nat, (x : Int) = (sh + (1 - 2 * q) * (0 + (j : Int))) % (ys.length : Int) := ⟨((sh + (1 - 2 * q) * (0 + (j : Int))) % (ys.length : Int)).toNat, by omega⟩
            have hxl : x < ys'.length := by omega
            have hyx : ys'[x]? = some ys'[x] := List.getElem?_eq_getElem hxl
            generalize ys'[x] = y at hyx
            have hya := (hR4.row y (List.mem_of_getElem? hyx)).1
            have a1 : atI (ys'.map fun y => V.ref y.1) ((sh + (1 - 2 * q) * (0 + (j : Int))) % (((ys'.map fun y => V.ref y.1).length : Nat) : Int)) = some (.ref y.1) := by
              rw [List.length_map, hl', ← hx]
              exact atI_nat (by rw [List.getElem?_map, hyx]; rfl)
            have hzx : (zsOf ys)[x]? = some y.2.2.z := by
              rw [← hz', zsOf, List.getElem?_map, hyx]
              rfl
            refine ⟨_, rfl, .inl ⟨rfl, _, SqL.of hF4⟩, _, rfl, _, rfl, _, rfl, _, rfl, 1 - 2 * q, _, rfl, rfl, .inl ⟨by rcases hw with h | h <;> rw [h] <;> decide, by rcases hw with h | h <;> rw [h] <;> decide⟩, sh, _, rfl, rfl, _, rfl, R, _, rfl, .inl (SqL.of hR4.hR), _, _, rfl, rfl, (by show (0 : Int) < ((ys'.map fun y => V.ref y.1).length : Nat); rw [List.length_map, hl']; exact hz0), R, _, _, .ref y.1, rfl, rfl, SqL.of hR4.hR, a1, y.1, _, 0, .str y.2.2.z, rfl, rfl, SqL.of hya, atI0, F, _, .str y.2.2.z, rfl, rfl, hF4, ?_, ?_⟩
            · rw [List.length_map]
              exact Nat.lt_of_le_of_lt (show fs.length ≤ 6 by omega) (by decide)
            have hnot : y.2.2.z ∉ fs := fun hm => by
              obtain ⟨j', i', h1, h2, h3⟩ := hfs _ hm
              have hlt2 : x < (zsOf ys).length := by omega
              have e1 : x = i' := (List.getElem?_inj hlt2 hz).mp (hzx.trans h3.symm)
              have e2 : (sh + (1 - 2 * q) * (j' : Int)) % (ys.length : Int) = (sh + (1 - 2 * q) * (j : Int)) % (ys.length : Int) := by
                rw [← h2, ← e1, hx, Int.zero_add]
              have e3 := mod_inj (by omega) (by omega) hw (by omega) (by omega) (by omega) (by omega) e2
              omega
            refine ⟨fun b o h1 h2 h3 => ?_, ⟨m', by rw [upd_ne nFd.symm]; exact hd4⟩, ⟨me, by rw [upd_ne nFe.symm]; exact he4⟩, hR4.extF hne hF4 SameX.upd, fs ++ [y.2.2.z], _, by rw [upd_same, List.map_append]; rfl, nodup_add hfn hnot, by rw [List.length_append]; exact Nat.succ_le_succ hfl, fun v hv => ?_, rfl⟩
            · rw [upd_ne (ne_of_none h3 nF0)]
              exact sg4 b o h1 h2 h3
            · rcases List.mem_append.mp hv with hv | hv
              · obtain ⟨j', i', h1, h2, h3⟩ := hfs v hv
                exact ⟨j', i', by omega, h2, h3⟩
              · rw [List.mem_singleton] at hv
                rw [hv]
                refine ⟨j, x, by omega, ?_, hzx⟩
                rw [hx, Int.zero_add]
          · exact ⟨sg4, ⟨m', hd4⟩, ⟨me, he4⟩, hR4, fs, _, hF4, hfn, by omega, fun y hy => by
              obtain ⟨j', i', h1, h2, h3⟩ := hfs y hy
              exact ⟨j', i', by omega, h2, h3⟩, rfl⟩
        · clear hF3 hd3 he3 hR3 sg3 H3
          rintro σ H3 ⟨sg, ⟨m, hd⟩, ⟨me, he⟩, hR, fs, v12, hF, hfn, hfl, hfs, rfl⟩
          have hil : i < ys'.length := by omega
          have hyi : ys'[i]? = some ys'[i] := List.getElem?_eq_getElem hil
          generalize ys'[i] = y at hyi
          have a1 : atI (ys'.map fun y => V.ref y.1) (0 + (i : Int)) = some (.ref y.1) := by
            rw [Int.zero_add]
            exact atI_nat (by rw [List.getElem?_map, hyi]; rfl)
          refine ⟨_, rfl, _, rfl, R, _, _, .ref y.1, rfl, rfl, SqL.of hR.hR, a1, ?_⟩
          refine ⟨_, rfl, F, _, rfl, .inl ⟨SqL.of hF, fun t nt => ?_⟩⟩
          have st := same_new (o := .tup (fs.map V.str)) nt
          have ht : (upd H3 t (.tup (fs.map V.str))) t = some (.tup (fs.map V.str)) := upd_same
          have hR4 := hR.ext st
          have hd4 := st _ _ hd
          have he4 := st _ _ he
          have sg4 := sg.s st
          generalize upd H3 t (.tup (fs.map V.str)) = H4 at ht hR4 hd4 he4 sg4 ⊢
          have hya := (hR4.row y (List.mem_of_getElem? hyi)).1
          have nyd := (RowA.ne_int (hR4.row y (List.mem_of_getElem? hyi)) hd4).1
          have nye := (RowA.ne_int (hR4.row y (List.mem_of_getElem? hyi)) he4).1
          have nty : t ≠ y.1 := ne_of ht hya (by intro z; cases z)
          refine ⟨_, rfl, y.1, _, 4, 4, rfl, rfl, hya, ixN4, ?_⟩
          have hput := hR4.put (r := ⟨y.2.2.z, y.2.2.l, y.2.2.m, y.2.2.b, fs⟩) (by rw [ha']; exact ha) hyi ht nty
          have ny0 : H y.1 = none := hfr _ (ha' ▸ List.mem_map_of_mem (List.mem_of_getElem? hyi))
          refine ⟨fun b o h1 h2 h3 => ?_, ⟨m, by rw [upd_ne nyd.symm]; exact hd4⟩, ⟨me, by rw [upd_ne nye.symm]; exact he4⟩, _, _, _, _, _, _, _, hput, by rw [List.length_set]; exact hl', (set_zs (r := ⟨y.2.2.z, y.2.2.l, y.2.2.m, y.2.2.b, fs⟩) hyi rfl).trans hz', (set_ad hyi).trans ha', fun v hv => ?_, fun v hv => ?_, rfl⟩
          · rw [upd_ne (ne_of_none h3 ny0)]
            exact sg4 b o h1 h2 h3
          · rcases List.mem_or_eq_of_mem_set hv with hv | rfl
            · exact hk v hv
            · exact hk y (List.mem_of_getElem? hyi)
          · rcases List.mem_or_eq_of_mem_set hv with hv | rfl
            · exact hns v hv
            · refine ⟨fun x hx => ?_, hfn⟩
              obtain ⟨_, i', _, _, h3⟩ := hfs x hx
              exact List.mem_of_getElem? h3
      · rintro σ H2 ⟨sg, hd2, _, ys', v5, v7, v9, v10, v11, v12, hR, hl', hz', ha', hk, hns, rfl⟩
        exact ⟨_, rfl, k H2 R ys' sg hd2 hR ⟨by rw [hz']; exact hz, by omega, by omega, hk, fun y hy => by rw [hz']; exact hns y hy⟩ (by rw [ha']; exact ha) nR⟩
end
end K8

set_option Elab.async false
set_option linter.all false
set_option maxRecDepth 100000
set_option maxHeartbeats 2000000
namespace K8
open PySem PySem.Spec PyProof.Rows L2 Vf
section
variable {P : Program} {w : World} {K : PySem.W.Frag} {mg : Str → Option Value} {base : Heap}
abbrev s_law_nexts : Stmt := top 29
theorem sc_law_nexts : FnScope ["_law_rows_here", "_law_table", "_law_row_here"] ["_law_rows_here"] (defScope s_law_nexts) := ⟨rfl, rfl, rfl, by decide +kernel, rfl, by decide +kernel, by decide +kernel⟩
-- slots: 0 _law_rows_here, 1 _law_table, 2 _law_row_here
def spNxL : Sp := fun vs H Q _ => ∃ (R : Addr) (ys : List PgE), vs = [.ref R] ∧ RowsA H R ys ∧ (zsOf ys).Nodup ∧ ys.length ≤ 6 ∧ ∀ H' N, Same H H' → H N = none → H' N = some (.dK (kvN ys)) → Q (.ref N) H'
theorem ok_law_nexts {fd : FuncData} (F : FnD K ("_law_nexts", none) "_law_nexts" "_law_nexts" s_law_nexts fd) (T : Txt K mg) : OkF P w K mg base CX0 1 "_law_nexts" ["_law_rows_here"] spNxL := by
  refine okd F (F.ok sc_law_nexts (fun vs H Q E h => ?_) fun cdv A outer s H vs Q E hr h => ?_) fun _ _ _ _ _ _ us hl => match us, hl with | [_], _ => rfl
  · obtain ⟨R, ys, rfl, _⟩ := h
    rfl
  · obtain ⟨R, ys, rfl, hR, hz, h6, k⟩ := h
    refine ⟨_, PSs.nox (pss_cons (ps_set (i := 1) sc_law_nexts.nd rfl (Or.inl rfl) pe_dnewK)
  (pss_cons (ps_for PassesOwn.never rfl (pi_list (pv 0)) (pg_name (i := 2) sc_law_nexts.nd rfl (Or.inl rfl))
  (pss_one (ps_dput (hu_of hr) (pv 1) (pe_ix ix_list (pv 2) pe_int (fun _ _ => rfl)) (pe_ix ix_list (pv 2) pe_int (fun _ _ => rfl)) rfl)))
  (pss_one (ps_ret (pv 1))))), ?_⟩
    intro N nN
    have s1 := same_new (o := .dK []) nN
    have hN : (upd H N (.dK [])) N = some (.dK []) := upd_same
    have hR1 := hR.ext s1
    have s0 : ∀ {H' : Hp}, SameX N (upd H N (.dK [])) H' → Same H H' := fun x b o h => x b o (ne_of_none h nN) (s1 _ _ h)
    generalize upd H N (.dK []) = H1 at s1 hN hR1 s0 ⊢
    have keep : ∀ {H' : Hp}, SameX N H1 H' → RowsA H' R ys := fun x => ⟨x _ _ (ne_of hR1.hR hN (by intro z; cases z)) hR1.hR, fun y hy => ⟨x _ _ (ne_of (hR1.row y hy).1 hN (by intro z; cases z)) (hR1.row y hy).1, x _ _ (ne_of (hR1.row y hy).2 hN (by intro z; cases z)) (hR1.row y hy).2⟩⟩
    refine ⟨_, rfl, R, rfl, ⟨_, SqL.of hR1.hR⟩, for_it walk_list (fun i σ H' => SameX N H1 H' ∧ H' N = some (.dK ((ys.take i).map fun y => ((Sum.inr y.2.2.z : Key), V.ref y.2.1))) ∧ ∃ v : Option V, σ = [some (.ref R), some (.ref N), v]) ⟨fun _ _ _ h => h, hN, none, rfl⟩ (fun i σ H' _ h => SqL.of (keep h.1).hR) ?_ ?_⟩
    · rintro i x σ H2 H' hi ⟨sx, hN2, v, rfl⟩ ⟨rfl, hx⟩
      obtain ⟨y, hy, rfl⟩ := getE hx
      have hya := ((keep sx).row y (List.mem_of_getElem? hy)).1
      refine ⟨_, rfl, y.1, _, 4, .ref y.2.1, rfl, rfl, SqL.of hya, atI_nat (j := 4) rfl, _, rfl, _, rfl, y.1, _, 0, .str y.2.2.z, rfl, rfl, SqL.of hya, atI0, N, _, rfl, DPut.k (k := Sum.inr y.2.2.z) hN2 ?_, sx.trans SameX.upd, ?_, _, rfl⟩
      · rw [List.length_map, List.length_take]
        rw [List.length_map] at hi
        exact Nat.lt_of_le_of_lt (Nat.min_le_left _ _) (Nat.lt_of_lt_of_le hi (Nat.le_trans h6 (by decide)))
      · rw [upd_same, put_row (f := fun y => V.ref y.2.1) hz hy]
    · rintro σ H2 ⟨sx, hN2, v, rfl⟩
      rw [List.length_map, List.take_length] at hN2
      exact ⟨_, rfl, k H2 N (s0 sx) nN hN2⟩
abbrev s_law_program : Stmt := top 30
theorem sc_law_program : FnScope ["_law_rows_here", "_law_begin", "_law_places", "_law_row_here"] ["_law_rows_here", "_law_begin"] (defScope s_law_program) := ⟨rfl, rfl, rfl, by decide +kernel, rfl, by decide +kernel, by decide +kernel⟩
-- slots: 0 _law_rows_here, 1 _law_begin, 2 _law_places, 3 _law_row_here
/-- the row beside the place that is made of it -/
def Beside (xs ys : List PgE) : Prop := xs.map (·.2) = ys.map (·.2)
theorem Beside.zs {xs ys : List PgE} (h : Beside xs ys) : zsOf xs = zsOf ys := by
  have := congrArg (List.map fun x : Addr × Rw => x.2.z) h
  rw [List.map_map, List.map_map] at this
  exact this
theorem Beside.len {xs ys : List PgE} (h : Beside xs ys) : xs.length = ys.length := by
  have := congrArg List.length h
  simpa using this
theorem Beside.get {xs ys : List PgE} (h : Beside xs ys) {i : Nat} {x : PgE} (hx : xs[i]? = some x) : ∃ y, ys[i]? = some y ∧ y.2 = x.2 := by
  have h1 : (xs.map (·.2))[i]? = some x.2 := by rw [List.getElem?_map, hx]; rfl
  rw [h, List.getElem?_map] at h1
  cases hq : ys[i]? with
  | none => rw [hq] at h1; cases h1
  | some y =>
    rw [hq] at h1
    exact ⟨y, rfl, Option.some.inj h1⟩
theorem Beside.mem {xs ys : List PgE} (h : Beside xs ys) {x : PgE} (hx : x ∈ xs) : ∃ y ∈ ys, y.2 = x.2 := by
  obtain ⟨i, hi⟩ := List.mem_iff_getElem?.mp hx
  obtain ⟨y, hy, e⟩ := h.get hi
  exact ⟨y, List.mem_of_getElem? hy, e⟩
theorem Beside.kvN {xs ys : List PgE} (h : Beside xs ys) : kvN xs = kvN ys := by
  have := congrArg (List.map fun x : Addr × Rw => ((Sum.inr x.2.z : Key), V.ref x.1)) h
  rw [List.map_map, List.map_map] at this
  exact this
def spPrL (K : PySem.W.Frag) : Sp := fun vs H Q _ => ∃ (R : Addr) (ys : List PgE) (s : Str), vs = [.ref R, .str s] ∧ RowsA H R ys ∧ RowsOk ys ∧ s ∈ zsOf ys ∧ ∀ H' g xs dx tn dP dN, Same H H' → PgA K H' g xs s dx tn dP dN → Beside xs ys → H dP = none → H dN = none → Q (.ref g) H'
theorem ok_law_program {fd : FuncData} (F : FnD K ("_law_program", none) "_law_program" "_law_program" s_law_program fd) (T : Txt K mg) (O_law_nexts : OkF P w K mg base CX0 1 "_law_nexts" ["_law_rows_here"] spNxL)
    (O_Place_init3k : OkK P w K mg base (L2.CX P w) 4 ("Place", some "__init__") ["self", "name", "least", "most", "let"] 4 ["let"] (fun vs zs => vs ++ zs) (spPlI K)) (O_Program_init2k : OkK P w K mg base (L2.CX P w) 5 ("Program", some "__init__") ["self", "places", "nexts", "start"] 3 ["start"] (fun vs zs => vs ++ zs) (spPgI K)) : OkF P w K mg base CX0 7 "_law_program" ["_law_rows_here", "_law_begin"] (spPrL K) := by
  refine okd F (F.ok sc_law_program (fun vs H Q E h => ?_) fun cdv A outer s H vs Q E hr h => ?_) fun _ _ _ _ _ _ us hl => match us, hl with | [_, _], _ => rfl
  · obtain ⟨R, ys, z, rfl, _⟩ := h
    rfl
  · obtain ⟨R, ys, z, rfl, hR, hok, hz, k⟩ := h
    refine ⟨_, PSs.nox (pss_cons (ps_setLc (i := 2) (own := [("_law_row_here", 3)]) (g := gName 3) (tt := tYes) (by rfl) sc_law_program.nd rfl rfl (sw_true rfl rfl rfl (by decide +kernel)) (pi_list (pv 0)) (blkOk_by (N := ["_law_rows_here", "_law_begin", "_law_places", "_law_row_here"]) (sc := defScope s_law_program) (by decide +kernel)) (fun _ _ _ _ _ => pg_name (i := 3) sc_law_program.nd rfl (Or.inl rfl)) (fun _ _ _ _ _ => pts_nil) (fun _ _ _ _ _ => (c_mkK T.m_Place O_Place_init3k hr (by decide) T.g_Place passL (pa_cons (pe_ix (ix_listK (K := K) rfl) (pv 3) pe_int (fun _ _ => rfl)) (pa_cons (pe_ix (ix_listK (K := K) rfl) (pv 3) pe_int (fun _ _ => rfl)) (pa_cons (pe_ix (ix_listK (K := K) rfl) (pv 3) pe_int (fun _ _ => rfl)) pa_nil))) (pk_cons (pe_ix (ix_listK (K := K) rfl) (pv 3) pe_int (fun _ _ => rfl)) pk_nil))))
  (pss_one (ps_ret (c_mkK T.m_Program O_Program_init2k hr (by decide) T.g_Program passL (pa_cons (pv 2) (pa_cons (c_fn O_law_nexts hr (by decide) T.g_law_nexts pass0 (pa_cons (pv 0) pa_nil)) pa_nil)) (pk_cons (pv 1) pk_nil))))), ?_⟩
    refine ⟨_, rfl, R, rfl, ⟨_, SqL.of hR.hR⟩, fun D nD => lc_it walk_list (fun i H' => Same H H' ∧ ∃ xs : List PgE, H' D = some (.lst (xs.map fun x => V.ref x.1)) ∧ xs.map (·.2) = (ys.take i).map (·.2) ∧ ∀ x ∈ xs, PlE K H' x) ⟨same_new nD, [], upd_same, rfl, (fun _ h => nomatch h)⟩ (fun i H' _ h => h.1.seq (SqL.of hR.hR)) ?_ ?_⟩
    · rintro i x H1 H' hi ⟨sg, xs, hD, hb, hp⟩ ⟨rfl, hx⟩
      obtain ⟨y, hy, rfl⟩ := getE hx
      have hm := List.mem_of_getElem? hy
      have hya := SqL.of (K := K) ((hR.ext sg).row y hm).1
      obtain ⟨k1, k2, k3, k4, k5⟩ := hok.kp y hm
      have hxl : xs.length ≤ 6 := by
        have := congrArg List.length hb
        simp only [List.length_map, List.length_take] at this
        have := hok.l6
        omega
      refine ⟨rfl, _, rfl, y.1, _, 0, .str y.2.2.z, rfl, rfl, hya, atI0, _, rfl, y.1, _, 1, .int y.2.2.l, rfl, rfl, hya, atI_nat (j := 1) rfl, _, rfl, y.1, _, 2, .int y.2.2.m, rfl, rfl, hya, atI_nat (j := 2) rfl, _, rfl, y.1, _, 3, .bl y.2.2.b, rfl, rfl, hya, atI_nat (j := 3) rfl, rfl, rfl, fun p dx np ndx ne => ⟨p, dx, _, _, _, _, rfl, upd_same, .inr ⟨y.2.2.z, y.2.2.l, y.2.2.m, y.2.2.b, ⟨rfl, Nat.le_trans k2 (by decide), k1, rfl, k3, k4, k5, .inl rfl, rfl⟩, fun H2 s2 => ⟨rfl, ?_⟩⟩⟩⟩
      have sm : Same H' (upd H2 p (.ins (CP K) dx (plf y.2.2.z y.2.2.l y.2.2.m y.2.2.b))) := fun b' u e => by
        rw [upd_ne (ne_of_none e np)]
        exact s2 _ _ (same_make np ndx _ _ e)
      have hpl : PlE K (upd H2 p (.ins (CP K) dx (plf y.2.2.z y.2.2.l y.2.2.m y.2.2.b))) (p, y.2) := ⟨dx, upd_same⟩
      generalize upd H2 p (.ins (CP K) dx (plf y.2.2.z y.2.2.l y.2.2.m y.2.2.b)) = H3 at sm hpl ⊢
      have hD3 := sm _ _ hD
      have old : ∀ x ∈ xs ++ [(p, y.2)], PlE K H3 x := fun x hx => by
        rcases List.mem_append.mp hx with hx | hx
        · exact (hp x hx).ext sm
        · rw [List.mem_singleton] at hx
          rw [hx]
          exact hpl
      refine ⟨_, hD3, ?_, same_app sg sm nD, xs ++ [(p, y.2)], by rw [upd_same, List.map_append]; rfl, ?_, fun x hx => ?_⟩
      · rw [List.length_map]
        exact Nat.lt_of_le_of_lt hxl (by decide)
      · rw [List.map_append, hb, List.take_add_one, List.map_append, hy]
        rfl
      · obtain ⟨d1, e1⟩ := old x hx
        exact ⟨d1, by rw [upd_ne (ne_of e1 hD3 (by intro z; cases z))]; exact e1⟩
    rintro H1 ⟨s1, xs, hD, hb, hp⟩
    rw [List.length_map, List.take_length] at hb
    have hB : Beside xs ys := hb
    have hR1 := hR.ext s1
    refine ⟨_, rfl, _, rfl, R, ys, rfl, hR1, hok.nd, hok.l6, fun H2 N s2 nN hN => ⟨_, rfl, rfl, rfl, fun g dx ng ndx ne => ?_⟩⟩
    have sm := same_make (o1 := .own g) (o2 := .ins (CG K) dx []) ng ndx
    have hparts : PartsOk K H2 HO.lst D N xs := by
      refine ⟨s2 _ _ hD, fun x hx => (hp x hx).ext s2, ⟨kvN ys, hN, ?_, fun x hx => ?_⟩, fun x hx => ?_, by rw [hB.zs]; exact hok.nd, by rw [hB.len]; exact hok.l1, by rw [hB.len]; exact hok.l6, fun v hv => ?_, .inl rfl⟩
      · rw [← hB.kvN]
        exact List.length_map ..
      · obtain ⟨i, hi⟩ := List.mem_iff_getElem?.mp hx
        have hzx : (zsOf xs).Nodup := by rw [hB.zs]; exact hok.nd
        rw [← hB.kvN]
        exact val_row (f := fun y => V.ref y.2.1) hzx hi
      · obtain ⟨y, hy, e⟩ := hB.mem hx
        have h1 := ((hR1.ext s2).row y hy).2
        have h2 := hok.ns y hy
        unfold NsE
        rw [← e]
        refine ⟨h1, fun v hv => by rw [hB.zs]; exact h2.1 v hv, h2.2, ?_⟩
        have := nodup_le h2.2 h2.1
        have h3 : (zsOf ys).length = ys.length := List.length_map ..
        have := hok.l6
        omega
      · rw [hB.zs] at hv
        obtain ⟨y, hy, rfl⟩ := List.mem_map.mp hv
        exact (hok.kp y hy).1
    refine ⟨g, dx, D, N, _, xs, _, z, rfl, upd_same, hparts.ext sm, by rw [hB.zs]; exact hz, .inl rfl, fun H3 dx3 tn dP dN x3 hpg nP nN2 => ⟨rfl, ?_⟩⟩
    have s3 : Same H2 H3 := fun b o e => x3 b o (ne_of_none e ng) (sm _ _ e)
    have back : ∀ {b : Addr}, (upd (upd H2 dx (.own g)) g (.ins (CG K) dx [])) b = none → H b = none := fun {b} e => by
      cases q : H b with
      | none => rfl
      | some o =>
        have := sm _ _ (s2 _ _ (s1 _ _ q))
        rw [e] at this
        cases this
    exact k H3 g xs dx3 tn dP dN (s1.trans (s2.trans s3)) hpg hB (back nP) (back nN2)
end
end K8

set_option Elab.async false
set_option linter.all false
set_option maxRecDepth 100000
set_option maxHeartbeats 2000000
namespace K8
open PySem PySem.Spec PyProof.Rows L2 Vf
section
variable {P : Program} {w : World} {K : PySem.W.Frag} {mg : Str → Option Value} {base : Heap}
/-- two items, one behind the other, are equal -/
def Twin (f : V → V → Bool) (xs : List V) : Prop := ∃ (i j : Nat) (x y : V), j < i ∧ xs[i]? = some x ∧ xs[j]? = some y ∧ f x y = true
def spTwV (K : PySem.W.Frag) : Sp := fun vs H Q _ => ∃ (a : Addr) (xs : List V) (f : V → V → Bool), vs = [.ref a] ∧ xs.length ≤ 1000 ∧ SqT K H a xs ∧ (∀ x ∈ xs, ∀ y ∈ xs, EqW K H x y (f x y)) ∧ ∀ H' b, Same H H' → (b = true ↔ Twin f xs) → Q (.bl b) H'
theorem ok_has_twinsV {fd : FuncData} (F : FnD K ("has_twins", none) "has_twins" "has_twins" s_has_twins fd) (T : GTxt K mg) : OkF P w K mg base CX0 1 "has_twins" ["items"] (spTwV K) := by
  refine okd F (F.ok sc_has_twins (fun vs H Q E h => ?_) fun cdv A outer s H vs Q E hr h => ?_) fun _ _ _ _ _ _ us hl => match us, hl with | [_], _ => rfl
  · obtain ⟨a, zs, f, rfl, _⟩ := h
    rfl
  · obtain ⟨a, zs, f, rfl, hlen, hS, hf, k⟩ := h
    refine ⟨_, PSs.nox (pss_cons (ps_for PassesOwn.never rfl (pi_enumT (by rfl) T.z_enumerate (pa_cons (pv 0) pa_nil)) (pg_tup rfl (pgs_cons (pg_name (i := 1) sc_has_twins.nd rfl (Or.inl rfl)) (pgs_cons (pg_name (i := 2) sc_has_twins.nd rfl (Or.inl rfl)) pgs_nil)))
  (pss_one (ps_for PassesOwn.never rfl (pi_tup (pe_slice sl_tup (pv 0) po_none (po_some (pv 1)))) (pg_name (i := 3) sc_has_twins.nd rfl (Or.inl rfl))
  (pss_one (ps_if (pt_cmpR (op_eqW hr.units) (pv 2) (pv 3) (nomark _)) (pss_one (ps_ret pe_bl))
  pss_nil)))))
  (pss_one (ps_ret pe_bl))), ?_⟩
    refine ⟨_, rfl, a, _, rfl, hS, for_it walk_enumT (fun i σ H' => Same H H' ∧ ¬ Twin f (zs.take i) ∧ ∃ v1 v2 v3 : Option V, σ = [some (.ref a), v1, v2, v3]) ⟨Same.refl _, (fun ⟨_, _, _, _, _, h, _⟩ => by simp at h), none, none, none, rfl⟩ (fun i σ H' _ h => SqT.ext hS h.1) ?_ ?_⟩
    · rintro i x σ H1 H2 hi ⟨sg, hn, v1, v2, v3, rfl⟩ hy
      obtain ⟨T', x', y', rfl, nT', rfl, hx', hz⟩ := hy
      cases (Option.some.inj hx')
      replace hz : zs[i]? = some y' := hz
      have hi' : i < zs.length := (List.getElem?_eq_some_iff.mp hz).1
      have sT := sg.trans (same_new (o := .tup [.int (i : Nat), y']) nT')
      refine ⟨T', _, rfl, SqT.of upd_same, rfl, _, _, rfl, _, _, rfl, rfl, ?_⟩
      have ecut : cutV zs none (some ((i : Nat) : Int)) = zs.take i := cutV_upto (by omega)
      have nw : ¬ (HT.sIx zs.length 0 none = 0 ∧ HT.sIx zs.length zs.length (some (i : Int)) = zs.length) := fun z => by
        have e1 : HT.sIx zs.length zs.length (some (i : Int)) = min i zs.length := HT.sIx_nat ..
        rw [e1] at z
        omega
      refine ⟨_, rfl, _, rfl, (i : Int), rfl, a, _, rfl, SqT.ext hS sT, nw, fun p np => ?_⟩
      rw [ecut]
      have sp := sT.trans (same_new (o := .tup (zs.take i)) np)
      have hp := upd_same (H := upd H1 T' (.tup [.int (i : Nat), y'])) (a := p) (o := .tup (zs.take i))
      generalize upd (upd H1 T' (.tup [.int (i : Nat), y'])) p (.tup (zs.take i)) = H3 at sp hp ⊢
      refine ⟨p, rfl, ⟨_, SqT.of hp⟩, for_tup (K := K) (a := p) (xs := zs.take i) (fun j σ H' => H' = H3 ∧ (∀ w ∈ (zs.take i).take j, f y' w = false) ∧ ∃ v3 : Option V, σ = [some (.ref a), some (.int (i : Int)), some y', v3]) ⟨rfl, (fun _ h => by cases h), v3, rfl⟩ (fun j σ H' _ h => h.1 ▸ SqT.of hp) ?_ ?_⟩
      · rintro j w σ H' hj ⟨rfl, hne, v, rfl⟩
        have hj2 : zs[j]? = some w ∧ j < i := by
          rw [List.getElem?_take] at hj
          split at hj
          · rename_i hlt
            exact ⟨hj, hlt⟩
          · cases hj
        have hw := hf y' (List.mem_of_getElem? hz) w (List.mem_of_getElem? hj2.1)
        refine ⟨_, rfl, _, rfl, _, hw.ext sp, _, rfl, ite2 (fun e => ?_) fun e => ?_⟩
        · exact k _ true sp ⟨fun _ => ⟨i, j, y', w, hj2.2, hz, hj2.1, e⟩, fun _ => rfl⟩
        · refine ⟨rfl, fun v hv => ?_, _, rfl⟩
          rw [List.take_add_one, hj] at hv
          rcases List.mem_append.mp hv with hv | hv
          · exact hne v hv
          · have : v = w := by simpa using hv
            rw [this]
            exact Bool.eq_false_iff.mpr e
      · rintro σ H' ⟨rfl, hne, v, rfl⟩
        rw [List.take_length] at hne
        refine ⟨sp, ?_, _, _, _, rfl⟩
        rintro ⟨i', j', x, y, hlt, hx, hy, e⟩
        rw [List.getElem?_take] at hx hy
        split at hx
        · rename_i h1
          split at hy
          · by_cases h2 : i' = i
            · subst h2
              rw [hz] at hx
              cases hx
              have := hne y (List.mem_of_getElem? (by rw [List.getElem?_take, if_pos hlt]; exact hy))
              rw [this] at e
              cases e
            · exact hn ⟨i', j', x, y, hlt, by rw [List.getElem?_take, if_pos (by omega)]; exact hx, by rw [List.getElem?_take, if_pos (by omega)]; exact hy, e⟩
          · cases hy
        · cases hx
    · rintro σ H1 ⟨sg, hn, v1, v2, v3, rfl⟩
      rw [List.take_length] at hn
      exact k H1 false sg ⟨fun z => Bool.noConfusion z, fun z => absurd z hn⟩
end
end K8

set_option Elab.async false
set_option linter.all false
set_option maxRecDepth 100000
set_option maxHeartbeats 2000000
namespace K8
open PySem PySem.Spec PyProof.Rows L2 Vf
section
variable {P : Program} {w : World} {K : PySem.W.Frag} {mg : Str → Option Value} {base : Heap}
theorem oddS_ext {H H' : Hp} {x : V} (o : OddS H x) (s : Same H H') : OddS H' x := by
  cases o with
  | bl b => exact .bl b
  | non => exact .non
  | int i => exact .int i
  | tup h => exact .tup (s _ _ h)
  | lst h => exact .lst (s _ _ h)
  | dic h => exact .dic (s _ _ h)
theorem op_in_seqK {X : Cx} {K : PySem.W.Frag} (hK : X.K = K) : OpR X (compareOp .In) (rIn K false) := hK ▸ op_in_seq
/-- the row with its let put anew -/
def letRw (ws : List Str) (r : Rw) : Rw := { r with b := decide (r.z ∈ ws) }
abbrev s_Program_with_let : Stmt := inClass (top 18) 7
theorem sc_Program_with_let : FnScope ["self", "names", "item", "olds", "name", "places", "old"] ["self", "names"] (defScope s_Program_with_let) := ⟨rfl, rfl, rfl, by decide +kernel, rfl, by decide +kernel, by decide +kernel⟩
-- slots: 0 self, 1 names, 2 item, 3 olds, 4 name, 5 places, 6 old
/-- with_let of names of places, each once; of a list; of items of which two are equal; of items of which one is no place -/
def spWlt (K : PySem.W.Frag) : Sp := fun vs H Q E => ∃ (g t : Addr) (xs : List PgE) (st : Str) (dx tn dP dN : Addr), vs = [.ref g, .ref t] ∧ PgA K H g xs st dx tn dP dN ∧ st ∈ zsOf xs ∧ (∀ x ∈ xs, RowK x.2.2) ∧
  ((∃ ws : List Str, H t = some (.tup (ws.map V.str)) ∧ ws.Nodup ∧ (∀ v ∈ ws, v ∈ zsOf xs) ∧ ws.length ≤ 6 ∧
    ∀ H' g' xs' dx' tn' dP' dN', Same H H' → PgA K H' g' xs' st dx' tn' dP' dN' → xs'.map (·.2) = xs.map (fun x => (x.2.1, letRw ws x.2.2)) → H dP' = none → H dN' = none → Q (.ref g') H') ∨
   (∃ ys, H t = some (.lst ys) ∧ ∀ d, H d = none → E (.ref (CBG K)) (some d) (upd H d (.xd [("why", .str "let")]))) ∨
   (∃ (ys : List V) (f : V → V → Bool), H t = some (.tup ys) ∧ ys.length ≤ 1000 ∧ (∀ x ∈ ys, ∀ y ∈ ys, EqW K H x y (f x y)) ∧
     ((Twin f ys ∧ ∀ H' d, Same H H' → H' d = none → E (.ref (CBG K)) (some d) (upd H' d (.xd [("why", .str "let")]))) ∨
      (¬ Twin f ys ∧ ∃ (i : Nat) (x : V), ys[i]? = some x ∧ (∀ j y, j < i → ys[j]? = some y → ∃ z, y = .str z ∧ z ∈ zsOf xs) ∧ ((∃ z, x = .str z ∧ z ∉ zsOf xs) ∨ OddS H x) ∧
        ∀ H' d, Same H H' → H' d = none → E (.ref (CNP K)) (some d) (upd H' d (.xd [("name", x)]))))))
theorem ok_Program_with_let {fd : FuncData} (F : FnD K ("Program", some "with_let") "with_let" "Program.with_let" s_Program_with_let fd) (T : GTxt K mg) (M : GMeth K) (O_has_twins : OkF P w K mg base CX0 1 "has_twins" ["items"] (spTw K)) (O_has_twinsV : OkF P w K mg base CX0 1 "has_twins" ["items"] (spTwV K)) (O_contains : OkM P w K mg base CX0 2 "Program" "__contains__" ["self", "x"] (spCon K))
    (O_BadProgram_init : OkD P w K mg base CX0 1 ("BadProgram", some "__init__") ["self", "why"] [] (spExI K (CBG K) "why")) (O_NoPlace_init : OkD P w K mg base CX0 1 ("NoPlace", some "__init__") ["self", "name"] [] (spExI K (CNP K) "name"))
    (O_Place_init3k : OkK P w K mg base (L2.CX P w) 4 ("Place", some "__init__") ["self", "name", "least", "most", "let"] 4 ["let"] (fun vs zs => vs ++ zs) (spPlI K)) (O_Program_init2k : OkK P w K mg base (L2.CX P w) 5 ("Program", some "__init__") ["self", "places", "nexts", "start"] 3 ["start"] (fun vs zs => vs ++ zs) (spPgI K)) : OkM P w K mg base (L2.CX P w) 7 "Program" "with_let" ["self", "names"] (spWlt K) := by
  refine okd F (F.ok sc_Program_with_let (fun vs H Q E h => ?_) fun cdv A outer s H vs Q E hr h => ?_) fun _ _ _ _ _ _ us hl => match us, hl with | [_, _], _ => rfl
  · obtain ⟨g, t, xs, st, dx, tn, dP, dN, rfl, _⟩ := h
    rfl
  · obtain ⟨g, t, xs, st, dx, tn, dP, dN, rfl, hp, hst, hplr, h⟩ := h
    rcases h with ⟨ws, ht, hnd, hin, h6, k⟩ | ⟨ys, ht, k⟩ | ⟨ys, f, ht, hl, hf, h⟩
    · refine ⟨_, (pss_cons (ps_if (PW.pt (pw_or (pt_not (pt_val (pe_callB (id := "isinstance") call_isi (by rfl) T.z_isinstance (by decide +kernel) (pa_cons (pv 1) (pa_cons (pe_ty (n := "tuple") T.z_tuple (by decide +kernel)) pa_nil))))) (pw_or1 (pt_val (c_fn O_has_twins hr (by decide) T.g_has_twins pass0 (pa_cons (pv 1) pa_nil)))))) (pss_one (c_raise T.x_BadProgram O_BadProgram_init hr (by decide) T.g_BadProgram (takes_of rfl rfl rfl rfl) (pa_cons pe_str pa_nil)))
  pss_nil)
  (pss_cons (ps_for (passes_of rfl) rfl (pi_tup (pv 1)) (pg_name (i := 2) sc_Program_with_let.nd rfl (Or.inl rfl))
  (pss_one (ps_if (pt_cmpR (op_notInO M.m_contains O_contains hr (by decide)) (pv 2) (pv 0) rfl) (pss_one (c_raise T.x_NoPlace O_NoPlace_init hr (by decide) T.g_NoPlace (takes_of rfl rfl rfl rfl) (pa_cons (pv 2) pa_nil)))
  pss_nil)))
  (pss_cons (ps_setLc (i := 3) (own := [("name", 4)]) (g := gName 4) (tt := tYes) (by rfl) sc_Program_with_let.nd rfl rfl (sw_true rfl rfl rfl (by decide +kernel)) (pi_tup (pe_fld (pv 0) rfl)) (blkOk_by (N := ["self", "names", "item", "olds", "name", "places", "old"]) (sc := defScope s_Program_with_let) (by decide +kernel)) (fun _ _ _ _ _ => pg_name (i := 4) sc_Program_with_let.nd rfl (Or.inl rfl)) (fun _ _ _ _ _ => pts_nil) (fun _ _ _ _ _ => (pe_dget (hu_of hr) (pe_fldK (K := K) rfl (pv 0) rfl) (pv 4) (fun _ _ => rfl))))
  (pss_cons (ps_setLc (i := 5) (own := [("old", 6)]) (g := gName 6) (tt := tYes) (by rfl) sc_Program_with_let.nd rfl rfl (sw_true rfl rfl rfl (by decide +kernel)) (pi_list (pv 3)) (blkOk_by (N := ["self", "names", "item", "olds", "name", "places", "old"]) (sc := defScope s_Program_with_let) (by decide +kernel)) (fun _ _ _ _ _ => pg_name (i := 6) sc_Program_with_let.nd rfl (Or.inl rfl)) (fun _ _ _ _ _ => pts_nil) (fun _ _ _ _ _ => (c_mkK T.m_Place O_Place_init3k hr (by decide) T.g_Place passL (pa_cons (pe_fldK (K := K) rfl (pv 6) rfl) (pa_cons (pe_fldK (K := K) rfl (pv 6) rfl) (pa_cons (pe_fldK (K := K) rfl (pv 6) rfl) pa_nil))) (pk_cons (pe_cmpR (op_in_seqK (K := K) rfl) (pe_fldK (K := K) rfl (pv 6) rfl) (pv 1) rfl) pk_nil))))
  (pss_one (ps_ret (c_mkK T.m_Program O_Program_init2k hr (by decide) T.g_Program passL (pa_cons (pv 5) (pa_cons (pe_fld (pv 0) rfl) pa_nil)) (pk_cons (pe_fld (pv 0) rfl) pk_nil)))))))), ?_⟩
      refine ⟨_, rfl, .ref t, .ty "tuple", .type "tuple", .type "tuple", true, rfl, .ty _, .base (.tup ht), kit_ty (by decide +kernel), true, rfl, iteF ?_⟩
      refine ⟨_, rfl, t, ws, rfl, Nat.le_trans h6 (by decide), .inr (SqT.of ht), fun H1 s1 => ⟨false, by rw [decide_eq_true hnd]; rfl, iteF ?_⟩⟩
      have hp1 := hp.ext s1
      have ht1 := s1 _ _ ht
      refine ⟨_, rfl, t, rfl, ⟨_, SqT.of ht1⟩, for_it walk_tup (fun i σ H' => Same H1 H' ∧ ∃ v2 : Option V, σ = [some (.ref g), some (.ref t), v2, none, none, none, none]) ⟨Same.refl _, none, rfl⟩ (fun i σ H' _ h => SqT.ext (SqT.of ht1) h.1) ?_ ?_⟩
      · rintro i x σ H2 H3 hi ⟨s12, v2, rfl⟩ ⟨rfl, hx⟩
        obtain ⟨v, hv, rfl⟩ : ∃ v, ws[i]? = some v ∧ x = .str v := by
          rw [List.getElem?_map] at hx
          cases hq : ws[i]? with
          | none => rw [hq] at hx; cases hx
          | some v =>
            rw [hq] at hx
            exact ⟨v, rfl, (Option.some.inj hx).symm⟩
        have hp2 := hp1.ext s12
        have hm := hin v (List.mem_of_getElem? hv)
        refine ⟨_, rfl, _, rfl, g, dx, _, rfl, hp2.hg, g, _, xs, st, dx, tn, dP, dN, rfl, hp2, .inl ⟨_, rfl, _, rfl, false, by rw [decide_eq_true hm]; rfl, iteF ?_⟩⟩
        exact ⟨s12, _, rfl⟩
      rintro σ H2 ⟨s12, v2, rfl⟩
      have hp2 := hp1.ext s12
      have ht2 := s12 _ _ ht1
      have s2 := s1.trans s12
      clear hp1 ht1 s1 s12
      have hlz : (zsOf xs).length = xs.length := List.length_map ..
      -- the old places
      refine ⟨_, rfl, g, _, dx, _, _, rfl, hp2.hg, T.c_Program, T.nA, pgf_names .., tn, rfl, ⟨_, SqT.of hp2.hn⟩, fun D nD => lc_it walk_tup (fun i H' => Same H2 H' ∧ H' D = some (.lst ((xs.take i).map fun x => V.ref x.1))) ⟨same_new nD, upd_same⟩ (fun i H' _ h => SqT.ext (SqT.of hp2.hn) h.1) ?_ ?_⟩
      · rintro i x H3 H' hi ⟨sg, hD⟩ ⟨rfl, hx⟩
        obtain ⟨y, hy, rfl⟩ := zsAt hx
        have hq := hp2.ext sg
        refine ⟨rfl, _, rfl, g, _, dx, _, _, rfl, hq.hg, T.c_Program, T.nC, pgf_places .., _, rfl, dP, _, rfl, dget_of hq.hP (val_row (f := fun y => V.ref y.1) hp2.nd hy), ?_⟩
        refine ⟨_, hD, ?_, same_app sg (Same.refl _) nD, ?_⟩
        · rw [List.length_map, List.length_take]
          rw [List.length_map, hlz] at hi
          exact Nat.lt_of_le_of_lt (Nat.min_le_left _ _) (Nat.lt_of_lt_of_le hi (Nat.le_trans hp2.l6 (by decide)))
        · rw [upd_same, List.take_add_one, List.map_append, hy]
          rfl
      rintro H3 ⟨s23, hD⟩
      rw [List.length_map, hlz, List.take_length] at hD
      have hp3 := hp2.ext s23
      have ht3 := s23 _ _ ht2
      have s3 := s2.trans s23
      clear hp2 ht2 s2 s23 nD
      -- the new places
      refine ⟨_, rfl, D, rfl, ⟨_, SqL.of hD⟩, fun D2 nD2 => lc_it walk_list (fun i H' => Same H3 H' ∧ ∃ xs' : List PgE, H' D2 = some (.lst (xs'.map fun x => V.ref x.1)) ∧ xs'.map (·.2) = (xs.take i).map (fun x => (x.2.1, letRw ws x.2.2)) ∧ ∀ x ∈ xs', PlE K H' x) ⟨same_new nD2, [], upd_same, rfl, (fun _ h => nomatch h)⟩ (fun i H' _ h => h.1.seq (SqL.of hD)) ?_ ?_⟩
      · rintro i x H4 H' hi ⟨sg, xs', hD4, hb, hpl⟩ ⟨rfl, hx⟩
        obtain ⟨y, hy, rfl⟩ := getE hx
        have hm := List.mem_of_getElem? hy
        obtain ⟨dy, ey⟩ := (hp3.pl y hm).ext sg
        have ht4 := sg _ _ ht3
        obtain ⟨k1, k2, k3, k4, k5⟩ := hplr y hm
        have hxl : xs'.length ≤ 6 := by
          have := congrArg List.length hb
          simp only [List.length_map, List.length_take] at this
          have := hp3.l6
          omega
        refine ⟨rfl, _, rfl, y.1, _, dy, _, _, rfl, ey, T.c_Place, T.nN, plf_name .., _, rfl, y.1, _, dy, _, _, rfl, ey, T.c_Place, T.nL, plf_least .., _, rfl, y.1, _, dy, _, _, rfl, ey, T.c_Place, T.nM, plf_most .., ?_⟩
        refine ⟨_, rfl, y.1, _, dy, _, _, rfl, ey, T.c_Place, T.nN, plf_name .., _, rfl, t, _, rfl, .inr (SqT.of ht4), rfl, ?_, ?_⟩
        · exact List.all_eq_true.mpr fun v hv => by
            obtain ⟨z, _, rfl⟩ := List.mem_map.mp hv
            rfl
        have hv : (if false = true then !inV (.str y.2.2.z) (ws.map V.str) else inV (.str y.2.2.z) (ws.map V.str)) = decide (y.2.2.z ∈ ws) := inV_str _ _
        rw [hv]
        refine ⟨rfl, rfl, fun p dx' np ndx ne => ⟨p, dx', _, _, _, _, rfl, upd_same, .inr ⟨y.2.2.z, y.2.2.l, y.2.2.m, decide (y.2.2.z ∈ ws), ⟨rfl, Nat.le_trans k2 (by decide), k1, rfl, k3, k4, k5, .inl rfl, rfl⟩, fun H2 s2' => ⟨rfl, ?_⟩⟩⟩⟩
        have sm : Same H' (upd H2 p (.ins (CP K) dx' (plf y.2.2.z y.2.2.l y.2.2.m (decide (y.2.2.z ∈ ws))))) := fun b' u e => by
          rw [upd_ne (ne_of_none e np)]
          exact s2' _ _ (same_make np ndx _ _ e)
        have hpl' : PlE K (upd H2 p (.ins (CP K) dx' (plf y.2.2.z y.2.2.l y.2.2.m (decide (y.2.2.z ∈ ws))))) (p, (y.2.1, letRw ws y.2.2)) := ⟨dx', upd_same⟩
        generalize upd H2 p (.ins (CP K) dx' (plf y.2.2.z y.2.2.l y.2.2.m (decide (y.2.2.z ∈ ws)))) = H5 at sm hpl' ⊢
        have hD5 := sm _ _ hD4
        have old : ∀ x ∈ xs' ++ [(p, (y.2.1, letRw ws y.2.2))], PlE K H5 x := fun x hx => by
          rcases List.mem_append.mp hx with hx | hx
          · exact (hpl x hx).ext sm
          · rw [List.mem_singleton] at hx
            rw [hx]
            exact hpl'
        refine ⟨_, hD5, ?_, same_app sg sm nD2, xs' ++ [(p, (y.2.1, letRw ws y.2.2))], by rw [upd_same, List.map_append]; rfl, ?_, fun x hx => ?_⟩
        · rw [List.length_map]
          exact Nat.lt_of_le_of_lt hxl (by decide)
        · rw [List.map_append, hb, List.take_add_one, List.map_append, hy]
          rfl
        · obtain ⟨d1, e1⟩ := old x hx
          exact ⟨d1, by rw [upd_ne (ne_of e1 hD5 (by intro z; cases z))]; exact e1⟩
      rintro H4 ⟨s34, xs', hD2, hb, hpl⟩
      rw [List.length_map, List.take_length] at hb
      have hp4 := hp3.ext s34
      have s4 := s3.trans s34
      clear s34 hp3 s3 ht3 hD
      have hzs : zsOf xs' = zsOf xs := by
        have := congrArg (List.map fun q : Addr × Rw => q.2.z) hb
        rw [List.map_map, List.map_map] at this
        exact this
      have hlen : xs'.length = xs.length := by
        have := congrArg List.length hb
        simpa using this
      have back : ∀ x' ∈ xs', ∃ x ∈ xs, x'.2 = (x.2.1, letRw ws x.2.2) := fun x' hx' => by
        have : x'.2 ∈ xs'.map (·.2) := List.mem_map_of_mem hx'
        rw [hb] at this
        obtain ⟨x, hx, e⟩ := List.mem_map.mp this
        exact ⟨x, hx, e.symm⟩
      have parts : PartsOk K H4 HO.lst D2 dN xs' := by
        refine ⟨hD2, hpl, ⟨_, hp4.hN, ?_, fun x' hx' => ?_⟩, fun x' hx' => ?_, by rw [hzs]; exact hp4.nd, by rw [hlen]; exact hp4.l1, by rw [hlen]; exact hp4.l6, fun v hv => hp4.nm v (by rw [← hzs]; exact hv), .inl rfl⟩
        · rw [hlen]
          exact List.length_map ..
        · obtain ⟨x, hx, e⟩ := back x' hx'
          obtain ⟨i, hi⟩ := List.mem_iff_getElem?.mp hx
          rw [e]
          exact val_row (f := fun y => V.ref y.2.1) hp4.nd hi
        · obtain ⟨x, hx, e⟩ := back x' hx'
          have := hp4.ns x hx
          unfold NsE at this ⊢
          rw [e, hzs]
          exact this
      refine ⟨_, rfl, _, rfl, g, _, dx, _, _, rfl, hp4.hg, T.c_Program, T.nD, pgf_nexts .., _, rfl, g, _, dx, _, _, rfl, hp4.hg, T.c_Program, T.nB, pgf_start .., rfl, rfl, fun g' dx' ng ndx ne => ?_⟩
      have sm := same_make (o1 := .own g') (o2 := .ins (CG K) dx' []) ng ndx
      refine ⟨g', dx', D2, dN, _, xs', _, st, rfl, upd_same, parts.ext sm, by rw [hzs]; exact hst, .inl rfl, fun H5 dx3 tn' dP' dN' x5 hpg nP nN => ⟨rfl, ?_⟩⟩
      have s5 : Same H4 H5 := fun b o e => x5 b o (ne_of_none e ng) (sm _ _ e)
      have nb : ∀ {b : Addr}, (upd (upd H4 dx' (.own g')) g' (.ins (CG K) dx' [])) b = none → H b = none := fun {b} e => by
        cases q : H b with
        | none => rfl
        | some o =>
          have := sm _ _ (s4 _ _ q)
          rw [e] at this
          cases this
      exact k H5 g' xs' dx3 tn' dP' dN' (s4.trans s5) hpg hb (nb nP) (nb nN)
    · refine ⟨_, (pss_cons (ps_if (PW.pt (pw_or (pt_not (pt_val (pe_callB (id := "isinstance") call_isi (by rfl) T.z_isinstance (by decide +kernel) (pa_cons (pv 1) (pa_cons (pe_ty (n := "tuple") T.z_tuple (by decide +kernel)) pa_nil))))) (pw_or1 (pt_val (c_fn O_has_twins hr (by decide) T.g_has_twins pass0 (pa_cons (pv 1) pa_nil)))))) (pss_one (c_raise T.x_BadProgram O_BadProgram_init hr (by decide) T.g_BadProgram (takes_of rfl rfl rfl rfl) (pa_cons pe_str pa_nil)))
  pss_nil)
  (pss_cons (ps_for (passes_of rfl) rfl (pi_tup (pv 1)) (pg_name (i := 2) sc_Program_with_let.nd rfl (Or.inl rfl))
  (pss_one (ps_if (pt_cmpR (op_notInO M.m_contains O_contains hr (by decide)) (pv 2) (pv 0) rfl) (pss_one (c_raise T.x_NoPlace O_NoPlace_init hr (by decide) T.g_NoPlace (takes_of rfl rfl rfl rfl) (pa_cons (pv 2) pa_nil)))
  pss_nil)))
  (pss_cons (ps_setLc (i := 3) (own := [("name", 4)]) (g := gName 4) (tt := tYes) (by rfl) sc_Program_with_let.nd rfl rfl (sw_true rfl rfl rfl (by decide +kernel)) (pi_tup (pe_fld (pv 0) rfl)) (blkOk_by (N := ["self", "names", "item", "olds", "name", "places", "old"]) (sc := defScope s_Program_with_let) (by decide +kernel)) (fun _ _ _ _ _ => pg_name (i := 4) sc_Program_with_let.nd rfl (Or.inl rfl)) (fun _ _ _ _ _ => pts_nil) (fun _ _ _ _ _ => (pe_dget (hu_of hr) (pe_fldK (K := K) rfl (pv 0) rfl) (pv 4) (fun _ _ => rfl))))
  (pss_cons (ps_setLc (i := 5) (own := [("old", 6)]) (g := gName 6) (tt := tYes) (by rfl) sc_Program_with_let.nd rfl rfl (sw_true rfl rfl rfl (by decide +kernel)) (pi_list (pv 3)) (blkOk_by (N := ["self", "names", "item", "olds", "name", "places", "old"]) (sc := defScope s_Program_with_let) (by decide +kernel)) (fun _ _ _ _ _ => pg_name (i := 6) sc_Program_with_let.nd rfl (Or.inl rfl)) (fun _ _ _ _ _ => pts_nil) (fun _ _ _ _ _ => (c_mkK T.m_Place O_Place_init3k hr (by decide) T.g_Place passL (pa_cons (pe_fldK (K := K) rfl (pv 6) rfl) (pa_cons (pe_fldK (K := K) rfl (pv 6) rfl) (pa_cons (pe_fldK (K := K) rfl (pv 6) rfl) pa_nil))) (pk_cons (pe_cmpR (op_in_seqK (K := K) rfl) (pe_fldK (K := K) rfl (pv 6) rfl) (pv 1) rfl) pk_nil))))
  (pss_one (ps_ret (c_mkK T.m_Program O_Program_init2k hr (by decide) T.g_Program passL (pa_cons (pv 5) (pa_cons (pe_fld (pv 0) rfl) pa_nil)) (pk_cons (pe_fld (pv 0) rfl) pk_nil)))))))), ?_⟩
      refine ⟨_, rfl, .ref t, .ty "tuple", .type "list", .type "tuple", false, rfl, .ty _, .base (.lst ht), kit_ty (by decide +kernel), false, rfl, iteT ?_⟩
      exact ⟨_, rfl, fun d hd => k d hd⟩
    · have O_has_twins := O_has_twinsV
      refine ⟨_, (pss_cons (ps_if (PW.pt (pw_or (pt_not (pt_val (pe_callB (id := "isinstance") call_isi (by rfl) T.z_isinstance (by decide +kernel) (pa_cons (pv 1) (pa_cons (pe_ty (n := "tuple") T.z_tuple (by decide +kernel)) pa_nil))))) (pw_or1 (pt_val (c_fn O_has_twins hr (by decide) T.g_has_twins pass0 (pa_cons (pv 1) pa_nil)))))) (pss_one (c_raise T.x_BadProgram O_BadProgram_init hr (by decide) T.g_BadProgram (takes_of rfl rfl rfl rfl) (pa_cons pe_str pa_nil)))
  pss_nil)
  (pss_cons (ps_for (passes_of rfl) rfl (pi_tup (pv 1)) (pg_name (i := 2) sc_Program_with_let.nd rfl (Or.inl rfl))
  (pss_one (ps_if (pt_cmpR (op_notInO M.m_contains O_contains hr (by decide)) (pv 2) (pv 0) rfl) (pss_one (c_raise T.x_NoPlace O_NoPlace_init hr (by decide) T.g_NoPlace (takes_of rfl rfl rfl rfl) (pa_cons (pv 2) pa_nil)))
  pss_nil)))
  (pss_cons (ps_setLc (i := 3) (own := [("name", 4)]) (g := gName 4) (tt := tYes) (by rfl) sc_Program_with_let.nd rfl rfl (sw_true rfl rfl rfl (by decide +kernel)) (pi_tup (pe_fld (pv 0) rfl)) (blkOk_by (N := ["self", "names", "item", "olds", "name", "places", "old"]) (sc := defScope s_Program_with_let) (by decide +kernel)) (fun _ _ _ _ _ => pg_name (i := 4) sc_Program_with_let.nd rfl (Or.inl rfl)) (fun _ _ _ _ _ => pts_nil) (fun _ _ _ _ _ => (pe_dget (hu_of hr) (pe_fldK (K := K) rfl (pv 0) rfl) (pv 4) (fun _ _ => rfl))))
  (pss_cons (ps_setLc (i := 5) (own := [("old", 6)]) (g := gName 6) (tt := tYes) (by rfl) sc_Program_with_let.nd rfl rfl (sw_true rfl rfl rfl (by decide +kernel)) (pi_list (pv 3)) (blkOk_by (N := ["self", "names", "item", "olds", "name", "places", "old"]) (sc := defScope s_Program_with_let) (by decide +kernel)) (fun _ _ _ _ _ => pg_name (i := 6) sc_Program_with_let.nd rfl (Or.inl rfl)) (fun _ _ _ _ _ => pts_nil) (fun _ _ _ _ _ => (c_mkK T.m_Place O_Place_init3k hr (by decide) T.g_Place passL (pa_cons (pe_fldK (K := K) rfl (pv 6) rfl) (pa_cons (pe_fldK (K := K) rfl (pv 6) rfl) (pa_cons (pe_fldK (K := K) rfl (pv 6) rfl) pa_nil))) (pk_cons (pe_cmpR (op_in_seqK (K := K) rfl) (pe_fldK (K := K) rfl (pv 6) rfl) (pv 1) rfl) pk_nil))))
  (pss_one (ps_ret (c_mkK T.m_Program O_Program_init2k hr (by decide) T.g_Program passL (pa_cons (pv 5) (pa_cons (pe_fld (pv 0) rfl) pa_nil)) (pk_cons (pe_fld (pv 0) rfl) pk_nil)))))))), ?_⟩
      refine ⟨_, rfl, .ref t, .ty "tuple", .type "tuple", .type "tuple", true, rfl, .ty _, .base (.tup ht), kit_ty (by decide +kernel), true, rfl, iteF ?_⟩
      refine ⟨_, rfl, t, ys, f, rfl, hl, SqT.of ht, hf, fun H1 b s1 hb => ⟨b, rfl, ?_⟩⟩
      rcases h with ⟨tw, k⟩ | ⟨ntw, i, x, hx, hpre, hno, k⟩
      · have hbt := hb.mpr tw
        subst hbt
        exact iteT ⟨_, rfl, fun d hd => k H1 d s1 hd⟩
      · have hbf : b = false := Bool.eq_false_iff.mpr fun e => ntw (hb.mp e)
        subst hbf
        refine iteF ?_
        have hp1 := hp.ext s1
        have ht1 := s1 _ _ ht
        refine ⟨_, rfl, t, rfl, ⟨_, SqT.of ht1⟩, for_it walk_tup (fun j σ H' => Same H1 H' ∧ j ≤ i ∧ ∃ v2 : Option V, σ = [some (.ref g), some (.ref t), v2, none, none, none, none]) ⟨Same.refl _, Nat.zero_le _, none, rfl⟩ (fun i σ H' _ h => SqT.ext (SqT.of ht1) h.1) ?_ ?_⟩
        · rintro j y σ H2 H3 hj ⟨s12, hji, v2, rfl⟩ ⟨rfl, hy⟩
          have hp2 := hp1.ext s12
          by_cases e : j = i
          · subst e
            rw [hx] at hy
            cases hy
            have hno2 : (∃ z, x = .str z ∧ z ∉ zsOf xs) ∨ OddS H3 x := hno.elim .inl fun o => .inr (oddS_ext (oddS_ext o s1) s12)
            refine ⟨_, rfl, _, rfl, g, dx, _, rfl, hp2.hg, ?_⟩
            refine ⟨g, x, xs, st, dx, tn, dP, dN, rfl, hp2, ?_⟩
            rcases hno2 with ⟨z, rfl, hz⟩ | o
            · exact .inl ⟨z, rfl, _, rfl, true, by rw [decide_eq_false hz]; rfl, iteT ⟨_, rfl, _, rfl, fun d hd => k H3 d (s1.trans s12) hd⟩⟩
            · exact .inr ⟨o, _, rfl, true, rfl, iteT ⟨_, rfl, _, rfl, fun d hd => k H3 d (s1.trans s12) hd⟩⟩
          · obtain ⟨z, rfl, hz⟩ := hpre j y (by omega) hy
            refine ⟨_, rfl, _, rfl, g, dx, _, rfl, hp2.hg, g, _, xs, st, dx, tn, dP, dN, rfl, hp2, .inl ⟨_, rfl, _, rfl, false, by rw [decide_eq_true hz]; rfl, iteF ?_⟩⟩
            exact ⟨s12, by omega, _, rfl⟩
        · rintro σ H2 ⟨s12, hji, v2, rfl⟩
          have := (List.getElem?_eq_some_iff.mp hx).1
          omega
end
end K8

set_option Elab.async false
set_option linter.all false
set_option maxRecDepth 100000
set_option maxHeartbeats 2000000
namespace K8
open PySem PySem.Spec PyProof.Rows L2 Vf
section
variable {P : Program} {w : World} {K : PySem.W.Frag} {mg : Str → Option Value} {base : Heap}
abbrev s_law_chosen : Stmt := top 32
theorem sc_law_chosen : FnScope ["_law_draw", "_law_words", "_law_chosen_here", "_law_k"] ["_law_draw", "_law_words"] (defScope s_law_chosen) := ⟨rfl, rfl, rfl, by decide +kernel, rfl, by decide +kernel, by decide +kernel⟩
-- slots: 0 _law_draw, 1 _law_words, 2 _law_chosen_here, 3 _law_k
def spChs : Sp := fun vs H Q _ => ∃ (d W : Addr) (n : Int) (zs : List Str), vs = [.ref d, .ref W] ∧ H d = some (.lst [.int n]) ∧ H W = some (.lst (zs.map V.str)) ∧ W ≠ d ∧ zs.Nodup ∧ zs.length ≤ 6 ∧
  ∀ (H' : Hp) (C : Addr) (m : Int) (cs : List Str), SameX d H H' → H' d = some (.lst [.int m]) → H C = none → H' C = some (.lst (cs.map V.str)) → cs.Nodup → (∀ v ∈ cs, v ∈ zs) → cs.length ≤ 6 → Q (.ref C) H'
theorem ins_perm {α : Type} (xs : List α) (i : Nat) (y : α) : (xs.take i ++ [y] ++ xs.drop i).Perm (y :: xs) := by
  have h : (xs.take i ++ [y] ++ xs.drop i).Perm ([y] ++ xs.take i ++ xs.drop i) := List.Perm.append_right _ List.perm_append_comm
  have e : [y] ++ xs.take i ++ xs.drop i = y :: xs := by rw [List.append_assoc, List.take_append_drop]; rfl
  rw [e] at h
  exact h
theorem ok_law_chosen {fd : FuncData} (F : FnD K ("_law_chosen", none) "_law_chosen" "_law_chosen" s_law_chosen fd) (T : Txt K mg) (O_law_take : OkF P w K mg base CX0 1 "_law_take" ["_law_draw", "_law_size"] spTake) : OkF P w K mg base CX0 2 "_law_chosen" ["_law_draw", "_law_words"] spChs := by
  refine okd F (F.ok sc_law_chosen (fun vs H Q E h => ?_) fun cdv A outer s H vs Q E hr h => ?_) fun _ _ _ _ _ _ us hl => match us, hl with | [_, _], _ => rfl
  · obtain ⟨d, W, n, zs, rfl, _⟩ := h
    rfl
  · obtain ⟨d, W, n, zs, rfl, hd, hW, hWd, hnd, h6, k⟩ := h
    refine ⟨_, PSs.nox (pss_cons (ps_set (i := 2) sc_law_chosen.nd rfl (Or.inl rfl) (pe_lst pa_nil))
  (pss_cons (ps_for PassesOwn.never rfl (pi_range1 rfl T.z_range (pa_cons (pe_callB (id := "len") call_len_seq (by rfl) T.z_len (by decide +kernel) (pa_cons (pv 1) pa_nil)) pa_nil)) (pg_name (i := 3) sc_law_chosen.nd rfl (Or.inl rfl))
  (pss_one (ps_if (pt_cmpR op_eq (c_fn O_law_take hr (by decide) T.g_law_take pass0 (pa_cons (pv 0) (pa_cons pe_int pa_nil))) pe_int (nomark _)) (pss_one (ps_expr (pe_bm PySem.F.plainAttrs_list PySem.F.slot_list_insert PySem.F.type_list_insert mt_insert (pv 2) (pa_cons (c_fn O_law_take hr (by decide) T.g_law_take pass0 (pa_cons (pv 0) (pa_cons (pe_op op_add (pe_callB (id := "len") call_len_seq (by rfl) T.z_len (by decide +kernel) (pa_cons (pv 2) pa_nil)) pe_int) pa_nil))) (pa_cons (pe_ix ix_list (pv 1) (pv 3) (fun _ _ => rfl)) pa_nil)))))
  pss_nil)))
  (pss_one (ps_ret (pv 2))))), ?_⟩
    refine ⟨by decide, fun C nC => ?_⟩
    have hC : (upd H C (.lst [])) C = some (.lst (([] : List Str).map V.str)) := upd_same
    have s1 := same_new (o := .lst []) nC
    have hd1 := s1 _ _ hd
    have hW1 := s1 _ _ hW
    have hCd : C ≠ d := (ne_of_none hd nC).symm
    have hWC : W ≠ C := ne_of_none hW nC
    generalize upd H C (.lst []) = H1 at hC s1 hd1 hW1 ⊢
    refine ⟨_, rfl, W, _, rfl, .inl (SqL.of hW1), _, rfl, by rw [List.length_map]; omega, by rw [List.length_map]; omega, ?_⟩
    rw [List.length_map]
    refine for_range (lo := 0) (n := (zs.length : Int).toNat) (fun i σ H' => SameX d H H' ∧ (∃ m : Int, H' d = some (.lst [.int m])) ∧ (∃ cs : List Str, H' C = some (.lst (cs.map V.str)) ∧ cs.Nodup ∧ (∀ v ∈ cs, v ∈ zs.take i) ∧ cs.length ≤ i) ∧ ∃ v3 : Option V, σ = [some (.ref d), some (.ref W), some (.ref C), v3]) ⟨same_x s1, ⟨n, hd1⟩, ⟨[], hC, List.nodup_nil, (fun _ h => nomatch h), Nat.zero_le _⟩, none, rfl⟩ ?_ ?_
    · rintro i σ H2 hi ⟨sx, ⟨m, hd2⟩, ⟨cs, hC2, hcn, hcz, hcl⟩, v3, rfl⟩
      have hil : i < zs.length := by omega
      have hzi : zs[i]? = some (zs[i]'hil) := List.getElem?_eq_getElem hil
      generalize zs[i]'hil = z at hzi
      have hW2 := sx _ _ hWd hW
      refine ⟨_, rfl, d, m, 2, rfl, hd2, by decide, by decide, fun q m2 _ _ => ⟨rfl, _, rfl, ite2 (fun _ => ?_) fun _ => ?_⟩⟩
      · have hC3 : (upd H2 d (.lst [.int m2])) C = some (.lst (cs.map V.str)) := by rw [upd_ne hCd]; exact hC2
        have hW3 : (upd H2 d (.lst [.int m2])) W = some (.lst (zs.map V.str)) := by rw [upd_ne hWd]; exact hW2
        have hd3 : (upd H2 d (.lst [.int m2])) d = some (.lst [.int m2]) := upd_same
        have sx3 : SameX d H (upd H2 d (.lst [.int m2])) := sx.trans SameX.upd
        generalize upd H2 d (.lst [.int m2]) = H3 at hC3 hW3 hd3 sx3 ⊢
        refine ⟨_, rfl, .inl ⟨rfl, _, SqL.of hC3⟩, _, rfl, _, rfl, C, _, rfl, .inl (SqL.of hC3), _, _, rfl, rfl, d, m2, (cs.length : Int) + 1, by rw [List.length_map]; rfl, hd3, by omega, by omega, fun r m3 r0 r1 => ?_⟩
        have hC4 : (upd H3 d (.lst [.int m3])) C = some (.lst (cs.map V.str)) := by rw [upd_ne hCd]; exact hC3
        have hW4 : (upd H3 d (.lst [.int m3])) W = some (.lst (zs.map V.str)) := by rw [upd_ne hWd]; exact hW3
        have hd4 : (upd H3 d (.lst [.int m3])) d = some (.lst [.int m3]) := upd_same
        have sx4 : SameX d H (upd H3 d (.lst [.int m3])) := sx3.trans SameX.upd
        generalize upd H3 d (.lst [.int m3]) = H4 at hC4 hW4 hd4 sx4 ⊢
        refine ⟨_, rfl, _, rfl, W, _, _, .str z, rfl, rfl, SqL.of hW4, (by rw [Int.zero_add]; exact atI_nat (by rw [List.getElem?_map, hzi]; rfl)), C, _, r, .str z, rfl, rfl, hC4, ?_, r0, ?_, ?_⟩
        · rw [List.length_map]
          exact Nat.lt_of_le_of_lt (Nat.le_trans hcl (Nat.le_trans (Nat.le_of_lt hil) h6)) (by decide)
        · omega
        have em : (cs.map V.str).take r.toNat ++ [V.str z] ++ (cs.map V.str).drop r.toNat = (cs.take r.toNat ++ [z] ++ cs.drop r.toNat).map V.str := by
          simp [List.map_take, List.map_drop]
        rw [em]
        have hpm := ins_perm cs r.toNat z
        have hnz : z ∉ cs := fun hm => by
          have h1 : (zs.take (i + 1)).Nodup := hnd.sublist (List.take_sublist _ _)
          rw [List.take_add_one, hzi] at h1
          exact (List.nodup_append.mp h1).2.2 _ (hcz z hm) z (by simp) rfl
        refine ⟨fun b o nb e => ?_, ⟨m3, by rw [upd_ne hCd.symm]; exact hd4⟩, ⟨_, upd_same, hpm.nodup_iff.mpr (List.nodup_cons.mpr ⟨hnz, hcn⟩), fun v hv => ?_, ?_⟩, _, rfl⟩
        · rw [upd_ne (ne_of_none e nC)]
          exact sx4 b o nb e
        · rw [List.take_add_one, hzi]
          rcases List.mem_cons.mp (hpm.mem_iff.mp hv) with rfl | hv
          · simp
          · exact List.mem_append_left _ (hcz v hv)
        · rw [hpm.length_eq]
          simp
          omega
      · exact ⟨sx.trans SameX.upd, ⟨m2, upd_same⟩, ⟨cs, by rw [upd_ne hCd]; exact hC2, hcn, fun v hv => by rw [List.take_add_one]; exact List.mem_append_left _ (hcz v hv), by omega⟩, _, rfl⟩
    · rintro σ H2 ⟨sx, ⟨m, hd2⟩, ⟨cs, hC2, hcn, hcz, hcl⟩, v3, rfl⟩
      exact ⟨_, rfl, k H2 C m cs sx hd2 nC hC2 hcn (fun v hv => List.mem_of_mem_take (hcz v hv)) (by omega)⟩
end
end K8

set_option Elab.async false
set_option linter.all false
set_option maxRecDepth 100000
set_option maxHeartbeats 2000000
namespace K8
open PySem PySem.Spec PyProof.Rows L2 Vf
section
variable {P : Program} {w : World} {K : PySem.W.Frag} {mg : Str → Option Value} {base : Heap}
abbrev s_law_let_rows : Stmt := top 33
theorem sc_law_let_rows : FnScope ["_law_rows_here", "_law_chosen_here", "_law_row_here"] ["_law_rows_here", "_law_chosen_here"] (defScope s_law_let_rows) := ⟨rfl, rfl, rfl, by decide +kernel, rfl, by decide +kernel, by decide +kernel⟩
-- slots: 0 _law_rows_here, 1 _law_chosen_here, 2 _law_row_here
def spLtR (K : PySem.W.Frag) : Sp := fun vs H Q _ => ∃ (R C : Addr) (ys : List PgE) (ws : List Str), vs = [.ref R, .ref C] ∧ RowsA H R ys ∧ RowsOk ys ∧ SqL K H C (ws.map V.str) ∧
  ∀ (H' : Hp) (D : Addr) (cs : List PgE), Same H H' → RowsA H' D cs → cs.map (·.2) = ys.map (fun y => (y.2.1, letRw ws y.2.2)) → RowsOk cs → Q (.ref D) H'
theorem ok_law_let_rows {fd : FuncData} (F : FnD K ("_law_let_rows", none) "_law_let_rows" "_law_let_rows" s_law_let_rows fd) (T : Txt K mg) : OkF P w K mg base CX0 1 "_law_let_rows" ["_law_rows_here", "_law_chosen_here"] (spLtR K) := by
  refine okd F (F.ok sc_law_let_rows (fun vs H Q E h => ?_) fun cdv A outer s H vs Q E hr h => ?_) fun _ _ _ _ _ _ us hl => match us, hl with | [_, _], _ => rfl
  · obtain ⟨R, C, ys, ws, rfl, _⟩ := h
    rfl
  · obtain ⟨R, C, ys, ws, rfl, hR, hok, hC, k⟩ := h
    refine ⟨_, PSs.nox (pss_one (ps_ret (pe_lc (own := [("_law_row_here", 2)]) (g := gName 2) (tt := tYes) (by rfl) sc_law_let_rows.nd (pi_list (pv 0)) (blkOk_by (N := ["_law_rows_here", "_law_chosen_here", "_law_row_here"]) (sc := defScope s_law_let_rows) (by decide +kernel)) (fun _ _ _ _ _ => pg_name (i := 2) sc_law_let_rows.nd rfl (Or.inl rfl)) (fun _ _ _ _ _ => pts_nil) (fun _ _ _ _ _ => (pe_lst (pa_cons (pe_ix (ix_listK (K := K) rfl) (pv 2) pe_int (fun _ _ => rfl)) (pa_cons (pe_ix (ix_listK (K := K) rfl) (pv 2) pe_int (fun _ _ => rfl)) (pa_cons (pe_ix (ix_listK (K := K) rfl) (pv 2) pe_int (fun _ _ => rfl)) (pa_cons (pe_cmpR (op_in_seqK (K := K) rfl) (pe_ix (ix_listK (K := K) rfl) (pv 2) pe_int (fun _ _ => rfl)) (pv 1) rfl) (pa_cons (pe_ix (ix_listK (K := K) rfl) (pv 2) pe_int (fun _ _ => rfl)) pa_nil)))))))))), ?_⟩
    refine ⟨_, rfl, R, rfl, ⟨_, SqL.of hR.hR⟩, fun D nD => lc_it walk_list (fun i H' => Same H H' ∧ ∃ cs : List PgE, RowsA H' D cs ∧ cs.map (·.2) = (ys.take i).map (fun y => (y.2.1, letRw ws y.2.2))) ⟨same_new nD, [], ⟨upd_same, (fun _ h => nomatch h)⟩, rfl⟩ (fun i H' _ h => h.1.seq (SqL.of hR.hR)) ?_ ?_⟩
    · rintro i x H1 H' hi ⟨sg, cs, hD, hb⟩ ⟨rfl, hx⟩
      obtain ⟨y, hy, rfl⟩ := getE hx
      have hyr := (hR.ext sg).row y (List.mem_of_getElem? hy)
      have hya := SqL.of (K := K) hyr.1
      have hcl : cs.length ≤ 6 := by
        have := congrArg List.length hb
        simp only [List.length_map, List.length_take] at this
        have := hok.l6
        omega
      refine ⟨rfl, _, rfl, y.1, _, 0, .str y.2.2.z, rfl, rfl, hya, atI0, _, rfl, y.1, _, 1, .int y.2.2.l, rfl, rfl, hya, atI_nat (j := 1) rfl, _, rfl, y.1, _, 2, .int y.2.2.m, rfl, rfl, hya, atI_nat (j := 2) rfl, ?_⟩
      refine ⟨_, rfl, y.1, _, 0, .str y.2.2.z, rfl, rfl, hya, atI0, _, rfl, C, _, rfl, .inl (sg.seq hC), rfl, ?_, ?_⟩
      · exact List.all_eq_true.mpr fun v hv => by
          obtain ⟨z, _, rfl⟩ := List.mem_map.mp hv
          rfl
      have hv : (if false = true then !inV (.str y.2.2.z) (ws.map V.str) else inV (.str y.2.2.z) (ws.map V.str)) = decide (y.2.2.z ∈ ws) := inV_str _ _
      rw [hv]
      refine ⟨_, rfl, y.1, _, 4, .ref y.2.1, rfl, rfl, hya, atI_nat (j := 4) rfl, (by show 5 ≤ sizeLine; decide), fun a na => ?_⟩
      have sa := same_new (o := .lst [.str y.2.2.z, .int y.2.2.l, .int y.2.2.m, .bl (decide (y.2.2.z ∈ ws)), .ref y.2.1]) na
      have hrow : RowA (upd H' a (.lst [.str y.2.2.z, .int y.2.2.l, .int y.2.2.m, .bl (decide (y.2.2.z ∈ ws)), .ref y.2.1])) (a, (y.2.1, letRw ws y.2.2)) := ⟨upd_same, sa _ _ hyr.2⟩
      have hDa := hD.ext sa
      refine ⟨_, hDa.hR, ?_, same_app sg sa nD, cs ++ [(a, (y.2.1, letRw ws y.2.2))], hDa.add hrow, ?_⟩
      · rw [List.length_map]
        exact Nat.lt_of_le_of_lt hcl (by decide)
      · rw [List.map_append, hb, List.take_add_one, List.map_append, hy]
        rfl
    · rintro H1 ⟨s1, cs, hD, hb⟩
      rw [List.length_map, List.take_length] at hb
      have hzs : zsOf cs = zsOf ys := by
        have := congrArg (List.map fun q : Addr × Rw => q.2.z) hb
        rw [List.map_map, List.map_map] at this
        exact this
      have hlen : cs.length = ys.length := by
        have := congrArg List.length hb
        simpa using this
      have back : ∀ c ∈ cs, ∃ y ∈ ys, c.2 = (y.2.1, letRw ws y.2.2) := fun c hc => by
        have : c.2 ∈ cs.map (·.2) := List.mem_map_of_mem hc
        rw [hb] at this
        obtain ⟨y, hy, e⟩ := List.mem_map.mp this
        exact ⟨y, hy, e.symm⟩
      refine k H1 D cs s1 hD hb ⟨by rw [hzs]; exact hok.nd, by rw [hlen]; exact hok.l1, by rw [hlen]; exact hok.l6, fun c hc => ?_, fun c hc => ?_⟩
      · obtain ⟨y, hy, e⟩ := back c hc
        rw [e]
        exact hok.kp y hy
      · obtain ⟨y, hy, e⟩ := back c hc
        rw [e, hzs]
        exact hok.ns y hy
end
end K8

set_option Elab.async false
set_option linter.all false
set_option maxRecDepth 100000
set_option maxHeartbeats 2000000
namespace K8
open PySem PySem.Spec PyProof.Rows L2 Vf
section
variable {P : Program} {w : World} {K : PySem.W.Frag} {mg : Str → Option Value} {base : Heap}
theorem pgf_wl (tn : Addr) (st : Str) (dP dN : Addr) : (pgf tn st dP dN).lookup ("with_let" : Str) = none := by
  unfold pgf
  rw [lookup_putF, if_neg (by decide +kernel), lookup_putF, if_neg (by decide +kernel), lookup_putF, if_neg (by decide +kernel), lookup_putF, if_neg (by decide +kernel)]
  rfl
structure ETxt (K : PySem.W.Frag) : Prop where
  e1 : PySem.W.exmOne K (.ref (He.ga K "BadProgram")) (.ref (He.ga K "BadProgram")) = some true
  e2 : PySem.W.exmOne K (.ref (He.ga K "NoPlace")) (.ref (He.ga K "BadProgram")) = some false
  e3 : PySem.W.exmOne K (.ref (He.ga K "NoPlace")) (.ref (He.ga K "NoPlace")) = some true
structure LMeth (K : PySem.W.Frag) : Prop where
  m_with_let : Meth K (He.ga K "Program") "with_let" (He.fAd K ("Program", some "with_let"))
theorem Txt.xf_BadProgram {K : PySem.W.Frag} {mg : Str → Option Value} (T : Txt K mg) : XfC K (He.ga K "BadProgram") := ⟨T.x_BadProgram.d.ga, T.x_BadProgram.d.gg, T.x_BadProgram.d.o.exC, T.x_BadProgram.d.hd⟩
theorem Txt.xf_NoPlace {K : PySem.W.Frag} {mg : Str → Option Value} (T : Txt K mg) : XfC K (He.ga K "NoPlace") := ⟨T.x_NoPlace.d.ga, T.x_NoPlace.d.gg, T.x_NoPlace.d.o.exC, T.x_NoPlace.d.hd⟩
abbrev s_law_with : Stmt := top 31
theorem sc_law_with : FnScope ["_law_program_here", "_law_chosen_here", "_law_outcome", "e"] ["_law_program_here", "_law_chosen_here"] (defScope s_law_with) := ⟨rfl, rfl, rfl, by decide +kernel, rfl, by decide +kernel, by decide +kernel⟩
-- slots: 0 _law_program_here, 1 _law_chosen_here, 2 _law_outcome, 3 e
/-- what with_let tells -/
def spWth (K : PySem.W.Frag) : Sp := fun vs H Q _ => spWlt K vs H (fun v H' => ∀ H2 o, Same H' H2 → H2 o = some (.tup [.str "told", v]) → Q (.ref o) H2)
  (fun cls d H' => ∃ dd, d = some dd ∧ ((cls = .ref (CBG K) ∧ ∃ v, H' dd = some (.xd [("why", v)]) ∧ ∀ H2 o, Same H' H2 → H2 o = some (.tup [.str "bad", v]) → Q (.ref o) H2) ∨ (cls = .ref (CNP K) ∧ ∃ v, H' dd = some (.xd [("name", v)]) ∧ ∀ H2 o, Same H' H2 → H2 o = some (.tup [.str "none", v]) → Q (.ref o) H2)))
theorem spWlt_mono {K : PySem.W.Frag} {vs : List V} {H : Hp} {Q Q2 : VK} {E E2 : XK} (hQ : ∀ v H', Q v H' → Q2 v H') (hE : ∀ c d H', E c d H' → E2 c d H') (h : spWlt K vs H Q E) : spWlt K vs H Q2 E2 := by
  obtain ⟨g, t, xs, st, dx, tn, dP, dN, rfl, hp, hst, hk, h⟩ := h
  refine ⟨g, t, xs, st, dx, tn, dP, dN, rfl, hp, hst, hk, ?_⟩
  rcases h with ⟨ws, h1, h2, h3, h4, k⟩ | ⟨ys, h1, k⟩ | ⟨ys, f, h1, h2, h3, h⟩
  · exact .inl ⟨ws, h1, h2, h3, h4, fun H' g' xs' dx' tn' dP' dN' a b c d e => hQ _ _ (k H' g' xs' dx' tn' dP' dN' a b c d e)⟩
  · exact .inr (.inl ⟨ys, h1, fun d hd => hE _ _ _ (k d hd)⟩)
  · refine .inr (.inr ⟨ys, f, h1, h2, h3, ?_⟩)
    rcases h with ⟨tw, k⟩ | ⟨ntw, i, x, hx, hpre, hno, k⟩
    · exact .inl ⟨tw, fun H' d s hd => hE _ _ _ (k H' d s hd)⟩
    · exact .inr ⟨ntw, i, x, hx, hpre, hno, fun H' d s hd => hE _ _ _ (k H' d s hd)⟩
theorem ok_law_with {fd : FuncData} (F : FnD K ("_law_with", none) "_law_with" "_law_with" s_law_with fd) (T : Txt K mg) (L : LMeth K) (Ee : ETxt K) (O_Program_with_let : OkM P w K mg base (L2.CX P w) 7 "Program" "with_let" ["self", "names"] (spWlt K)) : OkF P w K mg base CX0 8 "_law_with" ["_law_program_here", "_law_chosen_here"] (spWth K) := by
  refine okd F (F.ok sc_law_with (fun vs H Q E h => ?_) fun cdv A outer s H vs Q E hr h => ?_) fun _ _ _ _ _ _ us hl => match us, hl with | [_, _], _ => rfl
  · obtain ⟨g, t, xs, st, dx, tn, dP, dN, rfl, _⟩ := h
    rfl
  · refine ⟨_, PSs.nox (pss_cons (ps_try_clauses (Wout := fun _ _ _ _ => False) rfl rfl sc_law_with.nd takes0 (fun W pn xe tk _ => (pss_one (ps_set (i := 2) sc_law_with.nd rfl (Or.inl rfl) (pe_tup (pa_cons pe_str (pa_cons (c_me rfl (pv 0) T.c_Program L.m_with_let O_Program_with_let hr (by decide) (passAny 4 tk) (pa_cons (pv 1) pa_nil)) pa_nil)))))) (.cons (i := 3) rfl rfl ⟨rfl, by decide, Or.inl T.g_BadProgram⟩ (fun a oe cls d pn hz hf => (pss_one (ps_set (i := 2) sc_law_with.nd rfl (Or.inl rfl) (pe_tup (pa_cons pe_str (pa_cons (pe_xf T.xf_BadProgram T.x_BadProgram.n hz hf (pv 3)) pa_nil)))))) (.cons (i := 3) rfl rfl ⟨rfl, by decide, Or.inl T.g_NoPlace⟩ (fun a oe cls d pn hz hf => (pss_one (ps_set (i := 2) sc_law_with.nd rfl (Or.inl rfl) (pe_tup (pa_cons pe_str (pa_cons (pe_xf T.xf_NoPlace T.x_NoPlace.n hz hf (pv 3)) pa_nil)))))) .nil)))
  (pss_one (ps_ret (pv 2)))), ?_⟩
    have lw : ∀ v : V, List.lookup ("why" : Str) [(("why" : Str), v)] = some v := fun v => by simp [List.lookup]
    have ln : ∀ v : V, List.lookup ("name" : Str) [(("name" : Str), v)] = some v := fun v => by simp [List.lookup]
    obtain ⟨g, t, xs, st, dx, tn, dP, dN, rfl, hp, _⟩ := id h
    refine ⟨_, rfl, g, dx, _, rfl, hp.hg, pgf_wl .., _, rfl, ?_⟩
    unfold tNil
    dsimp only
    show spWlt K [V.ref g, V.ref t] H _ _
    refine spWlt_mono (fun v H' q => ?_) (fun cls d H' q => ?_) h
    · refine ⟨(by show 2 ≤ sizeLine; decide), fun o no => ⟨_, rfl, ?_⟩⟩
      exact q _ o (same_new no) upd_same
    · obtain ⟨dd, rfl, q⟩ := q
      intro σ hσ
      have s5 : ∀ a : Addr, (σ.set 3 (some (V.ref a)))[3]? = some (some (V.ref a)) := fun a => List.getElem?_set_self (by omega)
      rcases q with ⟨rfl, v, hv, q⟩ | ⟨rfl, v, hv, q⟩
      · refine ⟨true, Ee.e1, fun _ a na => ?_, fun z => Bool.noConfusion z⟩
        refine ⟨_, s5 a, rfl, rfl, dd, _, _, rfl, hv, lw _, (by show 2 ≤ sizeLine; decide), fun o no => ⟨_, ?_, q _ o (same_new no) upd_same⟩⟩
        rw [List.getElem?_set_ne (by decide), List.getElem?_set_self (by rw [List.length_set]; omega)]
      · refine ⟨false, Ee.e2, fun z => Bool.noConfusion z, fun _ => ⟨true, Ee.e3, fun _ a na => ?_, fun z => Bool.noConfusion z⟩⟩
        refine ⟨_, s5 a, rfl, rfl, dd, _, _, rfl, hv, ln _, (by show 2 ≤ sizeLine; decide), fun o no => ⟨_, ?_, q _ o (same_new no) upd_same⟩⟩
        rw [List.getElem?_set_ne (by decide), List.getElem?_set_self (by rw [List.length_set]; omega)]
end
end K8

set_option Elab.async false
set_option linter.all false
set_option maxRecDepth 100000
set_option maxHeartbeats 2000000
namespace K8
open PySem PySem.Spec PyProof.Rows L2 Vf
section
variable {P : Program} {w : World} {K : PySem.W.Frag} {mg : Str → Option Value} {base : Heap}
/-- the odd items -/
inductive OddIt (H : Hp) : V → Prop
  | z9 : OddIt H (.str "zzzzzzzzz")
  | em : OddIt H (.str "")
  | wd : OddIt H (.str "any")
  | non : OddIt H .non
  | int : OddIt H (.int 5)
  | tup {a : Addr} (h : H a = some (.tup [])) : OddIt H (.ref a)
  | lst {a : Addr} (h : H a = some (.lst [.str "a"])) : OddIt H (.ref a)
  | dic {a : Addr} (h : H a = some (.dK [])) : OddIt H (.ref a)
theorem OddIt.keep {H H' : Hp} {y : V} (o : OddIt H y) (hk : ∀ a u, y = .ref a → H a = some u → H' a = some u) : OddIt H' y := by
  cases o with
  | z9 => exact .z9
  | em => exact .em
  | wd => exact .wd
  | non => exact .non
  | int => exact .int
  | tup h => exact .tup (hk _ _ rfl h)
  | lst h => exact .lst (hk _ _ rfl h)
  | dic h => exact .dic (hk _ _ rfl h)
def ItOk (H : Hp) (cs : List Str) (y : V) : Prop := (∃ z ∈ cs, y = .str z) ∨ OddIt H y
theorem ItOk.keep {H H' : Hp} {cs : List Str} {y : V} (o : ItOk H cs y) (hk : ∀ a u, y = .ref a → H a = some u → H' a = some u) : ItOk H' cs y := o.imp id fun o => o.keep hk
/-- the items at I, none of them d or I -/
structure Its (H : Hp) (d I : Addr) (cs : List Str) (ys : List V) : Prop where
  hI : H I = some (.lst ys)
  ok : ∀ y ∈ ys, ItOk H cs y ∧ y ≠ .ref I ∧ y ≠ .ref d
theorem Its.extX {H H' : Hp} {d I : Addr} {cs : List Str} {ys : List V} (h : Its H d I cs ys) (n : I ≠ d) (s : SameX d H H') : Its H' d I cs ys :=
  ⟨s _ _ n h.hI, fun y hy => ⟨(h.ok y hy).1.keep fun a u e q => s _ _ (fun z => (h.ok y hy).2.2 (by rw [e, z])) q, (h.ok y hy).2⟩⟩
theorem Its.ext {H H' : Hp} {d I : Addr} {cs : List Str} {ys : List V} (h : Its H d I cs ys) (s : Same H H') : Its H' d I cs ys :=
  ⟨s _ _ h.hI, fun y hy => ⟨(h.ok y hy).1.keep fun a u _ q => s _ _ q, (h.ok y hy).2⟩⟩
theorem Its.ins {H : Hp} {d I : Addr} {cs : List Str} {ys : List V} (h : Its H d I cs ys) {y : V} (hy : ItOk H cs y) (n1 : y ≠ .ref I) (n2 : y ≠ .ref d) (r : Nat) : Its (upd H I (.lst (ys.take r ++ [y] ++ ys.drop r))) d I cs (ys.take r ++ [y] ++ ys.drop r) := by
  refine ⟨upd_same, fun x hx => ?_⟩
  have k : ∀ x : V, ItOk H cs x → x ≠ .ref I → ItOk (upd H I (.lst (ys.take r ++ [y] ++ ys.drop r))) cs x := fun x ho n => ho.keep fun a u e q => by
    rw [upd_ne (fun z => n (by rw [e, z]))]
    exact q
  have hm := (ins_perm ys r y).mem_iff.mp hx
  rcases List.mem_cons.mp hm with rfl | hm
  · exact ⟨k _ hy n1, n1, n2⟩
  · exact ⟨k _ (h.ok x hm).1 (h.ok x hm).2.1, (h.ok x hm).2⟩
abbrev s_law_spoiled : Stmt := top 34
theorem sc_law_spoiled : FnScope ["_law_draw", "_law_chosen_here", "_law_items", "_law_k", "_law_odd"] ["_law_draw", "_law_chosen_here"] (defScope s_law_spoiled) := ⟨rfl, rfl, rfl, by decide +kernel, rfl, by decide +kernel, by decide +kernel⟩
-- slots: 0 _law_draw, 1 _law_chosen_here, 2 _law_items, 3 _law_k, 4 _law_odd
def spSpo : Sp := fun vs H Q _ => ∃ (d C : Addr) (n : Int) (cs : List Str), vs = [.ref d, .ref C] ∧ H d = some (.lst [.int n]) ∧ H C = some (.lst (cs.map V.str)) ∧ C ≠ d ∧ cs.length ≤ 6 ∧
  ∀ (H' : Hp) (I : Addr) (m : Int) (ys : List V), SameX d H H' → H I = none → Its H' d I cs ys → ys.length ≤ 9 → (∃ y ∈ ys, OddIt H' y) → Q (.ref I) H'
theorem ok_law_spoiled {fd : FuncData} (F : FnD K ("_law_spoiled", none) "_law_spoiled" "_law_spoiled" s_law_spoiled fd) (T : Txt K mg) (O_law_take : OkF P w K mg base CX0 1 "_law_take" ["_law_draw", "_law_size"] spTake) : OkF P w K mg base CX0 2 "_law_spoiled" ["_law_draw", "_law_chosen_here"] spSpo := by
  refine okd F (F.ok sc_law_spoiled (fun vs H Q E h => ?_) fun cdv A outer s H vs Q E hr h => ?_) fun _ _ _ _ _ _ us hl => match us, hl with | [_, _], _ => rfl
  · obtain ⟨d, C, n, cs, rfl, _⟩ := h
    rfl
  · obtain ⟨d, C, n, cs, rfl, hd, hC, nCd, h6, k⟩ := h
    refine ⟨_, PSs.nox (pss_cons (ps_set (i := 2) sc_law_spoiled.nd rfl (Or.inl rfl) (pe_callTy call_list_of (by rfl) T.z_list (by decide +kernel) (pa_cons (pv 1) pa_nil)))
  (pss_cons (ps_for PassesOwn.never rfl (pi_range1 rfl T.z_range (pa_cons (pe_op op_add pe_int (c_fn O_law_take hr (by decide) T.g_law_take pass0 (pa_cons (pv 0) (pa_cons pe_int pa_nil)))) pa_nil)) (pg_name (i := 3) sc_law_spoiled.nd rfl (Or.inl rfl))
  (pss_cons (ps_set (i := 4) sc_law_spoiled.nd rfl (Or.inl rfl) (pe_ix ix_list (pe_lst (pa_cons pe_str (pa_cons pe_str (pa_cons pe_non (pa_cons pe_int (pa_cons (pe_tup pa_nil) (pa_cons pe_str (pa_cons (pe_lst (pa_cons pe_str pa_nil)) (pa_cons pe_dnewK pa_nil))))))))) (c_fn O_law_take hr (by decide) T.g_law_take pass0 (pa_cons (pv 0) (pa_cons pe_int pa_nil))) (fun _ _ => rfl)))
  (pss_one (ps_expr (pe_bm PySem.F.plainAttrs_list PySem.F.slot_list_insert PySem.F.type_list_insert mt_insert (pv 2) (pa_cons (c_fn O_law_take hr (by decide) T.g_law_take pass0 (pa_cons (pv 0) (pa_cons (pe_op op_add (pe_callB (id := "len") call_len_seq (by rfl) T.z_len (by decide +kernel) (pa_cons (pv 2) pa_nil)) pe_int) pa_nil))) (pa_cons (pv 4) pa_nil)))))))
  (C8.pss_cut (ps_if (pt_cmpR op_eq (c_fn O_law_take hr (by decide) T.g_law_take pass0 (pa_cons (pv 0) (pa_cons pe_int pa_nil))) pe_int (nomark _)) (pss_one (ps_expr (pe_bm PySem.F.plainAttrs_list PySem.F.slot_list_insert PySem.F.type_list_insert mt_insert (pv 2) (pa_cons (c_fn O_law_take hr (by decide) T.g_law_take pass0 (pa_cons (pv 0) (pa_cons (pe_op op_add (pe_callB (id := "len") call_len_seq (by rfl) T.z_len (by decide +kernel) (pa_cons (pv 2) pa_nil)) pe_int) pa_nil))) (pa_cons (pe_ix ix_list (pv 2) (c_fn O_law_take hr (by decide) T.g_law_take pass0 (pa_cons (pv 0) (pa_cons (pe_callB (id := "len") call_len_seq (by rfl) T.z_len (by decide +kernel) (pa_cons (pv 2) pa_nil)) pa_nil))) (fun _ _ => rfl)) pa_nil)))))
  pss_nil)
  (pss_one (ps_ret (pv 2)))))), ?_⟩
    refine ⟨_, rfl, C, _, rfl, .inl (SqL.of hC), fun I nI => ?_⟩
    have nId : I ≠ d := (ne_of_none hd nI).symm
    have s1 := same_new (o := .lst (cs.map V.str)) nI
    have hd1 := s1 _ _ hd
    have hI : Its (upd H I (.lst (cs.map V.str))) d I cs (cs.map V.str) := ⟨upd_same, fun y hy => by
      obtain ⟨z, hz, rfl⟩ := List.mem_map.mp hy
      exact ⟨.inl ⟨z, hz, rfl⟩, fun e => (nomatch e), fun e => (nomatch e)⟩⟩
    generalize upd H I (.lst (cs.map V.str)) = H1 at s1 hd1 hI ⊢
    refine ⟨_, rfl, d, n, 2, rfl, hd1, by decide, by decide, fun q m q0 q1 => ⟨1, q, rfl, rfl, 1 + q, rfl, by omega, by omega, ?_⟩⟩
    refine for_range (lo := 0) (n := (1 + q).toNat) (fun i σ H' => SameX d H H' ∧ (∃ m : Int, H' d = some (.lst [.int m])) ∧ (∃ ys : List V, Its H' d I cs ys ∧ ys.length = cs.length + i ∧ (0 < i → ∃ y ∈ ys, OddIt H' y)) ∧ ∃ v3 v4 : Option V, σ = [some (.ref d), some (.ref C), some (.ref I), v3, v4]) ⟨(same_x s1).trans SameX.upd, ⟨m, upd_same⟩, ⟨_, hI.extX nId SameX.upd, by rw [List.length_map]; rfl, fun z => absurd z (Nat.lt_irrefl 0)⟩, none, none, rfl⟩ ?_ ?_
    · clear hI hd1 s1 hd n m H1
      rintro i σ H1 hi ⟨sx, ⟨m, hd⟩, ⟨ys, hI, hl, _⟩, v3, v4, rfl⟩
      have hi2 : i ≤ 1 := by omega
      have hyI : ∀ y ∈ ys, ∀ a, y = .ref a → a ≠ I ∧ a ≠ d := fun y hy a e => ⟨fun z => (hI.ok y hy).2.1 (by rw [e, z]), fun z => (hI.ok y hy).2.2 (by rw [e, z])⟩
      refine ⟨(by show 0 ≤ sizeLine; decide), fun t1 n1 => ⟨(by show 1 ≤ sizeLine; decide), fun t2 n2 => fun t3 n3 => ⟨(by show 8 ≤ sizeLine; decide), fun O nO => ?_⟩⟩⟩
      have u1 := same_new (o := .tup []) n1
      have u2 := same_new (o := .lst [.str "a"]) n2
      have u3 := same_new (o := .dK []) n3
      have u4 := same_new (o := .lst [.str "zzzzzzzzz", .str "", .non, .int 5, .ref t1, .str "any", .ref t2, .ref t3]) nO
      have g1 := u4 _ _ (u3 _ _ (u2 _ _ (upd_same (H := H1) (a := t1) (o := .tup []))))
      have g2 := u4 _ _ (u3 _ _ (upd_same (H := upd H1 t1 (.tup [])) (a := t2) (o := .lst [.str "a"])))
      have g3 := u4 _ _ (upd_same (H := upd (upd H1 t1 (.tup [])) t2 (.lst [.str "a"])) (a := t3) (o := .dK []))
      have g4 := upd_same (H := upd (upd (upd H1 t1 (.tup [])) t2 (.lst [.str "a"])) t3 (.dK [])) (a := O) (o := .lst [.str "zzzzzzzzz", .str "", .non, .int 5, .ref t1, .str "any", .ref t2, .ref t3])
      have s4 := u1.trans (u2.trans (u3.trans u4))
      have m1 : t1 ≠ I ∧ t1 ≠ d := ⟨(ne_of_none hI.hI n1).symm, (ne_of_none hd n1).symm⟩
      have m2 : t2 ≠ I ∧ t2 ≠ d := ⟨(ne_of_none (u1 _ _ hI.hI) n2).symm, (ne_of_none (u1 _ _ hd) n2).symm⟩
      have m3 : t3 ≠ I ∧ t3 ≠ d := ⟨(ne_of_none (u2 _ _ (u1 _ _ hI.hI)) n3).symm, (ne_of_none (u2 _ _ (u1 _ _ hd)) n3).symm⟩
      have nOd : O ≠ d := (ne_of_none (u3 _ _ (u2 _ _ (u1 _ _ hd))) nO).symm
      have hd4 := s4 _ _ hd
      have hI4 := hI.ext s4
      have sx4 := sx.trans (same_x (d := d) s4)
      generalize upd (upd (upd (upd H1 t1 (.tup [])) t2 (.lst [.str "a"])) t3 (.dK [])) O (.lst [.str "zzzzzzzzz", .str "", .non, .int 5, .ref t1, .str "any", .ref t2, .ref t3]) = H4 at g1 g2 g3 g4 hd4 hI4 sx4 ⊢
      clear u1 u2 u3 u4 n1 n2 n3 nO s4 hI hd sx
      refine ⟨_, rfl, d, m, 8, rfl, hd4, by decide, by decide, fun q' m' q0' q1' => ?_⟩
      have x5 : SameX d H4 (upd H4 d (.lst [.int m'])) := SameX.upd
      have b1 := x5 _ _ m1.2 g1
      have b2 := x5 _ _ m2.2 g2
      have b3 := x5 _ _ m3.2 g3
      have b4 := x5 _ _ nOd g4
      have hd5 : (upd H4 d (.lst [.int m'])) d = some (.lst [.int m']) := upd_same
      have hI5 := hI4.extX nId x5
      have sx5 := sx4.trans x5
      generalize upd H4 d (.lst [.int m']) = H5 at b1 b2 b3 b4 hd5 hI5 sx5 ⊢
      clear g1 g2 g3 g4 hd4 hI4 sx4 x5
      obtain ⟨j, hj, rfl⟩ : ∃ j : Nat, j < 8 ∧ q' = (j : Int) := ⟨q'.toNat, by omega, by omega⟩
      obtain ⟨x, hx, ho, hn1, hn2⟩ : ∃ x : V, ([.str "zzzzzzzzz", .str "", .non, .int 5, .ref t1, .str "any", .ref t2, .ref t3] : List V)[j]? = some x ∧ OddIt H5 x ∧ x ≠ .ref I ∧ x ≠ .ref d := by
        match j, hj with
        | 0, _ => exact ⟨_, rfl, .z9, fun z => (nomatch z), fun z => (nomatch z)⟩
        | 1, _ => exact ⟨_, rfl, .em, fun z => (nomatch z), fun z => (nomatch z)⟩
        | 2, _ => exact ⟨_, rfl, .non, fun z => (nomatch z), fun z => (nomatch z)⟩
        | 3, _ => exact ⟨_, rfl, .int, fun z => (nomatch z), fun z => (nomatch z)⟩
        | 4, _ => exact ⟨_, rfl, .tup b1, fun z => m1.1 (V.ref.inj z), fun z => m1.2 (V.ref.inj z)⟩
        | 5, _ => exact ⟨_, rfl, .wd, fun z => (nomatch z), fun z => (nomatch z)⟩
        | 6, _ => exact ⟨_, rfl, .lst b2, fun z => m2.1 (V.ref.inj z), fun z => m2.2 (V.ref.inj z)⟩
        | 7, _ => exact ⟨_, rfl, .dic b3, fun z => m3.1 (V.ref.inj z), fun z => m3.2 (V.ref.inj z)⟩
      refine ⟨O, _, _, x, rfl, rfl, SqL.of b4, atI_nat hx, ?_⟩
      refine ⟨_, rfl, .inl ⟨rfl, _, SqL.of hI5.hI⟩, _, rfl, _, rfl, I, _, rfl, .inl (SqL.of hI5.hI), _, _, rfl, rfl, d, m', (ys.length : Int) + 1, rfl, hd5, by omega, by omega, fun r m3 r0 r1 => ?_⟩
      have x6 : SameX d H5 (upd H5 d (.lst [.int m3])) := SameX.upd
      have hd6 : (upd H5 d (.lst [.int m3])) d = some (.lst [.int m3]) := upd_same
      have hI6 := hI5.extX nId x6
      have sx6 := sx5.trans x6
      have ho6 : OddIt (upd H5 d (.lst [.int m3])) x := ho.keep fun a u e q => x6 _ _ (fun z => hn2 (by rw [e, z])) q
      generalize upd H5 d (.lst [.int m3]) = H6 at hd6 hI6 sx6 ho6 ⊢
      clear b1 b2 b3 b4 hd5 hI5 sx5 x6 ho hx
      refine ⟨_, rfl, I, _, r, x, rfl, rfl, hI6.hI, ?_, r0, by omega, ?_⟩
      · exact Nat.lt_of_le_of_lt (show ys.length ≤ 8 by omega) (by decide)
      have hI7 := hI6.ins (.inr ho6) hn1 hn2 r.toNat
      refine ⟨fun b o nb e => ?_, ⟨m3, by rw [upd_ne nId.symm]; exact hd6⟩, ⟨_, hI7, ?_, fun _ => ⟨x, ?_, ?_⟩⟩, _, _, rfl⟩
      · rw [upd_ne (ne_of_none e nI)]
        exact sx6 b o nb e
      · rw [(ins_perm ys r.toNat x).length_eq, List.length_cons]
        omega
      · exact (ins_perm ys r.toNat x).mem_iff.mpr List.mem_cons_self
      · exact ho6.keep fun a u e q => by
          rw [upd_ne (fun z => hn1 (by rw [e, z]))]
          exact q
    · rintro σ H2 ⟨sx, ⟨m2, hd2⟩, ⟨ys, hI2, hl, ho⟩, v3, v4, rfl⟩
      obtain ⟨y0, hy0, oy0⟩ := ho (by omega)
      have hl8 : ys.length ≤ 8 := by omega
      have hl1 : 1 ≤ ys.length := by omega
      refine ⟨fun σ' H' => SameX d H H' ∧ (∃ (m : Int) (ys : List V), Its H' d I cs ys ∧ ys.length ≤ 9 ∧ ∃ y ∈ ys, OddIt H' y) ∧ ∃ v3 v4 : Option V, σ' = [some (.ref d), some (.ref C), some (.ref I), v3, v4], ?_, ?_⟩
      · refine ⟨_, rfl, d, m2, 4, rfl, hd2, by decide, by decide, fun q3 m3 _ _ => ⟨rfl, _, rfl, ?_⟩⟩
        have x3 : SameX d H2 (upd H2 d (.lst [.int m3])) := SameX.upd
        have hd3 : (upd H2 d (.lst [.int m3])) d = some (.lst [.int m3]) := upd_same
        have hI3 := hI2.extX nId x3
        have sx3 := sx.trans x3
        have oy3 : OddIt (upd H2 d (.lst [.int m3])) y0 := oy0.keep fun a u e q => x3 _ _ (fun z => (hI2.ok y0 hy0).2.2 (by rw [e, z])) q
        generalize upd H2 d (.lst [.int m3]) = H3 at hd3 hI3 sx3 oy3 ⊢
        refine ite2 (fun _ => ?_) fun _ => ⟨sx3, ⟨0, ys, hI3, by omega, y0, hy0, oy3⟩, _, _, rfl⟩
        refine ⟨_, rfl, .inl ⟨rfl, _, SqL.of hI3.hI⟩, _, rfl, _, rfl, I, _, rfl, .inl (SqL.of hI3.hI), _, _, rfl, rfl, d, m3, (ys.length : Int) + 1, rfl, hd3, by omega, by omega, fun r m4 r0 r1 => ?_⟩
        have x4 : SameX d H3 (upd H3 d (.lst [.int m4])) := SameX.upd
        have hd4 : (upd H3 d (.lst [.int m4])) d = some (.lst [.int m4]) := upd_same
        have hI4 := hI3.extX nId x4
        have sx4 := sx3.trans x4
        have oy4 : OddIt (upd H3 d (.lst [.int m4])) y0 := oy3.keep fun a u e q => x4 _ _ (fun z => (hI3.ok y0 hy0).2.2 (by rw [e, z])) q
        generalize upd H3 d (.lst [.int m4]) = H4 at hd4 hI4 sx4 oy4 ⊢
        refine ⟨_, rfl, _, rfl, _, rfl, I, _, rfl, .inl (SqL.of hI4.hI), d, m4, (ys.length : Int), rfl, hd4, by omega, by omega, fun r' m5 r0' r1' => ?_⟩
        have x5 : SameX d H4 (upd H4 d (.lst [.int m5])) := SameX.upd
        have hI5 := hI4.extX nId x5
        have sx5 := sx4.trans x5
        have oy5 : OddIt (upd H4 d (.lst [.int m5])) y0 := oy4.keep fun a u e q => x5 _ _ (fun z => (hI4.ok y0 hy0).2.2 (by rw [e, z])) q
        generalize upd H4 d (.lst [.int m5]) = H5 at hI5 sx5 oy5 ⊢
        obtain ⟨j, hj, rfl⟩ : ∃ j : Nat, j < ys.length ∧ r' = (j : Int) := ⟨r'.toNat, by omega, by omega⟩
        have hx : ys[j]? = some (ys[j]'hj) := List.getElem?_eq_getElem hj
        generalize ys[j]'hj = x at hx
        have hxm := List.mem_of_getElem? hx
        refine ⟨I, _, _, x, rfl, rfl, SqL.of hI5.hI, atI_nat hx, I, _, r, x, rfl, rfl, hI5.hI, ?_, r0, by omega, ?_⟩
        · exact Nat.lt_of_le_of_lt hl8 (by decide)
        have hI6 := hI5.ins (hI5.ok x hxm).1 (hI5.ok x hxm).2.1 (hI5.ok x hxm).2.2 r.toNat
        refine ⟨fun b o nb e => ?_, ⟨0, _, hI6, ?_, y0, ?_, ?_⟩, _, _, rfl⟩
        · rw [upd_ne (ne_of_none e nI)]
          exact sx5 b o nb e
        · rw [(ins_perm ys r.toNat x).length_eq, List.length_cons]
          omega
        · exact (ins_perm ys r.toNat x).mem_iff.mpr (List.mem_cons_of_mem _ hy0)
        · exact oy5.keep fun a u e q => by
            rw [upd_ne (fun z => (hI5.ok y0 hy0).2.1 (by rw [e, z]))]
            exact q
      · rintro σ' H' ⟨sx, ⟨m, ys, hI, hl, y, hy, oy⟩, v3, v4, rfl⟩
        exact ⟨_, rfl, k H' I m ys sx nI hI hl ⟨y, hy, oy⟩⟩
end
end K8

set_option Elab.async false
set_option linter.all false
set_option pp.deepTerms.threshold 14
set_option pp.maxSteps 2500
set_option maxRecDepth 100000
set_option maxHeartbeats 2000000
namespace K8
open PySem PySem.Spec PyProof.Rows L2 Vf
section
variable {P : Program} {w : World} {K : PySem.W.Frag} {mg : Str → Option Value} {base : Heap}
def rwOf (ys : List PgE) : List Rw := ys.map fun y => y.2.2
theorem Beside.rw {xs ys : List PgE} (h : Beside xs ys) : rwOf xs = rwOf ys := by
  have := congrArg (List.map fun x : Addr × Rw => x.2) h
  rw [List.map_map, List.map_map] at this
  exact this
theorem pg_alike {xs xs' : List PgE} {st st' : Str} : pgB xs xs' st st' = (decide (rwOf xs = rwOf xs') && decide (st = st')) := by
  have key : (zsOf xs = zsOf xs' ∧ plOf xs = plOf xs' ∧ nsOf xs = nsOf xs') ↔ rwOf xs = rwOf xs' := by
    constructor
    · rintro ⟨_, h1, h2⟩
      have hl : xs.length = xs'.length := by
        have := congrArg List.length h1
        simpa [plOf] using this
      refine List.ext_getElem? fun i => ?_
      have e1 := congrArg (fun l => l[i]?) h1
      have e2 := congrArg (fun l => l[i]?) h2
      simp only [plOf, nsOf, rwOf, List.getElem?_map] at e1 e2 ⊢
      cases hx : xs[i]? with
      | none =>
        rw [hx] at e1
        cases hy : xs'[i]? with
        | none => rfl
        | some y => rw [hy] at e1; cases e1
      | some x =>
        rw [hx] at e1 e2
        cases hy : xs'[i]? with
        | none => rw [hy] at e1; cases e1
        | some y =>
          rw [hy] at e1 e2
          simp only [Option.map_some, Option.some.injEq, Prod.mk.injEq] at e1 e2 ⊢
          obtain ⟨a1, a2, a3, a4⟩ := e1
          cases hr : x.2.2
          cases hr' : y.2.2
          rw [hr, hr'] at a1 a2 a3 a4 e2
          simp only at a1 a2 a3 a4 e2
          rw [a1, a2, a3, a4, e2]
    · intro h
      refine ⟨?_, ?_, ?_⟩
      · have := congrArg (List.map fun r : Rw => r.z) h
        simpa [rwOf, zsOf, List.map_map, Function.comp_def] using this
      · have := congrArg (List.map fun r : Rw => (r.z, r.l, r.m, r.b)) h
        simpa [rwOf, plOf, List.map_map, Function.comp_def] using this
      · have := congrArg (List.map fun r : Rw => r.ns) h
        simpa [rwOf, nsOf, List.map_map, Function.comp_def] using this
  unfold pgB
  rw [Bool.eq_iff_iff]
  simp only [Bool.and_eq_true, decide_eq_true_eq]
  rw [← key]
  simp [and_assoc]
theorem PgA.extL {K : PySem.W.Frag} {H H' : Hp} {g d : Addr} {n : Int} {xs : List PgE} {st : Str} {dx tn dP dN : Addr} (h : PgA K H g xs st dx tn dP dN) (hd : H d = some (.lst [.int n])) (s : SameX d H H') : PgA K H' g xs st dx tn dP dN := by
  refine ⟨s _ _ (ne_of h.hg hd (by intro z; cases z)) h.hg, s _ _ (ne_of h.hn hd (by intro z; cases z)) h.hn, s _ _ (ne_of h.hP hd (by intro z; cases z)) h.hP, s _ _ (ne_of h.hN hd (by intro z; cases z)) h.hN, fun x hx => ?_, fun x hx => ?_, h.nd, h.l1, h.l6, h.nm⟩
  · obtain ⟨d1, e1⟩ := h.pl x hx
    exact ⟨d1, s _ _ (ne_of e1 hd (by intro z; cases z)) e1⟩
  · obtain ⟨h1, h2⟩ := h.ns x hx
    exact ⟨s _ _ (ne_of h1 hd (by intro z; cases z)) h1, h2⟩
/-- the kind of an item -/
inductive Ik where
  | s (z : Str)
  | n
  | i
  | t
  | l
  | d
deriving DecidableEq
inductive IsK (H : Hp) : V → Ik → Prop
  | s (z : Str) : IsK H (.str z) (.s z)
  | n : IsK H .non .n
  | i : IsK H (.int 5) .i
  | t {a : Addr} (h : H a = some (.tup [])) : IsK H (.ref a) .t
  | l {a : Addr} (h : H a = some (.lst [.str "a"])) : IsK H (.ref a) .l
  | d {a : Addr} (h : H a = some (.dK [])) : IsK H (.ref a) .d
def skD : Ik → PyData
  | .s z => .str z
  | .n => .none
  | .i => .int 5
  | .t => .tuple []
  | .l => .list [.str "a"]
  | .d => .none
def okI : Ik → Prop
  | .s z => PyData.strOk z = true
  | _ => True
theorem IsK.dp {K : PySem.W.Frag} {H : Hp} {x : V} {k : Ik} (h : IsK H x k) (n : k ≠ .d) : Dp K H x (skD k) := by
  cases h with
  | s z => exact .str z
  | n => exact .non
  | i => exact .int 5
  | t h => exact .tup (SqT.of h) .nil
  | l h => exact .lst (SqL.of h) (.cons (.str _) .nil)
  | d h => exact absurd rfl n
theorem skD_sh {k : Ik} (h : okI k) : SeqAt.shaped (skD k) = true := by
  cases k with
  | s z =>
    have h : PyData.strOk z = true := h
    unfold SeqAt.shaped skD
    simp [PyData.canLay0, h, PyData.depth]
  | n => rfl
  | i => rfl
  | t => rfl
  | l => decide +kernel
  | d => rfl
theorem skD_eq {k k' : Ik} (n : k ≠ .d) (n' : k' ≠ .d) : PyData.eqv (skD k) (skD k') = decide (k = k') := by
  cases k <;> cases k' <;> first | exact absurd rfl n | exact absurd rfl n' | rfl | skip
  rename_i z z'
  show (z == z') = _
  by_cases e : z = z'
  · subst e
    simp
  · rw [decide_eq_false (fun q => e (Ik.s.inj q))]
    simpa using e
theorem eqw_k {K : PySem.W.Frag} {H : Hp} {x y : V} {k k' : Ik} (hx : IsK H x k) (hy : IsK H y k') (ox : okI k) (oy : okI k') : EqW K H x y (decide (k = k')) := by
  by_cases n : k = .d
  · subst n
    cases hx with
    | d h =>
      by_cases n' : k' = .d
      · subst n'
        cases hy with
        | d h' => exact .dd h h'
      · rw [decide_eq_false (fun e => n' e.symm)]
        exact .dicL h (hy.dp n')
  · by_cases n' : k' = .d
    · subst n'
      cases hy with
      | d h' =>
        rw [decide_eq_false n]
        exact .dicR (hx.dp n) h'
    · rw [← skD_eq n n']
      exact .dat (hx.dp n) (hy.dp n') (skD_sh ox) (skD_sh oy)
theorem it_k {H : Hp} {cs : List Str} {y : V} (h : ItOk H cs y) : ∃ k, IsK H y k ∧ ((∀ z ∈ cs, PyData.strOk z = true) → okI k) := by
  rcases h with ⟨z, hz, rfl⟩ | h
  · exact ⟨_, .s z, fun o => o z hz⟩
  · cases h with
    | z9 => exact ⟨_, .s _, fun _ => (by show PyData.strOk "zzzzzzzzz" = true; decide +kernel)⟩
    | em => exact ⟨_, .s _, fun _ => (by show PyData.strOk "" = true; decide +kernel)⟩
    | wd => exact ⟨_, .s _, fun _ => (by show PyData.strOk "any" = true; decide +kernel)⟩
    | non => exact ⟨_, .n, fun _ => trivial⟩
    | int => exact ⟨_, .i, fun _ => trivial⟩
    | tup h => exact ⟨_, .t h, fun _ => trivial⟩
    | lst h => exact ⟨_, .l h, fun _ => trivial⟩
    | dic h => exact ⟨_, .d h, fun _ => trivial⟩
theorem IsK.ext {H H' : Hp} {x : V} {k : Ik} (h : IsK H x k) (s : Same H H') : IsK H' x k := by
  cases h with
  | s z => exact .s z
  | n => exact .n
  | i => exact .i
  | t h => exact .t (s _ _ h)
  | l h => exact .l (s _ _ h)
  | d h => exact .d (s _ _ h)
/-- a kind for each item -/
theorem kinds {H : Hp} {cs : List Str} {ys : List V} (o : ∀ z ∈ cs, PyData.strOk z = true) (h : ∀ y ∈ ys, ItOk H cs y) : ∃ κ : V → Ik, ∀ y ∈ ys, IsK H y (κ y) ∧ okI (κ y) := by
  classical
  refine ⟨fun y => if q : ∃ k, IsK H y k ∧ okI k then Classical.choose q else .n, fun y hy => ?_⟩
  obtain ⟨k, h1, h2⟩ := it_k (h y hy)
  have q : ∃ k, IsK H y k ∧ okI k := ⟨k, h1, h2 o⟩
  have e : (if q : ∃ k, IsK H y k ∧ okI k then Classical.choose q else Ik.n) = Classical.choose q := dif_pos q
  show IsK H y (dite _ _ _) ∧ okI (dite _ _ _)
  rw [e]
  exact Classical.choose_spec q
def twf (κ : V → Ik) : V → V → Bool := fun x y => decide (κ x = κ y)
theorem Twin.step {f : V → V → Bool} {xs : List V} {i : Nat} {x : V} (h : xs[i]? = some x) : Twin f (xs.take (i + 1)) ↔ (Twin f (xs.take i) ∨ (xs.take i).any (fun y => f x y) = true) := by
  constructor
  · rintro ⟨a, b, u, v, hlt, hu, hv, e⟩
    rw [List.getElem?_take] at hu hv
    split at hu
    · rename_i h1
      split at hv
      · by_cases h2 : a = i
        · subst h2
          rw [h] at hu
          cases hu
          exact .inr (List.any_eq_true.mpr ⟨v, List.mem_of_getElem? (i := b) (by rw [List.getElem?_take, if_pos hlt]; exact hv), e⟩)
        · exact .inl ⟨a, b, u, v, hlt, by rw [List.getElem?_take, if_pos (by omega)]; exact hu, by rw [List.getElem?_take, if_pos (by omega)]; exact hv, e⟩
      · cases hv
    · cases hu
  · rintro (⟨a, b, u, v, hlt, hu, hv, e⟩ | q)
    · rw [List.getElem?_take] at hu hv
      split at hu
      · split at hv
        · exact ⟨a, b, u, v, hlt, by rw [List.getElem?_take, if_pos (by omega)]; exact hu, by rw [List.getElem?_take, if_pos (by omega)]; exact hv, e⟩
        · cases hv
      · cases hu
    · obtain ⟨v, hv, e⟩ := List.any_eq_true.mp q
      obtain ⟨b, hb⟩ := List.mem_iff_getElem?.mp hv
      rw [List.getElem?_take] at hb
      split at hb
      · rename_i hbi
        exact ⟨i, b, x, v, hbi, by rw [List.getElem?_take, if_pos (by omega)]; exact h, by rw [List.getElem?_take, if_pos (by omega)]; exact hb, e⟩
      · cases hb
/-- the name of a place -/
def nmq (zs : List Str) : V → Bool
  | .str w => decide (w ∈ zs)
  | _ => false
def nmE (x : V) (z : V) : Bool := if flatV x then eqV z x else false
theorem nmE_at {K : PySem.W.Frag} {H : Hp} {x : V} {k : Ik} (h : IsK H x k) (z : Str) : EqI K H (.str z) x (nmE x (.str z)) := by
  cases h with
  | s w => exact .flat rfl rfl
  | n => exact .flat rfl rfl
  | i => exact .flat rfl rfl
  | t h => exact .strT (SqT.of h)
  | l h => exact .strL (SqL.of h)
  | d h => exact .strD h
theorem nmE_any {H : Hp} {x : V} {k : Ik} (h : IsK H x k) (zs : List Str) : (zs.map V.str).any (nmE x) = nmq zs x := by
  have no : (∀ z : Str, nmE x (.str z) = false) → nmq zs x = false → (zs.map V.str).any (nmE x) = nmq zs x := fun a b => by
    rw [b]
    refine List.any_eq_false.mpr fun v hv => ?_
    obtain ⟨z, _, rfl⟩ := List.mem_map.mp hv
    rw [a z]
    decide
  cases h with
  | s w => exact inV_str _ _
  | n => exact no (fun _ => rfl) rfl
  | i => exact no (fun _ => rfl) rfl
  | t h => exact no (fun _ => rfl) rfl
  | l h => exact no (fun _ => rfl) rfl
  | d h => exact no (fun _ => rfl) rfl
theorem first_no {q : V → Bool} : ∀ {ys : List V}, (∃ y ∈ ys, q y = false) → ∃ (i : Nat) (x : V) (r : List V), ys[i]? = some x ∧ (∀ j y, j < i → ys[j]? = some y → q y = true) ∧ q x = false ∧ ys.filter (fun y => !q y) = x :: r
  | [], h => by
    obtain ⟨y, hy, _⟩ := h
    cases hy
  | a :: ys, h => by
    cases ha : q a with
    | false => exact ⟨0, a, ys.filter (fun y => !q y), rfl, fun j y hj => absurd hj (Nat.not_lt_zero j), ha, by rw [List.filter_cons, ha]; rfl⟩
    | true =>
      obtain ⟨y, hy, e⟩ := h
      have hy' : y ∈ ys := by
        rcases List.mem_cons.mp hy with rfl | hy
        · rw [ha] at e
          cases e
        · exact hy
      obtain ⟨i, x, r, h1, h2, h3, h4⟩ := first_no ⟨y, hy', e⟩
      refine ⟨i + 1, x, r, h1, fun j z hj hz => ?_, h3, by rw [List.filter_cons, ha]; exact h4⟩
      cases j with
      | zero =>
        cases hz
        exact ha
      | succ j => exact h2 j z (by omega) hz
theorem odd_nm {H : Hp} {y : V} {zs : List Str} (o : OddIt H y) (h : ∀ z ∈ zs, nmB z = true ∧ z.length ≤ 8) : nmq zs y = false := by
  cases o with
  | z9 => exact decide_eq_false fun m => absurd (h _ m).2 (by decide +kernel)
  | em => exact decide_eq_false fun m => absurd (h _ m).1 (by decide +kernel)
  | wd => exact decide_eq_false fun m => absurd (h _ m).1 (by decide +kernel)
  | non => rfl
  | int => rfl
  | tup h => rfl
  | lst h => rfl
  | dic h => rfl
theorem ints_dp {K : PySem.W.Frag} {H : Hp} : ∀ {ks : List Int}, DpAll K H (ks.map V.int) (ks.map PyData.int)
  | [] => .nil
  | _ :: _ => .cons (.int _) ints_dp
theorem ints_lay : ∀ ks : List Int, PyData.canLayAll0 (ks.map PyData.int) = true ∧ PyData.depthAll (ks.map PyData.int) = 0
  | [] => ⟨rfl, rfl⟩
  | k :: ks => by
    obtain ⟨h1, h2⟩ := ints_lay ks
    refine ⟨?_, ?_⟩
    · show PyData.canLayAll0 (.int k :: ks.map PyData.int) = true
      simp [PyData.canLayAll0, PyData.canLay0, h1]
    · show max (PyData.depth (.int k)) (PyData.depthAll (ks.map PyData.int)) = 0
      rw [h2]
      rfl
theorem ints_sh (ks : List Int) : SeqAt.shaped (.list (ks.map PyData.int)) = true := by
  obtain ⟨h1, h2⟩ := ints_lay ks
  unfold SeqAt.shaped
  have e : PyData.depth (.list (ks.map PyData.int)) = 1 := by
    show PyData.depthAll (ks.map PyData.int) + 1 = 1
    rw [h2]
  rw [e]
  simp [PyData.canLay0, h1]
theorem bls_dp {K : PySem.W.Frag} {H : Hp} : ∀ {ks : List Bool}, DpAll K H (ks.map V.bl) (ks.map PyData.bool)
  | [] => .nil
  | _ :: _ => .cons (.bl _) bls_dp
theorem bls_lay : ∀ ks : List Bool, PyData.canLayAll0 (ks.map PyData.bool) = true ∧ PyData.depthAll (ks.map PyData.bool) = 0
  | [] => ⟨rfl, rfl⟩
  | k :: ks => by
    obtain ⟨h1, h2⟩ := bls_lay ks
    refine ⟨?_, ?_⟩
    · show PyData.canLayAll0 (.bool k :: ks.map PyData.bool) = true
      simp [PyData.canLayAll0, PyData.canLay0, h1]
    · show max (PyData.depth (.bool k)) (PyData.depthAll (ks.map PyData.bool)) = 0
      rw [h2]
      rfl
theorem bls_sh (ks : List Bool) : SeqAt.shaped (.list (ks.map PyData.bool)) = true := by
  obtain ⟨h1, h2⟩ := bls_lay ks
  unfold SeqAt.shaped
  have e : PyData.depth (.list (ks.map PyData.bool)) = 1 := by
    show PyData.depthAll (ks.map PyData.bool) + 1 = 1
    rw [h2]
  rw [e]
  simp [PyData.canLay0, h1]
theorem bls_eq : ∀ {bs cs : List Bool}, PyData.eqvAll (bs.map PyData.bool) (cs.map PyData.bool) = decide (bs = cs)
  | [], [] => rfl
  | [], _ :: _ => rfl
  | _ :: _, [] => rfl
  | b :: bs, c :: cs => by
    rw [cons_dec]
    show (PyData.eqv (.bool b) (.bool c) && PyData.eqvAll (bs.map PyData.bool) (cs.map PyData.bool)) = _
    rw [bls_eq]
    cases b <;> cases c <;> rfl
theorem nmq_t {zs : List Str} {y : V} (h : nmq zs y = true) : ∃ z, y = .str z ∧ z ∈ zs := by
  cases y with
  | str w => exact ⟨w, rfl, of_decide_eq_true h⟩
  | _ => cases h
theorem nmq_f {H : Hp} {zs : List Str} {y : V} {k : Ik} (h : IsK H y k) (e : nmq zs y = false) : (∃ z, y = .str z ∧ z ∉ zs) ∨ OddS H y := by
  cases h with
  | s w => exact .inl ⟨w, rfl, of_decide_eq_false e⟩
  | n => exact .inr .non
  | i => exact .inr (.int 5)
  | t h => exact .inr (.tup h)
  | l h => exact .inr (.lst h)
  | d h => exact .inr (.dic h)
theorem eqI_self {K : PySem.W.Frag} {H : Hp} {y : V} {k : Ik} (h : IsK H y k) : EqI K H y y true := by
  cases h with
  | s w =>
    have h := EqI.flat (K := K) (H := H) (x := .str w) (y := .str w) rfl rfl
    rwa [show eqV (.str w) (.str w) = true from by simp [eqV]] at h
  | n => exact .flat (x := .non) (y := .non) rfl rfl
  | i => exact .flat (x := .int 5) (y := .int 5) rfl rfl
  | t h => exact .same _
  | l h => exact .same _
  | d h => exact .same _
theorem let_self (ws : List Str) (r : Rw) : r = letRw ws r ↔ r.b = decide (r.z ∈ ws) := by
  constructor
  · intro h
    exact congrArg Rw.b h
  · intro h
    cases r with
    | mk z l m b ns =>
      have h : b = decide (z ∈ ws) := h
      rw [h]
      rfl
theorem let_eq (ws : List Str) : ∀ (ys : List PgE), (rwOf ys = (rwOf ys).map (letRw ws)) ↔ (ys.map (fun y => y.2.2.b) = ys.map fun y => decide (y.2.2.z ∈ ws))
  | [] => ⟨fun _ => rfl, fun _ => rfl⟩
  | y :: ys => by
    have ih := let_eq ws ys
    show (y.2.2 :: rwOf ys = letRw ws y.2.2 :: (rwOf ys).map (letRw ws)) ↔ (y.2.2.b :: ys.map (fun y => y.2.2.b) = decide (y.2.2.z ∈ ws) :: ys.map fun y => decide (y.2.2.z ∈ ws))
    rw [List.cons.injEq, List.cons.injEq, let_self, ih]
end
end K8

set_option Elab.async false
set_option linter.all false
set_option pp.deepTerms.threshold 14
set_option pp.maxSteps 2500
set_option maxRecDepth 100000
set_option maxHeartbeats 2000000
namespace K8
open PySem PySem.Spec PyProof.Rows L2 Vf
section
variable {P : Program} {w : World} {K : PySem.W.Frag} {mg : Str → Option Value} {base : Heap}
theorem PgA.ne {K : PySem.W.Frag} {H : Hp} {g : Addr} {xs : List PgE} {st : Str} {dx tn dP dN b : Addr} (h : PgA K H g xs st dx tn dP dN) (hb : H b = none) : dP ≠ b ∧ dN ≠ b := ⟨ne_of_none h.hP hb, ne_of_none h.hN hb⟩
theorem same_x2 {H H1 H2 : Hp} {d : Addr} (s : Same H H1) (x : SameX d H1 H2) (n : H d = none) : Same H H2 := fun b o e => x b o (ne_of_none e n) (s b o e)
theorem none_of {H H1 : Hp} {a : Addr} (s : Same H H1) (n : H1 a = none) : H a = none := by
  cases e : H a with
  | none => rfl
  | some o =>
    have := s _ _ e
    rw [n] at this
    cases this
theorem sl_listK {X : Cx} {K : PySem.W.Frag} (h : X.K = K) : SlR X (rSlL K) := h ▸ sl_list
theorem op_notInIK {X : Cx} {K : PySem.W.Frag} (hK : X.K = K) (hu : X.A.units + 64 < cLine) : OpR X (compareOp .NotIn) (rNotInI K) := hK ▸ op_notInI hu
theorem op_inBK {X : Cx} {K : PySem.W.Frag} {n : Nat} (hK : X.K = K) (hr : Room (n + 1) X.A) : OpR X (compareOp .In) (rInB K false (DW K)) := hK ▸ op_inB (n := n) eqB_w hr
theorem rw_let {as bs : List PgE} {ws : List Str} (h : as.map (·.2) = bs.map fun x => (x.2.1, letRw ws x.2.2)) : rwOf as = (rwOf bs).map (letRw ws) := by
  have := congrArg (List.map fun q : Addr × Rw => q.2) h
  rw [List.map_map, List.map_map] at this
  unfold rwOf
  rw [List.map_map]
  exact this
theorem zs_let {as bs : List PgE} {ws : List Str} (h : as.map (·.2) = bs.map fun x => (x.2.1, letRw ws x.2.2)) : zsOf as = zsOf bs := by
  have := congrArg (List.map fun q : Addr × Rw => q.2.z) h
  rw [List.map_map, List.map_map] at this
  exact this
theorem ok_let {as bs : List PgE} {ws : List Str} (h : as.map (·.2) = bs.map fun x => (x.2.1, letRw ws x.2.2)) (k : ∀ x ∈ bs, RowK x.2.2) : ∀ x ∈ as, RowK x.2.2 := fun x hx => by
  have : x.2 ∈ as.map (·.2) := List.mem_map_of_mem hx
  rw [h] at this
  obtain ⟨y, hy, e⟩ := List.mem_map.mp this
  rw [← e]
  exact k y hy
theorem let_let (ws us : List Str) (r : Rw) : letRw us (letRw ws r) = letRw us r := rfl
theorem cond_skip {c : Bool} {A : Prop} {B : Hp → Prop} {H : Hp} (R : Hp → Prop) (hR : R H) (hA : (∀ H', R H' → B H') → A) (hB : ∀ H', R H' → B H') : if c = true then A else B H := by
  cases c with
  | true => exact iteT (hA hB)
  | false => exact iteF (hB H hR)
theorem eqI_str {K : PySem.W.Frag} {H : Hp} (z : Str) : EqI K H (.str z) (.str z) true := by
  have h := EqI.flat (K := K) (H := H) (x := .str z) (y := .str z) rfl rfl
  rwa [show eqV (.str z) (.str z) = true from by simp [eqV]] at h
theorem paired_map {α β : Type} {R : α → β → Prop} (g : α → β) : ∀ {xs : List α}, (∀ z ∈ xs, R z (g z)) → Paired R xs (xs.map g)
  | [], _ => .nil
  | x :: xs, h => .cons (h x List.mem_cons_self) (paired_map g fun z hz => h z (List.mem_cons_of_mem _ hz))
theorem bne_self (b : Bool) : (!decide (V.bl b = V.bl b)) = false := by simp
abbrev s_law : Stmt := top 35
theorem sc_law : FnScope ["_law_script", "_law_draw", "_law_spoil", "_law_rows_here", "_law_begin", "_law_words", "_law_row_here", "_law_picks", "_law_chosen_here", "_law_other", "_law_program_here", "_law_outcome", "_law_again", "_law_items", "_law_double", "_law_k", "_law_strange", "_law_item", "_law_due"] ["_law_script"] (defScope s_law) := ⟨rfl, rfl, rfl, by decide +kernel, rfl, by decide +kernel, by decide +kernel⟩
-- slots: 0 _law_script, 1 _law_draw, 2 _law_spoil, 3 _law_rows_here, 4 _law_begin, 5 _law_words, 6 _law_row_here, 7 _law_picks, 8 _law_chosen_here, 9 _law_other, 10 _law_program_here, 11 _law_outcome, 12 _law_again, 13 _law_items, 14 _law_double, 15 _law_k, 16 _law_strange, 17 _law_item, 18 _law_due
def spLaw (K : PySem.W.Frag) : Sp := fun vs H Q _ => ∃ (a : Addr) (ns : List Int), vs = [.ref a] ∧ SqL K H a (ns.map V.int) ∧ ns.length ≤ 63 ∧ ∀ H', Q (.bl true) H'
theorem ok_law {fd : FuncData} (F : FnD K ("law", none) "law" "law" s_law fd) (T : Txt K mg) (M : GMeth K) (L : LMeth K) (O_law_cell : OkF P w K mg base CX0 1 "_law_cell" ["_law_script", "_law_k"] (Vf.spCell K)) (O_law_take : OkF P w K mg base CX0 1 "_law_take" ["_law_draw", "_law_size"] spTake)
    (O_law_rows : OkF P w K mg base CX0 3 "_law_rows" ["_law_draw", "_law_words", "_law_many", "_law_longest"] spRows) (O_law_program : OkF P w K mg base CX0 7 "_law_program" ["_law_rows_here", "_law_begin"] (spPrL K)) (O_law_chosen : OkF P w K mg base CX0 2 "_law_chosen" ["_law_draw", "_law_words"] spChs) (O_law_let_rows : OkF P w K mg base CX0 1 "_law_let_rows" ["_law_rows_here", "_law_chosen_here"] (spLtR K))
    (O_law_with : OkF P w K mg base CX0 8 "_law_with" ["_law_program_here", "_law_chosen_here"] (spWth K)) (O_law_spoiled : OkF P w K mg base CX0 2 "_law_spoiled" ["_law_draw", "_law_chosen_here"] spSpo) (O_Program_with_let : OkM P w K mg base (L2.CX P w) 7 "Program" "with_let" ["self", "names"] (spWlt K)) (O_eq : OkM P w K mg base CX0 4 "Program" "__eq__" ["self", "other"] (spPgE K)) : FnOk P w K mg base CX0 9 (He.ga K "law") fd ["_law_script"] (spLaw K) := by
  refine F.ok sc_law (fun vs H Q E h => ?_) fun cdv A outer s H vs Q E hr h => ?_
  · obtain ⟨a, ns, rfl, _⟩ := h
    rfl
  · obtain ⟨a0, ns, rfl, hS, hlen, k⟩ := h
    refine ⟨_, PSs.nox (pss_cons (ps_set (i := 1) sc_law.nd rfl (Or.inl rfl) (pe_lst (pa_cons (c_fn O_law_cell hr (by decide) T.g_law_cell pass0 (pa_cons (pv 0) (pa_cons pe_int pa_nil))) pa_nil)))
  (pss_cons (ps_set (i := 2) sc_law.nd rfl (Or.inl rfl) (c_fn O_law_take hr (by decide) T.g_law_take pass0 (pa_cons (pv 1) (pa_cons pe_int pa_nil))))
  (pss_cons (ps_set (i := 3) sc_law.nd rfl (Or.inl rfl) (c_fn O_law_rows hr (by decide) T.g_law_rows pass0 (pa_cons (pv 1) (pa_cons (pe_lst (pa_cons (c_fn O_law_cell hr (by decide) T.g_law_cell pass0 (pa_cons (pv 0) (pa_cons pe_int pa_nil))) pa_nil)) (pa_cons pe_int (pa_cons pe_int pa_nil))))))
  (pss_cons (ps_set (i := 4) sc_law.nd rfl (Or.inl rfl) (pe_ix ix_list (pe_ix ix_list (pv 3) (pe_op op_mod (pe_callTy call_int1 (by rfl) T.z_int (by decide +kernel) (pa_cons (c_fn O_law_cell hr (by decide) T.g_law_cell pass0 (pa_cons (pv 0) (pa_cons pe_int pa_nil))) pa_nil)) (pe_callB (id := "len") call_len_seq (by rfl) T.z_len (by decide +kernel) (pa_cons (pv 3) pa_nil))) (fun _ _ => rfl)) pe_int (fun _ _ => rfl)))
  (pss_cons (ps_set (i := 5) sc_law.nd rfl (Or.inr rfl) (pe_lc (own := [("_law_row_here", 6)]) (g := gName 6) (tt := tYes) (by rfl) sc_law.nd (pi_list (pv 3)) (blkOk_by (N := ["_law_script", "_law_draw", "_law_spoil", "_law_rows_here", "_law_begin", "_law_words", "_law_row_here", "_law_picks", "_law_chosen_here", "_law_other", "_law_program_here", "_law_outcome", "_law_again", "_law_items", "_law_double", "_law_k", "_law_strange", "_law_item", "_law_due"]) (sc := defScope s_law) (by decide +kernel)) (fun _ _ _ _ _ => pg_name (i := 6) sc_law.nd rfl (Or.inl rfl)) (fun _ _ _ _ _ => pts_nil) (fun _ _ _ _ _ => (pe_ix (ix_listK (K := K) rfl) (pv 6) pe_int (fun _ _ => rfl)))))
  (pss_cons (ps_set (i := 7) sc_law.nd rfl (Or.inl rfl) (pe_lst (pa_cons (c_fn O_law_cell hr (by decide) T.g_law_cell pass0 (pa_cons (pv 0) (pa_cons pe_int pa_nil))) pa_nil)))
  (pss_cons (ps_set (i := 8) sc_law.nd rfl (Or.inl rfl) (c_fn O_law_chosen hr (by decide) T.g_law_chosen pass0 (pa_cons (pv 7) (pa_cons (pv 5) pa_nil))))
  (pss_cons (ps_set (i := 9) sc_law.nd rfl (Or.inr rfl) (c_fn O_law_chosen hr (by decide) T.g_law_chosen pass0 (pa_cons (pv 7) (pa_cons (pv 5) pa_nil))))
  (pss_cons (ps_set (i := 10) sc_law.nd rfl (Or.inl rfl) (c_fn O_law_program hr (by decide) T.g_law_program pass0 (pa_cons (pv 3) (pa_cons (pv 4) pa_nil))))
  (pss_cons (ps_set (i := 11) sc_law.nd rfl (Or.inl rfl) (c_fn O_law_with hr (by decide) T.g_law_with pass0 (pa_cons (pv 10) (pa_cons (pe_callTy call_tuple_of (by rfl) T.z_tuple (by decide +kernel) (pa_cons (pv 8) pa_nil)) pa_nil))))
  (pss_cons (ps_if (PW.pt (pw_or (pt_cmpR op_ne (pe_ix ix_tup (pv 11) pe_int (fun _ _ => rfl)) pe_str (nomark _)) (pw_or1 (pt_not (pt_cmpR (cmp_oo rfl rfl M.m_eq O_eq hr (by decide) pass0) (pe_ix ix_tup (pv 11) pe_int (fun _ _ => rfl)) (c_fn O_law_program hr (by decide) T.g_law_program pass0 (pa_cons (c_fn O_law_let_rows hr (by decide) T.g_law_let_rows pass0 (pa_cons (pv 3) (pa_cons (pv 8) pa_nil))) (pa_cons (pv 4) pa_nil))) (nomark _)))))) (pss_one (ps_ret pe_bl))
  pss_nil)
  (pss_cons (ps_set (i := 12) sc_law.nd rfl (Or.inl rfl) (c_me rfl (pe_ix ix_tup (pv 11) pe_int (fun _ _ => rfl)) T.c_Program L.m_with_let O_Program_with_let hr (by decide) passL (pa_cons (pe_callTy call_tuple_of (by rfl) T.z_tuple (by decide +kernel) (pa_cons (pv 9) pa_nil)) pa_nil)))
  (pss_cons (ps_if (pt_not (pt_cmpR (cmp_oo rfl rfl M.m_eq O_eq hr (by decide) pass0) (pv 12) (c_fn O_law_program hr (by decide) T.g_law_program pass0 (pa_cons (c_fn O_law_let_rows hr (by decide) T.g_law_let_rows pass0 (pa_cons (pv 3) (pa_cons (pv 9) pa_nil))) (pa_cons (pv 4) pa_nil))) (nomark _))) (pss_one (ps_ret pe_bl))
  pss_nil)
  (C8.pss_cut (ps_if (PW.pt (pw_and (pt_cmpR op_eq (pv 2) pe_int (nomark _)) (pw_and1 (pt_cmpR (op_ne0 hr.units) (c_fn O_law_with hr (by decide) T.g_law_with pass0 (pa_cons (pv 10) (pa_cons (pe_callTy call_list_of (by rfl) T.z_list (by decide +kernel) (pa_cons (pv 8) pa_nil)) pa_nil))) (pe_tup (pa_cons pe_str (pa_cons pe_str pa_nil))) (nomark _))))) (pss_one (ps_ret pe_bl))
  pss_nil)
  (C8.pss_cut (ps_if (pt_cmpR op_eq (pv 2) pe_int (nomark _)) (pss_cons (ps_set (i := 13) sc_law.nd rfl (Or.inr rfl) (c_fn O_law_spoiled hr (by decide) T.g_law_spoiled pass0 (pa_cons (pv 7) (pa_cons (pv 8) pa_nil))))
  (pss_cons (ps_setLc (i := 14) (own := [("_law_k", 15)]) (g := gName 15) (tt := _) (by rfl) sc_law.nd rfl rfl (sw_true rfl rfl rfl (by decide +kernel)) (pi_range1 rfl T.z_range (pa_cons (pe_callB (id := "len") call_len_seq (by rfl) T.z_len (by decide +kernel) (pa_cons (pv 13) pa_nil)) pa_nil)) (blkOk_by (N := ["_law_script", "_law_draw", "_law_spoil", "_law_rows_here", "_law_begin", "_law_words", "_law_row_here", "_law_picks", "_law_chosen_here", "_law_other", "_law_program_here", "_law_outcome", "_law_again", "_law_items", "_law_double", "_law_k", "_law_strange", "_law_item", "_law_due"]) (sc := defScope s_law) (by decide +kernel)) (fun _ _ _ _ _ => pg_name (i := 15) sc_law.nd rfl (Or.inl rfl)) (fun _ _ _ _ _ => pts_one (pt_cmpR (op_inBK (K := K) rfl hr) (pe_ix (ix_listK (K := K) rfl) (pv 13) (pv 15) (fun _ _ => rfl)) (pe_slice (sl_listK (K := K) rfl) (pv 13) po_none (po_some (pv 15))) rfl)) (fun _ _ _ _ _ => (pv 15)))
  (pss_cons (ps_setLc (i := 16) (own := [("_law_item", 17)]) (g := gName 17) (tt := _) (by rfl) sc_law.nd rfl rfl (sw_true rfl rfl rfl (by decide +kernel)) (pi_list (pv 13)) (blkOk_by (N := ["_law_script", "_law_draw", "_law_spoil", "_law_rows_here", "_law_begin", "_law_words", "_law_row_here", "_law_picks", "_law_chosen_here", "_law_other", "_law_program_here", "_law_outcome", "_law_again", "_law_items", "_law_double", "_law_k", "_law_strange", "_law_item", "_law_due"]) (sc := defScope s_law) (by decide +kernel)) (fun _ _ _ _ _ => pg_name (i := 17) sc_law.nd rfl (Or.inl rfl)) (fun _ _ _ _ _ => pts_one (pt_cmpR (op_notInIK (K := K) rfl hr.units) (pv 17) (pv 5) rfl)) (fun _ _ _ _ _ => (pv 17)))
  (pss_cons (ps_set (i := 18) sc_law.nd rfl (Or.inl rfl) (pe_tup (pa_cons pe_str (pa_cons (pe_ix ix_list (pe_op op_cat (pv 16) (pe_lst (pa_cons pe_str pa_nil))) pe_int (fun _ _ => rfl)) pa_nil))))
  (C8.pss_cut (ps_if (pt_cmpR (op_neD hr.units) (pv 14) (pe_lst pa_nil) (nomark _)) (pss_one (ps_set (i := 18) sc_law.nd rfl (Or.inl rfl) (pe_tup (pa_cons pe_str (pa_cons pe_str pa_nil)))))
  pss_nil)
  (pss_one (ps_if (pt_cmpR (op_ne0 hr.units) (c_fn O_law_with hr (by decide) T.g_law_with pass0 (pa_cons (pv 10) (pa_cons (pe_callTy call_tuple_of (by rfl) T.z_tuple (by decide +kernel) (pa_cons (pv 13) pa_nil)) pa_nil))) (pv 18) (nomark _)) (pss_one (ps_ret pe_bl))
  pss_nil)))))))
  pss_nil)
  (pss_cons (ps_if (pt_cmpR op_ne (pe_cmpR (cmp_oo rfl rfl M.m_eq O_eq hr (by decide) pass0) (pv 10) (pv 12) (nomark _)) (pe_cmpR (op_eqD hr.units) (pe_lc (own := [("_law_row_here", 6)]) (g := gName 6) (tt := tYes) (by rfl) sc_law.nd (pi_list (pv 3)) (blkOk_by (N := ["_law_script", "_law_draw", "_law_spoil", "_law_rows_here", "_law_begin", "_law_words", "_law_row_here", "_law_picks", "_law_chosen_here", "_law_other", "_law_program_here", "_law_outcome", "_law_again", "_law_items", "_law_double", "_law_k", "_law_strange", "_law_item", "_law_due"]) (sc := defScope s_law) (by decide +kernel)) (fun _ _ _ _ _ => pg_name (i := 6) sc_law.nd rfl (Or.inl rfl)) (fun _ _ _ _ _ => pts_nil) (fun _ _ _ _ _ => (pe_ix (ix_listK (K := K) rfl) (pv 6) pe_int (fun _ _ => rfl)))) (pe_lc (own := [("_law_row_here", 6)]) (g := gName 6) (tt := tYes) (by rfl) sc_law.nd (pi_list (pv 3)) (blkOk_by (N := ["_law_script", "_law_draw", "_law_spoil", "_law_rows_here", "_law_begin", "_law_words", "_law_row_here", "_law_picks", "_law_chosen_here", "_law_other", "_law_program_here", "_law_outcome", "_law_again", "_law_items", "_law_double", "_law_k", "_law_strange", "_law_item", "_law_due"]) (sc := defScope s_law) (by decide +kernel)) (fun _ _ _ _ _ => pg_name (i := 6) sc_law.nd rfl (Or.inl rfl)) (fun _ _ _ _ _ => pts_nil) (fun _ _ _ _ _ => (pe_cmpR (op_in_seqK (K := K) rfl) (pe_ix (ix_listK (K := K) rfl) (pv 6) pe_int (fun _ _ => rfl)) (pv 9) rfl))) (nomark _)) (nomark _)) (pss_one (ps_ret pe_bl))
  pss_nil)
  (pss_one (ps_ret (pe_cmpR (cmp_oo rfl rfl M.m_eq O_eq hr (by decide) pass0) (pv 10) (c_fn O_law_program hr (by decide) T.g_law_program pass0 (pa_cons (pv 3) (pa_cons (pv 4) pa_nil))) (nomark _)))))))))))))))))))), ?_⟩
    refine ⟨_, rfl, a0, ns, 0, rfl, hS, by decide, fun n0 => ⟨(by show 1 ≤ sizeLine; decide), fun d nd => ?_⟩⟩
    have s1 := same_new (o := .lst [.int n0]) nd
    have hd1 : (upd H d (.lst [.int n0])) d = some (.lst [.int n0]) := upd_same
    generalize upd H d (.lst [.int n0]) = H1 at s1 hd1 ⊢
    refine ⟨_, rfl, d, n0, 6, rfl, hd1, by decide, by decide, fun sp m1 _ _ => ?_⟩
    have s2 : Same H (upd H1 d (.lst [.int m1])) := same_x2 s1 SameX.upd nd
    have hd2 : (upd H1 d (.lst [.int m1])) d = some (.lst [.int m1]) := upd_same
    generalize upd H1 d (.lst [.int m1]) = H2 at s2 hd2 ⊢
    clear s1 hd1 H1
    refine ⟨_, rfl, _, rfl, a0, ns, 1, rfl, s2.seq hS, by decide, fun n1 => ⟨(by show 1 ≤ sizeLine; decide), fun e nE => ?_⟩⟩
    have nde : d ≠ e := ne_of_none hd2 nE
    have nE0 : H e = none := none_of s2 nE
    have s23 := same_new (o := .lst [.int n1]) nE
    have he3 : (upd H2 e (.lst [.int n1])) e = some (.lst [.int n1]) := upd_same
    have hd3 := s23 _ _ hd2
    have s3 := s2.trans s23
    generalize upd H2 e (.lst [.int n1]) = H3 at s23 he3 hd3 s3 ⊢
    refine ⟨d, e, m1, n1, 6, 6, rfl, hd3, he3, nde, by decide, by decide, by decide, by decide, fun H4 R ys x4 hx4 hR hok hnd hR0 => ?_⟩
    have s4 : Same H H4 := fun b o h => x4 b o (ne_of_none h nd) (ne_of_none h nE0) (s3 _ _ h)
    clear x4 s23 he3 hd3 s3 s2 hd2 nde nE hR0 hx4 hnd nE0 nd H2 H3
    have hl1 := hok.l1
    have hl6 := hok.l6
    refine ⟨_, rfl, _, rfl, a0, ns, 2, rfl, s4.seq hS, by decide, fun n2 => ?_⟩
    refine .inl ⟨n2, rfl, _, rfl, R, _, rfl, .inl (SqL.of hR.hR), _, _, rfl, rfl, ?_, ?_⟩
    · rw [List.length_map]
      omega
    rw [List.length_map]
    have g0 := Int.emod_nonneg n2 (show (ys.length : Int) ≠ 0 by omega)
    have g1 := Int.emod_lt_of_pos n2 (show (0 : Int) < ys.length by omega)
    obtain ⟨j, hj⟩ : ∃ j : Nat, n2 % (ys.length : Int) = (j : Int) := ⟨(n2 % (ys.length : Int)).toNat, by omega⟩
    rw [hj] at g1
    obtain ⟨yb, hyb⟩ : ∃ yb, ys[j]? = some yb := ⟨_, List.getElem?_eq_getElem (by omega)⟩
    refine ⟨R, _, n2 % (ys.length : Int), .ref yb.1, rfl, rfl, SqL.of hR.hR, (by rw [hj]; exact atI_nat (by rw [List.getElem?_map, hyb]; rfl)), yb.1, _, 0, .str yb.2.2.z, rfl, rfl, SqL.of (hR.row yb (List.mem_of_getElem? hyb)).1, atI0, ?_⟩
    have mb : yb.2.2.z ∈ zsOf ys := List.mem_map_of_mem (List.mem_of_getElem? hyb)
    generalize yb.2.2.z = bg at mb ⊢
    clear hyb g0 g1 hj yb j n2
    have hlz : (zsOf ys).length = ys.length := List.length_map ..
    -- the words
    refine ⟨_, rfl, R, rfl, ⟨_, SqL.of hR.hR⟩, fun W nW => lc_it walk_list (fun i H' => Same H4 H' ∧ H' W = some (.lst (((zsOf ys).take i).map V.str))) ⟨same_new nW, upd_same⟩ (fun i H' _ h => h.1.seq (SqL.of hR.hR)) ?_ ?_⟩
    · rintro j x H3 H' hj ⟨sg3, hD3⟩ ⟨rfl, hx⟩
      obtain ⟨y, hy, rfl⟩ := getE hx
      have hyr := ((hR.ext sg3).row y (List.mem_of_getElem? hy)).1
      refine ⟨rfl, _, rfl, y.1, _, 0, .str y.2.2.z, rfl, rfl, SqL.of hyr, atI0, ?_⟩
      refine ⟨_, hD3, ?_, same_app sg3 (Same.refl _) nW, ?_⟩
      · rw [List.length_map, List.length_take]
        rw [List.length_map] at hj
        exact Nat.lt_of_le_of_lt (Nat.min_le_left _ _) (Nat.lt_of_lt_of_le hj (Nat.le_trans hl6 (by decide)))
      · rw [upd_same, List.take_add_one, List.map_append]
        have : (zsOf ys)[j]? = some y.2.2.z := by
          unfold zsOf
          rw [List.getElem?_map, hy]
          rfl
        rw [this]
        rfl
    rintro H5 ⟨s45, hW⟩
    rw [List.length_map, ← hlz, List.take_length] at hW
    have hR5 := hR.ext s45
    have s5 := s4.trans s45
    clear s45 nW hR s4 H4
    -- the picks
    refine ⟨_, rfl, a0, ns, 3, rfl, s5.seq hS, by decide, fun n3 => ⟨(by show 1 ≤ sizeLine; decide), fun p np => ?_⟩⟩
    have s56 := same_new (o := .lst [.int n3]) np
    have hp6 : (upd H5 p (.lst [.int n3])) p = some (.lst [.int n3]) := upd_same
    have hR6 := hR5.ext s56
    have hW6 := s56 _ _ hW
    have nWp : W ≠ p := ne_of_none hW np
    generalize upd H5 p (.lst [.int n3]) = H6 at s56 hp6 hR6 hW6 ⊢
    clear hR5 s5 s56 np hW H5
    refine ⟨_, rfl, _, rfl, p, W, n3, zsOf ys, rfl, hp6, hW6, nWp, hok.nd, by omega, fun H7 C m7 cs x7 hp7 nC hC7 hcn hcz hcl => ?_⟩
    have hR7 := hR6.extX hp6 x7
    have hW7 := x7 _ _ nWp hW6
    have nCp : C ≠ p := (ne_of_none hp6 nC).symm
    clear hR6 hW6 hp6 x7 nC H6
    refine ⟨_, rfl, _, rfl, p, W, m7, zsOf ys, rfl, hp7, hW7, nWp, hok.nd, by omega, fun H8 D m8 ds x8 hp8 nD hD8 hdn hdz hdl => ?_⟩
    have hR8 := hR7.extX hp7 x8
    have hW8 := x8 _ _ nWp hW7
    have hC8 := x8 _ _ nCp hC7
    have nDp : D ≠ p := (ne_of_none hp7 nD).symm
    clear hR7 hW7 hC7 x8 nD hp7 H7
    -- the program
    refine ⟨_, rfl, _, rfl, R, ys, bg, rfl, hR8, hok, mb, fun H9 g xs dx tn dP dN s9 hg9 hB nP nN => ?_⟩
    have hkp : ∀ x ∈ xs, RowK x.2.2 := fun x hx => by
      obtain ⟨y, hy, e⟩ := hB.mem hx
      rw [← e]
      exact hok.kp y hy
    have hbx : bg ∈ zsOf xs := by rw [hB.zs]; exact mb
    have hR9 := hR8.ext s9
    have hW9 := s9 _ _ hW8
    have hC9 := s9 _ _ hC8
    have hD9 := s9 _ _ hD8
    have hp9 := s9 _ _ hp8
    clear hR8 hW8 hC8 hD8 hp8 s9
    refine ⟨_, rfl, _, rfl, C, _, rfl, .inl ⟨SqL.of hC9, fun t nt => ?_⟩⟩
    have st := same_new (o := .tup (cs.map V.str)) nt
    have ht : (upd H9 t (.tup (cs.map V.str))) t = some (.tup (cs.map V.str)) := upd_same
    have hR10 := hR9.ext st
    have hW10 := st _ _ hW9
    have hC10 := st _ _ hC9
    have hD10 := st _ _ hD9
    have hp10 := st _ _ hp9
    have hg10 := hg9.ext st
    generalize upd H9 t (.tup (cs.map V.str)) = H10 at st ht hR10 hW10 hC10 hD10 hp10 hg10 ⊢
    clear hR9 hW9 hC9 hD9 hp9 hg9 nt
    refine ⟨g, t, xs, bg, dx, tn, dP, dN, rfl, hg10, hbx, hkp, .inl ⟨cs, ht, hcn, (by rw [hB.zs]; exact hcz), hcl, fun H11 g1 xs1 dx1 tn1 dP1 dN1 s11 hg1 hx1 _ _ H12 o1 s12 ho1 => ?_⟩⟩
    have hR12 := (hR10.ext s11).ext s12
    have hW12 := s12 _ _ (s11 _ _ hW10)
    have hC12 := s12 _ _ (s11 _ _ hC10)
    have hD12 := s12 _ _ (s11 _ _ hD10)
    have hp12 := s12 _ _ (s11 _ _ hp10)
    have hg12 := (hg10.ext s11).ext s12
    have hh12 := hg1.ext s12
    rename_i nP1 nN1
    clear hR10 hW10 hC10 hD10 hp10 hg10 hg1 s11 s12 ht st nP1 nN1 nP nN H9 H8 H10
    -- the first test
    refine ⟨_, rfl, o1, _, 0, .str "told", rfl, rfl, SqT.of ho1, atI0, rfl, false, by rw [decide_eq_true rfl]; rfl, iteF ?_⟩
    refine ⟨_, rfl, o1, _, 1, .ref g1, rfl, rfl, SqT.of ho1, atI1, _, rfl, _, rfl, R, C, ys, cs, rfl, hR12, hok, SqL.of hC12, fun H13 U ls s13 hU hlb hlok => ?_⟩
    refine ⟨_, rfl, U, ls, bg, rfl, hU, hlok, (by rw [zs_let hlb]; exact mb), fun H14 g2 xs2 dx2 tn2 dP2 dN2 s14 hg2 hB2 nP2 nN2 => ?_⟩
    have hh13 := hh12.ext s13
    refine ⟨g1, g2, dx1, dx2, _, _, rfl, rfl, (hh13.ext s14).hg, hg2.hg, g1, g2, xs1, xs2, bg, bg, dx1, tn1, dP1, dN1, dx2, tn2, dP2, dN2, rfl, hh13.ext s14, hg2, (hh13.ne nP2).1, (hh13.ne nN2).2, fun H15 s15 => ?_⟩
    have e1 : pgB xs1 xs2 bg bg = true := by
      rw [pg_alike, rw_let hx1, hB2.rw, rw_let hlb, hB.rw]
      simp
    rw [e1]
    refine ⟨true, rfl, iteF ?_⟩
    have ss := s13.trans (s14.trans s15)
    have hR := hR12.ext ss
    have hW := ss _ _ hW12
    have hC := ss _ _ hC12
    have hD := ss _ _ hD12
    have hp := ss _ _ hp12
    have hg := hg12.ext ss
    have hh := hh12.ext ss
    have ho := ss _ _ ho1
    clear e1 hg2 hB2 nP2 nN2 hh13 hU hlok hlb s13 s14 s15 ss hR12 hW12 hC12 hD12 hp12 hg12 hh12 ho1 H12 H13 H14
    -- again
    refine ⟨_, rfl, o1, _, 1, .ref g1, rfl, rfl, SqT.of ho, atI1, g1, dx1, _, rfl, hh.hg, pgf_wl .., _, rfl, D, _, rfl, .inl ⟨SqL.of hD, fun t2 nt2 => ?_⟩⟩
    have st := same_new (o := .tup (ds.map V.str)) nt2
    have ht2 : (upd H15 t2 (.tup (ds.map V.str))) t2 = some (.tup (ds.map V.str)) := upd_same
    have hh2 := hh.ext st
    have hg2 := hg.ext st
    refine ⟨g1, t2, xs1, bg, dx1, tn1, dP1, dN1, rfl, hh2, (by rw [zs_let hx1]; exact hbx), ok_let hx1 hkp, .inl ⟨ds, ht2, hdn, (by rw [zs_let hx1, hB.zs]; exact hdz), hdl, fun H16 g3 xs3 dx3 tn3 dP3 dN3 s16 hg3 hx3 nP3 nN3 => ?_⟩⟩
    have nP := (hg2.ne nP3).1
    have nN := (hg2.ne nN3).2
    have ss := st.trans s16
    replace hR := hR.ext ss
    replace hW := ss _ _ hW
    replace hC := ss _ _ hC
    replace hD := ss _ _ hD
    replace hp := ss _ _ hp
    replace hg := hg.ext ss
    clear ss s16 st ht2 hh2 hg2 hh ho nt2 nP3 nN3 H15
    refine ⟨_, rfl, _, rfl, _, rfl, R, D, ys, ds, rfl, hR, hok, SqL.of hD, fun H13 U ls s13 hU hlb hlok => ?_⟩
    refine ⟨_, rfl, U, ls, bg, rfl, hU, hlok, (by rw [zs_let hlb]; exact mb), fun H14 g2 xs2 dx2 tn2 dP2 dN2 s14 hg2 hB2 nP2 nN2 => ?_⟩
    have hh13 := hg3.ext s13
    refine ⟨g3, g2, dx3, dx2, _, _, rfl, rfl, (hh13.ext s14).hg, hg2.hg, g3, g2, xs3, xs2, bg, bg, dx3, tn3, dP3, dN3, dx2, tn2, dP2, dN2, rfl, hh13.ext s14, hg2, (hh13.ne nP2).1, (hh13.ne nN2).2, fun H15 s15 => ?_⟩
    have e3 : rwOf xs3 = (rwOf ys).map (letRw ds) := by
      rw [rw_let hx3, rw_let hx1, hB.rw, List.map_map]
      rfl
    have e1 : pgB xs3 xs2 bg bg = true := by
      rw [pg_alike, e3, hB2.rw, rw_let hlb]
      simp
    rw [e1]
    refine ⟨true, rfl, iteF ?_⟩
    have ss := s13.trans (s14.trans s15)
    replace hR := hR.ext ss
    replace hW := ss _ _ hW
    replace hC := ss _ _ hC
    replace hD := ss _ _ hD
    replace hp := ss _ _ hp
    replace hg := hg.ext ss
    have hh := hg3.ext ss
    clear e1 hg2 hB2 nP2 nN2 hh13 hU hlok hlb s13 s14 s15 ss hg3 H16 H13 H14
    -- of a list
    refine ⟨fun σ' H' => Same H15 H' ∧ σ' = [some (.ref a0), some (.ref d), some (.int sp), some (.ref R), some (.str bg), some (.ref W), none, some (.ref p), some (.ref C), some (.ref D), some (.ref g), some (.ref o1), some (.ref g3), none, none, none, none, none, none], ?_, ?_⟩
    · refine ⟨_, rfl, rfl, _, rfl, ite2 (fun _ => ?_) fun _ => iteF ⟨Same.refl _, rfl⟩⟩
      refine ⟨_, rfl, _, rfl, C, _, rfl, .inl (SqL.of hC), fun l nl => ?_⟩
      have sl := same_new (o := .lst (cs.map V.str)) nl
      refine ⟨g, l, xs, bg, dx, tn, dP, dN, rfl, hg.ext sl, hbx, hkp, .inr (.inl ⟨_, upd_same, fun dd nd => ⟨dd, rfl, .inl ⟨rfl, _, upd_same, fun H2 o s2 ho => ?_⟩⟩⟩)⟩
      refine ⟨(by show 2 ≤ sizeLine; decide), fun u nu => ⟨o, u, _, _, rfl, rfl, .inl ⟨SqT.of (same_new nu _ _ ho), SqT.of upd_same⟩, .cons (eqI_str _) (.cons (eqI_str _) .nil), false, rfl, iteF ⟨?_, rfl⟩⟩⟩
      exact sl.trans ((same_new nd).trans (s2.trans (same_new nu)))
    rintro σ' H16 ⟨ss, rfl⟩
    replace hR := hR.ext ss
    replace hW := ss _ _ hW
    replace hC := ss _ _ hC
    replace hD := ss _ _ hD
    replace hp := ss _ _ hp
    replace hg := hg.ext ss
    replace hh := hh.ext ss
    clear ss H15
    have hzk : ∀ z ∈ zsOf ys, nmB z = true ∧ z.length ≤ 8 := fun z hz => by
      obtain ⟨y, hy, rfl⟩ := List.mem_map.mp hz
      exact ⟨(hok.kp y hy).1, (hok.kp y hy).2.1⟩
    refine ⟨fun σ' H' => RowsA H' R ys ∧ H' D = some (.lst (ds.map V.str)) ∧ PgA K H' g xs bg dx tn dP dN ∧ PgA K H' g3 xs3 bg dx3 tn3 dP3 dN3 ∧ ∃ v13 v14 v16 v18 : Option V, σ' = [some (.ref a0), some (.ref d), some (.int sp), some (.ref R), some (.str bg), some (.ref W), none, some (.ref p), some (.ref C), some (.ref D), some (.ref g), some (.ref o1), some (.ref g3), v13, v14, none, v16, none, v18], ?_, ?_⟩
    · refine ⟨_, rfl, rfl, _, rfl, ite2 (fun _ => ?_) fun _ => ⟨hR, hD, hg, hh, none, none, none, none, rfl⟩⟩
      refine ⟨_, rfl, _, rfl, p, C, m8, cs, rfl, hp, hC, nCp, hcl, fun H17 I m9 its x17 nI hI hl9 ho => ?_⟩
      replace hR := hR.extX hp x17
      replace hW := x17 _ _ nWp hW
      replace hD := x17 _ _ nDp hD
      replace hg := hg.extL hp x17
      replace hh := hh.extL hp x17
      clear x17 hC hp nI H16
      obtain ⟨κ, hκ⟩ := kinds (H := H17) (cs := cs) (ys := its) (fun z hz => nm_ok (hzk z (hcz z hz)).1) fun y hy => (hI.ok y hy).1
      obtain ⟨i0, x0, r0, hx0, hpre, hq0, hfil⟩ := first_no (q := nmq (zsOf ys)) (ys := its) (by
        obtain ⟨y, hy, o⟩ := ho
        exact ⟨y, hy, odd_nm o hzk⟩)
      clear ho
      have hlI := SqL.of (K := K) hI.hI
      -- double
      refine ⟨_, rfl, I, _, rfl, .inl (SqL.of hI.hI), _, rfl, by omega, by omega, ?_⟩
      refine fun B nB => lc_range (lo := 0) (n := (its.length : Int).toNat) (fun i H' => Same H17 H' ∧ ∃ ks : List Int, H' B = some (.lst (ks.map V.int)) ∧ ks.length ≤ i ∧ (ks ≠ [] ↔ Twin (twf κ) (its.take i))) ⟨same_new nB, [], upd_same, Nat.le_refl 0, ⟨fun z => absurd rfl z, fun ⟨_, _, _, _, _, z, _⟩ => by simp at z⟩⟩ ?_ ?_
      · rintro i H1 hi ⟨sg, ks, hB, hkl, hkt⟩
        have hi' : i < its.length := by omega
        obtain ⟨x, hx⟩ : ∃ x, its[i]? = some x := ⟨_, List.getElem?_eq_getElem hi'⟩
        have hIx := sg.seq hlI
        refine ⟨rfl, _, rfl, _, rfl, I, _, _, x, rfl, rfl, hIx, (by rw [Int.zero_add]; exact atI_nat hx), _, rfl, _, rfl, _, rfl, I, _, rfl, hIx, fun q nq => ?_⟩
        rw [Int.zero_add, cutV_upto (by omega)]
        have sq := sg.trans (same_new (o := .lst (its.take i)) nq)
        refine ⟨q, _, (its.take i).map (fun z => twf κ z x), rfl, SqL.of upd_same, paired_map _ fun z hz H' e => ?_, fun H2 s2 => ?_⟩
        · exact eqw_k ((hκ z (List.mem_of_mem_take hz)).1.ext (sq.trans e)) ((hκ x (List.mem_of_getElem? hx)).1.ext (sq.trans e)) (hκ z (List.mem_of_mem_take hz)).2 (hκ x (List.mem_of_getElem? hx)).2
        have ea : (if false = true then !((its.take i).map (fun z => twf κ z x)).any id else ((its.take i).map (fun z => twf κ z x)).any id) = (its.take i).any (fun y => twf κ x y) := by
          rw [if_neg (by decide), List.any_map]
          congr 1
          funext z
          exact decide_eq_decide.mpr eq_comm
        rw [ea]
        have s12 := (same_new (o := .lst (its.take i)) nq).trans s2
        refine ⟨_, rfl, ite2 (fun e => ?_) fun e => ?_⟩
        · refine ⟨_, rfl, _, s12 _ _ hB, ?_, same_app sg s12 nB, ks ++ [(i : Int)], by rw [upd_same, List.map_append]; rfl, by rw [List.length_append]; simp; omega, ⟨fun _ => (Twin.step hx).mpr (.inr e), fun _ z => by simp at z⟩⟩
          rw [List.length_map]
          exact Nat.lt_of_le_of_lt hkl (Nat.lt_of_lt_of_le hi' (Nat.le_trans hl9 (by decide)))
        · refine ⟨sg.trans s12, ks, s12 _ _ hB, by omega, hkt.trans ⟨fun z => (Twin.step hx).mpr (.inl z), fun z => ?_⟩⟩
          rcases (Twin.step hx).mp z with z | z
          · exact z
          · exact absurd z e
      rintro H18 ⟨s78, ks, hB, hkl, hkt⟩
      rw [Int.toNat_natCast, List.take_length] at hkt
      replace hW := s78 _ _ hW
      have hI18 := hI.ext s78
      have hlI18 := SqL.of (K := K) hI18.hI
      -- strange
      refine ⟨_, rfl, I, rfl, ⟨_, hlI18⟩, fun G nG => lc_it walk_list (fun i H' => Same H18 H' ∧ H' G = some (.lst ((its.take i).filter fun y => !nmq (zsOf ys) y))) ⟨same_new nG, upd_same⟩ (fun i H' _ h => h.1.seq hlI18) ?_ ?_⟩
      · rintro i x H1 H' hi ⟨sg, hG⟩ ⟨rfl, hx⟩
        have hxk := (hκ x (List.mem_of_getElem? hx)).1.ext (s78.trans sg)
        refine ⟨rfl, _, rfl, _, rfl, W, _, nmE x, rfl, SqL.of (sg _ _ hW), fun z hz => ?_, ?_⟩
        · obtain ⟨w, _, rfl⟩ := List.mem_map.mp hz
          exact nmE_at hxk w
        rw [nmE_any hxk]
        refine ⟨_, rfl, ite2 (fun e => ?_) fun e => ?_⟩
        · refine ⟨_, rfl, _, hG, ?_, same_app sg (Same.refl _) nG, ?_⟩
          · exact Nat.lt_of_le_of_lt (Nat.le_trans (List.length_filter_le _ _) (by rw [List.length_take]; exact Nat.min_le_left _ _)) (Nat.lt_of_lt_of_le hi (Nat.le_trans hl9 (by decide)))
          · rw [upd_same, List.take_add_one, hx, List.filter_append]
            show _ = some (HO.lst (_ ++ List.filter _ [x]))
            rw [List.filter_cons, if_pos e]
            rfl
        · refine ⟨sg, ?_⟩
          rw [hG, List.take_add_one, hx, List.filter_append]
          show _ = some (HO.lst (_ ++ List.filter _ [x]))
          rw [List.filter_cons, if_neg e]
          simp
      rintro H19 ⟨s89, hG⟩
      rw [List.take_length, hfil] at hG
      have hrl : r0.length ≤ 8 := by
        have h1 : (its.filter fun y => !nmq (zsOf ys) y).length ≤ its.length := List.length_filter_le _ _
        rw [hfil, List.length_cons] at h1
        omega
      -- due
      refine ⟨_, rfl, (by show 1 ≤ sizeLine; decide), fun l2 nl2 => ?_⟩
      have s2 := same_new (o := .lst [.str ""]) nl2
      refine ⟨G, l2, _, _, rfl, rfl, s2 _ _ hG, upd_same, ?_, fun q nq => ?_⟩
      · show (x0 :: r0).length + 1 ≤ sizeLine
        exact Nat.le_trans (show (x0 :: r0).length + 1 ≤ 10 by rw [List.length_cons]; omega) (by decide)
      refine ⟨q, _, 0, x0, rfl, rfl, SqL.of upd_same, atI0, (by show 2 ≤ sizeLine; decide), fun u nu => ?_⟩
      have s3 := s2.trans ((same_new (o := .lst (x0 :: r0 ++ [.str ""])) nq).trans (same_new (o := .tup [.str "none", x0]) nu))
      have hu : (upd (upd (upd H19 l2 (.lst [.str ""])) q (.lst (x0 :: r0 ++ [.str ""]))) u (.tup [.str "none", x0])) u = some (.tup [.str "none", x0]) := upd_same
      generalize upd (upd (upd H19 l2 (.lst [.str ""])) q (.lst (x0 :: r0 ++ [.str ""]))) u (.tup [.str "none", x0]) = H20 at s3 hu ⊢
      have s20 : Same H17 H20 := s78.trans (s89.trans s3)
      replace hB := s3 _ _ (s89 _ _ hB)
      clear s3 nu nq q s2 nl2 l2 hG s89 nG H19 hlI18 hI18 hW s78 H18 hlI
      refine ⟨fun σ' H' => Same H17 H' ∧ ∃ (u : Addr) (a b : V), H' u = some (.tup [a, b]) ∧ ((Twin (twf κ) its ∧ a = .str "bad" ∧ b = .str "let") ∨ (¬ Twin (twf κ) its ∧ a = .str "none" ∧ b = x0)) ∧ ∃ v14 v16 : Option V, σ' = [some (.ref a0), some (.ref d), some (.int sp), some (.ref R), some (.str bg), some (.ref W), none, some (.ref p), some (.ref C), some (.ref D), some (.ref g), some (.ref o1), some (.ref g3), some (.ref I), v14, none, v16, none, some (.ref u)], ?_, ?_⟩
      · refine ⟨_, rfl, (by show 0 ≤ sizeLine; decide), fun e0 ne0 => ⟨.list (ks.map PyData.int), .list [], .lst (SqL.of (same_new ne0 _ _ hB)) ints_dp, .lst (SqL.of upd_same) .nil, ints_sh _, ints_sh [], _, rfl, ite2 (fun e => ?_) fun e => ?_⟩⟩
        · have hk : ks ≠ [] := fun z => by
            rw [z] at e
            exact absurd e (by decide)
          refine ⟨(by show 2 ≤ sizeLine; decide), fun u2 nu2 => ?_⟩
          exact ⟨s20.trans ((same_new ne0).trans (same_new nu2)), u2, _, _, upd_same, .inl ⟨hkt.mp hk, rfl, rfl⟩, _, _, rfl⟩
        · have hk : ¬ ks ≠ [] := fun z => e (by
            cases ks with
            | nil => exact absurd rfl z
            | cons a b => rfl)
          exact ⟨s20.trans (same_new ne0), u, _, _, same_new ne0 _ _ hu, .inr ⟨fun z => hk (hkt.mpr z), rfl, rfl⟩, _, _, rfl⟩
      clear s20 hB hkl hkt ks hu H20
      rintro σ' H18 ⟨s78, u, a, b, hu, hab, v14, v16, rfl⟩
      have hI18 := hI.ext s78
      replace hR := hR.ext s78
      replace hD := s78 _ _ hD
      replace hg := hg.ext s78
      replace hh := hh.ext s78
      replace hκ : ∀ y ∈ its, IsK H18 y (κ y) ∧ okI (κ y) := fun y hy => ⟨(hκ y hy).1.ext s78, (hκ y hy).2⟩
      refine ⟨_, rfl, _, rfl, I, _, rfl, .inl ⟨SqL.of hI18.hI, fun t3 nt3 => ?_⟩⟩
      have s3 := same_new (o := .tup its) nt3
      have ht3 : (upd H18 t3 (.tup its)) t3 = some (.tup its) := upd_same
      have hg3 := hg.ext s3
      generalize upd H18 t3 (.tup its) = H19 at s3 ht3 hg3 ⊢
      have fin : ∀ (H' : Hp) (o : Addr) (x y : V), Same H19 H' → H' o = some (.tup [x, y]) → EqI K H' x a true → EqI K H' y b true → rNe0 K (.ref o) (.ref u) H' fun x H' => ∃ k, x = .bl k ∧ if k = true then Q (.bl false) H' else RowsA H' R ys ∧ H' D = some (.lst (ds.map V.str)) ∧ PgA K H' g xs bg dx tn dP dN ∧ PgA K H' g3 xs3 bg dx3 tn3 dP3 dN3 ∧ ∃ w13 w14 w16 w18 : Option V, [some (.ref a0), some (.ref d), some (.int sp), some (.ref R), some (.str bg), some (.ref W), none, some (.ref p), some (.ref C), some (.ref D), some (.ref g), some (.ref o1), some (.ref g3), some (.ref I), v14, none, v16, none, some (.ref u)] = [some (.ref a0), some (.ref d), some (.int sp), some (.ref R), some (.str bg), some (.ref W), none, some (.ref p), some (.ref C), some (.ref D), some (.ref g), some (.ref o1), some (.ref g3), w13, w14, none, w16, none, w18] := fun H' o x y s ho e1 e2 => by
        have s' := s3.trans s
        exact ⟨o, u, _, _, rfl, rfl, .inl ⟨SqT.of ho, SqT.of (s' _ _ hu)⟩, .cons e1 (.cons e2 .nil), false, rfl, iteF ⟨hR.ext s', s' _ _ hD, hg.ext s', hh.ext s', _, _, _, _, rfl⟩⟩
      refine ⟨g, t3, xs, bg, dx, tn, dP, dN, rfl, hg3, hbx, hkp, .inr (.inr ⟨its, twf κ, ht3, by omega, fun x hx y hy => eqw_k ((hκ x hx).1.ext s3) ((hκ y hy).1.ext s3) (hκ x hx).2 (hκ y hy).2, ?_⟩)⟩
      have hxk := (hκ x0 (List.mem_of_getElem? hx0)).1
      rcases hab with ⟨tw, ea, eb⟩ | ⟨tw, ea, eb⟩
      · refine .inl ⟨tw, fun H' dd s nd => ⟨dd, rfl, .inl ⟨rfl, _, upd_same, fun H2 o s2 ho => ?_⟩⟩⟩
        exact ⟨_, rfl, fin H2 o _ _ (s.trans ((same_new nd).trans s2)) ho (by rw [ea]; exact eqI_str _) (by rw [eb]; exact eqI_str _)⟩
      · refine .inr ⟨tw, i0, x0, hx0, fun j y hj hy => (by rw [hB.zs]; exact nmq_t (hpre j y hj hy)), (by rw [hB.zs]; exact nmq_f (hxk.ext s3) hq0), fun H' dd s nd => ⟨dd, rfl, .inr ⟨rfl, _, upd_same, fun H2 o s2 ho => ?_⟩⟩⟩
        have s' := s.trans ((same_new nd).trans s2)
        exact ⟨_, rfl, fin H2 o _ _ s' ho (by rw [ea]; exact eqI_str _) (by rw [eb]; exact eqI_self (hxk.ext (s3.trans s')))⟩
    clear hR hD hg hh hW hC hp H16
    rintro σ' H1 ⟨hR, hD, hg, hh, v13, v14, v16, v18, rfl⟩
    refine ⟨_, rfl, _, rfl, g, g3, dx, dx3, _, _, rfl, rfl, hg.hg, hh.hg, g, g3, xs, xs3, bg, bg, dx, tn, dP, dN, dx3, tn3, dP3, dN3, rfl, hg, hh, nP, nN, fun H2 s12 => ?_⟩
    replace hR := hR.ext s12
    replace hD := s12 _ _ hD
    replace hg := hg.ext s12
    clear s12 hh H1
    refine ⟨_, rfl, R, rfl, ⟨_, SqL.of hR.hR⟩, fun A1 nA => lc_it walk_list (fun i H' => Same H2 H' ∧ H' A1 = some (.lst (((ys.map fun y => y.2.2.b).take i).map V.bl))) ⟨same_new nA, upd_same⟩ (fun i H' _ h => h.1.seq (SqL.of hR.hR)) ?_ ?_⟩
    · rintro j x H3 H' hj ⟨sg3, hD3⟩ ⟨rfl, hx⟩
      obtain ⟨y, hy, rfl⟩ := getE hx
      have hyr := ((hR.ext sg3).row y (List.mem_of_getElem? hy)).1
      refine ⟨rfl, _, rfl, y.1, _, 3, .bl y.2.2.b, rfl, rfl, SqL.of hyr, atI_nat (j := 3) rfl, ?_⟩
      refine ⟨_, hD3, ?_, same_app sg3 (Same.refl _) nA, ?_⟩
      · rw [List.length_map, List.length_take]
        rw [List.length_map] at hj
        exact Nat.lt_of_le_of_lt (Nat.min_le_left _ _) (Nat.lt_of_lt_of_le hj (Nat.le_trans hl6 (by decide)))
      · rw [upd_same, List.take_add_one, List.map_append, List.getElem?_map, hy]
        rfl
    rintro H3 ⟨s23, hA⟩
    rw [List.take_of_length_le (by rw [List.length_map, List.length_map]; exact Nat.le_refl _)] at hA
    replace hR := hR.ext s23
    replace hD := s23 _ _ hD
    replace hg := hg.ext s23
    clear s23 nA H2
    refine ⟨_, rfl, R, rfl, ⟨_, SqL.of hR.hR⟩, fun A2 nA => lc_it walk_list (fun i H' => Same H3 H' ∧ H' A2 = some (.lst (((ys.map fun y => decide (y.2.2.z ∈ ds)).take i).map V.bl))) ⟨same_new nA, upd_same⟩ (fun i H' _ h => h.1.seq (SqL.of hR.hR)) ?_ ?_⟩
    · rintro j x H4 H' hj ⟨sg3, hD3⟩ ⟨rfl, hx⟩
      obtain ⟨y, hy, rfl⟩ := getE hx
      have hyr := ((hR.ext sg3).row y (List.mem_of_getElem? hy)).1
      refine ⟨rfl, _, rfl, y.1, _, 0, .str y.2.2.z, rfl, rfl, SqL.of hyr, atI0, _, rfl, D, _, rfl, .inl (SqL.of (sg3 _ _ hD)), rfl, ?_, ?_⟩
      · exact List.all_eq_true.mpr fun v hv => by
          obtain ⟨z, _, rfl⟩ := List.mem_map.mp hv
          rfl
      have hv : (if false = true then !inV (.str y.2.2.z) (ds.map V.str) else inV (.str y.2.2.z) (ds.map V.str)) = decide (y.2.2.z ∈ ds) := inV_str _ _
      rw [hv]
      refine ⟨_, hD3, ?_, same_app sg3 (Same.refl _) nA, ?_⟩
      · rw [List.length_map, List.length_take]
        rw [List.length_map] at hj
        exact Nat.lt_of_le_of_lt (Nat.min_le_left _ _) (Nat.lt_of_lt_of_le hj (Nat.le_trans hl6 (by decide)))
      · rw [upd_same, List.take_add_one, List.map_append, List.getElem?_map, hy]
        rfl
    rintro H4 ⟨s34, hA2⟩
    rw [List.take_of_length_le (by rw [List.length_map, List.length_map]; exact Nat.le_refl _)] at hA2
    replace hR := hR.ext s34
    replace hg := hg.ext s34
    replace hA := s34 _ _ hA
    clear s34 nA hD H3
    refine ⟨_, _, .lst (SqL.of hA) bls_dp, .lst (SqL.of hA2) bls_dp, bls_sh _, bls_sh _, ?_⟩
    have eb : pgB xs xs3 bg bg = PyData.eqv (.list ((ys.map fun y => y.2.2.b).map PyData.bool)) (.list ((ys.map fun y => decide (y.2.2.z ∈ ds)).map PyData.bool)) := by
      show _ = PyData.eqvAll ((ys.map fun y => y.2.2.b).map PyData.bool) ((ys.map fun y => decide (y.2.2.z ∈ ds)).map PyData.bool)
      have hd : decide (rwOf ys = (rwOf ys).map (letRw ds)) = decide (ys.map (fun y => y.2.2.b) = ys.map fun y => decide (y.2.2.z ∈ ds)) := decide_eq_decide.mpr (let_eq ds ys)
      rw [bls_eq, pg_alike, hB.rw, e3, hd]
      simp
    rw [← eb]
    refine ⟨rfl, false, congrArg V.bl (bne_self _), iteF ?_⟩
    refine ⟨_, rfl, _, rfl, _, rfl, R, ys, bg, rfl, hR, hok, mb, fun H5 g4 xs4 dx4 tn4 dP4 dN4 s45 hg4 hB4 nP4 nN4 => ?_⟩
    refine ⟨g, g4, dx, dx4, _, _, rfl, rfl, (hg.ext s45).hg, hg4.hg, g, g4, xs, xs4, bg, bg, dx, tn, dP, dN, dx4, tn4, dP4, dN4, rfl, hg.ext s45, hg4, (hg.ne nP4).1, (hg.ne nN4).2, fun H6 s56 => ?_⟩
    have e5 : pgB xs xs4 bg bg = true := by
      rw [pg_alike, hB.rw, hB4.rw]
      simp
    rw [e5]
    exact k _
end
end K8

set_option Elab.async false
set_option linter.all false
set_option maxRecDepth 100000
set_option maxHeartbeats 0
namespace K8
open PySem PySem.Spec PyProof.Rows L2 Vf
def fn : List He.DefD := [
  ⟨("is_integer", none), "is_integer", "is_integer", defArgs s_is_integer, defBody s_is_integer, defScope s_is_integer, [], []⟩,
  ⟨("is_integer_from", none), "is_integer_from", "is_integer_from", defArgs s_is_integer_from, defBody s_is_integer_from, defScope s_is_integer_from, [], []⟩,
  ⟨("is_flag", none), "is_flag", "is_flag", defArgs s_is_flag, defBody s_is_flag, defScope s_is_flag, [], []⟩,
  ⟨("is_name", none), "is_name", "is_name", defArgs s_is_name, defBody s_is_name, defScope s_is_name, [], []⟩,
  ⟨("has_twins", none), "has_twins", "has_twins", defArgs s_has_twins, defBody s_has_twins, defScope s_has_twins, [], []⟩,
  ⟨("BadPlace", some "__init__"), "__init__", "BadPlace.__init__", defArgs s_BadPlace_init, defBody s_BadPlace_init, defScope s_BadPlace_init, [], []⟩,
  ⟨("Place", some "__init__"), "__init__", "Place.__init__", defArgs s_Place_init, defBody s_Place_init, defScope s_Place_init, [.int 1, .non], [("let", .bl true)]⟩,
  ⟨("Place", some "__eq__"), "__eq__", "Place.__eq__", defArgs s_Place_eq, defBody s_Place_eq, defScope s_Place_eq, [], []⟩,
  ⟨("BadProgram", some "__init__"), "__init__", "BadProgram.__init__", defArgs s_BadProgram_init, defBody s_BadProgram_init, defScope s_BadProgram_init, [], []⟩,
  ⟨("NoPlace", some "__init__"), "__init__", "NoPlace.__init__", defArgs s_NoPlace_init, defBody s_NoPlace_init, defScope s_NoPlace_init, [], []⟩,
  ⟨("Program", some "__init__"), "__init__", "Program.__init__", defArgs s_Program_init, defBody s_Program_init, defScope s_Program_init, [], [("start", .non)]⟩,
  ⟨("Program", some "__contains__"), "__contains__", "Program.__contains__", defArgs s_Program_contains, defBody s_Program_contains, defScope s_Program_contains, [], []⟩,
  ⟨("Program", some "__getitem__"), "__getitem__", "Program.__getitem__", defArgs s_Program_getitem, defBody s_Program_getitem, defScope s_Program_getitem, [], []⟩,
  ⟨("Program", some "__eq__"), "__eq__", "Program.__eq__", defArgs s_Program_eq, defBody s_Program_eq, defScope s_Program_eq, [], []⟩,
  ⟨("is_one_of", none), "is_one_of", "is_one_of", defArgs s_is_one_of, defBody s_is_one_of, defScope s_is_one_of, [], []⟩,
  ⟨("are_places", none), "are_places", "are_places", defArgs s_are_places, defBody s_are_places, defScope s_are_places, [], []⟩,
  ⟨("are_nexts", none), "are_nexts", "are_nexts", defArgs s_are_nexts, defBody s_are_nexts, defScope s_are_nexts, [], []⟩,
  ⟨("is_choice", none), "is_choice", "is_choice", defArgs s_is_choice, defBody s_is_choice, defScope s_is_choice, [], []⟩,
  ⟨("_law_take", none), "_law_take", "_law_take", defArgs s_law_take, defBody s_law_take, defScope s_law_take, [], []⟩,
  ⟨("_law_cell", none), "_law_cell", "_law_cell", defArgs s_law_cell, defBody s_law_cell, defScope s_law_cell, [], []⟩,
  ⟨("_law_name", none), "_law_name", "_law_name", defArgs s_law_name, defBody s_law_name, defScope s_law_name, [], []⟩,
  ⟨("_law_rows", none), "_law_rows", "_law_rows", defArgs s_law_rows, defBody s_law_rows, defScope s_law_rows, [], []⟩,
  ⟨("_law_nexts", none), "_law_nexts", "_law_nexts", defArgs s_law_nexts, defBody s_law_nexts, defScope s_law_nexts, [], []⟩,
  ⟨("_law_program", none), "_law_program", "_law_program", defArgs s_law_program, defBody s_law_program, defScope s_law_program, [], []⟩,
  ⟨("Program", some "with_let"), "with_let", "Program.with_let", defArgs s_Program_with_let, defBody s_Program_with_let, defScope s_Program_with_let, [], []⟩,
  ⟨("_law_with", none), "_law_with", "_law_with", defArgs s_law_with, defBody s_law_with, defScope s_law_with, [], []⟩,
  ⟨("_law_chosen", none), "_law_chosen", "_law_chosen", defArgs s_law_chosen, defBody s_law_chosen, defScope s_law_chosen, [], []⟩,
  ⟨("_law_let_rows", none), "_law_let_rows", "_law_let_rows", defArgs s_law_let_rows, defBody s_law_let_rows, defScope s_law_let_rows, [], []⟩,
  ⟨("_law_spoiled", none), "_law_spoiled", "_law_spoiled", defArgs s_law_spoiled, defBody s_law_spoiled, defScope s_law_spoiled, [], []⟩,
  ⟨("law", none), "law", "law", defArgs s_law, defBody s_law, defScope s_law, [], []⟩]
def fa : List He.Fa := [.meth "Place" "__eq__", .meth "Program" "__eq__", .meth "Program" "__contains__", .meth "Program" "__getitem__", .meth "Program" "with_let", .free "int", .free "bool", .free "str", .free "len", .free "all", .free "isinstance", .int "LONGEST_NAME" 8, .int "MOST_TICKS" 6, .str "LETTERS" "abcdefghijklmnopqrstuvwxyz", .glo "KEPT_WORDS", .glo "is_integer", .glo "is_integer_from", .glo "is_flag", .glo "is_name", .glo "Place", .glo "BadPlace", .cls "Place", .mkr "Place", .noat "Place" "name", .noat "Place" "least", .noat "Place" "most", .noat "Place" "let", .free "enumerate", .free "list", .free "tuple", .free "dict", .int "MOST_PLACES" 6, .glo "has_twins", .glo "is_one_of", .glo "are_places", .glo "are_nexts", .glo "is_choice", .glo "Program", .glo "BadProgram", .glo "NoPlace", .cls "Program", .mkr "Program", .noat "Program" "names", .noat "Program" "start", .noat "Program" "_places", .noat "Program" "_nexts", .free "range", .glo "_law_cell", .glo "_law_take", .glo "_law_name", .glo "_law_rows", .glo "_law_nexts", .glo "_law_program", .glo "_law_with", .glo "_law_chosen", .glo "_law_let_rows", .glo "_law_spoiled", .glo "law"]
def ex2 (K : PySem.W.Frag) : Bool := ((He.eqO (PySem.W.findIn K (.ref (He.ga K "Place")) "__ne__") (some (some (.builtin "object.__ne__")))) && ((He.eqO (PySem.W.findIn K (.ref (He.ga K "Program")) "__ne__") (some (some (.builtin "object.__ne__")))) && ((PySem.W.fnIn K (He.fAd K ("Program", some "__getitem__"))) && ((decide (PySem.W.exmOne K (.ref (He.ga K "BadProgram")) (.ref (He.ga K "BadProgram")) = some true)) && ((decide (PySem.W.exmOne K (.ref (He.ga K "NoPlace")) (.ref (He.ga K "BadProgram")) = some false)) && ((decide (PySem.W.exmOne K (.ref (He.ga K "NoPlace")) (.ref (He.ga K "NoPlace")) = some true)) && ((kTup K (He.ga K "KEPT_WORDS") KEPT) && ((exI K "BadPlace" "why") && ((He.eqO (PySem.W.specialIn K (.builtin "object.__class__") "__get__") (some (some (.builtin "getset_descriptor.__get__")))) && ((decide (PySem.W.takesIn K (.builtin "object.__class__") = some true)) && ((He.eqO (PySem.W.findIn K (.ref (He.ga K "Place")) "__class__") (some (some (.builtin "object.__class__")))) && ((decide (PySem.W.mroIn K (He.ga K "Place") (.type "object") = some true)) && ((decide (PySem.W.kitOne K (.ref (He.ga K "Place")) (.ref (He.ga K "Place")) = some true)) && ((exI K "BadProgram" "why") && ((exI K "NoPlace" "name") && ((He.eqO (PySem.W.findIn K (.ref (He.ga K "Program")) "__class__") (some (some (.builtin "object.__class__")))) && ((decide (PySem.W.mroIn K (He.ga K "Program") (.type "object") = some true)) && ((decide (PySem.W.kitOne K (.ref (He.ga K "Program")) (.ref (He.ga K "Program")) = some true)) && true))))))))))))))))))
def ex (K : PySem.W.Frag) : Bool := (fa.all fun f => f.ok K) && ex2 K
abbrev R : PySem.W.OpenRow := PySem.W.OpenLaw.row PySem.Challenge.rw_seenshares_k08_with_let
abbrev hk : PySem.W.Hook := hookM 5 ex fn
def ob (s : PySem.W.SharedT) : AlM := obsMG 5 ex fn (HandSHeadRun.getT s)
theorem ob_eq (s : PySem.W.SharedT) : ob s = hk.obs s.abs := obsMG_eq (HandSHeadRun.getT_eq s)
def names : List Str := ["SeenError", "BadPlace", "BadProgram", "NoPlace", "KEPT_WORDS", "LETTERS", "LONGEST_NAME", "is_integer", "is_integer_from", "is_flag", "is_name", "has_twins", "MOST_TICKS", "MOST_PLACES", "Place", "Program", "is_one_of", "are_places", "are_nexts", "is_choice", "_law_cell", "_law_take", "_law_name", "_law_rows", "_law_row", "_law_nexts", "_law_program", "_law_with", "_law_chosen", "_law_let_rows", "_law_spoiled"]
theorem run (w : World) : HandSHeadRun.RunEq R (PySem.W.view R.prog [35]) hk ob 100000 names w := by
  intro os
  kernel_rfl
end K8

set_option Elab.async false
set_option linter.all false
set_option maxRecDepth 100000
set_option maxHeartbeats 4000000
namespace K8
open PySem PySem.Spec PyProof.Rows L2 Vf
section
variable {K : PySem.W.Frag} {h : Heap} {mg : Str → Option Value}
theorem mk_GMeth (X : K.In h) (G : h.Ns mainGlobals mg) (c : ex K = true) : GMeth K := by
  obtain ⟨a, c⟩ := He.ba c
  have fact : ∀ (i : Nat) {f : He.Fa}, fa[i]? = some f → f.ok K = true := fun i f e => List.all_eq_true.mp a f (List.mem_of_getElem? e)
  obtain ⟨c0, c⟩ := He.ba c
  obtain ⟨c1, c⟩ := He.ba c
  obtain ⟨c2, c⟩ := He.ba c
  obtain ⟨c3, c⟩ := He.ba c
  obtain ⟨c4, c⟩ := He.ba c
  obtain ⟨c5, c⟩ := He.ba c
  obtain ⟨c6, c⟩ := He.ba c
  obtain ⟨c7, c⟩ := He.ba c
  obtain ⟨c8, c⟩ := He.ba c
  obtain ⟨c9, c⟩ := He.ba c
  obtain ⟨c10, c⟩ := He.ba c
  obtain ⟨c11, c⟩ := He.ba c
  obtain ⟨c12, c⟩ := He.ba c
  obtain ⟨c13, c⟩ := He.ba c
  obtain ⟨c14, c⟩ := He.ba c
  obtain ⟨c15, c⟩ := He.ba c
  obtain ⟨c16, c⟩ := He.ba c
  obtain ⟨c17, c⟩ := He.ba c
  exact
  { p_eq := meth_of (fact 0 (f := .meth "Place" "__eq__") rfl)
    p_ne := He.eqO_ok c0
    m_eq := meth_of (fact 1 (f := .meth "Program" "__eq__") rfl)
    m_ne := He.eqO_ok c1
    m_contains := meth_of (fact 2 (f := .meth "Program" "__contains__") rfl)
    m_getitem := meth_of (fact 3 (f := .meth "Program" "__getitem__") rfl)
    f_getitem := c2 }
theorem mk_LMeth (X : K.In h) (G : h.Ns mainGlobals mg) (c : ex K = true) : LMeth K := by
  obtain ⟨a, c⟩ := He.ba c
  have fact : ∀ (i : Nat) {f : He.Fa}, fa[i]? = some f → f.ok K = true := fun i f e => List.all_eq_true.mp a f (List.mem_of_getElem? e)
  obtain ⟨c0, c⟩ := He.ba c
  obtain ⟨c1, c⟩ := He.ba c
  obtain ⟨c2, c⟩ := He.ba c
  obtain ⟨c3, c⟩ := He.ba c
  obtain ⟨c4, c⟩ := He.ba c
  obtain ⟨c5, c⟩ := He.ba c
  obtain ⟨c6, c⟩ := He.ba c
  obtain ⟨c7, c⟩ := He.ba c
  obtain ⟨c8, c⟩ := He.ba c
  obtain ⟨c9, c⟩ := He.ba c
  obtain ⟨c10, c⟩ := He.ba c
  obtain ⟨c11, c⟩ := He.ba c
  obtain ⟨c12, c⟩ := He.ba c
  obtain ⟨c13, c⟩ := He.ba c
  obtain ⟨c14, c⟩ := He.ba c
  obtain ⟨c15, c⟩ := He.ba c
  obtain ⟨c16, c⟩ := He.ba c
  obtain ⟨c17, c⟩ := He.ba c
  exact
  { m_with_let := meth_of (fact 4 (f := .meth "Program" "with_let") rfl) }
theorem mk_ETxt (X : K.In h) (G : h.Ns mainGlobals mg) (c : ex K = true) : ETxt K := by
  obtain ⟨a, c⟩ := He.ba c
  have fact : ∀ (i : Nat) {f : He.Fa}, fa[i]? = some f → f.ok K = true := fun i f e => List.all_eq_true.mp a f (List.mem_of_getElem? e)
  obtain ⟨c0, c⟩ := He.ba c
  obtain ⟨c1, c⟩ := He.ba c
  obtain ⟨c2, c⟩ := He.ba c
  obtain ⟨c3, c⟩ := He.ba c
  obtain ⟨c4, c⟩ := He.ba c
  obtain ⟨c5, c⟩ := He.ba c
  obtain ⟨c6, c⟩ := He.ba c
  obtain ⟨c7, c⟩ := He.ba c
  obtain ⟨c8, c⟩ := He.ba c
  obtain ⟨c9, c⟩ := He.ba c
  obtain ⟨c10, c⟩ := He.ba c
  obtain ⟨c11, c⟩ := He.ba c
  obtain ⟨c12, c⟩ := He.ba c
  obtain ⟨c13, c⟩ := He.ba c
  obtain ⟨c14, c⟩ := He.ba c
  obtain ⟨c15, c⟩ := He.ba c
  obtain ⟨c16, c⟩ := He.ba c
  obtain ⟨c17, c⟩ := He.ba c
  exact
  { e1 := of_decide_eq_true c3
    e2 := of_decide_eq_true c4
    e3 := of_decide_eq_true c5 }
theorem mk_Txt (X : K.In h) (G : h.Ns mainGlobals mg) (c : ex K = true) : Txt K mg := by
  obtain ⟨a, c⟩ := He.ba c
  have fact : ∀ (i : Nat) {f : He.Fa}, fa[i]? = some f → f.ok K = true := fun i f e => List.all_eq_true.mp a f (List.mem_of_getElem? e)
  obtain ⟨c0, c⟩ := He.ba c
  obtain ⟨c1, c⟩ := He.ba c
  obtain ⟨c2, c⟩ := He.ba c
  obtain ⟨c3, c⟩ := He.ba c
  obtain ⟨c4, c⟩ := He.ba c
  obtain ⟨c5, c⟩ := He.ba c
  obtain ⟨c6, c⟩ := He.ba c
  obtain ⟨c7, c⟩ := He.ba c
  obtain ⟨c8, c⟩ := He.ba c
  obtain ⟨c9, c⟩ := He.ba c
  obtain ⟨c10, c⟩ := He.ba c
  obtain ⟨c11, c⟩ := He.ba c
  obtain ⟨c12, c⟩ := He.ba c
  obtain ⟨c13, c⟩ := He.ba c
  obtain ⟨c14, c⟩ := He.ba c
  obtain ⟨c15, c⟩ := He.ba c
  obtain ⟨c16, c⟩ := He.ba c
  obtain ⟨c17, c⟩ := He.ba c
  exact
  { z_int := He.free_ok X G (fact 5 (f := .free "int") rfl)
    z_bool := He.free_ok X G (fact 6 (f := .free "bool") rfl)
    z_str := He.free_ok X G (fact 7 (f := .free "str") rfl)
    z_len := He.free_ok X G (fact 8 (f := .free "len") rfl)
    z_all := He.free_ok X G (fact 9 (f := .free "all") rfl)
    z_isinstance := He.free_ok X G (fact 10 (f := .free "isinstance") rfl)
    i_LONGEST_NAME := He.int_ok X G (fact 11 (f := .int "LONGEST_NAME" 8) rfl)
    i_MOST_TICKS := He.int_ok X G (fact 12 (f := .int "MOST_TICKS" 6) rfl)
    i_LETTERS := He.str_ok X G (fact 13 (f := .str "LETTERS" "abcdefghijklmnopqrstuvwxyz") rfl)
    g_KEPT_WORDS := He.glo_ok X G (fact 14 (f := .glo "KEPT_WORDS") rfl)
    t_KEPT := c6
    g_is_integer := He.glo_ok X G (fact 15 (f := .glo "is_integer") rfl)
    g_is_integer_from := He.glo_ok X G (fact 16 (f := .glo "is_integer_from") rfl)
    g_is_flag := He.glo_ok X G (fact 17 (f := .glo "is_flag") rfl)
    g_is_name := He.glo_ok X G (fact 18 (f := .glo "is_name") rfl)
    g_Place := He.glo_ok X G (fact 19 (f := .glo "Place") rfl)
    g_BadPlace := He.glo_ok X G (fact 20 (f := .glo "BadPlace") rfl)
    c_Place := cls_of (fact 21 (f := .cls "Place") rfl)
    m_Place := mk_of (fact 22 (f := .mkr "Place") rfl)
    nN := noat_of (fact 23 (f := .noat "Place" "name") rfl)
    nL := noat_of (fact 24 (f := .noat "Place" "least") rfl)
    nM := noat_of (fact 25 (f := .noat "Place" "most") rfl)
    nT := noat_of (fact 26 (f := .noat "Place" "let") rfl)
    x_BadPlace := exI_ok c7
    hn := He.eqO_ok c8
    ht := of_decide_eq_true c9
    ha := He.eqO_ok c10
    hm := of_decide_eq_true c11
    k1 := of_decide_eq_true c12
    z_enumerate := He.free_ok X G (fact 27 (f := .free "enumerate") rfl)
    z_list := He.free_ok X G (fact 28 (f := .free "list") rfl)
    z_tuple := He.free_ok X G (fact 29 (f := .free "tuple") rfl)
    z_dict := He.free_ok X G (fact 30 (f := .free "dict") rfl)
    i_MOST_PLACES := He.int_ok X G (fact 31 (f := .int "MOST_PLACES" 6) rfl)
    g_has_twins := He.glo_ok X G (fact 32 (f := .glo "has_twins") rfl)
    g_is_one_of := He.glo_ok X G (fact 33 (f := .glo "is_one_of") rfl)
    g_are_places := He.glo_ok X G (fact 34 (f := .glo "are_places") rfl)
    g_are_nexts := He.glo_ok X G (fact 35 (f := .glo "are_nexts") rfl)
    g_is_choice := He.glo_ok X G (fact 36 (f := .glo "is_choice") rfl)
    g_Program := He.glo_ok X G (fact 37 (f := .glo "Program") rfl)
    g_BadProgram := He.glo_ok X G (fact 38 (f := .glo "BadProgram") rfl)
    g_NoPlace := He.glo_ok X G (fact 39 (f := .glo "NoPlace") rfl)
    c_Program := cls_of (fact 40 (f := .cls "Program") rfl)
    m_Program := mk_of (fact 41 (f := .mkr "Program") rfl)
    nA := noat_of (fact 42 (f := .noat "Program" "names") rfl)
    nB := noat_of (fact 43 (f := .noat "Program" "start") rfl)
    nC := noat_of (fact 44 (f := .noat "Program" "_places") rfl)
    nD := noat_of (fact 45 (f := .noat "Program" "_nexts") rfl)
    x_BadProgram := exI_ok c13
    x_NoPlace := exI_ok c14
    pa := He.eqO_ok c15
    pm := of_decide_eq_true c16
    pk := of_decide_eq_true c17
    z_range := He.free_ok X G (fact 46 (f := .free "range") rfl)
    g_law_cell := He.glo_ok X G (fact 47 (f := .glo "_law_cell") rfl)
    g_law_take := He.glo_ok X G (fact 48 (f := .glo "_law_take") rfl)
    g_law_name := He.glo_ok X G (fact 49 (f := .glo "_law_name") rfl)
    g_law_rows := He.glo_ok X G (fact 50 (f := .glo "_law_rows") rfl)
    g_law_nexts := He.glo_ok X G (fact 51 (f := .glo "_law_nexts") rfl)
    g_law_program := He.glo_ok X G (fact 52 (f := .glo "_law_program") rfl)
    g_law_with := He.glo_ok X G (fact 53 (f := .glo "_law_with") rfl)
    g_law_chosen := He.glo_ok X G (fact 54 (f := .glo "_law_chosen") rfl)
    g_law_let_rows := He.glo_ok X G (fact 55 (f := .glo "_law_let_rows") rfl)
    g_law_spoiled := He.glo_ok X G (fact 56 (f := .glo "_law_spoiled") rfl) }
theorem facts {P : Program} {w : World} {f : Addr} (X : K.In h) (G : h.Ns mainGlobals mg) (hfa : mg ("law" : Str) = some (.ref f)) (c : SaysM ex fn K) :
    ∃ fd : FuncData, (∀ (s : Shared) (v : Value), BindsTo s fd ⟨[v], []⟩ [("_law_script", v)]) ∧ ∀ base : Heap, K.In base → base.Ns mainGlobals mg → FnOk P w K mg base CX0 9 f fd ["_law_script"] (spLaw K) := by
  obtain ⟨d0, F0⟩ := c.fn 0
  obtain ⟨d1, F1⟩ := c.fn 1
  obtain ⟨d2, F2⟩ := c.fn 2
  obtain ⟨d3, F3⟩ := c.fn 3
  obtain ⟨d4, F4⟩ := c.fn 4
  obtain ⟨d5, F5⟩ := c.fn 5
  obtain ⟨d6, F6⟩ := c.fn 6
  obtain ⟨d7, F7⟩ := c.fn 7
  obtain ⟨d8, F8⟩ := c.fn 8
  obtain ⟨d9, F9⟩ := c.fn 9
  obtain ⟨d10, F10⟩ := c.fn 10
  obtain ⟨d11, F11⟩ := c.fn 11
  obtain ⟨d12, F12⟩ := c.fn 12
  obtain ⟨d13, F13⟩ := c.fn 13
  obtain ⟨d14, F14⟩ := c.fn 14
  obtain ⟨d15, F15⟩ := c.fn 15
  obtain ⟨d16, F16⟩ := c.fn 16
  obtain ⟨d17, F17⟩ := c.fn 17
  obtain ⟨d18, F18⟩ := c.fn 18
  obtain ⟨d19, F19⟩ := c.fn 19
  obtain ⟨d20, F20⟩ := c.fn 20
  obtain ⟨d21, F21⟩ := c.fn 21
  obtain ⟨d22, F22⟩ := c.fn 22
  obtain ⟨d23, F23⟩ := c.fn 23
  obtain ⟨d24, F24⟩ := c.fn 24
  obtain ⟨d25, F25⟩ := c.fn 25
  obtain ⟨d26, F26⟩ := c.fn 26
  obtain ⟨d27, F27⟩ := c.fn 27
  obtain ⟨d28, F28⟩ := c.fn 28
  obtain ⟨d29, F29⟩ := c.fn 29
  have hl : He.ga K "law" = f := by
    have e := He.glo_ok X G (List.all_eq_true.mp (He.ba c.ex).1 (.glo "law") (List.mem_of_getElem? (i := 57) rfl))
    rw [hfa] at e
    cases e
    rfl
  have b := FunD.bindsA (ps := ["_law_script"]) F29 fun _ _ _ _ _ _ us hl => match us, hl with | [_], _ => rfl
  refine ⟨d29, fun s v => b s [v] rfl, fun base _ _ => ?_⟩
  have T := mk_Txt X G c.ex
  have M := mk_GMeth X G c.ex
  have S := T.toGTxt.toPTxt
  have GT := T.toGTxt
  have A0 := ok_is_integer (P := P) (w := w) (base := base) F0 S
  have A1 := ok_is_integer_from F1 S A0
  have A2 := ok_is_flag (P := P) (w := w) (base := base) F2 S
  have A3 := ok_is_name (P := P) (w := w) (base := base) F3 S
  have A4 := ok_has_twins (P := P) (w := w) (base := base) F4 GT
  have A5 := ok_BadPlace_init (P := P) (w := w) (mg := mg) (base := base) F5
  have G6 := ok_Place_init F6 S A3 A1 A2 A5
  have I6 := O_Place3k F6 G6
  have A7 := ok_Place_eq (P := P) (w := w) (base := base) F7 S
  have A8 := ok_BadProgram_init (P := P) (w := w) (mg := mg) (base := base) F8
  have A9 := ok_NoPlace_init (P := P) (w := w) (mg := mg) (base := base) F9
  have A14 := ok_is_one_of (P := P) (w := w) (base := base) F14 GT
  have A17 := ok_is_choice F17 GT A14 A4
  have A15 := ok_are_places F15 GT A4
  have A16 := ok_are_nexts F16 GT A17
  have G10 := ok_Program_init F10 GT A15 A16 A14 A8
  have I10 := O_Program2k F10 G10
  have A11 := ok_Program_contains F11 GT A14
  have A12 := ok_Program_getitem F12 GT M A11 A9
  have A13 := ok_Program_eq F13 GT M A7
  have B18 := ok_law_take (P := P) (w := w) (base := base) F18 T
  have B19 := ok_law_cell (P := P) (w := w) (base := base) F19 T
  have B20 := ok_law_name F20 T B18
  have B21 := ok_law_rows F21 T B18 B20
  have B22 := ok_law_nexts (P := P) (w := w) (base := base) F22 T
  have B23 := ok_law_program F23 T B22 I6 I10
  have L := mk_LMeth X G c.ex
  have Ee := mk_ETxt X G c.ex
  have A4V := ok_has_twinsV (P := P) (w := w) (base := base) F4 GT
  have A24 := ok_Program_with_let F24 GT M A4 A4V A11 A8 A9 I6 I10
  have B25 := ok_law_with F25 T L Ee A24
  have B26 := ok_law_chosen F26 T B18
  have B27 := ok_law_let_rows (P := P) (w := w) (base := base) F27 T
  have B28 := ok_law_spoiled F28 T B18
  have r := ok_law F29 T M L B19 B18 B21 B23 B26 B27 B25 B28 A24 A13
  rw [← hl]
  exact r
end
end K8
open PySem PySem.W PySem.Calls PyProof.Rows
theorem PySem.Challenge.cw_seenshares_k08_with_let_holds : PySem.Challenge.rw_seenshares_k08_with_let.Holds := by
  w_on; o_law
  refine HandSHeadRun.head_any (r := OpenLaw.row PySem.Challenge.rw_seenshares_k08_with_let) (q := view (OpenLaw.row PySem.Challenge.rw_seenshares_k08_with_let).prog [35]) (H := K8.hk) (ob := K8.ob) (M := 100000) (loose := K8.names)
    (d := HandSHeadRun.topDef (OpenLaw.row PySem.Challenge.rw_seenshares_k08_with_let).prog 35) (kwd := []) K8.ob_eq (by kernel_rfl) (fun s => by kernel_rfl) K8.run (by kernel_rfl) (by kernel_rfl) (by kernel_rfl) (by rfl) (by first | assumption | decide +kernel) (by decide +kernel) ⟨rfl, rfl, rfl, rfl, rfl, by decide +kernel⟩ ?hw ?hc
  case hw => w_witness2
  case hc =>
    refine L2.walk_ofE (l := PySem.Challenge.rw_seenshares_k08_with_let) (n := 63) (k := 9) (x := "_law_script") (CX := L2.CX0) rfl (by decide) (by kernel_rfl) ⟨rfl, by decide, by decide⟩ ?F (fun _ _ _ _ z => z)
    intro w mg fa h Y G hmg0
    obtain ⟨K, KX, c⟩ := Y
    have hmg : mg ("law" : PySem.Str) = some (.ref fa) := by
      have e : (HandSHeadRun.topDef (OpenLaw.row PySem.Challenge.rw_seenshares_k08_with_let).prog 35).name = ("law" : PySem.Str) := by kernel_rfl
      rw [← e]
      exact hmg0
    obtain ⟨fd, hb, hF⟩ := K8.facts (P := (PySem.Challenge.rw_seenshares_k08_with_let).prog) (w := w) KX G hmg c
    exact ⟨K, fd, K8.spLaw K, KX, hb, fun H a ns hl _ hS => ⟨a, ns, rfl, hS, hl, fun _ => rfl⟩, hF⟩
#print axioms PySem.Challenge.cw_seenshares_k08_with_let_holds
