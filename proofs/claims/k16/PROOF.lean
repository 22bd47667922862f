import PyProof.Rows.All
import Wide.All
import OpenK.AllK
import Wide.FinOn
import PyProof.EqAt
import PyProof.EqKinds
import PyProof.TupleCall
import KE.KStateDown
import KE.KCallOwn
import HandS.ForExc
import HandS.Wide
import HandS.Gcd
import HandS.Defaults
import HandS.IsInst
import HandS.ExcInit
import HandS.ExcField
import HandS.ExcIs
import HandS.FStr
import HandS.Codes
import HandS.Dict
import HandS.Head0
import HandS.Head1
import HandS.Head2
import HandS.Head3
import HandS.HeadEnd
import HandS.HeadHook1
import HandS.HeadHook2
import KE.KExcIs
import KE.KOpsOwn
import PyProof.FactsAll.int_1
import PyProof.FactsAll.int_2
import PyProof.FactsAll.int_3
import PyProof.FactsAll.int_5
import HandS.TryOnly
import HandS.Small
import PyProof.FactsAll.str_1
import PyProof.FactsAll.tuple_1
import PyProof.FactsAll.list_1
import PyProof.FactsAll.dict_1
import PyProof.FactsAll.bool_1
import PyProof.FactsAll.NoneType_1
import HandS.OwnEq
import HandS.Comp
import HandS.Walk
import HandS.MakeKwOnly
import HandS.MakeKw
import PyProof.Rows.StrIn
import KE.GoesMore
import HandS.DictComp
import HandS.Property
import HandS.DeepEq
import KE.KEqDict
import PyProof.NeKinds
import HandS.Exc
import HandS.SetFor
import HandS.Conv
import PyProof.CompUse
import HandS.WordsDict
import HandS.TupAny
import HandS.Deep
import HandS.Star
import PySem.Challenge.RW_seenshares_k16_long_runs
set_option Elab.async false
set_option linter.all false
set_option maxRecDepth 100000
set_option maxHeartbeats 2000000
namespace Vf
open PySem PySem.Spec PyProof.Rows L2
/-! ### defs at their places -/
abbrev Pl : Type := Str × Option Str
structure OkD (P : Program) (w : World) (K : PySem.W.Frag) (mg : Str → Option Value) (base : Heap) (CX : CXT) (k : Nat) (p : Pl) (ps : List Str) (dvs : List V) (sp : Sp) : Prop where
  ex : ∃ fd ds, FnOk P w K mg base CX k (He.fAd K p) fd ps sp ∧ Binds K fd ps ds ∧ Vals dvs ds
  kp : PySem.W.keepIn K (.ref (He.fAd K p)) = true
section
variable {X : Cx} {CX : CXT} {k j : Nat} {ps : List Str} {sp : Sp} {dvs : List V} {x m : Str} {p pos apos : Pos} {e o : Expr} {es : List Expr} {ta : TE} {t : TA}
theorem c_fn {E : XK} (O : OkD X.prog X.w X.K X.mg X.base CX k (x, none) ps dvs sp) (hr : Room j X.A) (hj : k ≤ j) (hm : X.mg x = some (.ref (He.ga X.K x))) (hx : Passes CX X E) (ha : PA X (e :: es) t) (hg : Gl X x := by rfl)
    (hdb : (x == ("__debug__" : Str)) = false := by decide) (he : starEach (e :: es) X.env = (false, eval e X.env) :: starEach es X.env := by rfl) (hpl : (backTo pos (starEach es X.env)).any (·.1) = false := by rfl) :
    PE X (.Call (.Name x p) (e :: es) [] pos) (tCall sp dvs E t) := by
  obtain ⟨fd, ds, F, b, v⟩ := O.ex
  exact pe_call F (hr.mono hj) hg hm O.kp b v hx ha hdb he hpl
theorem c_fnS {E : L2.St → XK} (O : OkD X.prog X.w X.K X.mg X.base CX k (x, none) ps [] sp) (hr : Room j X.A) (hj : k ≤ j) (hm : X.mg x = some (.ref (He.ga X.K x))) (hx : ∀ σ, PassesAt CX X σ (E σ)) (ha : PA X (e :: es) t) (hg : Gl X x := by rfl)
    (hdb : (x == ("__debug__" : Str)) = false := by decide) (he : starEach (e :: es) X.env = (false, eval e X.env) :: starEach es X.env := by rfl) (hpl : (backTo pos (starEach es X.env)).any (·.1) = false := by rfl) :
    PE X (.Call (.Name x p) (e :: es) [] pos) (tCallS sp E t) := by
  obtain ⟨fd, ds, F, b, v⟩ := O.ex
  cases v
  exact pe_callS F (hr.mono hj) hg hm O.kp b hx ha hdb he hpl
theorem mk_of {K : PySem.W.Frag} {x : Str} (c : (He.Fa.mkr x).ok K = true) : Mk K (He.ga K x) (He.fAd K (x, some "__init__")) := by
  obtain ⟨h1, h2⟩ := He.ba c
  obtain ⟨h2, h3⟩ := He.ba h2
  obtain ⟨h3, h4⟩ := He.ba h3
  exact ⟨h1, He.eqO_ok h2, h3, h4⟩
theorem meth_of {K : PySem.W.Frag} {x m : Str} (c : (He.Fa.meth x m).ok K = true) : Meth K (He.ga K x) m (He.fAd K (x, some m)) := by
  obtain ⟨h1, h2⟩ := He.ba c
  obtain ⟨h2, h3⟩ := He.ba h2
  exact ⟨He.eqO_ok h1, h2, h3⟩
theorem cls_of {K : PySem.W.Frag} {x : Str} (c : (He.Fa.cls x).ok K = true) : Cls K (He.ga K x) := by
  obtain ⟨h1, h2⟩ := He.ba c
  obtain ⟨h2, h3⟩ := He.ba h2
  obtain ⟨h3, h4⟩ := He.ba h3
  exact ⟨h1, h2, h3, He.eqO_ok h4⟩
theorem noat_of {K : PySem.W.Frag} {x f : Str} (c : (He.Fa.noat x f).ok K = true) : NoAttr K (He.ga K x) f := He.eqO_ok c
/-- C(e, ..) -/
theorem c_mk {E : XK} {C : Addr} (M : Mk X.K C (He.fAd X.K (x, some "__init__"))) (O : OkD X.prog X.w X.K X.mg X.base CX k (x, some "__init__") ps dvs sp) (hr : Room j X.A) (hj : k + 1 ≤ j) (hm : X.mg x = some (.ref C)) (hx : Passes CX X E) (ha : PA X (e :: es) t) (hg : Gl X x := by rfl)
    (hdb : (x == ("__debug__" : Str)) = false := by decide) (he : starEach (e :: es) X.env = (false, eval e X.env) :: starEach es X.env := by rfl) (hpl : (backTo pos (starEach es X.env)).any (·.1) = false := by rfl) :
    PE X (.Call (.Name x p) (e :: es) [] pos) (tMake C sp dvs E t) := by
  obtain ⟨fd, ds, F, b, v⟩ := O.ex
  exact pe_make M F (hr.mono hj) hg hm b v hx ha hdb he hpl
/-- o.m() -/
theorem c_me0 {E : XK} {C : Addr} {cn : Str} (hC : C = He.ga X.K cn) (he : PE X o ta) (c : Cls X.K C) (hm : Meth X.K C m (He.fAd X.K (cn, some m))) (O : OkD X.prog X.w X.K X.mg X.base CX k (cn, some m) ps dvs sp) (hr : Room j X.A) (hj : k ≤ j) (hx : Passes CX X E) {pl : Sem Bool}
    (ht : eval (.Call (.Attribute o m apos) [] [] pos) X.env = (do
      let ov ← eval o X.env
      standAt apos.atName
      let (f, first) ← holding [ov] (getMethod ov m pl)
      callWith pos f first (backTo pos (starEach [] X.env)) (backToKw pos (keywordEach [] X.env))) := by rfl) :
    PE X (.Call (.Attribute o m apos) [] [] pos) (tMeth C m sp dvs E ta tNil) := by
  obtain ⟨fd, ds, F, b, v⟩ := O.ex
  exact pe_meth0 he c hm F (hr.mono hj) b v hx ht
theorem c_me {E : XK} {C : Addr} {cn : Str} (hC : C = He.ga X.K cn) (hb : PE X o ta) (c : Cls X.K C) (hm : Meth X.K C m (He.fAd X.K (cn, some m))) (O : OkD X.prog X.w X.K X.mg X.base CX k (cn, some m) ps dvs sp) (hr : Room j X.A) (hj : k ≤ j) (hx : Passes CX X E) (ha : PA X (e :: es) t) {pl : Sem Bool}
    (hst : starEach (e :: es) X.env = (false, eval e X.env) :: starEach es X.env := by rfl) (hpl : (backTo pos (starEach es X.env)).any (·.1) = false := by rfl)
    (ht : eval (.Call (.Attribute o m apos) (e :: es) [] pos) X.env = (do
      let ov ← eval o X.env
      standAt apos.atName
      let (f, first) ← holding [ov] (getMethod ov m pl)
      callWith pos f first (backTo pos (starEach (e :: es) X.env)) (backToKw pos (keywordEach [] X.env))) := by rfl) :
    PE X (.Call (.Attribute o m apos) (e :: es) [] pos) (tMeth C m sp dvs E ta t) := by
  obtain ⟨fd, ds, F, b, v⟩ := O.ex
  exact pe_meth hb c hm F (hr.mono hj) b v hx ha hst hpl ht
end
/-! ### a try's body whose errors are wished for at any slots -/
theorem passAny {X : Cx} {W : WX} (n : Nat) (tk : Takes X W) (hn : X.N.length = n := by rfl) : Passes (L2.CX X.prog X.w) X (fun cls d H => ∀ σ : L2.St, σ.length = n → W cls d σ H) :=
  fun _ σ _ _ e s' I c => tk e s' (XE.of_call I (fun _ _ _ h => h σ (I.len.trans hn)) c)
/-! ### operators -/
section
variable {X : Cx}
/-- // by any divisor but 0 below 2 ^ 9000 -/
theorem op_fdivG : OpR X (binaryOp .FloorDiv) (rI (fun _ j => j ≠ 0 ∧ j.natAbs.log2 < 9000) fun i j => .int (i.fdiv j)) := opI fun i j _ _ _ _ _ hc q => floordiv_int hc.1 q (.inl (PyProof.noPylong_of_log2 hc.2))
/-- a built-in class as a value -/
theorem pe_ty {x : Str} {n : String} {pos : Pos} (hm : X.mg x = none) (hv : bootBuiltins x = some (.type n)) (hg : Gl X x := by rfl) (hn : x ≠ "__name__" := by decide) (hd : (x == ("__debug__" : Str)) = false := by decide) : PE X (.Name x pos) (tC (.ty n)) := pe_bltn hg hm hv rfl hn hd
/-- a class of the text as a value -/
theorem pe_cl {x : Str} {a : Addr} {pos : Pos} (hm : X.mg x = some (.ref a)) (hg : Gl X x := by rfl) (hd : (x == ("__debug__" : Str)) = false := by decide) : PE X (.Name x pos) (tC (.ref a)) := pe_glob hg hm rfl hd
/-- str(o), o of a class of the text that has its own __str__ -/
def rStrO (C : Addr) (sp : Sp) : List V → Hp → VK → Prop := fun xs H Q => ∃ a dx fs, xs = [.ref a] ∧ H a = some (.ins C dx fs) ∧ sp [.ref a] H (fun v H' => ∃ z, v = .str z ∧ Q (.str z) H') fun _ _ _ => False
theorem call_strO {k j : Nat} {C : Addr} {cn : Str} {ps : List Str} {sp : Sp} (hC : C = He.ga X.K cn) (hm : Meth X.K C "__str__" (He.fAd X.K (cn, some "__str__"))) (O : OkD X.prog X.w X.K X.mg X.base CX0 k (cn, some "__str__") ps [] sp) (hr : Room j X.A) (hj : k + 2 ≤ j) :
    CallR X (.type "str") (rStrO C sp) := by
  obtain ⟨fd, ds, F, b, v⟩ := O.ex
  cases v
  intro pins s σ H xs us Q I r h
  obtain ⟨a, dx, fs, rfl, ha, hsp⟩ := h
  obtain ⟨u, rfl, ru⟩ : ∃ u, us = [u] ∧ RelV (.ref a) u := by
    cases r with
    | cons p q => cases q; exact ⟨_, rfl, p⟩
  cases ru
  obtain ⟨mA, J, _⟩ := ins_get I.hok ha
  obtain ⟨od, J, _⟩ := J.look
  have hr2 : Room k X.A.in1.in1 := ((hr.mono hj).in1).in1
  refine PySem.W.kso_call hr2.units0 I.kIn J hm.at_ hm.fn ?_
  have hl := F.len _ _ _ _ hsp
  have hb := b s [.ref a] I.kIn (by simpa using hl)
  simp only [List.append_nil] at hb
  refine wpAny_call (codeAny_mono (F.run X.A.in1.in1 X.stack s H ⟨[.ref a], []⟩ [.ref a] [.ref a] _ _ hr2 I.env0.in1.in1 hb (.cons rfl .nil) hsp) fun r s' hq => ?_)
  cases r with
  | error e => exact hq.elim
  | ok fl =>
    cases fl with
    | ret w =>
      obtain ⟨z, H', I', rz, y, ez, q⟩ := I.after hq
      subst ez
      obtain ⟨tk, rfl⟩ := rz
      exact ⟨.str y, H', I', ⟨tk, rfl⟩, q⟩
    | next => exact False.elim hq
    | brk => exact False.elim hq
    | cont => exact False.elim hq
end
end Vf

set_option Elab.async false
set_option linter.all false
set_option maxRecDepth 100000
set_option maxHeartbeats 2000000
namespace Vf
open PySem PySem.Spec PyProof.Rows L2
/-! ### ints and other values -/
/-- a value that is no integer -/
inductive Odd (H : Hp) : V → Prop where
  | bl (b : Bool) : Odd H (.bl b)
  | non : Odd H .non
  | str (z : Str) : Odd H (.str z)
  | tup {a : Addr} {xs : List V} (h : H a = some (.tup xs)) : Odd H (.ref a)
  | lst {a : Addr} {xs : List V} (h : H a = some (.lst xs)) : Odd H (.ref a)
  | dic {a : Addr} {kvs : List (Key × V)} (h : H a = some (.dK kvs)) : Odd H (.ref a)
theorem Odd.ext {H H' : Hp} {x : V} (o : Odd H x) (s : Same H H') : Odd H' x := by
  cases o with
  | bl b => exact .bl b
  | non => exact .non
  | str z => exact .str z
  | tup h => exact .tup (s _ _ h)
  | lst h => exact .lst (s _ _ h)
  | dic h => exact .dic (s _ _ h)
theorem odd_ty (K : PySem.W.Frag) {H : Hp} {x : V} (o : Odd H x) : ∃ (n : String) (b1 b2 : Bool), TyX K H x (.type n) ∧ kitB n "int" = some b1 ∧ kitB n "bool" = some b2 ∧ (b1 && !b2) = false := by
  cases o with
  | bl b => exact ⟨"bool", true, true, .base (.bl b), by decide +kernel, by decide +kernel, rfl⟩
  | non => exact ⟨"NoneType", false, false, .base .non, by decide +kernel, by decide +kernel, rfl⟩
  | str z => exact ⟨"str", false, false, .base (.str z), by decide +kernel, by decide +kernel, rfl⟩
  | tup h => exact ⟨"tuple", false, false, .base (.tup h), by decide +kernel, by decide +kernel, rfl⟩
  | lst h => exact ⟨"list", false, false, .base (.lst h), by decide +kernel, by decide +kernel, rfl⟩
  | dic h => exact ⟨"dict", false, false, .base (.dK h), by decide +kernel, by decide +kernel, rfl⟩
theorem int_ty (K : PySem.W.Frag) (H : Hp) (n : Int) : TyX K H (.int n) (.type "int") ∧ kitB "int" "int" = some true ∧ kitB "int" "bool" = some false :=
  ⟨.base (.int n), by decide +kernel, by decide +kernel⟩
/-- is_integer(x) -/
def spIsInt : Sp := fun vs H Q _ => ∃ x, vs = [x] ∧ (((∃ n, x = .int n) ∧ Q (.bl true) H) ∨ (Odd H x ∧ Q (.bl false) H))
def t_isint (K : PySem.W.Frag) : TS := tRet (tAndV (tCB (rIsi K) (tCons (tVar 0) (tCons (tC (.ty "int")) tNil))) (tNotV (tCB (rIsi K) (tCons (tVar 0) (tCons (tC (.ty "bool")) tNil)))))
theorem run_isint {K : PySem.W.Frag} {N : List Str} {vs : List V} {H : Hp} {Q : VK} {E : XK} (h : spIsInt vs H Q E) : t_isint K { nx := fun _ H' => Q .non H', rt := Q } (start N vs) H := by
  obtain ⟨x, rfl, h⟩ := h
  have s0 : (start N [x])[0]? = some (some x) := rfl
  rcases h with ⟨⟨n, rfl⟩, q⟩ | ⟨o, q⟩
  · obtain ⟨t1, k1, k2⟩ := int_ty K H n
    refine ⟨_, s0, _, .ty "int", _, .type "int", true, rfl, .ty _, t1, kit_ty k1, true, rfl, ?_⟩
    refine iteT ?_
    exact ⟨_, s0, _, .ty "bool", _, .type "bool", false, rfl, .ty _, t1, kit_ty k2, false, rfl, q⟩
  · obtain ⟨n, b1, b2, t1, k1, k2, e⟩ := odd_ty K o
    refine ⟨_, s0, _, .ty "int", _, .type "int", b1, rfl, .ty _, t1, kit_ty k1, b1, rfl, ?_⟩
    cases b1 with
    | false => exact iteF q
    | true =>
      cases b2 with
      | false => cases e
      | true =>
        refine iteT ?_
        exact ⟨_, s0, _, .ty "bool", _, .type "bool", true, rfl, .ty _, t1, kit_ty k2, true, rfl, q⟩
/-! ### the draws -/
/-- _law_cell(script, k): some int -/
def spCell (K : PySem.W.Frag) : Sp := fun vs H Q _ => ∃ (l : Addr) (ns : List Int) (j : Nat), vs = [.ref l, .int (j : Int)] ∧ SqL K H l (ns.map V.int) ∧ j < 1000 ∧ ∀ n : Int, Q (.int n) H
/-- _law_take(draw, size) -/
def spTake : Sp := fun vs H Q _ => ∃ (d : Addr) (n s : Int), vs = [.ref d, .int s] ∧ H d = some (.lst [.int n]) ∧ 0 < s ∧ s < 1073741824 ∧ ∀ r m : Int, 0 ≤ r → r < s → Q (.int r) (upd H d (.lst [.int m]))
theorem atI0 {α : Type} {x : α} {xs : List α} : atI (x :: xs) 0 = some x := by simp [atI, ixN]
theorem atI1 {α : Type} {x y : α} {xs : List α} : atI (x :: y :: xs) 1 = some y := by
  have h : ixN (x :: y :: xs).length 1 = some 1 := by
    unfold ixN
    rw [if_pos (by omega), if_pos (by simp only [List.length_cons]; omega)]
    rfl
  unfold atI
  rw [h]
  rfl
theorem ixN0 {n : Nat} : ixN (n + 1) 0 = some 0 := by
  unfold ixN
  rw [if_pos (by omega), if_pos (by omega)]
  all_goals rfl
abbrev rAddI : R2 := rI0 fun i j => .int (i + j)
abbrev rModI : R2 := rI (fun _ j => 0 < j) fun i j => .int (i % j)
end Vf

set_option Elab.async false
set_option linter.all false
set_option maxRecDepth 100000
set_option maxHeartbeats 2000000
namespace Vf
open PySem PySem.Spec PyProof.Rows L2
/-! ### own errors: class C(..): def __init__(self, f): self.f = f -/
def oexB (K : PySem.W.Frag) (C : Addr) : Bool := match K.lookup C with
  | some ⟨.type "type", _, .cls cd, sl⟩ => (match cd.mro, sl.toList with
    | .ref C' :: bm, [_, _, _, _, some (.builtin n), _] => C' == C && n == "ValueError.__new__" && !cd.hasDel && cd.hasDict && PySem.HandSPX.refsVE bm
    | _, _ => false)
  | _ => false
theorem oexB_ok {K : PySem.W.Frag} {C : Addr} (q : oexB K C = true) : ∃ nm qn N bs bm sn sub ab col dd k0 k1 k2 k3 k5, K.lookup C = some (excClassObj nm qn C N bs bm true sn sub ab col dd k0 k1 k2 k3 k5 "ValueError.__new__") ∧ PySem.HandSPX.refsVE bm = true := by
  unfold oexB at q
  split at q
  · rename_i dd cd sl ho
    split at q
    · rename_i C' bm k0 k1 k2 k3 n k5 hm hs
      simp only [Bool.and_eq_true, beq_iff_eq, Bool.not_eq_true'] at q
      obtain ⟨⟨⟨⟨e1, e2⟩, hdel⟩, hh⟩, hbm⟩ := q
      obtain ⟨nm, bs, mro, ns, qn, hd, sn, sub, ab, col, del⟩ := cd
      obtain ⟨l⟩ := sl
      dsimp only at hm hdel hh hs
      subst hm hdel hh hs e1 e2
      exact ⟨nm, qn, ns, bs, bm, sn, sub, ab, col, dd, k0, k1, k2, k3, k5, ho, hbm⟩
    · cases q
  · cases q
/-- what is told of the error class x whose __init__ keeps its argument as f -/
structure ExD (K : PySem.W.Frag) (x : Str) : Prop where
  o : OexC K (He.ga K x)
  gg : PySem.W.findIn K (.ref (He.ga K x)) "__getattr__" = some none
  ga : PySem.W.findIn K (.ref (He.ga K x)) "__getattribute__" = some (some (.builtin "BaseException.__getattribute__"))
  ha : PySem.W.findIn K (.ref (He.ga K x)) "__class__" = some (some (.builtin "object.__class__"))
  hm : PySem.W.mroIn K (He.ga K x) (.type "object") = some true
  hd : PySem.W.hasDictIn K (He.ga K x) = true
  hcl : (PySem.W.clsIn K (He.ga K x)).isSome = true
def exD (K : PySem.W.Frag) (x : Str) : Bool :=
  oexB K (He.ga K x) && (He.eqO (PySem.W.findIn K (.ref (He.ga K x)) "__setattr__") (some (some (.builtin "object.__setattr__"))) && (decide (PySem.W.subIn K (.ref (He.ga K x)) (.type "BaseException") = some true) && (decide (PySem.W.typeIn K (.ref (He.ga K x)) = some (.type "type")) && (PySem.W.keepIn K (.ref (He.ga K x)) &&
  (He.eqO (PySem.W.findIn K (.ref (He.ga K x)) "__getattr__") (some none) && (He.eqO (PySem.W.findIn K (.ref (He.ga K x)) "__getattribute__") (some (some (.builtin "BaseException.__getattribute__"))) && (He.eqO (PySem.W.findIn K (.ref (He.ga K x)) "__class__") (some (some (.builtin "object.__class__"))) &&
  (decide (PySem.W.mroIn K (He.ga K x) (.type "object") = some true) && (PySem.W.hasDictIn K (He.ga K x) && (PySem.W.clsIn K (He.ga K x)).isSome)))))))))
theorem exD_ok {K : PySem.W.Frag} {x : Str} (h : exD K x = true) : ExD K x := by
  obtain ⟨h1, h⟩ := He.ba h
  obtain ⟨h2, h⟩ := He.ba h
  obtain ⟨h3, h⟩ := He.ba h
  obtain ⟨h4, h⟩ := He.ba h
  obtain ⟨h5, h⟩ := He.ba h
  obtain ⟨h6, h⟩ := He.ba h
  obtain ⟨h7, h⟩ := He.ba h
  obtain ⟨h8, h⟩ := He.ba h
  obtain ⟨h9, h⟩ := He.ba h
  obtain ⟨h10, h11⟩ := He.ba h
  exact ⟨⟨oexB_ok h1, He.eqO_ok h2, of_decide_eq_true h3, of_decide_eq_true h4, h5⟩, He.eqO_ok h6, He.eqO_ok h7, He.eqO_ok h8, of_decide_eq_true h9, h10, h11⟩
/-- .. with its __init__ and its field f -/
structure ExI (K : PySem.W.Frag) (x f : Str) : Prop where
  d : ExD K x
  i : PySem.W.findIn K (.ref (He.ga K x)) "__init__" = some (some (.ref (He.fAd K (x, some "__init__"))))
  t : PySem.W.typeIn K (.ref (He.fAd K (x, some "__init__"))) = some (.type "function")
  n : PySem.W.findIn K (.ref (He.ga K x)) f = some none
def exI (K : PySem.W.Frag) (x f : Str) : Bool :=
  exD K x && (He.eqO (PySem.W.findIn K (.ref (He.ga K x)) "__init__") (some (some (.ref (He.fAd K (x, some "__init__"))))) && (decide (PySem.W.typeIn K (.ref (He.fAd K (x, some "__init__"))) = some (.type "function")) && He.eqO (PySem.W.findIn K (.ref (He.ga K x)) f) (some none)))
theorem exI_ok {K : PySem.W.Frag} {x f : Str} (h : exI K x f = true) : ExI K x f := by
  obtain ⟨h1, h⟩ := He.ba h
  obtain ⟨h2, h⟩ := He.ba h
  obtain ⟨h3, h4⟩ := He.ba h
  exact ⟨exD_ok h1, He.eqO_ok h2, of_decide_eq_true h3, He.eqO_ok h4⟩
/-- the __init__: self.f = v -/
def spExI (K : PySem.W.Frag) (C : Addr) (f : Str) : Sp := fun vs H Q _ => ∃ (a : Addr) (v : V), vs = [.ref a, v] ∧ OexC K C ∧ PySem.W.findIn K (.ref C) f = some none ∧ H a = some (exo a C none) ∧
  ∀ dx, H dx = none → dx ≠ a → Q .non (upd (upd H dx (exd dx [(f, v)])) a (exo a C (some dx)))
theorem run_exI {K : PySem.W.Frag} {C : Addr} {f : Str} {N : List Str} {vs : List V} {H : Hp} {Q : VK} {E : XK} (h : spExI K C f vs H Q E) : tOst K f (tVar 0) (tVar 1) { nx := fun _ H' => Q .non H', rt := Q } (start N vs) H := by
  obtain ⟨a, v, rfl, T, hn, ea, q⟩ := h
  have s0 : (start N [.ref a, v])[0]? = some (some (.ref a)) := rfl
  have s1 : (start N [.ref a, v])[1]? = some (some v) := rfl
  exact ⟨_, s1, _, s0, a, C, rfl, T, hn, .inl ⟨ea, fun dx h1 h2 => q dx h1 h2⟩⟩
/-- the heap behind the making: the error's own dict alone is new -/
theorem exc_heap {H : Hp} {a d : Addr} {o1 o2 o3 o4 : HO} (ha : H a = none) (hda : d ≠ a) : upd (del (upd (upd (upd H a o1) d o2) a o3) a) d o4 = upd H d o4 := by
  funext b
  by_cases h1 : b = d
  · rw [h1, upd_same, upd_same]
  · rw [upd_ne h1, upd_ne h1]
    by_cases h2 : b = a
    · rw [h2, del_same, ha]
    · rw [del_ne h2, upd_ne h2, upd_ne h1, upd_ne h2]
theorem pa_weak {X : Cx} {es : List Expr} {ta : TA} (ha : PA X es ta) : PA X es (fun σ H Q => ∃ R, ta σ H R ∧ ∀ vs H1, R vs H1 → Q vs H1) := ⟨fun pos pins s σ H Q I h => by
  obtain ⟨R, h1, h2⟩ := h
  exact thn (ha.run pos pins s σ H R I h1) fun us s1 ⟨vs, H1, I1, r, q⟩ => ⟨vs, H1, I1, r, h2 _ _ q⟩⟩
section
variable {X : Cx} {CX : CXT} {k j : Nat} {ps : List Str} {x f : Str} {p pos pos2 : Pos} {e : Expr} {es : List Expr} {ta : TA} {W : WX}
/-- raise C(e): the error's dict, new, holds f -/
def tRaiseI (C : Addr) (f : Str) (W : WX) (ta : TA) : TS := fun _ σ H => ta σ H fun vs H1 => ∃ v, vs = [v] ∧ ∀ d, H1 d = none → W (.ref C) (some d) σ (upd H1 d (.xd [(f, v)]))
theorem c_raise (T : ExI X.K x f) (O : OkD X.prog X.w X.K X.mg X.base CX0 k (x, some "__init__") ps [] (spExI X.K (He.ga X.K x) f)) (hr : Room j X.A) (hj : k + 1 ≤ j) (hm : X.mg x = some (.ref (He.ga X.K x))) (tk : Takes X W) (ha : PA X (e :: es) ta) (hc : X.calm = true := by rfl) (hg : Gl X x := by rfl)
    (hdb : (x == ("__debug__" : Str)) = false := by decide) (he : starEach (e :: es) X.env = (false, eval e X.env) :: starEach es X.env := by rfl) (hpl : (backTo pos (starEach es X.env)).any (·.1) = false := by rfl) :
    PS X (.Raise (some (.Call (.Name x p) (e :: es) [] pos)) none pos2) (tRaiseI (He.ga X.K x) f W ta) := by
  obtain ⟨fd, ds, F, b, v⟩ := O.ex
  cases v
  refine ⟨fun pins s σ H D I h => (ps_raise hc tk (pmk_oex (p := p) T.d.o T.i T.t F (hr.mono hj) b .nil pass0 hg hm (pa_weak ha) hdb he hpl)).run pins s σ H D I ?_⟩
  refine ⟨_, h, fun vs H1 z => ?_⟩
  obtain ⟨v, rfl, q⟩ := z
  refine ⟨(by show 1 ≤ 1000; decide), fun a na => ⟨a, v, rfl, T.d.o, T.n, upd_same, fun dx h1 h2 => ?_⟩⟩
  have hdx : H1 dx = none := by
    rw [upd_ne h2] at h1
    exact h1
  refine ⟨rfl, dx, [(f, v)], upd_same, ?_, hdx, ?_⟩
  · rw [upd_ne h2, upd_same]
  · rw [exc_heap na h2]
    exact q dx hdx
end
/-! ### isinstance(e, c) of a caught error -/
section
variable {X : Cx}
theorem call_isiE {a D : Addr} {d : Option Addr} {oe : Obj} {pn : List (Addr × Obj)} {x : Str} (hD : D = He.ga X.K x) (T : ExD X.K x) (hn : PySem.W.specialIn X.K (.builtin "object.__class__") "__get__" = some (some (.builtin "getset_descriptor.__get__")))
    (ht : PySem.W.takesIn X.K (.builtin "object.__class__") = some true) {cls : Value} (hz : Zc cls d oe) (hf : ∃ vs, oe.data = .fields vs) : CallR (X.suite a ((a, oe) :: pn)) (.builtin "isinstance")
      (fun xs H Q => ∃ (c : V) (cv : Value) (b : Bool), xs = [.ref a, c] ∧ cls = .ref D ∧ ClsV c cv ∧ PySem.W.kitOne X.K (.ref D) cv = some b ∧ (∃ dd fs, d = some dd ∧ H dd = some (.xd fs)) ∧ Q (.bl b) H) := by
  subst hD
  intro pins s σ H xs us Q I r h
  obtain ⟨c, cv, b, rfl, ec, hcv, e, ⟨dd, fs, ed, hdd⟩, q⟩ := h
  obtain ⟨u1, u2, rfl, r1, r2⟩ := vals2 r
  have e2 := hcv.eq r2
  subst e2
  cases r1
  obtain ⟨hget, _⟩ := I.pin (a, oe) (List.mem_append.mpr (.inl List.mem_cons_self))
  obtain ⟨vs, hv⟩ := hf
  subst ed ec
  obtain ⟨mA, ⟨od, es, ep, ho, _⟩, _⟩ := (show ObjOk X.prog X.w H s.heap dd (.xd fs) from I.hok dd _ hdd)
  have J : PySem.W.InstAt s.heap a oe (He.ga X.K x) (some od) := by
    obtain ⟨oc, odd, oda, osl⟩ := oe
    obtain ⟨h1, h2⟩ := hz
    dsimp only at h1 h2 hv
    subst h1 h2 hv
    exact ⟨hget, rfl, rfl, ho⟩
  exact PySem.W.kia_one (PySem.W.kitx_exc T.hcl T.ga T.gg T.o.exC T.ha hn ht T.hm) I.kIn J e (fun z => nomatch z) fun tk => ⟨.bl b, H, I.kept (t' := tk) fun _ _ z => z, rfl, q⟩
end
/-! ### the head's hook: any Bool over the written part, the defs -/
abbrev AlM : Type := Bool × List He.FnW
def obsM (ex : PySem.W.Frag → Bool) (fn : List He.DefD) (K : PySem.W.Frag) : AlM := (ex K && fn.all fun d => d.ok K, fn.map fun d => He.fnW K d.at_)
def SaysM (ex : PySem.W.Frag → Bool) (fn : List He.DefD) (K : PySem.W.Frag) : Prop := obsM ex fn K = (true, fn.map He.DefD.val)
def obsMG (n : Nat) (ex : PySem.W.Frag → Bool) (fn : List He.DefD) (g : Addr → Option Obj) : AlM := obsM ex fn (He.frG g (He.asD g n))
def hookM (n : Nat) (ex : PySem.W.Frag → Bool) (fn : List He.DefD) : PySem.W.Hook where
  α := AlM
  obs := fun s => obsMG n ex fn s.heap.get?
  val := fun _ => (true, fn.map He.DefD.val)
  says := fun _ h => ∃ K : PySem.W.Frag, K.In h ∧ SaysM ex fn K
  of := fun _ _ e => ⟨_, He.frG_in, e⟩
  keeps := fun _ _ _ ⟨K, hK, c⟩ k => ⟨K, PySem.W.Frag.In.keeps hK k, c⟩
theorem obsMG_eq {n : Nat} {ex : PySem.W.Frag → Bool} {fn : List He.DefD} {g : Addr → Option Obj} {s : Shared} (h : ∀ a, g a = s.heap.get? a) : obsMG n ex fn g = (hookM n ex fn).obs s := by
  have e : g = s.heap.get? := funext h
  rw [e]
  rfl
theorem SaysM.ex {ex : PySem.W.Frag → Bool} {fn : List He.DefD} {K : PySem.W.Frag} (c : SaysM ex fn K) : ex K = true := (He.ba (congrArg (fun z : AlM => z.1) c)).1
theorem SaysM.fn {ex : PySem.W.Frag → Bool} {fn : List He.DefD} {K : PySem.W.Frag} (c : SaysM ex fn K) (i : Nat) {d : He.DefD} (h : fn[i]? = some d := by rfl) : ∃ fd, FunD K d.name d.qual d.params d.body d.scope (d.dvs K) (d.kws K) (He.fAd K d.at_) fd := by
  have c2 := (He.ba (congrArg (fun z : AlM => z.1) c)).2
  have e : fn.map (fun d => He.fnW K d.at_) = fn.map He.DefD.val := congrArg (fun z : AlM => z.2) c
  have e2 : He.fnW K d.at_ = d.val := by
    have e3 : (fn.map fun d => He.fnW K d.at_)[i]? = (fn.map He.DefD.val)[i]? := by rw [e]
    simp only [List.getElem?_map, h, Option.map_some] at e3
    exact Option.some.inj e3
  exact He.DefD.funD e2 (List.all_eq_true.mp c2 d (List.mem_of_getElem? h))

end Vf

set_option Elab.async false
set_option linter.all false
set_option maxRecDepth 100000
set_option maxHeartbeats 2000000
namespace Vf
open PySem PySem.Spec PyProof.Rows L2
/-! ### Euclid's loop -/
def Eu (g B i x y : Nat) : Prop := Nat.gcd x y = g ∧ ((i % 2 = 0 ∧ y * 2 ^ (i / 2) ≤ B) ∨ (i % 2 = 1 ∧ y < x ∧ x * 2 ^ (i / 2) ≤ B))
theorem Eu.start (x y : Nat) : Eu (Nat.gcd x y) y 0 x y := ⟨rfl, .inl ⟨rfl, by simp⟩⟩
theorem Eu.step {g B i x y : Nat} (h : Eu g B i x y) (hy : y ≠ 0) : Eu g B (i + 1) y (x % y) := by
  obtain ⟨hg, h⟩ := h
  have hg2 : Nat.gcd y (x % y) = g := by
    rw [← hg, Nat.gcd_comm x y, Nat.gcd_rec y x, Nat.gcd_comm]
  have hlt : x % y < y := Nat.mod_lt x (by omega)
  refine ⟨hg2, ?_⟩
  rcases h with ⟨he, hb⟩ | ⟨ho, hxy, hb⟩
  · refine .inr ⟨by omega, hlt, ?_⟩
    have e : (i + 1) / 2 = i / 2 := by omega
    rw [e]
    exact hb
  · refine .inl ⟨by omega, ?_⟩
    have e : (i + 1) / 2 = i / 2 + 1 := by omega
    have hd := Nat.div_add_mod x y
    have h1 : 1 ≤ x / y := Nat.div_pos (by omega) (by omega)
    have h2 : y * 1 ≤ y * (x / y) := Nat.mul_le_mul_left y h1
    have h3 : 2 * (x % y) ≤ x := by omega
    rw [e, Nat.pow_succ]
    calc x % y * (2 ^ (i / 2) * 2) = (2 * (x % y)) * 2 ^ (i / 2) := by rw [Nat.mul_comm (2 ^ (i / 2)) 2, ← Nat.mul_assoc, Nat.mul_comm (x % y) 2]
      _ ≤ x * 2 ^ (i / 2) := Nat.mul_le_mul_right _ h3
      _ ≤ B := hb
theorem Eu.last {g B x y : Nat} (h : Eu g B 500 x y) (hB : B < 2 ^ 250) : x = g := by
  obtain ⟨hg, h⟩ := h
  rcases h with ⟨_, hb⟩ | ⟨ho, _⟩
  · have e : (500 : Nat) / 2 = 250 := rfl
    rw [e] at hb
    have hy : y = 0 := by
      rcases Nat.eq_zero_or_pos y with h0 | h0
      · exact h0
      · exfalso
        have : 1 * 2 ^ 250 ≤ y * 2 ^ 250 := Nat.mul_le_mul_right _ h0
        omega
    rw [hy, Nat.gcd_zero_right] at hg
    exact hg
  · omega
theorem Eu.zero {g B i x : Nat} (h : Eu g B i x 0) : x = g := by
  have hg := h.1
  rw [Nat.gcd_zero_right] at hg
  exact hg
/-! ### lowest terms -/
def nG (t b : Int) : Int := ((Nat.gcd t.natAbs b.natAbs : Nat) : Int)
def nC (t b : Int) : Int := if b < 0 then -(nG t b) else nG t b
def nT (t b : Int) : Int := t.fdiv (nC t b)
def nB (t b : Int) : Int := b.fdiv (nC t b)
/-- a and b are t over b' in lowest terms -/
structure Nf (a b : Int) : Prop where
  pos : 0 < b
  cop : Nat.gcd a.natAbs b.natAbs = 1
structure NfOf (t u a b : Int) : Prop extends Nf a b where
  eq : a * u = t * b
  le1 : a.natAbs ≤ t.natAbs
  le2 : b.natAbs ≤ u.natAbs
theorem nG_pos {t b : Int} (hb : b ≠ 0) : 0 < nG t b := by
  have : 0 < Nat.gcd t.natAbs b.natAbs := Nat.gcd_pos_of_pos_right _ (by omega)
  unfold nG
  omega
theorem nC_abs (t b : Int) : (nC t b).natAbs = Nat.gcd t.natAbs b.natAbs := by
  unfold nC nG
  split <;> omega
theorem nC_ne {t b : Int} (hb : b ≠ 0) : nC t b ≠ 0 := by
  have := nG_pos (t := t) hb
  unfold nC
  split <;> omega
theorem nC_dvd1 (t b : Int) : nC t b ∣ t := by
  rw [← Int.natAbs_dvd_natAbs, nC_abs]
  exact Nat.gcd_dvd_left _ _
theorem nC_dvd2 (t b : Int) : nC t b ∣ b := by
  rw [← Int.natAbs_dvd_natAbs, nC_abs]
  exact Nat.gcd_dvd_right _ _
theorem nT_mul (t b : Int) : nT t b * nC t b = t := Int.fdiv_mul_cancel (nC_dvd1 t b)
theorem nB_mul (t b : Int) : nB t b * nC t b = b := Int.fdiv_mul_cancel (nC_dvd2 t b)
theorem nf_of (t : Int) {b : Int} (hb : b ≠ 0) : NfOf t b (nT t b) (nB t b) := by
  have e1 := nT_mul t b
  have e2 := nB_mul t b
  have hc := nC_ne (t := t) hb
  have ga := nC_abs t b
  have g0 : 0 < Nat.gcd t.natAbs b.natAbs := Nat.gcd_pos_of_pos_right _ (by omega)
  have a1 : (nT t b).natAbs * Nat.gcd t.natAbs b.natAbs = t.natAbs := by rw [← ga, ← Int.natAbs_mul, e1]
  have a2 : (nB t b).natAbs * Nat.gcd t.natAbs b.natAbs = b.natAbs := by rw [← ga, ← Int.natAbs_mul, e2]
  refine ⟨⟨?_, ?_⟩, ?_, ?_, ?_⟩
  · rcases (show 0 < nB t b ∨ nB t b ≤ 0 by omega) with h | h
    · exact h
    · exfalso
      by_cases hn : b < 0
      · have hc2 : nC t b < 0 := by
          have := nG_pos (t := t) hb
          unfold nC
          rw [if_pos hn]
          omega
        have := Int.mul_nonneg_of_nonpos_of_nonpos h (Int.le_of_lt hc2)
        omega
      · have hc2 : 0 < nC t b := by
          have := nG_pos (t := t) hb
          unfold nC
          rw [if_neg hn]
          omega
        have := Int.mul_nonpos_of_nonpos_of_nonneg h (Int.le_of_lt hc2)
        omega
  · have h := Nat.gcd_mul_right (nT t b).natAbs (Nat.gcd t.natAbs b.natAbs) (nB t b).natAbs
    rw [a1, a2] at h
    have h2 : 1 * Nat.gcd t.natAbs b.natAbs = Nat.gcd (nT t b).natAbs (nB t b).natAbs * Nat.gcd t.natAbs b.natAbs := by rw [Nat.one_mul]; exact h
    exact (Nat.eq_of_mul_eq_mul_right g0 h2).symm
  · calc nT t b * b = nT t b * (nB t b * nC t b) := by rw [e2]
      _ = (nT t b * nC t b) * nB t b := by rw [Int.mul_comm (nB t b), Int.mul_assoc]
      _ = t * nB t b := by rw [e1]
  · calc (nT t b).natAbs = (nT t b).natAbs * 1 := by rw [Nat.mul_one]
      _ ≤ (nT t b).natAbs * Nat.gcd t.natAbs b.natAbs := Nat.mul_le_mul_left _ g0
      _ = t.natAbs := a1
  · calc (nB t b).natAbs = (nB t b).natAbs * 1 := by rw [Nat.mul_one]
      _ ≤ (nB t b).natAbs * Nat.gcd t.natAbs b.natAbs := Nat.mul_le_mul_left _ g0
      _ = b.natAbs := a2
/-- bits: below 2 ^ n -/
def Bit (n : Nat) (x : Int) : Prop := x.natAbs < 2 ^ n
theorem Bit.mono {n m : Nat} {x : Int} (h : Bit n x) (l : n ≤ m) : Bit m x := Nat.lt_of_lt_of_le h (Nat.pow_le_pow_right (by decide) l)
theorem Bit.le {n : Nat} {x y : Int} (h : Bit n y) (l : x.natAbs ≤ y.natAbs) : Bit n x := Nat.lt_of_le_of_lt l h
theorem Bit.mul {n m : Nat} {x y : Int} (h : Bit n x) (h' : Bit m y) : Bit (n + m) (x * y) := by
  unfold Bit
  rw [Int.natAbs_mul, Nat.pow_add]
  exact Nat.mul_lt_mul'' h h'
theorem Bit.add {n : Nat} {x y : Int} (h : Bit n x) (h' : Bit n y) : Bit (n + 1) (x + y) := by
  unfold Bit at *
  rw [Nat.pow_succ]
  omega
theorem Bit.sub {n : Nat} {x y : Int} (h : Bit n x) (h' : Bit n y) : Bit (n + 1) (x - y) := by
  unfold Bit at *
  rw [Nat.pow_succ]
  omega
theorem Bit.neg {n : Nat} {x : Int} (h : Bit n x) : Bit n (-x) := by
  unfold Bit at *
  omega
theorem Bit.log {n m : Nat} {x : Int} (h : Bit n x) (h0 : 0 < n) (hm : n ≤ m) : x.natAbs.log2 < m := Nat.lt_of_lt_of_le (PySem.Flt.log2_lt_of h0 h) hm
theorem Bit.wm {n m : Nat} {x y : Int} (h : Bit n x) (h' : Bit m y) (h0 : 0 < n) (h1 : 0 < m) (l : n + m ≤ 1000000) : CMulW x y := wide_mul h h' h0 h1 l
end Vf

set_option Elab.async false
set_option linter.all false
set_option maxRecDepth 100000
set_option maxHeartbeats 2000000
namespace Vf
open PySem PySem.Spec PyProof.Rows L2
section
open PySem.W PySem.Calls
variable {prog : Program} {w : World} {A : Around} {E : Value → Shared → Prop} {s : Shared} {K : Frag} {x C f f0 L : Addr} {h₀ : Heap} {m : Str → Option Value} {ox : Obj} {od : Option Obj} {nm : String}
/-- a slot of int that is handed an instance of the text's own declines -/
theorem int_no {n : Int} {t : Tok} {name : String} {g : Int → Int → Sem Fin} {refl : Bool} (hd : ox.data = .plain) (hx : s.heap.get? x = some ox) {Q : Fin → Shared → Prop}
    (h : Q (.done (.ret .notImplemented)) s) : wpAny (model prog w) A (PySem.Builtin.Int.intBinary name g refl ⟨[.int n t, .ref x], []⟩) Q E s := by
  obtain ⟨hp, gg, d, tk, os⟩ := s
  obtain ⟨oc, odd, oda, osl⟩ := ox
  dsimp only at hd
  subst hd
  unfold PySem.Builtin.Int.intBinary
  wp_walk using AutoSeq1.wpAny_loadPart' hx
  exact h
/-- B declines an instance of the text's own -/
def Declines (B : Builtin) : Prop := ∀ (prog : Program) (w : World) (A : Around) (E : Value → Shared → Prop) (s : Shared) (n : Int) (t : Tok) (x : Addr) (ox : Obj) (Q : Fin → Shared → Prop), ox.data = .plain → s.heap.get? x = some ox → Q (.done (.ret .notImplemented)) s → wpAny (model prog w) A (B ⟨[.int n t, .ref x], []⟩) Q E s
theorem decl_bin (name : String) (g : Int → Int → Sem Fin) (r : Bool) : Declines (PySem.Builtin.Int.intBinary name g r) := fun _ _ _ _ _ _ _ _ _ _ hd hx h => int_no hd hx h
theorem decl_fdv : Declines PySem.Builtin.«int.__floordiv__» := fun prog w A E s n t x ox Q hd hx h => by
  obtain ⟨hp, gg, d, tk, os⟩ := s
  obtain ⟨oc, odd, oda, osl⟩ := ox
  dsimp only at hd
  subst hd
  unfold PySem.Builtin.«int.__floordiv__» PySem.Builtin.exactOperandsForPylong
  have k := fun g => int_no (prog := prog) (w := w) (A := A) (E := E) (n := n) (t := t) (name := "__floordiv__") (g := g) (refl := false) (s := ⟨hp, gg, d, tk, os⟩) rfl hx h
  wp_walk using AutoSeq1.wpAny_loadPart' hx
  all_goals first | exact k _ | exact h
/-- n op x, n an int, x an instance of the text's own: int's slot declines, the reflected one of x's class is asked -/
theorem bin_int_own {op : Operator} {n : Int} {t : Tok} {id : String} {B : Builtin} {Q : Value → Shared → Prop} (X : K.In s.heap) (I : InstAt s.heap x ox C od) (hp : ox.data = .plain) (hc : selfFirst K C = true)
    (hs : findIn K (.ref C) (PySem.dunder op.info.2) = some (some (.ref f0))) (hr : findIn K (.ref C) (dunderR op.info.2) = some (some (.ref f))) (hf : isFn K (.ref f) = true) (hm : mroIn K C (.type "int") = some false)
    (hfT : fillsNumberSlot (.type "int") op.info.2 = pure true) (slot : Slot "int" (PySem.dunder op.info.2) id) (entry : entryFor table id = some B) (ha : argsOk id ⟨[.int n t, .ref x], []⟩)
    (hB : Declines B)
    (h : wpAny (model prog w) A (call (.ref f) [.ref x, .int n t]) (PySem.W.CmpBack Q) E s) : wpAny (model prog w) A (binaryOp op (.int n t) (.ref x)) Q E s := by
  obtain ⟨cd, rest, hcd, hmro⟩ := ksp_first hc
  rcases hi : op.info with ⟨sym, nm'⟩
  rw [hi] at hs hr slot hfT
  dsimp only at hs hr slot hfT
  have one := ksp_try X I hr hf h
  have two : wpAny (model prog w) A (tryMethod (.int n t) (PySem.dunder nm') (.ref x)) (fun r s' => r = none ∧ s' = s) E s :=
    wpAny_tryMethod_declines (typeIs_int s n t) slot (wpAny_call_entry slot (typeIs_int s n t) entry (hB _ _ _ _ _ _ _ _ _ _ hp I.at_ ⟨_, rfl, rfl, rfl, rfl⟩) ha)
  obtain ⟨hh, gg, d, tt, os⟩ := s
  have L1 : Looks (model prog w) hh (typeOf (.int n t)) (.type "int") := Looks.of_pure rfl
  have L2 : Looks (model prog w) hh (typeOf (.ref x)) (.ref C) := I.type
  have L3 : Looks (model prog w) hh (fillsNumberSlot (.type "int") nm') true := Looks.of_pure hfT
  have L4 : Looks (model prog w) hh (fillsNumberSlot (.ref C) nm') true := fills_K X hcd hmro hs
  have L5 : Looks (model prog w) hh (isSubtype (.ref C) (.type "int")) false := looks_mroIn X hm
  have L6 : Looks (model prog w) hh (numberSlotInPython (.type "int") nm') false := Looks.of_pure rfl
  have hne : (Value.type "int" == Value.ref C) = false := Bool.eq_false_iff.mpr fun q => by cases beq_iff_eq.mp q
  simp only [binaryOp, hi]
  refine wpAny_holding (wpAny_bind ?_)
  unfold binaryOp1
  refine wpAny_bind (L1.at (wpAny_bind (L2.at (wpAny_bind (L3.at ?_)))))
  simp only [hne, Bool.false_eq_true, if_false]
  ksp_lk
  refine wpAny_mono two (fun r s' hr' => ?_) fun _ _ e => e
  obtain ⟨rfl, rfl⟩ := hr'
  ksp_lk
  refine wpAny_mono one (fun r s' hr' => ?_) fun _ _ e => e
  obtain ⟨v, rfl, hq⟩ := hr'
  ksp_lk
  exact hq
/-- n ? x for a comparison: int's slot declines, the swapped one of x's class is asked -/
theorem cmp_int_own {op : CmpOp} {n : Int} {t : Tok} {id : String} {B : Builtin} {Q : Value → Shared → Prop} (hu : A.units < cLine) (X : K.In s.heap) (I : InstAt s.heap x ox C od) (hp : ox.data = .plain)
    (hr : findIn K (.ref C) (cmpInfo op).2.2 = some (some (.ref f))) (hf : isFn K (.ref f) = true) (hm : mroIn K C (.type "int") = some false)
    (slot : Slot "int" (cmpInfo op).2.1 id) (entry : entryFor table id = some B) (ha : argsOk id ⟨[.int n t, .ref x], []⟩) (hB : Declines B)
    (h : wpAny (model prog w) A (call (.ref f) [.ref x, .int n t]) (PySem.W.CmpBack Q) E s) : wpAny (model prog w) A (richCompare op (.int n t) (.ref x)) Q E s := by
  have one : wpAny (model prog w) A (tryCompare (.ref x) (cmpInfo op).2.2 (.int n t)) (fun r s' => ∃ v, r = some v ∧ Q v s') E s := by
    unfold tryCompare
    refine wpAny_bind (ifBound_K X I hr hf (wpAny_mono h (fun v s' hv => ?_) fun _ _ e => e))
    cases v <;> first | exact hv.elim | exact wpAny_pure ⟨_, rfl, hv⟩
  have two : wpAny (model prog w) A (tryCompare (.int n t) (cmpInfo op).2.1 (.ref x)) (fun r s' => r = none ∧ s' = s) E s :=
    wpAny_tryCompare_declines (typeIs_int s n t) slot (wpAny_call_entry slot (typeIs_int s n t) entry (hB _ _ _ _ _ _ _ _ _ _ hp I.at_ ⟨_, rfl, rfl, rfl, rfl⟩) ha)
  have ot : oneThing? op (.int n t) (.ref x) = none := rfl
  have hne : (Value.type "int" != Value.ref C) = true := bne_iff_ne.mpr fun q => by cases q
  unfold richCompare
  simp only [ot]
  refine wpAny_holding (wpAny_bind (wpAny_cRoomFor hu ?_))
  refine wpAny_bind ((Looks.of_pure rfl : Looks (model prog w) s.heap (typeOf (.int n t)) (.type "int")).here (wpAny_bind (I.type.here ?_)))
  simp only [hne, if_true]
  refine wpAny_bind ((looks_mroIn X hm).here ?_)
  simp only [Bool.false_eq_true, if_false]
  refine wpAny_bind (wpAny_mono two (fun r s' z => ?_) fun _ _ e => e)
  obtain ⟨rfl, rfl⟩ := z
  simp only [Bool.not_false, if_true]
  refine wpAny_bind (wpAny_mono one (fun r s' z => ?_) fun _ _ e => e)
  obtain ⟨v, rfl, hq⟩ := z
  exact wpAny_pure hq
end
/-! ### readings over the layer -/
section
variable {X : Cx} {CX : CXT} {k j : Nat} {C : Addr} {cn m : Str} {ps : List Str} {sp : Sp} {E : XK}
theorem back_of {pins : List (Addr × Obj)} {σ : L2.St} {Q : VK} {u : Value} {s' : Shared} (h : EP X pins σ Q u s') : PySem.W.CmpBack (EP X pins σ Q) u s' := by
  obtain ⟨v, H', I, r, q⟩ := id h
  cases v with
  | non => cases (show u = Value.none from r); exact h
  | bl b => cases (show u = Value.bool b from r); exact h
  | int i => obtain ⟨t, e⟩ := (show ∃ t, u = Value.int i t from r); cases e; exact h
  | str z => obtain ⟨t, e⟩ := (show ∃ t, u = Value.str z t from r); cases e; exact h
  | byt z => obtain ⟨t, e⟩ := (show ∃ t, u = Value.bytes z t from r); cases e; exact h
  | flt z => obtain ⟨t, e⟩ := (show ∃ t, u = Value.float z t from r); cases e; exact h
  | ref a => cases (show u = Value.ref a from r); exact h
  | ty n => cases (show u = Value.type n from r); exact h
/-- a method of the text's own asked by the machine, at the running body's own depth -/
theorem run_own {f : Addr} {fd : FuncData} {pins : List (Addr × Obj)} {σ : L2.St} {H : Hp} {s : Shared} {Q : VK} {us : List Value} {vs : List V} (F : FnOk X.prog X.w X.K X.mg X.base CX k f fd ps sp) (hr : Room k X.A) (hb : L2.Binds X.K fd ps []) (hx : Passes CX X E)
    (I : L2.Inv X pins σ H s) (r : Vals vs us) (h : sp vs H Q E) : wpAny (model X.prog X.w) X.A (call (.ref f) us) (PySem.W.CmpBack (EP X pins σ Q)) X.xe s :=
  wpAny_mono (run_fn F hr hb .nil hx I r (by rw [List.append_nil]; exact h)) (fun _ _ z => back_of z) fun _ _ z => z
/-- o op p, both of the class at C -/
def rOO (C : Addr) (sp : Sp) (E : XK) : R2 := fun x y H Q => ∃ a b dx dy fs gs, x = .ref a ∧ y = .ref b ∧ H a = some (.ins C dx fs) ∧ H b = some (.ins C dy gs) ∧ sp [x, y] H Q E
/-- o op n, n an int -/
def rOI (C : Addr) (sp : Sp) (E : XK) : R2 := fun x y H Q => ∃ a n dx fs, x = .ref a ∧ y = .int n ∧ H a = some (.ins C dx fs) ∧ sp [x, y] H Q E
/-- n op o, n an int: the reflected method -/
def rIO (C : Addr) (sp : Sp) (E : XK) : R2 := fun x y H Q => ∃ n b dx fs, x = .int n ∧ y = .ref b ∧ H b = some (.ins C dx fs) ∧ sp [y, x] H Q E
theorem op_oo {op : Operator} (hd : PySem.dunder op.info.2 = m) (M : Meth X.K C m (He.fAd X.K (cn, some m))) (hc : PySem.W.selfFirst X.K C = true) (O : OkD X.prog X.w X.K X.mg X.base CX k (cn, some m) ps [] sp) (hr : Room j X.A) (hj : k ≤ j) (hx : Passes CX X E) : OpR X (binaryOp op) (rOO C sp E) := by
  obtain ⟨fd, ds, F, b, v⟩ := O.ex
  cases v
  intro pins s σ H x y v u Q I rx ry h
  obtain ⟨a, b', dx, dy, fs, gs, rfl, rfl, ha, hb, hsp⟩ := h
  cases rx
  cases ry
  obtain ⟨mA, J, _⟩ := ins_get I.hok ha
  obtain ⟨mB, J', _⟩ := ins_get I.hok hb
  obtain ⟨od, J, _⟩ := J.look
  obtain ⟨od', J', _⟩ := J'.look
  obtain ⟨mm, hF⟩ := I.fr
  exact PySem.W.binop_K hF I.ok.mod.kin J J'.type hc (by rw [hd]; exact M.at_) M.fn (run_own (vs := [V.ref a, V.ref b']) F (hr.mono hj) b hx I (.cons rfl (.cons rfl .nil)) hsp)
theorem op_oi {op : Operator} {fo ro rc : Option Value} (hd : PySem.dunder op.info.2 = m) (M : Meth X.K C m (He.fAd X.K (cn, some m))) (hc : PySem.W.selfFirst X.K C = true) (h2 : PySem.W.findIn X.K (.ref C) (dunderR op.info.2) = some rc) (hp : rc = none ∨ ∃ g : Addr, rc = some (.ref g))
    (h3 : PySem.W.findIn X.K (.type "int") (PySem.dunder op.info.2) = some fo) (h4 : PySem.W.findIn X.K (.type "int") (dunderR op.info.2) = some ro) (h5 : PySem.W.subIn X.K (.type "int") (.ref C) = some false)
    (O : OkD X.prog X.w X.K X.mg X.base CX k (cn, some m) ps [] sp) (hr : Room j X.A) (hj : k ≤ j) (hx : Passes CX X E) : OpR X (binaryOp op) (rOI C sp E) := by
  obtain ⟨fd, ds, F, b, v⟩ := O.ex
  cases v
  intro pins s σ H x y v u Q I rx ry h
  obtain ⟨a, n, dx, fs, rfl, rfl, ha, hsp⟩ := h
  cases rx
  obtain ⟨t, rfl⟩ := ry
  obtain ⟨mA, J, _⟩ := ins_get I.hok ha
  obtain ⟨od, J, _⟩ := J.look
  obtain ⟨mm, hF⟩ := I.fr
  exact PySem.W.ksp_binT hF I.ok.mod.kin J rfl hc (by rw [hd]; exact M.at_) M.fn h2 hp h3 h4 h5 (run_own (vs := [V.ref a, V.int n]) F (hr.mono hj) b hx I (.cons rfl (.cons ⟨t, rfl⟩ .nil)) hsp)
theorem op_io {op : Operator} {f0 : Addr} {id : String} {B : Builtin} (hd : dunderR op.info.2 = m) (M : Meth X.K C m (He.fAd X.K (cn, some m))) (hc : PySem.W.selfFirst X.K C = true) (h2 : PySem.W.findIn X.K (.ref C) (PySem.dunder op.info.2) = some (some (.ref f0))) (hm : PySem.W.mroIn X.K C (.type "int") = some false)
    (hfT : fillsNumberSlot (.type "int") op.info.2 = pure true) (slot : Slot "int" (PySem.dunder op.info.2) id) (entry : entryFor table id = some B) (ha : ∀ a b, argsOk id ⟨[a, b], []⟩) (hB : Declines B)
    (O : OkD X.prog X.w X.K X.mg X.base CX k (cn, some m) ps [] sp) (hr : Room j X.A) (hj : k ≤ j) (hx : Passes CX X E) : OpR X (binaryOp op) (rIO C sp E) := by
  obtain ⟨fd, ds, F, b, v⟩ := O.ex
  cases v
  intro pins s σ H x y v u Q I rx ry h
  obtain ⟨n, b', dx, fs, rfl, rfl, hb, hsp⟩ := h
  obtain ⟨t, rfl⟩ := rx
  cases ry
  obtain ⟨mA, J, _⟩ := ins_get I.hok hb
  obtain ⟨od, J, _⟩ := J.look
  exact bin_int_own I.kIn J rfl hc h2 (by rw [hd]; exact M.at_) M.fn hm hfT slot entry (ha _ _) hB (run_own (vs := [V.ref b', V.int n]) F (hr.mono hj) b hx I (.cons rfl (.cons ⟨t, rfl⟩ .nil)) hsp)
/-- -o -/
def rUO (C : Addr) (sp : Sp) (E : XK) : V → Hp → VK → Prop := fun x H Q => ∃ a dx fs, x = .ref a ∧ H a = some (.ins C dx fs) ∧ sp [x] H Q E
theorem un_negO (M : Meth X.K C "__neg__" (He.fAd X.K (cn, some "__neg__"))) (O : OkD X.prog X.w X.K X.mg X.base CX k (cn, some "__neg__") ps [] sp) (hr : Room j X.A) (hj : k ≤ j) (hx : Passes CX X E) : UnR X (unaryOp .USub) (rUO C sp E) := by
  obtain ⟨fd, ds, F, b, v⟩ := O.ex
  cases v
  intro pins s σ H x v Q I rx h
  obtain ⟨a, dx, fs, rfl, ha, hsp⟩ := h
  cases rx
  obtain ⟨mA, J, _⟩ := ins_get I.hok ha
  obtain ⟨od, J, _⟩ := J.look
  obtain ⟨mm, hF⟩ := I.fr
  exact PySem.W.ksp_neg hF I.ok.mod.kin J M.at_ M.fn (run_fn (vs := [V.ref a]) F (hr.mono hj) b .nil hx I (.cons rfl .nil) hsp)
/-- abs(o) -/
def rAbsO (C : Addr) (sp : Sp) : List V → Hp → VK → Prop := fun xs H Q => ∃ a dx fs, xs = [.ref a] ∧ H a = some (.ins C dx fs) ∧ sp xs H Q fun _ _ _ => False
theorem call_absO (M : Meth X.K C "__abs__" (He.fAd X.K (cn, some "__abs__"))) (O : OkD X.prog X.w X.K X.mg X.base CX0 k (cn, some "__abs__") ps [] sp) (hr : Room j X.A) (hj : k + 2 ≤ j) : CallR X (.builtin "abs") (rAbsO C sp) := by
  obtain ⟨fd, ds, F, b, v⟩ := O.ex
  cases v
  intro pins s σ H xs us Q I r h
  obtain ⟨a, dx, fs, rfl, ha, hsp⟩ := h
  obtain ⟨u, rfl, ru⟩ : ∃ u, us = [u] ∧ RelV (.ref a) u := by
    cases r with
    | cons p q => cases q; exact ⟨_, rfl, p⟩
  cases ru
  obtain ⟨mA, J, _⟩ := ins_get I.hok ha
  obtain ⟨od, J, _⟩ := J.look
  have hr2 : Room (k + 1) X.A.in1 := (hr.mono hj).in1
  have hr3 : Room k X.A.in1 := hr2.mono (by omega)
  have hl := F.len _ _ _ _ hsp
  have hb := b s [.ref a] I.kIn (by simpa using hl)
  simp only [List.append_nil] at hb
  refine PySem.Calls.call_function_entry PyProof.Rows.kind_abs PyProof.Rows.plain_abs PyProof.Rows.entry_abs (PyProof.Rows.args_abs _) ?_
  unfold PySem.Builtin.«abs»
  refine wpAny_bind (wpAny_pure ?_)
  refine wpAny_bind (m := callSpecial? (.ref a) (Str.ofString "__abs__")) (PySem.W.special_fn I.kIn J M.at_ (beq_iff_eq.mp M.fn) ?_)
  refine wpAny_call (codeAny_mono (F.run X.A.in1 X.stack s H ⟨[.ref a], []⟩ [.ref a] [.ref a] _ _ hr3 I.env0.in1 hb (.cons rfl .nil) hsp) fun r s' hq => ?_)
  cases r with
  | error e => exact hq.elim
  | ok fl =>
    cases fl with
    | ret w => exact wpAny_pure ⟨_, rfl, I.after hq⟩
    | next => exact False.elim hq
    | brk => exact False.elim hq
    | cont => exact False.elim hq
/-- comparisons -/
theorem cmp_oo {op : CmpOp} (hd : (cmpInfo op).2.1 = m) (hop : compareOp op = richCompare op) (M : Meth X.K C m (He.fAd X.K (cn, some m))) (O : OkD X.prog X.w X.K X.mg X.base CX k (cn, some m) ps [] sp) (hr : Room j X.A) (hj : k ≤ j) (hx : Passes CX X E) : OpR X (compareOp op) (rOO C sp E) := by
  obtain ⟨fd, ds, F, b, v⟩ := O.ex
  cases v
  intro pins s σ H x y v u Q I rx ry h
  obtain ⟨a, b', dx, dy, fs, gs, rfl, rfl, ha, hb, hsp⟩ := h
  cases rx
  cases ry
  obtain ⟨mA, J, _⟩ := ins_get I.hok ha
  obtain ⟨mB, J', _⟩ := ins_get I.hok hb
  obtain ⟨od, J, _⟩ := J.look
  obtain ⟨od', J', _⟩ := J'.look
  obtain ⟨mm, hF⟩ := I.fr
  rw [hop]
  exact PySem.W.cmp_K (tb := .ref C) hr.units0 hF I.ok.mod.kin J J'.type (by simp [PySem.W.notFirst]) (by rw [hd]; exact M.at_) M.fn (run_own (vs := [V.ref a, V.ref b']) F (hr.mono hj) b hx I (.cons rfl (.cons rfl .nil)) hsp)
theorem cmp_oi {op : CmpOp} (hd : (cmpInfo op).2.1 = m) (hop : compareOp op = richCompare op) (M : Meth X.K C m (He.fAd X.K (cn, some m))) (h5 : PySem.W.subIn X.K (.type "int") (.ref C) = some false)
    (O : OkD X.prog X.w X.K X.mg X.base CX k (cn, some m) ps [] sp) (hr : Room j X.A) (hj : k ≤ j) (hx : Passes CX X E) : OpR X (compareOp op) (rOI C sp E) := by
  obtain ⟨fd, ds, F, b, v⟩ := O.ex
  cases v
  intro pins s σ H x y v u Q I rx ry h
  obtain ⟨a, n, dx, fs, rfl, rfl, ha, hsp⟩ := h
  cases rx
  obtain ⟨t, rfl⟩ := ry
  obtain ⟨mA, J, _⟩ := ins_get I.hok ha
  obtain ⟨od, J, _⟩ := J.look
  obtain ⟨mm, hF⟩ := I.fr
  rw [hop]
  exact PySem.W.cmp_K (tb := .type "int") hr.units0 hF I.ok.mod.kin J (PySem.W.Looks.of_pure rfl) (by unfold PySem.W.notFirst; rw [h5]; simp) (by rw [hd]; exact M.at_) M.fn (run_own (vs := [V.ref a, V.int n]) F (hr.mono hj) b hx I (.cons rfl (.cons ⟨t, rfl⟩ .nil)) hsp)
theorem cmp_io {op : CmpOp} {id : String} {B : Builtin} (hd : (cmpInfo op).2.2 = m) (hop : compareOp op = richCompare op) (M : Meth X.K C m (He.fAd X.K (cn, some m))) (hm : PySem.W.mroIn X.K C (.type "int") = some false)
    (slot : Slot "int" (cmpInfo op).2.1 id) (entry : entryFor table id = some B) (ha : ∀ a b, argsOk id ⟨[a, b], []⟩) (hB : Declines B)
    (O : OkD X.prog X.w X.K X.mg X.base CX k (cn, some m) ps [] sp) (hr : Room j X.A) (hj : k ≤ j) (hx : Passes CX X E) : OpR X (compareOp op) (rIO C sp E) := by
  obtain ⟨fd, ds, F, b, v⟩ := O.ex
  cases v
  intro pins s σ H x y v u Q I rx ry h
  obtain ⟨n, b', dx, fs, rfl, rfl, hb, hsp⟩ := h
  obtain ⟨t, rfl⟩ := rx
  cases ry
  obtain ⟨mA, J, _⟩ := ins_get I.hok hb
  obtain ⟨od, J, _⟩ := J.look
  rw [hop]
  exact cmp_int_own hr.units0 I.kIn J rfl (by rw [hd]; exact M.at_) M.fn hm slot entry (ha _ _) hB (run_own (vs := [V.ref b', V.int n]) F (hr.mono hj) b hx I (.cons rfl (.cons ⟨t, rfl⟩ .nil)) hsp)
end
end Vf

set_option Elab.async false
set_option linter.all false
set_option maxRecDepth 100000
set_option maxHeartbeats 2000000
namespace Vf
open PySem PySem.Spec PyProof.Rows L2
section
variable {X : Cx} {C : Addr} {bmB : List Value} {B newId initId : String}
/-- X(), X an error of the text's own without an __init__ -/
theorem pmk_own0 {x : Str} {p pos : Pos} (F : ExcBaseFacts B newId initId bmB) (q : PySem.W.excIn X.K C bmB newId = true) (gC : X.mg x = some (.ref C)) (kC : PySem.W.keepIn X.K (.ref C) = true) (r : Raises X (.ref C)) (hg : Gl X x)
    (hdb : (x == ("__debug__" : Str)) = false := by decide) : PMk X (.Call (.Name x p) [] [] pos) (fun _ H Q => Q (.ref C) none H) := by
  intro pins s σ H Q I h
  refine wpAny_Call_Name_kw (ld_glob I hg gC ?_ hdb)
  refine PySem.W.callWith_K0 I.kIn kC ?_
  obtain ⟨_, _, _, _, _, _, _, _, _, _, _, _, _, _, _, _, _, hC, hN, hni, T⟩ := exc_obj I.kIn q
  show wpAny _ _ (call (.ref C) []) _ _ _
  exact wpAny_call_exc_subT F T hC hN hni (fun h' e hm => L2.mk_of I hm r h (I.hok.gone hm.new)) (Nat.zero_le _)
end
theorem c_raise0 {X : Cx} {x : Str} {p pos pos2 : Pos} {W : WX} (c : (He.Fa.exc x).ok X.K = true) (hm : X.mg x = some (.ref (He.ga X.K x))) (tk : Takes X W) (hc : X.calm = true := by rfl) (hg : Gl X x := by rfl) (hdb : (x == ("__debug__" : Str)) = false := by decide) :
    PS X (.Raise (some (.Call (.Name x p) [] [] pos)) none pos2) (fun _ σ H => W (.ref (He.ga X.K x)) none σ H) := by
  obtain ⟨h1, h2, h3, h4⟩ := He.exc_ok c
  exact ps_raise hc tk (pmk_own0 PySem.F.excBase_ValueError h1 hm h2 (raises_own h3 h4) hg hdb)
theorem passX {X : Cx} {E : XK} (tk : Takes X (fun cls d _ H => E cls d H)) : Passes (L2.CX X.prog X.w) X E := passes_call tk fun _ _ _ _ h => h
theorem opr_or {X : Cx} {f : Value → Value → Sem Value} {r1 r2 : R2} (h1 : OpR X f r1) (h2 : OpR X f r2) : OpR X f (fun x y H Q => r1 x y H Q ∨ r2 x y H Q) := fun pins s σ H x y v u Q I rx ry h => by
  rcases h with h | h
  · exact h1 pins s σ H x y v u Q I rx ry h
  · exact h2 pins s σ H x y v u Q I rx ry h
section
variable (K : PySem.W.Frag)
theorem int_add : PySem.W.findIn K (.type "int") (PySem.dunder "add") = some (some (.builtin "int.__add__")) := by kernel_rfl
theorem int_sub : PySem.W.findIn K (.type "int") (PySem.dunder "sub") = some (some (.builtin "int.__sub__")) := by kernel_rfl
theorem int_mul : PySem.W.findIn K (.type "int") (PySem.dunder "mul") = some (some (.builtin "int.__mul__")) := by kernel_rfl
theorem int_fdv : PySem.W.findIn K (.type "int") (PySem.dunder "floordiv") = some (some (.builtin "int.__floordiv__")) := by kernel_rfl
theorem int_radd : PySem.W.findIn K (.type "int") (dunderR "add") = some (some (.builtin "int.__radd__")) := by kernel_rfl
theorem int_rsub : PySem.W.findIn K (.type "int") (dunderR "sub") = some (some (.builtin "int.__rsub__")) := by kernel_rfl
theorem int_rmul : PySem.W.findIn K (.type "int") (dunderR "mul") = some (some (.builtin "int.__rmul__")) := by kernel_rfl
theorem int_rfdv : PySem.W.findIn K (.type "int") (dunderR "floordiv") = some (some (.builtin "int.__rfloordiv__")) := by kernel_rfl
end
end Vf

set_option Elab.async false
set_option linter.all false
set_option maxRecDepth 100000
set_option maxHeartbeats 2000000
namespace Vf
open PySem PySem.Spec PyProof.Rows L2
section
open PySem.W PySem.Calls
variable {prog : Program} {w : World} {A : Around} {E : Value → Shared → Prop} {s : Shared} {K : Frag} {x C f L : Addr} {h₀ : Heap} {m : Str → Option Value} {ox : Obj} {od : Option Obj}
/-- x, an instance of the text's own, is of no built-in type T -/
theorem inst_not {T : String} {Q : Bool → Shared → Prop} (X : K.In s.heap) (I : InstAt s.heap x ox C od) (hm : mroIn K C (.type T) = some false) (h : Q false s) : wpAny (model prog w) A (isInstance (.ref x) (.type T)) Q E s := by
  unfold isInstance
  exact wpAny_bind (I.type.here ((looks_mroIn X hm).here h))
theorem eq_no_none {Q : Fin → Shared → Prop} (h : Q (.done (.ret .notImplemented)) s) : wpAny (model prog w) A (PySem.Builtin.«NoneType.__eq__» ⟨[.none, .ref x], []⟩) Q E s := by
  unfold PySem.Builtin.«NoneType.__eq__»
  wp_walk
  exact h
theorem eq_no_int {n : Value} (hn : (∃ b, n = .bool b) ∨ ∃ i t, n = .int i t) (hd : ox.data = .plain) (hx : s.heap.get? x = some ox) {Q : Fin → Shared → Prop} (h : Q (.done (.ret .notImplemented)) s) : wpAny (model prog w) A (PySem.Builtin.«int.__eq__» ⟨[n, .ref x], []⟩) Q E s := by
  obtain ⟨hp, gg, d, tk, os⟩ := s
  obtain ⟨oc, odd, oda, osl⟩ := ox
  dsimp only at hd
  subst hd
  rcases hn with ⟨b, rfl⟩ | ⟨i, t, rfl⟩
  · wp_walk using AutoSeq1.wpAny_loadPart' hx
    exact h
  · wp_walk using AutoSeq1.wpAny_loadPart' hx
    exact h
theorem eq_no_str {z : Str} {t : Tok} (hd : ox.data = .plain) (hx : s.heap.get? x = some ox) {Q : Fin → Shared → Prop} (h : Q (.done (.ret .notImplemented)) s) : wpAny (model prog w) A (PySem.Builtin.«str.__eq__» ⟨[.str z t, .ref x], []⟩) Q E s := by
  obtain ⟨hp, gg, d, tk, os⟩ := s
  obtain ⟨oc, odd, oda, osl⟩ := ox
  dsimp only at hd
  subst hd
  wp_walk using AutoSeq1.wpAny_loadPart' hx
  exact h
theorem eq_no_tup {a : Addr} (X : K.In s.heap) (I : InstAt s.heap x ox C od) (hm : mroIn K C (.type "tuple") = some false) {Q : Fin → Shared → Prop} (h : Q (.done (.ret .notImplemented)) s) : wpAny (model prog w) A (PySem.Builtin.«tuple.__eq__» ⟨[.ref a, .ref x], []⟩) Q E s := by
  wp_walk using inst_not X I hm
  exact h
theorem eq_no_lst {a : Addr} (X : K.In s.heap) (I : InstAt s.heap x ox C od) (hm : mroIn K C (.type "list") = some false) {Q : Fin → Shared → Prop} (h : Q (.done (.ret .notImplemented)) s) : wpAny (model prog w) A (PySem.Builtin.«list.__eq__» ⟨[.ref a, .ref x], []⟩) Q E s := by
  wp_walk using inst_not X I hm
  exact h
theorem eq_no_dic {a : Addr} {oa : Obj} (ha : s.heap.get? a = some oa) (X : K.In s.heap) (I : InstAt s.heap x ox C od) (hm : mroIn K C (.type "dict") = some false) {Q : Fin → Shared → Prop} (h : Q (.done (.ret .notImplemented)) s) : wpAny (model prog w) A (PySem.Builtin.«dict.__eq__» ⟨[.ref a, .ref x], []⟩) Q E s := by
  wp_walk using inst_not X I hm
  exact h
/-- v == x: v's slot declines, x's own is asked -/
theorem eq_any_own {v : Value} {T id : String} {B : Builtin} {Q : Value → Shared → Prop} (hT : s.TypeIs v T) (hu : A.units < cLine) (X : K.In s.heap) (I : InstAt s.heap x ox C od)
    (hr : findIn K (.ref C) "__eq__" = some (some (.ref f))) (hf : isFn K (.ref f) = true) (hm : mroIn K C (.type T) = some false)
    (slot : Slot T (cmpInfo .Eq).2.1 id) (entry : entryFor table id = some B) (ha : argsOk id ⟨[v, .ref x], []⟩) (hB : ∀ Q : Fin → Shared → Prop, Q (.done (.ret .notImplemented)) s → wpAny (model prog w) A.in1 (B ⟨[v, .ref x], []⟩) Q E s)
    (h : wpAny (model prog w) A (call (.ref f) [.ref x, v]) (PySem.W.CmpBack Q) E s) : wpAny (model prog w) A (richCompare .Eq v (.ref x)) Q E s := by
  have one : wpAny (model prog w) A (tryCompare (.ref x) "__eq__" v) (fun r s' => ∃ z, r = some z ∧ Q z s') E s := by
    unfold tryCompare
    refine wpAny_bind (ifBound_K X I hr hf (wpAny_mono h (fun z s' hv => ?_) fun _ _ e => e))
    cases z <;> first | exact hv.elim | exact wpAny_pure ⟨_, rfl, hv⟩
  have two : wpAny (model prog w) A (tryCompare v (cmpInfo .Eq).2.1 (.ref x)) (fun r s' => r = none ∧ s' = s) E s :=
    wpAny_tryCompare_declines hT slot (wpAny_call_entry slot hT entry (hB _ ⟨_, rfl, rfl, rfl, rfl⟩) ha)
  have hne : (Value.type T != Value.ref C) = true := bne_iff_ne.mpr fun q => by cases q
  unfold richCompare
  simp only [hT.oneThing_none]
  refine wpAny_holding (wpAny_bind (wpAny_cRoomFor hu ?_))
  refine wpAny_bind (wpAny_typeOf hT (wpAny_bind (I.type.here ?_)))
  simp only [hne, if_true]
  refine wpAny_bind ((looks_mroIn X hm).here ?_)
  simp only [Bool.false_eq_true, if_false]
  refine wpAny_bind (wpAny_mono two (fun r s' z => ?_) fun _ _ e => e)
  obtain ⟨rfl, rfl⟩ := z
  simp only [Bool.not_false, if_true]
  refine wpAny_bind (wpAny_mono one (fun r s' z => ?_) fun _ _ e => e)
  obtain ⟨z, rfl, hq⟩ := z
  exact wpAny_pure hq
theorem sub_not {n : String} {l : List Value} (e : fastBuiltinMro n = some l) (h : ∀ a, l.contains (.ref a) = false) : subIn K (.type n) (.ref C) = some false := by
  show (fastBuiltinMro n).map (·.contains (.ref C)) = some false
  rw [e, Option.map_some, h]
end
theorem looks_ty {M : Model} {s : Shared} {u : Value} {n : String} (h : s.TypeIs u n) : PySem.W.Looks M s.heap (typeOf u) (.type n) := fun A Q E s' k q => by
  refine wpAny_typeOf (T := n) ?_ q
  cases u with
  | ref a =>
    obtain ⟨o, h1, h2⟩ := h
    exact ⟨o, k _ _ h1, h2⟩
  | _ => exact h
/-! ### odd values beside an own object -/
def oddK : List String := ["bool", "NoneType", "str", "tuple", "list", "dict"]
section
variable {X : Cx} {CX : CXT} {k j : Nat} {C : Addr} {cn m : Str} {ps : List Str} {sp : Sp} {E : XK}
/-- a built-in type none of our classes is over, nor they over it -/
theorem odd_is {pins : List (Addr × Obj)} {s : Shared} {σ : L2.St} {H : Hp} {x : V} {u : Value} (I : L2.Inv X pins σ H s) (o : Odd H x) (r : RelV x u) :
    ∃ n ∈ oddK, s.TypeIs u n := by
  cases o with
  | bl b => cases r; exact ⟨"bool", by simp [oddK], rfl⟩
  | non => cases r; exact ⟨"NoneType", by simp [oddK], rfl⟩
  | str z => obtain ⟨t, rfl⟩ := r; exact ⟨"str", by simp [oddK], rfl⟩
  | tup h =>
    cases r
    obtain ⟨_, _, _, o, h1, h2, _⟩ := (show ObjOk X.prog X.w H s.heap _ (.tup _) from I.hok _ _ h)
    exact ⟨"tuple", by simp [oddK], o, h1, h2⟩
  | lst h =>
    cases r
    obtain ⟨_, _, n, _, h1⟩ := (show ObjOk X.prog X.w H s.heap _ (.lst _) from I.hok _ _ h)
    exact ⟨"list", by simp [oddK], _, h1, rfl⟩
  | dic h =>
    cases r
    obtain ⟨_, _, vs, _, o, es, ep, h1, h2, _⟩ := (show ObjOk X.prog X.w H s.heap _ (.dK _) from I.hok _ _ h)
    exact ⟨"dict", by simp [oddK], o, h1, h2.1⟩
theorem odd_first {n : String} (h : n ∈ oddK) : PySem.W.subIn X.K (.type n) (.ref C) = some false := by
  simp only [oddK, List.mem_cons, List.not_mem_nil, or_false] at h
  rcases h with rfl | rfl | rfl | rfl | rfl | rfl
  · exact sub_not (l := [.type "bool", .type "int", .type "object"]) (by decide +kernel) fun a => by simp
  · exact sub_not (l := [.type "NoneType", .type "object"]) (by decide +kernel) fun a => by simp
  · exact sub_not (l := [.type "str", .type "object"]) (by decide +kernel) fun a => by simp
  · exact sub_not (l := [.type "tuple", .type "object"]) (by decide +kernel) fun a => by simp
  · exact sub_not (l := [.type "list", .type "object"]) (by decide +kernel) fun a => by simp
  · exact sub_not (l := [.type "dict", .type "object"]) (by decide +kernel) fun a => by simp
/-- a method of the text's own asked by the machine, somewhere below the running body -/
theorem run_ownA {A : Around} {f : Addr} {fd : FuncData} {pins : List (Addr × Obj)} {σ : L2.St} {H : Hp} {s : Shared} {Q : VK} {us : List Value} {vs : List V} (F : FnOk X.prog X.w X.K X.mg X.base CX k f fd ps sp) (sb : Sub X k A) (hb : L2.Binds X.K fd ps []) (hx : Passes CX X E)
    (I : L2.Inv X pins σ H s) (r : Vals vs us) (h : sp vs H Q E) : wpAny (model X.prog X.w) A (call (.ref f) us) (PySem.W.CmpBack (EP X pins σ Q)) X.xe s := by
  have e0 : Env0 X.prog X.w X.K X.mg X.base A X.stack s H := by
    have e := I.env0
    exact ⟨by rw [sb.fr]; exact e.frames, e.mod, e.bs, e.bsz, e.funs, e.frf, e.hok, e.bare⟩
  have hl := F.len _ _ _ _ h
  refine wpAny_call (codeAny_mono (F.run A X.stack s H ⟨us, []⟩ us vs _ E sb.room e0 (by
    have := hb s us I.kIn (by rw [List.append_nil, ← r.length, hl])
    simpa using this) r h) fun r s' hq => ?_)
  cases r with
  | error e => exact hx pins σ H s e s' I hq
  | ok fl =>
    cases fl with
    | ret w => exact back_of (I.after hq)
    | next => exact False.elim hq
    | brk => exact False.elim hq
    | cont => exact False.elim hq
/-- x == y, x odd, y of the class at C: its own == is asked -/
theorem rc_odd {A : Around} {pins : List (Addr × Obj)} {s : Shared} {σ : L2.St} {H : Hp} {x : V} {u : Value} {b dx : Addr} {fs : List (Str × V)} {Q : VK} (sb : Sub X k A) (M : Meth X.K C "__eq__" (He.fAd X.K (cn, some "__eq__")))
    (hm : ∀ n ∈ oddK, PySem.W.mroIn X.K C (.type n) = some false) (O : OkD X.prog X.w X.K X.mg X.base CX k (cn, some "__eq__") ps [] sp) (hx : Passes CX X E) (I : L2.Inv X pins σ H s) (o : Odd H x) (rx : RelV x u) (hb : H b = some (.ins C dx fs)) (h0 : sp [.ref b, x] H Q E) :
    wpAny (model X.prog X.w) A (richCompare .Eq u (.ref b)) (EP X pins σ Q) X.xe s := by
  obtain ⟨fd, ds, F, bi, v⟩ := O.ex
  cases v
  obtain ⟨mA, J, _⟩ := ins_get I.hok hb
  obtain ⟨od, J, _⟩ := J.look
  have go := run_ownA (vs := [V.ref b, x]) (us := [.ref b, u]) F sb bi hx I (.cons rfl (.cons rx .nil)) h0
  have hu := sb.room.units0
  cases o with
  | bl y =>
    cases rx
    exact eq_any_own (T := "bool") rfl hu I.kIn J M.at_ M.fn (hm _ (by simp [oddK])) PySem.F.slot_bool_eq PySem.F.entry_int_eq (PySem.F.args_int_eq_2 _ _) (fun Q q => eq_no_int (.inl ⟨_, rfl⟩) rfl J.at_ q) go
  | non =>
    cases rx
    exact eq_any_own (T := "NoneType") rfl hu I.kIn J M.at_ M.fn (hm _ (by simp [oddK])) PySem.F.slot_NoneType_eq PySem.F.entry_NoneType_eq (PySem.F.args_NoneType_eq_2 _ _) (fun Q q => eq_no_none q) go
  | str z =>
    obtain ⟨t, rfl⟩ := rx
    exact eq_any_own (T := "str") rfl hu I.kIn J M.at_ M.fn (hm _ (by simp [oddK])) PySem.F.slot_str_eq PySem.F.entry_str_eq (PySem.F.args_str_eq_2 _ _) (fun Q q => eq_no_str rfl J.at_ q) go
  | tup h =>
    cases rx
    obtain ⟨_, _, _, o, h1, h2, _⟩ := (show ObjOk X.prog X.w H s.heap _ (.tup _) from I.hok _ _ h)
    exact eq_any_own (T := "tuple") ⟨o, h1, h2⟩ hu I.kIn J M.at_ M.fn (hm _ (by simp [oddK])) PySem.F.slot_tuple_eq PySem.F.entry_tuple_eq (PySem.F.args_tuple_eq_2 _ _) (fun Q q => eq_no_tup I.kIn J (hm _ (by simp [oddK])) q) go
  | lst h =>
    cases rx
    obtain ⟨_, _, n, _, h1⟩ := (show ObjOk X.prog X.w H s.heap _ (.lst _) from I.hok _ _ h)
    exact eq_any_own (T := "list") ⟨_, h1, rfl⟩ hu I.kIn J M.at_ M.fn (hm _ (by simp [oddK])) PySem.F.slot_list_eq PySem.F.entry_list_eq (PySem.F.args_list_eq_2 _ _) (fun Q q => eq_no_lst I.kIn J (hm _ (by simp [oddK])) q) go
  | dic h =>
    cases rx
    obtain ⟨_, _, vs, _, o, es, ep, h1, h2, _⟩ := (show ObjOk X.prog X.w H s.heap _ (.dK _) from I.hok _ _ h)
    exact eq_any_own (T := "dict") ⟨o, h1, h2.1⟩ hu I.kIn J M.at_ M.fn (hm _ (by simp [oddK])) PySem.F.slot_dict_eq PySem.F.entry_dict_eq (PySem.F.args_dict_eq_2 _ _) (fun Q q => eq_no_dic h1 I.kIn J (hm _ (by simp [oddK])) q) go
/-- odd == o -/
def rDO (C : Addr) (sp : Sp) (E : XK) : R2 := fun x y H Q => ∃ b dx fs, Odd H x ∧ y = .ref b ∧ H b = some (.ins C dx fs) ∧ sp [y, x] H Q E
theorem eq_do (M : Meth X.K C "__eq__" (He.fAd X.K (cn, some "__eq__"))) (hm : ∀ n ∈ oddK, PySem.W.mroIn X.K C (.type n) = some false) (O : OkD X.prog X.w X.K X.mg X.base CX k (cn, some "__eq__") ps [] sp) (hr : Room j X.A) (hj : k ≤ j) (hx : Passes CX X E) : OpR X (compareOp .Eq) (rDO C sp E) := by
  intro pins s σ H x y v u Q I rx ry h
  obtain ⟨b, dx, fs, o, rfl, hb, hsp⟩ := h
  cases ry
  exact rc_odd ⟨hr.mono hj, rfl⟩ M hm O hx I o rx hb hsp
/-- o ? odd -/
def rOD (C : Addr) (sp : Sp) (E : XK) : R2 := fun x y H Q => ∃ a dx fs, x = .ref a ∧ H a = some (.ins C dx fs) ∧ Odd H y ∧ sp [x, y] H Q E
theorem cmp_od {op : CmpOp} (hd : (cmpInfo op).2.1 = m) (hop : compareOp op = richCompare op) (M : Meth X.K C m (He.fAd X.K (cn, some m))) (O : OkD X.prog X.w X.K X.mg X.base CX k (cn, some m) ps [] sp) (hr : Room j X.A) (hj : k ≤ j) (hx : Passes CX X E) : OpR X (compareOp op) (rOD C sp E) := by
  obtain ⟨fd, ds, F, b, v⟩ := O.ex
  cases v
  intro pins s σ H x y v u Q I rx ry h
  obtain ⟨a, dx, fs, rfl, ha, o, hsp⟩ := h
  cases rx
  obtain ⟨mA, J, _⟩ := ins_get I.hok ha
  obtain ⟨od, J, _⟩ := J.look
  obtain ⟨mm, hF⟩ := I.fr
  obtain ⟨n, hn, ht⟩ := odd_is I o ry
  rw [hop]
  exact PySem.W.cmp_K (tb := .type n) hr.units0 hF I.ok.mod.kin J (looks_ty ht) (by unfold PySem.W.notFirst; rw [odd_first hn]; simp) (by rw [hd]; exact M.at_) M.fn (run_own (vs := [V.ref a, y]) F (hr.mono hj) b hx I (.cons rfl (.cons ry .nil)) hsp)
/-! ### x in a list, where == is the text's own -/
/-- == inside a built-in's body: its answer; it only makes objects -/
abbrev Eqb := V → V → Hp → Bool → Prop
def EqB (X : Cx) (n : Nat) (D : Eqb) : Prop :=
  ∀ (A : Around) (pins : List (Addr × Obj)) (s : Shared) (σ : L2.St) (H : Hp) (x y : V) (u v : Value) (b : Bool), Sub X n A → L2.Inv X pins σ H s → RelV x u → RelV y v → D x y H b →
    wpAny (model X.prog X.w) A (eqBool u v) (fun r s' => r = b ∧ ∃ H', L2.Inv X pins σ H' s' ∧ Ext H H') X.xe s
theorem EqB.or {n : Nat} {D D' : Eqb} (h : EqB X n D) (h' : EqB X n D') : EqB X n (fun x y H b => D x y H b ∨ D' x y H b) := fun A pins s σ H x y u v b sb I rx ry d => by
  rcases d with d | d
  · exact h A pins s σ H x y u v b sb I rx ry d
  · exact h' A pins s σ H x y u v b sb I rx ry d
def DOO (C : Addr) (sp : Sp) (E : XK) : Eqb := fun x y H b => ∃ a c dx dy fs gs, x = .ref a ∧ y = .ref c ∧ H a = some (.ins C dx fs) ∧ H c = some (.ins C dy gs) ∧ (a = c → b = true) ∧ sp [x, y] H (fun v H' => v = .bl b ∧ Ext H H') E
def DDO (C : Addr) (sp : Sp) (E : XK) : Eqb := fun x y H b => ∃ c dy gs, Odd H x ∧ y = .ref c ∧ H c = some (.ins C dy gs) ∧ (x = y → b = true) ∧ sp [y, x] H (fun v H' => v = .bl b ∧ Ext H H') E
theorem eqB_of_rc {A : Around} {pins : List (Addr × Obj)} {s : Shared} {σ : L2.St} {H : Hp} {u v : Value} {b : Bool} (hs : (u == v) = true → b = true) (hf : ∀ i t, u ≠ .float i t) (I : L2.Inv X pins σ H s)
    (h : wpAny (model X.prog X.w) A (richCompare .Eq u v) (EP X pins σ (fun v H' => v = .bl b ∧ Ext H H')) X.xe s) : wpAny (model X.prog X.w) A (eqBool u v) (fun r s' => r = b ∧ ∃ H', L2.Inv X pins σ H' s' ∧ Ext H H') X.xe s := by
  unfold eqBool
  refine wpAny_holding ?_
  refine wpAny_ite_split (fun hab => ?_) (fun _ => ?_)
  · refine wpAny_bind (wpAny_rule ?_)
    exact wpAny_pure ⟨(hs hab).symm, H, I, Ext.rfl'⟩
  · have tail : wpAny (model X.prog X.w) A (richCompare .Eq u v >>= truthOfDropped) (fun r s' => r = b ∧ ∃ H', L2.Inv X pins σ H' s' ∧ Ext H H') X.xe s := by
      refine wpAny_bind (wpAny_mono h (fun z s' hz => ?_) fun _ _ x => x)
      obtain ⟨v', H', I', rz, e, ex⟩ := hz
      subst e
      cases rz
      exact wpAny_truthy_bool ⟨rfl, H', I', ex⟩
    cases u with
    | float i t => exact absurd rfl (hf i t)
    | _ => exact tail
theorem eqB_oo {n : Nat} (M : Meth X.K C "__eq__" (He.fAd X.K (cn, some "__eq__"))) (O : OkD X.prog X.w X.K X.mg X.base CX n (cn, some "__eq__") ps [] sp) (hx : Passes CX X E) : EqB X n (DOO C sp E) := by
  obtain ⟨fd, ds, F, bi, v⟩ := O.ex
  cases v
  intro A pins s σ H x y u v b sb I rx ry d
  obtain ⟨a, c, dx, dy, fs, gs, rfl, rfl, ha, hc, he, hsp⟩ := d
  cases rx
  cases ry
  obtain ⟨mA, J, _⟩ := ins_get I.hok ha
  obtain ⟨mB, J', _⟩ := ins_get I.hok hc
  obtain ⟨od, J, _⟩ := J.look
  obtain ⟨od', J', _⟩ := J'.look
  obtain ⟨mm, hF⟩ := I.fr
  refine eqB_of_rc (fun h => he (by have := eq_of_beq h; injection this)) (fun _ _ z => nomatch z) I ?_
  exact PySem.W.cmp_K (op := .Eq) (tb := .ref C) sb.room.units0 hF I.ok.mod.kin J J'.type (by simp [PySem.W.notFirst]) M.at_ M.fn (run_ownA (vs := [V.ref a, V.ref c]) F sb bi hx I (.cons rfl (.cons rfl .nil)) hsp)
theorem eqB_do {n : Nat} (M : Meth X.K C "__eq__" (He.fAd X.K (cn, some "__eq__"))) (hm : ∀ n ∈ oddK, PySem.W.mroIn X.K C (.type n) = some false) (O : OkD X.prog X.w X.K X.mg X.base CX n (cn, some "__eq__") ps [] sp) (hx : Passes CX X E) : EqB X n (DDO C sp E) := by
  intro A pins s σ H x y u v b sb I rx ry d
  obtain ⟨c, dy, gs, o, rfl, hc, he, hsp⟩ := d
  cases ry
  refine eqB_of_rc (fun h => he ?_) (fun i t z => ?_) I (rc_odd sb M hm O hx I o rx hc hsp)
  · have := eq_of_beq h
    subst this
    cases x with
    | ref a => cases rx; rfl
    | int i => obtain ⟨t, h⟩ := rx; cases h
    | str i => obtain ⟨t, h⟩ := rx; cases h
    | byt i => obtain ⟨t, h⟩ := rx; cases h
    | flt i => obtain ⟨t, h⟩ := rx; cases h
    | _ => cases rx
  · subst z
    cases o with
    | bl => cases rx
    | non => cases rx
    | str => obtain ⟨t, h⟩ := rx; cases h
    | tup => cases rx
    | lst => cases rx
    | dic => cases rx
/-- the loop of list.__contains__; at each turn the list is read anew -/
theorem in_loop {P : Program} {w : World} {A : Around} {R : Result → Shared → Prop} {l : Addr} {N : Nat} {x : Value} (J : Shared → Prop) (e : Nat → Bool)
    (hl : ∀ i s, J s → ∃ (its : List Value) (n : Nat) (dd : Option Addr) (sl : Array (Option Value)), s.heap.get? l = some { cls := .type "list", dict := dd, data := .seq its.toArray n, slots := sl } ∧ its.length = N ∧ ∀ h : i < its.length, wpAny (model P w) A.in1 (eqBool its[i] x) (fun r s' => r = e i ∧ J s') (fun e s' => R (.error e) s') s) (k : Nat) :
    ∀ i : Nat, N - i = k → i ≤ N → ∀ s, J s → (∀ s', J s' → R (.ok (.ret (.bool ((List.range' i k).any e)))) s') →
      wpAny (model P w) A.in1 (Builtin.«list.__contains__.loop» ⟨[.ref l, x, rawInt i], []⟩) (GQ.FinOf P w A R) (fun e s' => R (.error e) s') s := by
  induction k with
  | zero =>
    intro i hk hi s h fin
    obtain ⟨items, n, dd, sl, ho, hn, _⟩ := hl i s h
    have q := fin s h
    obtain ⟨hp, g, d, tk, os⟩ := s
    wp_walk using AutoSeq1.wpAny_loadPart' ho
    have hi : items.toArray[((i : Nat) : Int).toNat]? = none := by simp; omega
    rw [hi]
    wp_walk
    exact q
  | succ k ih =>
    intro i hk hi s h fin
    obtain ⟨items, n, dd, sl, ho, hn, turn⟩ := hl i s h
    have hlt : i < items.length := by omega
    have t := turn hlt
    obtain ⟨hp, g, d, tk, os⟩ := s
    wp_walk using AutoSeq1.wpAny_loadPart' ho
    have hi : items.toArray[((i : Nat) : Int).toNat]? = some items[i] := by simp [hlt]
    rw [hi]
    refine wpAny_bind (wpAny_mono t (fun r s2 q => ?_) fun _ _ z => z)
    obtain ⟨rfl, h2⟩ := q
    rw [List.range'_succ, List.any_cons] at fin
    cases hb : e i with
    | true =>
      rw [hb] at fin
      have q := fin s2 h2
      obtain ⟨hp2, g2, d2, tk2, os2⟩ := s2
      wp_walk
      exact q
    | false =>
      rw [hb] at fin
      have hc : ((i : Int) + 1) = ((i + 1 : Nat) : Int) := by push_cast; rfl
      have go := ih (i + 1) (by omega) (by omega) s2 h2 (fun s' h' => by simpa using fin s' h')
      obtain ⟨hp2, g2, d2, tk2, os2⟩ := s2
      wp_walk
      rw [hc]
      exact ⟨plainId_quiet MeetsSeq.plain_contains_loop _, codeAny_builtin MeetsSeq.entry_contains_loop (by
        rw [Around.under_plainId MeetsSeq.plain_contains_loop _]
        exact go)⟩
/-- x in the list at y: item by item D says how they compare -/
def rInB (K : PySem.W.Frag) (neg : Bool) (D : Eqb) : R2 := fun x y H Q => ∃ (p : Addr) (xs : List V) (bs : List Bool), y = .ref p ∧ SqL K H p xs ∧ Paired (fun z b => ∀ H', Ext H H' → D z x H' b) xs bs ∧ ∀ H', Ext H H' → Q (.bl (if neg then !bs.any id else bs.any id)) H'
theorem any_range (bs : List Bool) : (List.range' 0 bs.length).any (fun i => bs.getD i false) = bs.any id := by
  rw [← List.range_eq_range']
  rw [Bool.eq_iff_iff, List.any_eq_true, List.any_eq_true]
  constructor
  · rintro ⟨i, hi, e⟩
    have h := List.mem_range.mp hi
    refine ⟨bs[i], List.getElem_mem h, ?_⟩
    simpa [List.getD_eq_getElem?_getD, List.getElem?_eq_getElem h] using e
  · rintro ⟨b, hb, e⟩
    obtain ⟨i, h, rfl⟩ := List.mem_iff_getElem.mp hb
    exact ⟨i, List.mem_range.mpr h, by simpa [List.getD_eq_getElem?_getD, List.getElem?_eq_getElem h] using e⟩
theorem paired_get {α β : Type} {R : α → β → Prop} : ∀ {xs : List α} {bs : List β}, Paired R xs bs → ∀ i (h : i < xs.length), ∃ b, bs[i]? = some b ∧ R xs[i] b
  | _, _, .nil, i, h => absurd h (Nat.not_lt_zero _)
  | _ :: _, _ :: _, .cons r p, 0, _ => ⟨_, rfl, r⟩
  | _ :: _, _ :: _, .cons r p, i + 1, h => paired_get p i (by simpa using h)
theorem paired_len {α β : Type} {R : α → β → Prop} : ∀ {xs : List α} {bs : List β}, Paired R xs bs → xs.length = bs.length
  | _, _, .nil => rfl
  | _, _, .cons _ p => congrArg (· + 1) (paired_len p)
theorem in_body {n : Nat} {D : Eqb} {neg : Bool} (h : EqB X n D) (hr : Room (n + 1) X.A) {pins : List (Addr × Obj)} {s : Shared} {σ : L2.St} {H : Hp} {x y : V} {u v : Value} {Q : VK} (I : L2.Inv X pins σ H s) (rx : RelV x u) (ry : RelV y v) (hq : rInB X.K neg D x y H Q) :
    wpAny (model X.prog X.w) X.A (contains v u) (fun r s' => EP X pins σ Q (.bool (if neg then !r else r)) s') X.xe s := by
  obtain ⟨p, xs, bs, rfl, hS, pr, q⟩ := hq
  cases ry
  obtain ⟨its, r, pl, hz⟩ := I.list hS
  have hT : s.TypeIs (.ref p) "list" := by
    obtain ⟨⟨cls, dd, data, sl⟩, n', ho, hc, _⟩ := id pl
    exact ⟨_, ho, hc⟩
  have J0 : (fun s' => ∃ H', L2.Inv X pins σ H' s' ∧ Ext H H') s := ⟨H, I, Ext.rfl'⟩
  refine wpAny_contains_slot hT PySem.F.slot_list_contains ?_
  refine GQ.call_here PySem.F.slot_list_contains hT PySem.F.entry_list_contains (PySem.F.args_list_contains_2 _ _) ?_
  have lp := in_loop (P := X.prog) (w := X.w) (A := X.A) (R := wants (fun r s' => wpAny (model X.prog X.w) X.A (truthy r) (fun r s' => EP X pins σ Q (Value.bool (if neg = true then !r else r)) s') X.xe s') X.xe) (l := p) (N := xs.length) (x := u) (fun s' => ∃ H', L2.Inv X pins σ H' s' ∧ Ext H H') (fun i => bs.getD i false) ?hl bs.length 0 (by rw [paired_len pr]; rfl) (Nat.zero_le _) s J0 ?fin
  case hl =>
    rintro i s' ⟨H', I', e⟩
    obtain ⟨its', r', pl', _⟩ := I'.list (SqL.ext hS e)
    obtain ⟨o, n', ho, hc, hd, hs⟩ := pl'
    obtain ⟨cls, dd, data, sl⟩ := o
    dsimp only at hc hd hs
    refine ⟨its', n', dd, sl, by first | (rw [ho, hc, hs]) | (rw [ho]; subst hc; subst hs; rfl), r'.length.symm, fun hi => ?_⟩
    have hx : i < xs.length := by rw [r'.length]; exact hi
    obtain ⟨z, hz', rz⟩ := r'.get (List.getElem?_eq_getElem hx)
    rw [List.getElem?_eq_getElem hi] at hz'
    obtain ⟨b, hb, hd'⟩ := paired_get pr i hx
    have eb : bs.getD i false = b := by simp [List.getD_eq_getElem?_getD, hb]
    rw [Option.some.inj hz', eb]
    refine wpAny_mono (h X.A.in1 pins s' σ H' _ x _ u b ⟨hr.in1, rfl⟩ I' rz rx (hd' _ e)) (fun r2 s2 q2 => ?_) fun _ _ z => z
    obtain ⟨h2, H2, I2, e2⟩ := q2
    exact ⟨h2, H2, I2, e.trans e2⟩
  case fin =>
    rintro s' ⟨H', I', e⟩
    rw [any_range]
    exact wpAny_truthy_bool ⟨.bl _, H', I', rfl, q H' e⟩
  obtain ⟨hp, g, d, tk, os⟩ := s
  wp_walk
  exact ⟨plainId_quiet MeetsSeq.plain_contains_loop _, codeAny_builtin MeetsSeq.entry_contains_loop (by
    rw [Around.under_plainId MeetsSeq.plain_contains_loop _]
    exact lp)⟩
theorem op_inB {n : Nat} {D : Eqb} (h : EqB X n D) (hr : Room (n + 1) X.A) : OpR X (compareOp .In) (rInB X.K false D) := fun pins s σ H x y v u Q I rx ry hq => by
  show wpAny (model X.prog X.w) X.A (do return Value.bool (← contains u v)) (EP X pins σ Q) X.xe s
  exact wpAny_bind (wpAny_mono (in_body h hr I rx ry hq) (fun _ _ z => wpAny_pure z) fun _ _ z => z)
theorem op_notInB {n : Nat} {D : Eqb} (h : EqB X n D) (hr : Room (n + 1) X.A) : OpR X (compareOp .NotIn) (rInB X.K true D) := fun pins s σ H x y v u Q I rx ry hq => by
  show wpAny (model X.prog X.w) X.A (do return Value.bool (!(← contains u v))) (EP X pins σ Q) X.xe s
  exact wpAny_bind (wpAny_mono (in_body h hr I rx ry hq) (fun _ _ z => wpAny_pure z) fun _ _ z => z)
end
end Vf

set_option Elab.async false
set_option linter.all false
set_option maxRecDepth 100000
set_option maxHeartbeats 2000000
namespace Vf
open PySem PySem.Spec PyProof.Rows L2
/-! ### names of the text that stand for an int, a text, a tuple of texts -/
section
variable {X : Cx}
theorem c_gint {x : Str} {i : Int} {pos : Pos} (hm : ∃ t, X.mg x = some (.int i t)) (hg : Gl X x := by rfl) (hd : (x == ("__debug__" : Str)) = false := by decide) : PE X (.Name x pos) (tC (.int i)) := by
  obtain ⟨t, h⟩ := hm
  exact pe_glob hg h ⟨t, rfl⟩ hd
theorem c_gstr {x z : Str} {pos : Pos} (hm : ∃ t, X.mg x = some (.str z t)) (hg : Gl X x := by rfl) (hd : (x == ("__debug__" : Str)) = false := by decide) : PE X (.Name x pos) (tC (.str z)) := by
  obtain ⟨t, h⟩ := hm
  exact pe_glob hg h ⟨t, rfl⟩ hd
end
def strsB : List Value → List Str → Bool
  | [], [] => true
  | .str y _ :: us, z :: zs => decide (y = z) && strsB us zs
  | _, _ => false
theorem strsB_ok : ∀ {us : List Value} {zs : List Str}, strsB us zs = true → Vals (zs.map V.str) us
  | [], [], _ => .nil
  | .str y t :: us, z :: zs, h => by
    obtain ⟨h1, h2⟩ := He.ba h
    have e := of_decide_eq_true h1
    subst e
    exact .cons ⟨t, rfl⟩ (strsB_ok h2)
/-- at a a tuple of the texts zs -/
def kTup (K : PySem.W.Frag) (a : Addr) (zs : List Str) : Bool := match K.lookup a with
  | some ⟨.type n, _, .seq its _, _⟩ => decide (n = "tuple") && (decide (its.size ≤ sizeLine) && strsB its.toList zs)
  | _ => false
theorem kTup_ok {K : PySem.W.Frag} {a : Addr} {zs : List Str} (h : kTup K a zs = true) (H : Hp) : SqT K H a (zs.map V.str) := by
  unfold kTup at h
  split at h
  · rename_i n od its m sl e
    obtain ⟨h1, h2⟩ := He.ba h
    obtain ⟨h2, h3⟩ := He.ba h2
    have e1 := of_decide_eq_true h1
    subst e1
    exact .inr ⟨_, its, m, e, rfl, rfl, of_decide_eq_true h2, strsB_ok h3⟩
  · cases h
/-! ### C(.., k = v, ..) -/
structure OkK (P : Program) (w : World) (K : PySem.W.Frag) (mg : Str → Option Value) (base : Heap) (CX : CXT) (k : Nat) (p : Pl) (ps : List Str) (n : Nat) (ks : List Str) (gV : List V → List V → List V) (sp : Sp) : Prop where
  ex : ∃ fd g, FnOk P w K mg base CX k (He.fAd K p) fd ps sp ∧ KBn K fd ps n ks g gV
theorem c_mkK {X : Cx} {CX : CXT} {k j n : Nat} {ps ks : List Str} {sp : Sp} {x : Str} {p pos : Pos} {e : Expr} {es : List Expr} {kws : List Keyword} {t tk : TA} {gV : List V → List V → List V} {E : XK} {C : Addr} (M : Mk X.K C (He.fAd X.K (x, some "__init__"))) (O : OkK X.prog X.w X.K X.mg X.base CX k (x, some "__init__") ps (n + 1) ks gV sp) (hr : Room j X.A) (hj : k + 1 ≤ j) (hm : X.mg x = some (.ref C)) (hx : Passes CX X E) (ha : PA X (e :: es) t) (hkw : PK X kws tk) (hg : Gl X x := by rfl)
    (hall : (backToKw pos (keywordEach kws X.env)).all (·.1.isSome) = true := by rfl) (hks : (backToKw pos (keywordEach kws X.env)).filterMap (·.1) = ks := by rfl) (hdb : (x == ("__debug__" : Str)) = false := by decide)
    (he : starEach (e :: es) X.env = (false, eval e X.env) :: starEach es X.env := by rfl) (hpl : ((backTo pos (starEach (e :: es) X.env)).any (·.1) || (backToKw pos (keywordEach kws X.env)).any (·.1.isNone)) = false := by rfl) :
    PE X (.Call (.Name x p) (e :: es) kws pos) (tMakeK C n ks.length sp gV E t tk) := by
  obtain ⟨fd, g, F, b⟩ := O.ex
  exact pe_makeK M F (hr.mono hj) hg hm b hx ha hkw hall hks hdb he hpl
/-! ### texts -/
/-- one sign in a text -/
theorem sign_in (x : Str) (c : Nat) : (!(Builtin.Str.occurrences x ⟨#[c]⟩ 0 x.length 1).isEmpty) = decide (c ∈ x.cps.toList) := PySem.StrLaws.found_one x c
/-- a value that is no text -/
inductive OddS (H : Hp) : V → Prop where
  | bl (b : Bool) : OddS H (.bl b)
  | non : OddS H .non
  | int (i : Int) : OddS H (.int i)
  | tup {a : Addr} {xs : List V} (h : H a = some (.tup xs)) : OddS H (.ref a)
  | lst {a : Addr} {xs : List V} (h : H a = some (.lst xs)) : OddS H (.ref a)
  | dic {a : Addr} {kvs : List (Key × V)} (h : H a = some (.dK kvs)) : OddS H (.ref a)
theorem oddS_ty (K : PySem.W.Frag) {H : Hp} {x : V} (o : OddS H x) : ∃ n : String, TyX K H x (.type n) ∧ kitB n "str" = some false := by
  cases o with
  | bl b => exact ⟨"bool", .base (.bl b), by decide +kernel⟩
  | non => exact ⟨"NoneType", .base .non, by decide +kernel⟩
  | int i => exact ⟨"int", .base (.int i), by decide +kernel⟩
  | tup h => exact ⟨"tuple", .base (.tup h), by decide +kernel⟩
  | lst h => exact ⟨"list", .base (.lst h), by decide +kernel⟩
  | dic h => exact ⟨"dict", .base (.dK h), by decide +kernel⟩
/-- a value that is no bool -/
inductive OddB (H : Hp) : V → Prop where
  | str (z : Str) : OddB H (.str z)
  | non : OddB H .non
  | int (i : Int) : OddB H (.int i)
  | tup {a : Addr} {xs : List V} (h : H a = some (.tup xs)) : OddB H (.ref a)
  | lst {a : Addr} {xs : List V} (h : H a = some (.lst xs)) : OddB H (.ref a)
  | dic {a : Addr} {kvs : List (Key × V)} (h : H a = some (.dK kvs)) : OddB H (.ref a)
theorem oddB_ty (K : PySem.W.Frag) {H : Hp} {x : V} (o : OddB H x) : ∃ n : String, TyX K H x (.type n) ∧ kitB n "bool" = some false := by
  cases o with
  | str z => exact ⟨"str", .base (.str z), by decide +kernel⟩
  | non => exact ⟨"NoneType", .base .non, by decide +kernel⟩
  | int i => exact ⟨"int", .base (.int i), by decide +kernel⟩
  | tup h => exact ⟨"tuple", .base (.tup h), by decide +kernel⟩
  | lst h => exact ⟨"list", .base (.lst h), by decide +kernel⟩
  | dic h => exact ⟨"dict", .base (.dK h), by decide +kernel⟩
end Vf

set_option Elab.async false
set_option linter.all false
set_option maxRecDepth 100000
set_option maxHeartbeats 2000000
namespace Vf
open PySem PySem.Spec PyProof.Rows L2
/-- the callee's errors are the def's own -/
theorem passE {X : Cx} {E : XK} (hs : X.stack = X.env :: X.outer) (hf : X.env.frame = some X.env.locals) (hex : X.ex = []) {E₁ : Value → Shared → Prop}
    (hx : X.xe = fun e s' => wpAny (model X.prog X.w) X.A (leaving X.env e) (fun _ s'' => L2.CX X.prog X.w X.outer X.H_0 X.s_0 E e s'') E₁ s') : Passes (L2.CX X.prog X.w) X E :=
  passes_call (takes_of hs hf hex hx) fun _ _ _ _ h => h
/-! ### o.m(k = v, ..) -/
def tMethK (C : Addr) (m : Str) (n : Nat) (sp : Sp) (gV : List V → List V → List V) (E : XK) (ta : TE) (tk : TA) : TE := fun σ H Q => ta σ H fun x H1 => ∃ a dx fs, x = .ref a ∧ H1 a = some (.ins C dx fs) ∧ fs.lookup m = none ∧
  tk σ H1 fun zs H2 => zs.length = n ∧ sp (gV [.ref a] zs) H2 Q E
theorem c_meK {X : Cx} {CX : CXT} {k j : Nat} {ps ks : List Str} {sp : Sp} {m cn : Str} {o : Expr} {pos apos : Pos} {kws : List Keyword} {ta : TE} {tk : TA} {gV : List V → List V → List V} {E : XK} {C : Addr} (hC : C = He.ga X.K cn) (hb : PE X o ta) (c : Cls X.K C) (hm : Meth X.K C m (He.fAd X.K (cn, some m)))
    (O : OkK X.prog X.w X.K X.mg X.base CX k (cn, some m) ps 1 ks gV sp) (hr : Room j X.A) (hj : k ≤ j) (hx : Passes CX X E) (hkw : PK X kws tk) {pl : Sem Bool}
    (hall : (backToKw pos (keywordEach kws X.env)).all (·.1.isSome) = true := by rfl) (hks : (backToKw pos (keywordEach kws X.env)).filterMap (·.1) = ks := by rfl)
    (hpl : ((backTo pos (starEach [] X.env)).any (·.1) || (backToKw pos (keywordEach kws X.env)).any (·.1.isNone)) = false := by rfl)
    (ht : eval (.Call (.Attribute o m apos) [] kws pos) X.env = (do
      let ov ← eval o X.env
      standAt apos.atName
      let (f, first) ← holding [ov] (getMethod ov m pl)
      callWith pos f first (backTo pos (starEach [] X.env)) (backToKw pos (keywordEach kws X.env))) := by rfl) :
    PE X (.Call (.Attribute o m apos) [] kws pos) (tMethK C m ks.length sp gV E ta tk) := by
  obtain ⟨fd, g, F, b⟩ := O.ex
  refine ⟨fun pins s σ H Q I h => ?_⟩
  refine PySem.W.methodCall_KW (pl := pl) (thn (hb.run pins s σ H _ I h) fun u s1 ⟨x, H1, I1, rx, a, dx, fs, ex, ea, l, q⟩ => ?_) ht
  subst ex
  obtain rfl : u = Value.ref a := rx
  refine getmeth_ok I1 ea c hm l ?_
  refine PySem.W.callWith_KW0 (first := [.ref a]) (h₀ := X.base) I.ok.mod.kin hm.kp hall ?_ hpl
  refine thn (hkw.run pos pins s1 σ H1 _ I1 q) fun ws s2 ⟨zs, H2, I2, rz, l2, q2⟩ => ⟨I2.kIn, ?_⟩
  rw [hks]
  exact run_fnN (us := [.ref a]) (vs := [.ref a]) F (hr.mono hj) b hx I2 (.cons rfl .nil) rz rfl l2 q2
/-! ### o != o of a class with an own == alone -/
section
open PySem.W PySem.Calls
variable {M : Model} {prog : Program} {w : World} {A : Around} {E : Value → Shared → Prop} {s : Shared} {K : Frag} {x y C f : Addr} {ox oy : Obj} {od od' : Option Obj}
theorem ifBound_objNe {args : List Value} {Q : Option Value → Shared → Prop} (X : K.In s.heap) (I : InstAt s.heap x ox C od) (hs : findIn K (.ref C) "__ne__" = some (some (.builtin "object.__ne__")))
    (h : wpAny M A (call (.builtin "object.__ne__") (.ref x :: args)) (fun v => Q (some v)) E s) : wpAny M A (callSpecialIfBound? (.ref x) "__ne__" args) Q E s := by
  simp only [callSpecialIfBound?, bindSpecialIfBound?]
  refine wpAny_holding (wpAny_bind (wpAny_bind (wpAny_bind (I.type.here ((looks_findIn X hs).here ?_)))))
  refine wpAny_bind (wpAny_askSetting (wpAny_ite ?_))
  have fin : wpAny M A (call (.builtin "object.__ne__") ([.ref x] ++ args) >>= fun v => pure (some v)) Q E s := wpAny_bind (wpAny_mono h (fun v s' h' => wpAny_pure h') fun _ _ h' => h')
  split
  · exact wpAny_bind (wpAny_of_eq (F.cmp_object.ne.bind _) (wpAny_pure (by exact fin)))
  · exact wpAny_tryCatch (wpAny_bind (wpAny_of_eq (F.cmp_object.ne.bind _) (wpAny_pure (by exact fin))))
def NeBack (Q : Value → Shared → Prop) (v : Value) (s' : Shared) : Prop := ∃ t, v = .bool t ∧ Q (.bool (!t)) s'
theorem entry_ne {Q : Fin → Shared → Prop} (hu : A.units < cLine) (X : K.In s.heap) (I : InstAt s.heap x ox C od) (hs : findIn K (.ref C) "__eq__" = some (some (.ref f))) (hf : isFn K (.ref f) = true)
    (h : wpAny (model prog w) A (call (.ref f) [.ref x, .ref y]) (NeBack fun v => Q (.done (.ret v))) E s) : wpAny (model prog w) A (Builtin.«object.__ne__» ⟨[.ref x, .ref y], []⟩) Q E s := by
  have e : wpAny (model prog w) A (callSpecialIfBound? (.ref x) "__eq__" [.ref y]) (fun r s' => ∃ t, r = some (.bool t) ∧ Q (.done (.ret (.bool (!t)))) s') E s :=
    ifBound_K X I hs hf (wpAny_mono h (fun v s' hv => by obtain ⟨t, rfl, q⟩ := hv; exact ⟨t, rfl, q⟩) fun _ _ e => e)
  unfold Builtin.«object.__ne__»
  repeat (first | with_reducible refine wpAny_cRoomFor hu ?_ | with_reducible refine wpAny_mono e ?_ (fun _ _ e => e) | wp_step)
  rintro r s' ⟨t, rfl, q⟩
  refine wpAny_bind (wpAny_truthy_bool ?_)
  exact wpAny_pure q
theorem call_ne {Q : Value → Shared → Prop} (hu : A.in1.units < cLine) (X : K.In s.heap) (I : InstAt s.heap x ox C od) (hm : mroIn K C (.type "object") = some true) (hs : findIn K (.ref C) "__eq__" = some (some (.ref f))) (hf : isFn K (.ref f) = true)
    (h : wpAny (model prog w) A.in1 (call (.ref f) [.ref x, .ref y]) (NeBack Q) E s) :
    wpAny (model prog w) A (call (.builtin "object.__ne__") [.ref x, .ref y]) Q E s :=
  wpAny_call (codeAny_call_builtin F.cmp_object.ne.plain F.cmpEntry_ne (check_slot F.cmpKind_ne F.cmpSplit_ne (I.type.andThen (looks_mroIn X hm)) (F.cmpArgs_ne _ _) (entry_ne hu X I hs hf h)))
theorem rc_ne {Q : Value → Shared → Prop} (hu : A.units < cLine) (hu1 : A.in1.units < cLine) (X : K.In s.heap) (I : InstAt s.heap x ox C od) (I' : InstAt s.heap y oy C od') (hm : mroIn K C (.type "object") = some true)
    (hn : findIn K (.ref C) "__ne__" = some (some (.builtin "object.__ne__"))) (hs : findIn K (.ref C) "__eq__" = some (some (.ref f))) (hf : isFn K (.ref f) = true)
    (h : wpAny (model prog w) A.in1 (call (.ref f) [.ref x, .ref y]) (NeBack Q) E s) : wpAny (model prog w) A (richCompare .NotEq (.ref x) (.ref y)) Q E s := by
  have one : wpAny (model prog w) A (tryCompare (.ref x) "__ne__" (.ref y)) (fun r s' => ∃ v, r = some v ∧ Q v s') E s := by
    unfold tryCompare
    refine wpAny_bind (ifBound_objNe X I hn (call_ne hu1 X I hm hs hf (wpAny_mono h (fun v s' hv => ?_) fun _ _ e => e)))
    obtain ⟨t, rfl, q⟩ := hv
    exact ⟨t, rfl, wpAny_pure ⟨_, rfl, q⟩⟩
  unfold richCompare
  simp only [oneThing_ref]
  refine wpAny_holding (wpAny_bind (wpAny_cRoomFor hu ?_))
  refine wpAny_bind (I.type.here (wpAny_bind (I'.type.here ?_)))
  split
  · rename_i q
    exact absurd q (by simp)
  · refine wpAny_bind (wpAny_pure ?_)
    simp only [Bool.false_eq_true, if_false]
    refine wpAny_bind (wpAny_mono one (fun r s' z => ?_) fun _ _ e => e)
    obtain ⟨v, rfl, hq⟩ := z
    exact wpAny_pure hq
end
def rNeO (C : Addr) (sp : Sp) : R2 := fun x y H Q => ∃ a b dx dy fs gs, x = .ref a ∧ y = .ref b ∧ H a = some (.ins C dx fs) ∧ H b = some (.ins C dy gs) ∧ sp [.ref a, .ref b] H (fun v H' => ∃ t, v = .bl t ∧ Q (.bl (!t)) H') fun _ _ _ => False
theorem cmp_neO {X : Cx} {k j : Nat} {C : Addr} {cn : Str} {ps : List Str} {sp : Sp} (hC : C = He.ga X.K cn) (M : Meth X.K C "__eq__" (He.fAd X.K (cn, some "__eq__"))) (hn : PySem.W.findIn X.K (.ref C) "__ne__" = some (some (.builtin "object.__ne__"))) (hm : PySem.W.mroIn X.K C (.type "object") = some true)
    (O : OkD X.prog X.w X.K X.mg X.base CX0 k (cn, some "__eq__") ps [] sp) (hr : Room j X.A) (hj : k + 1 ≤ j) : OpR X (compareOp .NotEq) (rNeO C sp) := by
  obtain ⟨fd, ds, F, b, v⟩ := O.ex
  cases v
  intro pins s σ H x y v u Q I rx ry h
  obtain ⟨a, b', dx, dy, fs, gs, rfl, rfl, ha, hb, hsp⟩ := h
  cases rx
  cases ry
  obtain ⟨mA, J, _⟩ := ins_get I.hok ha
  obtain ⟨mB, J', _⟩ := ins_get I.hok hb
  obtain ⟨od, J, _⟩ := J.look
  obtain ⟨od', J', _⟩ := J'.look
  have hr1 : Room k X.A.in1 := (hr.mono hj).in1
  refine rc_ne hr.units0 hr1.units0 I.kIn J J' hm hn M.at_ M.fn ?_
  have hl := F.len _ _ _ _ hsp
  have hbb := b s [.ref a, .ref b'] I.kIn (by simpa using hl)
  simp only [List.append_nil] at hbb
  refine wpAny_call (codeAny_mono (F.run X.A.in1 X.stack s H ⟨[.ref a, .ref b'], []⟩ [.ref a, .ref b'] [.ref a, .ref b'] _ _ hr1 I.env0.in1 hbb (.cons rfl (.cons rfl .nil)) hsp) fun r s' hq => ?_)
  cases r with
  | error e => exact hq.elim
  | ok fl =>
    cases fl with
    | ret w =>
      obtain ⟨z, H', I', rz, t, ez, q⟩ := I.after hq
      subst ez
      cases rz
      exact ⟨t, rfl, .bl (!t), H', I', rfl, q⟩
    | next => exact False.elim hq
    | brk => exact False.elim hq
    | cont => exact False.elim hq
end Vf

set_option Elab.async false
set_option linter.all false
set_option maxRecDepth 100000
set_option maxHeartbeats 2000000
/-! ### enumerate over a tuple -/
namespace PySem
open Sem (wp)
open AutoSeq1 (wpAny_loadPart')
theorem vf_enum_newT (l : Addr) (items : Array Value) (n : Nat) (dct : Option Addr) (sl : Array (Option Value)) :
    Meets (Builtin.«enumerate.__new__» ⟨[.type "enumerate", .ref l], []⟩) (fun _ R s => s.heap.get? l = some { cls := .type "tuple", dict := dct, data := .seq items n, slots := sl } ∧
      R (.ok (.ret (.ref (s.heap.push { cls := .type "tuple_iterator", data := .fields #[.ref l, .int 0 0] }).objs.size)))
        { s with heap := (s.heap.push { cls := .type "tuple_iterator", data := .fields #[.ref l, .int 0 0] }).push { cls := .type "enumerate", data := .fields #[.none, .bool false, .ref s.heap.objs.size, rawInt 0, .none, .none] } }) :=
  .of_wp fun prog w A R s h => by
    obtain ⟨hp, g, d, tk, os⟩ := s; obtain ⟨hl, h⟩ := h
    have hsub := sub_enumerate
    have hL : Heap.IsTuple (Shared.heap ⟨hp, g, d, tk, os⟩) l items := ⟨_, hl, rfl, n, rfl⟩
    wp_walk using wpAny_loadPart' hl
    refine wpAny_stack_any fun st => wpAny_pure ?_
    split
    · rename_i c _ _ _ _ _
      cases (c == Value.type "enumerate")
      · wp_walk using wpAny_loadPart' hl, wpAny_pyIter_tuple hL
        exact ⟨_, rfl, h⟩
      · wp_walk using wpAny_loadPart' hl, wpAny_pyIter_tuple hL
        exact ⟨_, rfl, h⟩
    · wp_walk using wpAny_loadPart' hl, wpAny_pyIter_tuple hL
      exact ⟨_, rfl, h⟩
section
variable {prog : Program} {w : World} {A : Around} {E : Value → Shared → Prop} {s : Shared}
theorem vf_call_enumT {l : Addr} {items : Array Value} {Q : Value → Shared → Prop} (hL : s.heap.IsTuple l items)
    (h : ∀ h', IsEnum h' (s.heap.objs.size + 1) s.heap.objs.size 0 .none → h'.IsTupleIter s.heap.objs.size l 0 → h'.objs.size = s.heap.objs.size + 2 →
      (∀ b o, s.heap.get? b = some o → h'.get? b = some o) → Q (.ref (s.heap.objs.size + 1)) { s with heap := h' }) :
    wpAny (model prog w) A (call (.type "enumerate") [.ref l]) Q E s := by
  obtain ⟨⟨c, dct, dt, sl⟩, hl, hc, n, hd⟩ := hL
  replace hc : c = .type "tuple" := hc
  replace hd : dt = .seq items n := hd
  subst hc hd
  refine callType_new F.called_enumerate (by decide) (F.typeCall_enumerate_1 _) (F.newCall_enumerate_1 _) (fun obj => F.args_object_init_2 obj _) F.entry_enumerate_new
    (vf_enum_newT l items n dct sl) ⟨hl, ?_⟩
  have hz : (s.heap.push { cls := .type "tuple_iterator", data := .fields #[.ref l, .int 0 0] }).objs.size = s.heap.objs.size + 1 := Heap.size_push ..
  show _ ∧ _
  rw [hz]
  have he : IsEnum ((s.heap.push { cls := .type "tuple_iterator", data := .fields #[.ref l, .int 0 0] }).push
      { cls := .type "enumerate", data := .fields #[.none, .bool false, .ref s.heap.objs.size, rawInt 0, .none, .none] }) (s.heap.objs.size + 1) s.heap.objs.size 0 .none := by
    have := Heap.get?_push_size (s.heap.push { cls := .type "tuple_iterator", data := .fields #[.ref l, .int 0 0] })
      (o := { cls := .type "enumerate", data := .fields #[.none, .bool false, .ref s.heap.objs.size, rawInt 0, .none, .none] }) rfl
    rw [hz] at this; exact this
  refine ⟨⟨_, he, rfl⟩, h _ he ⟨_, Heap.get?_push_of_some _ (Heap.get?_push_size _ rfl), rfl, rfl⟩ (by rw [Heap.size_push, hz]) fun b o x => Heap.get?_push_of_some _ (Heap.get?_push_of_some _ x)⟩
end
end PySem
namespace Vf
open PySem PySem.Spec PyProof.Rows L2
/-- the tuple at a, each item in a new pair -/
def IteT (K : PySem.W.Frag) (a : Addr) : It :=
  ⟨fun i H => ∃ (xs : List V) (x : V), SqT K H a xs ∧ xs[i]? = some x, fun i H v H' => ∃ T x, v = .ref T ∧ H T = none ∧ H' = upd H T (.tup [.int (i : Nat), x]) ∧ ∀ xs, SqT K H a xs → xs[i]? = some x, fun i H => ∃ xs : List V, SqT K H a xs ∧ xs.length = i⟩
theorem turn_enumT {P : Program} {w : World} {K : PySem.W.Frag} {elts : List Expr} {kk : Nat} {tpos : Pos} (a e it : Addr) :
    Turn P w K (.Tuple elts kk tpos) (IteT K a) [e, it] e (fun i h => (∃ old, IsEnum h e it ((i : Nat) : Int) old) ∧ h.IsTupleIter it a i ∧ e ≠ it) where
  mem := by simp
  obj := fun i h st b hb => by
    obtain ⟨⟨old, he⟩, ⟨o, ho, hc, hd⟩, _⟩ := st
    have e' : b = e ∨ b = it := by simpa using hb
    rcases e' with z | z
    · rw [z]; exact ⟨_, he, fun v q => nomatch q⟩
    · rw [z]; exact ⟨o, ho, fun v q => by rw [hd] at q; cases q⟩
  keep := fun i h h' st k => let ⟨⟨old, he⟩, hi, hne⟩ := st; ⟨⟨old, k e (by simp) _ he⟩, hi.at fun o q => k it (by simp) o q, hne⟩
  item := by
    intro X hP hw hK hc i pins s σ H E I hf st hg
    subst hP hw hK
    obtain ⟨⟨old, he⟩, hit, hne⟩ := st
    obtain ⟨xs, x, hq, hx⟩ := hg
    obtain ⟨its, rv, p, hz⟩ := I.tuple hq
    obtain ⟨u, hu, ru⟩ := rv.get hx
    have pT : s.heap.IsTuple a its.toArray := p
    have hel : e < s.heap.objs.size := Heap.lt_size he
    have hil : it < s.heap.objs.size := by obtain ⟨_, q, _⟩ := hit; exact Heap.lt_size q
    have nai : a ≠ it := fun z => by
      subst z
      obtain ⟨o1, h1, c1, _⟩ := pT
      obtain ⟨o2, h2, c2, _⟩ := hit
      rw [h1] at h2
      cases h2
      rw [c1] at c2
      injection c2 with c2
      exact absurd c2 (by decide)
    have nae : a ≠ e := fun z => by
      subst z
      obtain ⟨o1, h1, c1, _⟩ := pT
      rw [show s.heap.get? a = _ from he] at h1
      cases h1
      injection c1 with c1
      exact absurd c1 (by decide)
    have hli : i < its.toArray.size := by
      have := (List.getElem?_eq_some_iff.mp hu).1
      simpa using this
    have hh : X.A.in1.handled = none := I.ok.hd hc
    refine wpAny_pyNext_enum_itemD (Draws.tuple hh it a nai its.toArray) he ⟨hit, pT⟩ hli hne (by simp [hne, nae.symm]) fun v h' tk hv ho hit' hT hsz hk => ?_
    have ev : v = u := by
      have h1 : its[i]? = some v := by simpa using hv
      rw [hu] at h1
      exact (Option.some.inj h1).symm
    subst ev
    refine ⟨_, rfl, wpAny_letOwnedTupleGo_enum (s := { s with heap := h', toks := tk + 1 }) ho fun h'' he' sb => ?_⟩
    have hT2 : h''.get? s.heap.objs.size = some { cls := .type "tuple", data := .seq #[.int i tk, v] } := (sb.2 _ (Nat.ne_of_gt hel)).trans hT
    have new : ObjOk X.prog X.w (upd H s.heap.objs.size (.tup [.int (i : Nat), x])) h'' s.heap.objs.size (.tup [.int (i : Nat), x]) :=
      ⟨by show 2 ≤ sizeLine; decide, [.int i tk, v], .cons ⟨_, rfl⟩ (.cons ru .nil), ⟨_, hT2, rfl, _, rfl⟩⟩
    have I1 : Inv X pins σ (upd H s.heap.objs.size (.tup [.int (i : Nat), x])) { s with heap := h'', toks := tk + 1 } :=
      I.turnedNew (ch := [e, it]) (fun b ob hb q => (sb.2 b (fun z => hb (by simp [z]))).trans (hk b ob (fun z => hb (by simp [z])) (fun z => hb (by simp [z])) q)) hf (Nat.le_refl _) new
    refine ⟨.ref s.heap.objs.size, _, I1, rfl, ⟨_, x, rfl, I.hok.fresh (Nat.le_refl _), rfl, fun ys hy => by rw [I.tuple_inj hy hq]; exact hx⟩, ⟨⟨v, ?_⟩, hit'.1.at fun o q => (sb.2 it (Ne.symm hne)).trans q, hne⟩, fun b hb => ?_⟩
    · have e1 : ((i + 1 : Nat) : Int) = (i : Int) + 1 := by omega
      rw [e1]; exact he'
    · have hb' : b < s.heap.objs.size := by
        have e' : b = e ∨ b = it := by simpa using hb
        rcases e' with z | z
        · rw [z]; exact hel
        · rw [z]; exact hil
      rw [upd_ne (Nat.ne_of_lt hb')]
      exact (hf b hb).1
  done := by
    intro X hP hw hK hc i pins s σ H E I hf st hg
    subst hP hw hK
    obtain ⟨⟨old, he⟩, hit, hne⟩ := st
    obtain ⟨xs, hq, hx⟩ := hg
    obtain ⟨its, rv, p, hz⟩ := I.tuple hq
    have pT : s.heap.IsTuple a its.toArray := p
    obtain ⟨f0, f1, f2, f3, f4, f5⟩ := hf it (by simp)
    have hl := rv.length
    have nai : a ≠ it := fun z => by
      subst z
      obtain ⟨o1, h1, c1, _⟩ := pT
      obtain ⟨o2, h2, c2, _⟩ := hit
      rw [h1] at h2
      cases h2
      rw [c1] at c2
      injection c2 with c2
      exact absurd c2 (by decide)
    have hh : X.A.in1.handled = none := I.ok.hd hc
    have hin : its.toArray.size = i := by simp; omega
    subst hin
    exact wpAny_pyNext_enum_endD (Draws.tuple hh it a nai its.toArray) he ⟨hit, pT⟩ fun h' eb => ⟨rfl, I.turned (t' := s.toks) (fun b o hb q => eb b o hb q) f0 f1 f3 f4 f5⟩
  self := fun A i s Q E st h => let ⟨⟨_, he⟩, _⟩ := st; wpAny_pyIter_enum he h
def iEnumT (K : PySem.W.Frag) (ta : TA) : TI := fun σ H R => ta σ H fun vs H1 => ∃ a xs, vs = [.ref a] ∧ SqT K H1 a xs ∧ R (IteT K a) H1
theorem pi_enumT {X : Cx} {e : Expr} {ta : TA} {p pos tpos : Pos} {elts : List Expr} {kk : Nat} (hg : Gl X "enumerate") (hm : X.mg "enumerate" = none) (ha : PA X [e] ta) (hs : starEach [e] X.env = [(false, eval e X.env)] := by rfl) :
    PI X (.Tuple elts kk tpos) (.Call (.Name "enumerate" p) [e] [] pos) (iEnumT X.K ta) := by
  refine ⟨fun pins s σ H R I h => ?_⟩
  refine Call_ (ld_blt I hg hm boot_enumerate (PyProof.Rows.callWith_type1 (thn (ha.run pos pins s σ H _ I h) fun us s1 ⟨vs, H1, I1, r1, q1⟩ => ?_) hs rfl))
  obtain ⟨a, xs, ex, hq, q⟩ := q1
  subst ex
  cases r1 with
  | cons r rr =>
    cases rr
    cases r
    obtain ⟨its, rv, p', hz⟩ := I1.tuple hq
    refine vf_call_enumT (show s1.heap.IsTuple a its.toArray from p') fun h' he hit hsz hk => wpAny_pyIter_enum he ?_
    have I2 : Inv X pins σ H1 { s1 with heap := h' } := I1.kept (t' := s1.toks) hk
    refine ⟨s1.heap.objs.size + 1, [s1.heap.objs.size + 1, s1.heap.objs.size], _, _, H1, rfl, I2, turn_enumT a (s1.heap.objs.size + 1) s1.heap.objs.size, ⟨⟨.none, he⟩, hit, Nat.succ_ne_self _⟩, fun b hb => ?_, q⟩
    have e' : b = s1.heap.objs.size + 1 ∨ b = s1.heap.objs.size := by simpa using hb
    have hle : s1.heap.objs.size ≤ b := by
      rcases e' with z | z
      · rw [z]; exact Nat.le_add_right _ _
      · rw [z]; exact Nat.le_refl _
    exact I1.fpOk hle (I1.hok.fresh hle)
theorem walk_enumT {K : PySem.W.Frag} {a : Addr} {xs : List V} : Walk (IteT K a) xs.length (fun H => SqT K H a xs) (YPair (fun i => some (.int (i : Nat))) (fun i => xs[i]?)) := by
  refine ⟨fun i _ hi q => ⟨xs, xs[i], q, by simp [hi]⟩, fun _ q => ⟨xs, q, rfl⟩, fun i H v H' _ q y => ?_⟩
  obtain ⟨T, x, h1, h2, h3, h4⟩ := y
  exact ⟨T, .int (i : Nat), x, h1, h2, h3, rfl, h4 xs q⟩
theorem ix_listK {X : Cx} {K : PySem.W.Frag} (h : X.K = K) : IxR X (rIxL K) := h ▸ ix_list
theorem ix_tupK {X : Cx} {K : PySem.W.Frag} (h : X.K = K) : IxR X (rIxT K) := h ▸ ix_tup
/-- a dict comprehension over any walk -/
theorem dc_it {J : It} {n : Nat} {G : Hp → Prop} {Y : Nat → Hp → V → Hp → Prop} (w : Walk J n G Y) {g : TG} {tt : TT} {tk tv : TE} {vs : List Nat} {σ : L2.St} {H1 : Hp} {D : Addr} {Qd : Hp → Prop} (Pv : Nat → Hp → Prop) (h0 : Pv 0 (upd H1 D (.dK []))) (hG : ∀ i H, i ≤ n → Pv i H → G H)
    (hs : ∀ i x H H', i < n → Pv i H → Y i H x H' → g x (wipe σ vs) H' fun σ2 H2 => wipe σ2 vs = wipe σ vs ∧ tt σ2 H2 fun b H3 =>
      if b = true then tk σ2 H3 fun y H4 => tv σ2 H4 fun z H5 => ∃ kvs k, y = kV k ∧ H5 D = some (.dK kvs) ∧ kvs.length < sizeLine ∧ Pv (i + 1) (upd H5 D (.dK (putK kvs k z))) else Pv (i + 1) H3) (hd : ∀ H, Pv n H → Qd H) :
    ∃ W : Nat → Nat → Hp → Prop, (∃ m, W 0 m (upd H1 D (.dK []))) ∧ ∀ i m H, W i m H →
      (J.stop i H ∧ Qd H) ∨ (J.go i H ∧ ∃ Nx : Hp → Prop, (∀ H', Nx H' → ∃ m', m' < m ∧ W (i + 1) m' H') ∧ ∀ x H', J.yld i H x H' → g x (wipe σ vs) H' fun σ2 H2 => wipe σ2 vs = wipe σ vs ∧ tt σ2 H2 fun b H3 =>
        if b = true then tk σ2 H3 fun y H4 => tv σ2 H4 fun z H5 => ∃ kvs k, y = kV k ∧ H5 D = some (.dK kvs) ∧ kvs.length < sizeLine ∧ Nx (upd H5 D (.dK (putK kvs k z))) else Nx H3) := by
  refine ⟨fun i m H => m = n - i ∧ i ≤ n ∧ Pv i H, ⟨n, by simp, Nat.zero_le _, h0⟩, ?_⟩
  rintro i m H ⟨rfl, hi, p⟩
  have q := hG i H hi p
  by_cases hlt : i < n
  · exact .inr ⟨w.goes i H hlt q, Pv (i + 1), fun H' p' => ⟨n - (i + 1), by omega, rfl, hlt, p'⟩, fun x H' y => hs i x H H' hlt p (w.yields i H x H' hlt q y)⟩
  · have e : i = n := by omega
    subst e
    exact .inl ⟨w.stops H q, hd H p⟩
end Vf

set_option Elab.async false
set_option linter.all false
set_option maxRecDepth 100000
set_option maxHeartbeats 2000000
namespace Vf
open PySem PySem.Spec PyProof.Rows L2
/-! ### x in o, o[x], len(o) of a class of the text's own -/
section
variable {X : Cx} {k j : Nat} {C : Addr} {cn : Str} {ps : List Str} {sp : Sp}
def rInO (neg : Bool) (C : Addr) (sp : Sp) : R2 := fun x y H Q => ∃ b dx fs, y = .ref b ∧ H b = some (.ins C dx fs) ∧ sp [.ref b, x] H (fun v H' => ∃ t, v = .bl t ∧ Q (.bl (if neg then !t else t)) H') fun _ _ _ => False
theorem in_run (M : Meth X.K C "__contains__" (He.fAd X.K (cn, some "__contains__"))) (O : OkD X.prog X.w X.K X.mg X.base CX0 k (cn, some "__contains__") ps [] sp) (hr : Room j X.A) (hj : k ≤ j) {pins : List (Addr × Obj)} {σ : L2.St} {H : Hp} {s : Shared} {x : V} {u : Value} {b : Addr} {Qv : VK}
    (I : L2.Inv X pins σ H s) (rx : RelV x u) (hsp : sp [.ref b, x] H (fun v H' => ∃ t, v = .bl t ∧ Qv (.bl t) H') fun _ _ _ => False) {Q : Value → Shared → Prop} (hq : ∀ t s' H', L2.Inv X pins σ H' s' → Qv (.bl t) H' → wpAny (model X.prog X.w) X.A (truthy (.bool t)) (fun b => Q (.bool b)) X.xe s') :
    wpAny (model X.prog X.w) X.A (call (.ref (He.fAd X.K (cn, some "__contains__"))) [.ref b, u]) (fun r s' => wpAny (model X.prog X.w) X.A (truthy r) (fun b => Q (.bool b)) X.xe s') X.xe s := by
  obtain ⟨fd, ds, F, bi, v⟩ := O.ex
  cases v
  have hl := F.len _ _ _ _ hsp
  have hb := bi s [.ref b, u] I.kIn (by simpa using hl)
  simp only [List.append_nil] at hb
  refine wpAny_call (codeAny_mono (F.run X.A X.stack s H ⟨[.ref b, u], []⟩ [.ref b, u] [.ref b, x] _ _ (hr.mono hj) I.env0 hb (.cons rfl (.cons rx .nil)) hsp) fun r s' hq' => ?_)
  cases r with
  | error e => exact hq'.elim
  | ok fl =>
    cases fl with
    | ret w =>
      obtain ⟨z, H', I', rz, t, ez, q⟩ := I.after hq'
      subst ez
      cases rz
      exact hq t s' H' I' q
    | next => exact False.elim hq'
    | brk => exact False.elim hq'
    | cont => exact False.elim hq'
theorem op_inO (M : Meth X.K C "__contains__" (He.fAd X.K (cn, some "__contains__"))) (O : OkD X.prog X.w X.K X.mg X.base CX0 k (cn, some "__contains__") ps [] sp) (hr : Room j X.A) (hj : k ≤ j) : OpR X (compareOp .In) (rInO false C sp) := by
  intro pins s σ H x y v u Q I rx ry h
  obtain ⟨b, dx, fs, rfl, hb, hsp⟩ := h
  cases ry
  obtain ⟨mA, J, _⟩ := ins_get I.hok hb
  obtain ⟨od, J, _⟩ := J.look
  obtain ⟨mm, hF⟩ := I.fr
  exact PySem.W.in_K hF I.ok.mod.kin J M.at_ M.fn (in_run (cn := cn) M O hr hj I rx hsp fun t s' H' I' q => wpAny_truthy_bool ⟨.bl t, H', I', rfl, q⟩)
theorem op_notInO (M : Meth X.K C "__contains__" (He.fAd X.K (cn, some "__contains__"))) (O : OkD X.prog X.w X.K X.mg X.base CX0 k (cn, some "__contains__") ps [] sp) (hr : Room j X.A) (hj : k ≤ j) : OpR X (compareOp .NotIn) (rInO true C sp) := by
  obtain ⟨fd, ds, F, bi, vd⟩ := O.ex
  cases vd
  intro pins s σ H x y v u Q I rx ry h
  obtain ⟨b, dx, fs, rfl, hb, hsp⟩ := h
  cases ry
  obtain ⟨mA, J, _⟩ := ins_get I.hok hb
  obtain ⟨od, J, _⟩ := J.look
  obtain ⟨mm, hF⟩ := I.fr
  have hl := F.len _ _ _ _ hsp
  have hb := bi s [.ref b, v] I.kIn (by simpa using hl)
  simp only [List.append_nil] at hb
  refine PySem.W.notIn_K hF I.ok.mod.kin J M.at_ M.fn (wpAny_call (codeAny_mono (F.run X.A X.stack s H ⟨[.ref b, v], []⟩ [.ref b, v] [.ref b, x] _ _ (hr.mono hj) I.env0 hb (.cons rfl (.cons rx .nil)) hsp) fun r s' hq' => ?_))
  cases r with
  | error e => exact hq'.elim
  | ok fl =>
    cases fl with
    | ret w =>
      obtain ⟨z, H', I', rz, t, ez, q⟩ := I.after hq'
      subst ez
      cases rz
      exact wpAny_truthy_bool ⟨.bl (!t), H', I', rfl, q⟩
    | next => exact False.elim hq'
    | brk => exact False.elim hq'
    | cont => exact False.elim hq'
/-- o[x] -/
def rSubO (C : Addr) (sp : Sp) (E : XK) : R2 := fun x y H Q => ∃ a dx fs, x = .ref a ∧ H a = some (.ins C dx fs) ∧ sp [.ref a, y] H Q E
theorem pe_subO {CX : CXT} {E : XK} {a b : Expr} {pos : Pos} {ta tb : TE} (ha : PE X a ta) (hb : PE X b tb) (M : Meth X.K C "__getitem__" (He.fAd X.K (cn, some "__getitem__"))) (hfn : PySem.W.fnIn X.K (He.fAd X.K (cn, some "__getitem__")) = true)
    (O : OkD X.prog X.w X.K X.mg X.base CX k (cn, some "__getitem__") ps [] sp) (hr : Room j X.A) (hj : k + 1 ≤ j) (hx : Passes CX X E)
    (hsl : ∀ x i, subscripted b true (.ref x) i = runValue (.builtin "lifetime.subscript" ⟨[.ref x, i], []⟩) := by intro _ _; rfl) : PE X (.Subscript a b pos) (tOp (rSubO C sp E) ta tb) := by
  obtain ⟨fd, ds, F, bi, v⟩ := O.ex
  cases v
  refine ⟨fun pins s σ H Q I h => ?_⟩
  refine Subscript_ (binT ha hb I h fun v u s2 x y H2 I2 rx ry q => ?_)
  obtain ⟨p, dx, fs, rfl, hp, hsp⟩ := q
  cases rx
  obtain ⟨mA, J, _⟩ := ins_get I2.hok hp
  obtain ⟨od, J, _⟩ := J.look
  obtain ⟨mm, hF⟩ := I2.fr
  have hl := F.len _ _ _ _ hsp
  have hbb := bi s2 [.ref p, u] I2.kIn (by simpa using hl)
  simp only [List.append_nil] at hbb
  refine PySem.W.sub_K hF I2.ok.mod.kin J M.at_ hfn M.fn (wpAny_call (codeAny_mono (F.run X.A.in1 X.stack s2 H2 ⟨[.ref p, u], []⟩ [.ref p, u] [.ref p, y] _ _ ((hr.mono hj).in1) I2.env0.in1 hbb (.cons rfl (.cons ry .nil)) hsp) fun r s' hq => ?_)) (hsl _ _)
  cases r with
  | error e => exact hx pins σ H2 s2 e s' I2 hq
  | ok fl =>
    cases fl with
    | ret w => exact I2.after hq
    | next => exact False.elim hq
    | brk => exact False.elim hq
    | cont => exact False.elim hq
/-- len(o) -/
def rLenO (C : Addr) (sp : Sp) : List V → Hp → VK → Prop := fun xs H Q => ∃ a dx fs, xs = [.ref a] ∧ H a = some (.ins C dx fs) ∧ sp [.ref a] H (fun v H' => ∃ n : Int, v = .int n ∧ 0 ≤ n ∧ n < 2 ^ 62 ∧ Q (.int n) H') fun _ _ _ => False
theorem call_lenO (M : Meth X.K C "__len__" (He.fAd X.K (cn, some "__len__"))) (O : OkD X.prog X.w X.K X.mg X.base CX0 k (cn, some "__len__") ps [] sp) (hr : Room j X.A) (hj : k + 1 ≤ j) : CallR X (.builtin "len") (rLenO C sp) := by
  obtain ⟨fd, ds, F, bi, v⟩ := O.ex
  cases v
  intro pins s σ H xs us Q I r h
  obtain ⟨a, dx, fs, rfl, ha, hsp⟩ := h
  obtain ⟨u, rfl, ru⟩ : ∃ u, us = [u] ∧ RelV (.ref a) u := by
    cases r with
    | cons p q => cases q; exact ⟨_, rfl, p⟩
  cases ru
  obtain ⟨mA, J, _⟩ := ins_get I.hok ha
  obtain ⟨od, J, _⟩ := J.look
  obtain ⟨mm, hF⟩ := I.fr
  have hl := F.len _ _ _ _ hsp
  have hb := bi s [.ref a] I.kIn (by simpa using hl)
  simp only [List.append_nil] at hb
  refine PySem.W.len_K hF I.ok.mod.kin J M.at_ M.fn (wpAny_call (codeAny_mono (F.run X.A.in1 X.stack s H ⟨[.ref a], []⟩ [.ref a] [.ref a] _ _ ((hr.mono hj).in1) I.env0.in1 hb (.cons rfl .nil) hsp) fun r s' hq => ?_))
  cases r with
  | error e => exact hq.elim
  | ok fl =>
    cases fl with
    | ret w =>
      obtain ⟨z, H', I', rz, n, ez, n0, n1, q⟩ := I.after hq
      subst ez
      obtain ⟨t, rfl⟩ := rz
      exact ⟨⟨n0, by omega⟩, .int n, H', I'.tok _, ⟨_, rfl⟩, q⟩
    | next => exact False.elim hq
    | brk => exact False.elim hq
    | cont => exact False.elim hq
end
end Vf
/-! ### == of dicts whose values have an == that runs -/
namespace PySem.W
open Lean Elab Tactic Meta PySem PySem.Calls PyProof.Rows PyProof.V PySem.Spec
section
variable {prog : Program} {w : World} {K : Type} [DecidableEq K] {knd : KeyKind prog w K} {A : Around} {E : Value → Shared → Prop} {s : Shared}
def VfEqJ (prog : Program) (w : World) (A : Around) (E : Value → Shared → Prop) (J : Shared → Prop) (v y : Value) (e : Bool) : Prop := ∀ (s : Shared) (Q : Bool → Shared → Prop), J s → (∀ s', J s' → Q e s') → wpAny (model prog w) A (eqBool v y) Q E s
inductive VfHits {K : Type} [DecidableEq K] (prog : Program) (w : World) (A : Around) (E : Value → Shared → Prop) (J : Shared → Prop) (kb : List (K × Value)) : List (K × Value) → Bool → Prop
  | nil : VfHits prog w A E J kb [] true
  | miss {k : K} {v : Value} {r : List (K × Value)} : valueAt kb k = none → VfHits prog w A E J kb ((k, v) :: r) false
  | hit {k : K} {v y : Value} {r : List (K × Value)} {e b : Bool} : valueAt kb k = some y → VfEqJ prog w A E J v y e → VfHits prog w A E J kb r b → VfHits prog w A E J kb ((k, v) :: r) (e && b)
theorem VfHits.inv {J : Shared → Prop} {kb : List (K × Value)} {k : K} {v : Value} {r : List (K × Value)} {b : Bool} (h : VfHits prog w A E J kb ((k, v) :: r) b) :
    (valueAt kb k = none ∧ b = false) ∨ ∃ y e b', valueAt kb k = some y ∧ VfEqJ prog w A E J v y e ∧ VfHits prog w A E J kb r b' ∧ b = (e && b') := by
  cases h with
  | miss hn => exact .inl ⟨hn, rfl⟩
  | hit hy he hr => exact .inr ⟨_, _, _, hy, he, hr, rfl⟩
theorem vf_samePairs {J : Shared → Prop} {nm : String} {a b : Addr} {ka kb : List (K × Value)} {r : Bool} {Q : Bool → Shared → Prop} (ha : (a == sysModules) = false) (hb : (b == sysModules) = false)
    (hJ : ∀ s', J s' → s'.heap.get? a = s.heap.get? a ∧ s'.heap.get? b = s.heap.get? b) (h0 : J s) (da : s.heap.DictOf knd a ka) (db : s.heap.DictOf knd b kb) (hits : ka.length = kb.length → VfHits prog w A E J kb ka r) (h : ∀ s', J s' → Q (ka.length == kb.length && r) s') :
    wpAny (model prog w) A (Builtin.Dict.samePairs nm a b) Q E s := by
  obtain ⟨oa, es, ep, hoa, _, hda, hka, hpa, _⟩ := da
  obtain ⟨ob, es', ep', hob, _, hdb, hkb, hpb, _⟩ := db
  have hla : ka.length = es.size := by rw [← hpa.length]; exact Array.length_toList
  have hlb : kb.length = es'.size := by rw [← hpb.length]; exact Array.length_toList
  have hfind : ∀ k, findBy knd.is es' k = valueAt kb k := fun k => by
    rw [← hpb.find k]
    clear hlb hpb hkb hdb hob
    obtain ⟨l⟩ := es'
    simp [findBy]
  have hA : ∀ {s'}, J s' → s'.heap.get? a = some oa := fun j => (hJ _ j).1.trans hoa
  have hB : ∀ {s'}, J s' → s'.heap.get? b = some ob := fun j => (hJ _ j).2.trans hob
  rw [hla, hlb] at h
  unfold Builtin.Dict.samePairs Builtin.Dict.showsAll
  rw [if_neg (show ¬ (a == sysModules) = true by rw [ha]; exact Bool.false_ne_true), if_neg (show ¬ (b == sysModules) = true by rw [hb]; exact Bool.false_ne_true)]
  refine wpAny_bind (wpAny_pure (wpAny_bind (wpAny_pure ?_)))
  refine wpAny_bind (wpAny_dictEntries hoa hda ?_)
  dsimp only
  refine wpAny_bind (wpAny_dictEntries hob hdb ?_)
  by_cases hsz : es.size = es'.size
  case neg =>
    rw [if_pos (by simpa using hsz)]
    have hbf : (es.size == es'.size) = false := by simpa using hsz
    rw [hbf, Bool.false_and] at h
    exact wpAny_bind (wpAny_rule (wpAny_pure (h _ h0)))
  case pos =>
    have h' : ∀ s', J s' → Q r s' := fun s' j => by simpa [hsz] using h s' j
    have hits' := hits (by rw [hla, hlb]; exact hsz)
    rw [if_neg (by rw [hsz]; simp)]
    refine wpAny_bind (wpAny_dictEpoch hoa hda ?_)
    refine wpAny_bind ?_
    rw [Std.Legacy.Range.forIn_eq_forIn_range']
    simp only [Std.Legacy.Range.size, Nat.sub_zero, Nat.add_sub_cancel, Nat.div_one]
    refine wpAny_forIn_list _
      (fun rest q s' => J s' ∧ q = (none, ()) ∧ ∃ i, rest = List.range' i (es.size - i) ∧ i ≤ es.size ∧ VfHits prog w A E J kb (ka.drop i) r)
      _ ?_ ?_ _ _ ⟨h0, rfl, 0, by simp, Nat.zero_le _, hits'⟩
    · rintro x rest q s' ⟨js, rfl, i, hr, hi, hpre⟩
      have hlt : i < es.size := by
        rcases Nat.lt_or_ge i es.size with h | h
        · exact h
        · rw [Nat.sub_eq_zero_of_le h] at hr; simp at hr
      obtain ⟨rfl, hrest⟩ : x = i ∧ rest = List.range' (i + 1) (es.size - (i + 1)) := by
        have e : es.size - i = (es.size - (i + 1)) + 1 := by omega
        rw [e, List.range'_succ] at hr
        injection hr with h1 h2
        exact ⟨h1, h2⟩
      refine wpAny_bind (wpAny_dictEntries (hA js) hda ?_)
      rw [Array.getElem?_eq_getElem hlt]
      have hlt' : x < ka.length := by rw [hla]; exact hlt
      obtain ⟨k, v, hkv⟩ : ∃ k v, ka[x] = (k, v) := ⟨_, _, rfl⟩
      have hdrop : ka.drop x = (k, v) :: ka.drop (x + 1) := by rw [← hkv]; exact List.drop_eq_getElem_cons hlt'
      obtain ⟨hkey, hval⟩ := hpa.get? (i := x) (e := es[x]) (k := k) (v := v) (by rw [Array.getElem?_toList]; exact Array.getElem?_eq_getElem hlt) (by rw [List.getElem?_eq_getElem hlt', hkv])
      obtain ⟨k', hk', hh⟩ := hka es[x] (Array.getElem_mem hlt)
      have ekk : k' = k := knd.inj _ _ _ hk' hkey
      rw [ekk] at hh
      rw [hdrop] at hpre
      show wpAny _ _ (holding [es[x].key, es[x].val] _ >>= _) _ _ _
      rw [hh]
      refine wpAny_bind (wpAny_holding (wpAny_bind (wpAny_dictFind_of hkey (hB js) hdb hkb ?_)))
      cases hj : es'.findIdx? fun e => knd.is k e.key with
      | none =>
        have hn : valueAt kb k = none := by rw [← hfind k, findBy_of_findIdx?, hj]
        rcases hpre.inv with ⟨_, er⟩ | ⟨y, _, _, hy, _⟩
        · rw [er] at h'
          refine wpAny_pure ?_
          show wpAny _ _ (if (!false) = true then _ else _) _ _ _
          rw [if_pos (by decide)]
          exact wpAny_pure (wpAny_pure (h' _ js))
        · rw [hn] at hy; exact nomatch hy
      | some j =>
        obtain ⟨hjlt, _, _⟩ := Array.findIdx?_eq_some_iff_getElem.mp hj
        have hv' : valueAt kb k = some es'[j].val := by
          rw [← hfind k, findBy_of_findIdx?, hj]
          simp [Array.getElem?_eq_getElem hjlt]
        refine wpAny_bind (wpAny_dictEntries (hB js) hdb ?_)
        rw [Array.getElem?_eq_getElem hjlt]
        rcases hpre.inv with ⟨hn, _⟩ | ⟨y, e, b', hy, he, hrr, er⟩
        · rw [hv'] at hn; exact nomatch hn
        · have ey : es'[j].val = y := Option.some.inj (hv'.symm.trans hy)
          rw [← ey, ← hval] at he
          refine wpAny_holding (he _ _ js fun s2 js2 => ?_)
          cases e with
          | false =>
            rw [er, Bool.false_and] at h'
            show wpAny _ _ (if (!false) = true then _ else _) _ _ _
            rw [if_pos (by decide)]
            exact wpAny_pure (wpAny_pure (h' _ js2))
          | true =>
            rw [Bool.true_and] at er
            rw [← er] at hrr
            show wpAny _ _ (if (!true) = true then _ else _) _ _ _
            rw [if_neg (by decide)]
            refine wpAny_bind (wpAny_dictEpoch (hA js2) hda ?_)
            rw [if_neg (by simp)]
            exact wpAny_pure ⟨js2, rfl, x + 1, hrest, hlt, hrr⟩
    · rintro q s' ⟨js, rfl, i, hr, hi, hpre⟩
      have hin : i = es.size := by
        rcases Nat.lt_or_ge i es.size with h | h
        · have e : es.size - i = (es.size - (i + 1)) + 1 := by omega
          rw [e, List.range'_succ] at hr; exact nomatch hr
        · exact Nat.le_antisymm hi h
      refine wpAny_pure ?_
      rw [hin, ← hla, List.drop_length] at hpre
      cases hpre
      exact h' _ js
theorem vf_rcDicts {J : Shared → Prop} {a b : Addr} {ka kb : List (K × Value)} {r : Bool} (ha : (a == sysModules) = false) (hb : (b == sysModules) = false)
    (hJ : ∀ s', J s' → s'.heap.get? a = s.heap.get? a ∧ s'.heap.get? b = s.heap.get? b) (h0 : J s) (da : s.heap.DictOf knd a ka) (db : s.heap.DictOf knd b kb) (hu : A.units < cLine) (hits : ka.length = kb.length → VfHits prog w A.in1 E J kb ka r) {Q : Value → Shared → Prop} (h : ∀ s', J s' → Q (.bool (ka.length == kb.length && r)) s') : wpAny (model prog w) A (compareOp .Eq (.ref a) (.ref b)) Q E s := by
  refine wpAny_richCompare_same_room (op := .Eq) da.typeIs db.typeIs PySem.F.slot_dict_eq (wpAny_call_entry PySem.F.slot_dict_eq da.typeIs PySem.F.entry_dict_eq ?_ (PySem.F.args_dict_eq_2 _ _)) hu
  show wpAny _ _ (Builtin.Dict.dictSlotArgs "__eq__" ⟨[.ref a, .ref b], []⟩ >>= _) _ _ s
  refine wpAny_bind ?_
  unfold Builtin.Dict.dictSlotArgs
  refine wpAny_bind (wpAny_notOrdered_dict da.typeIs ?_)
  show wpAny _ _ (pure (Value.ref a, Value.ref b)) _ _ s
  refine wpAny_pure ?_
  refine wpAny_bind (wpAny_isInstance (T := "dict") db.typeIs PySem.F.sub_dict_dict ?_)
  simp only [Bool.not_true, Bool.false_eq_true, if_false]
  refine wpAny_bind (wpAny_pure (wpAny_bind (wpAny_pure ?_)))
  refine wpAny_bind (vf_samePairs ha hb hJ h0 da db hits fun s' js => ?_)
  refine wpAny_pure ⟨_, rfl, ?_, ?_⟩
  · exact fun x => nomatch x
  · simpa using h s' js
end
end PySem.W
namespace Vf
open PySem PySem.Spec PyProof.Rows L2
/-- the entries of a dict against another dict; ls: the other one -/
inductive DHits (D : V → V → Bool → Prop) (ls : List (Key × V)) : List (Key × V) → Bool → Prop
  | nil : DHits D ls [] true
  | miss {k : Key} {v : V} {r : List (Key × V)} : valV ls k = none → DHits D ls ((k, v) :: r) false
  | hit {k : Key} {v y : V} {r : List (Key × V)} {e b : Bool} : valV ls k = some y → D v y e → DHits D ls r b → DHits D ls ((k, v) :: r) (e && b)
theorem DHits.vf {P : Program} {w : World} {A : Around} {E : Value → Shared → Prop} {J : Shared → Prop} {D : V → V → Bool → Prop} {ls : List (Key × V)} {vb : List (Key × Value)} (rb : KV ls vb)
    (hD : ∀ {x y u v b}, D x y b → RelV x u → RelV y v → PySem.W.VfEqJ P w A E J u v b) : ∀ {ks : List (Key × V)} {va : List (Key × Value)} {r : Bool}, KV ks va → DHits D ls ks r → PySem.W.VfHits P w A E J vb va r
  | [], _, _, ra, h => by
    cases h
    cases ra
    exact .nil
  | (k, x) :: ks, va, r, ra, h => by
    cases ra with
    | @cons _ q _ qs h1 h2 =>
      obtain ⟨e, rx⟩ := h1
      obtain ⟨k', u⟩ := q
      dsimp only at e
      subst e
      have hv := rb.val k
      cases h with
      | miss hn =>
        rw [hn] at hv
        refine .miss ?_
        cases hq : valueAt vb k with
        | none => rfl
        | some z =>
          rw [hq] at hv
          exact hv.elim
      | hit hy he hr =>
        rw [hy] at hv
        obtain ⟨z, hz, rz⟩ := hv.some_of
        exact .hit hz (hD he rx rz) (DHits.vf rb hD h2 hr)
section
variable {X : Cx}
/-- == of two dicts by the values' own == -/
def rEqDB (D : Eqb) : R2 := fun x y H Q => ∃ a b ks ls r, x = .ref a ∧ y = .ref b ∧ a ≠ b ∧ H a = some (.dK ks) ∧ H b = some (.dK ls) ∧
  (ks.length = ls.length → DHits (fun v y e => ∀ H', (∀ c o, c ≠ a → c ≠ b → H c = some o → H' c = some o) → D v y H' e) ls ks r) ∧ ∀ H', Ext H H' → Q (.bl (ks.length == ls.length && r)) H'
theorem op_eqDB {n : Nat} {D : Eqb} (h : EqB X n D) (hr : Room (n + 1) X.A) : OpR X (compareOp .Eq) (rEqDB D) := by
  intro pins s σ H x y v u Q I rx ry hq
  obtain ⟨a, b, ks, ls, r, rfl, rfl, nab, ea, eb, hits, q⟩ := hq
  cases rx
  cases ry
  obtain ⟨_, ya, va, ra, da⟩ := (show ObjOk X.prog X.w H s.heap a (.dK ks) from I.hok a _ ea)
  obtain ⟨_, yb, vb, rb, db⟩ := (show ObjOk X.prog X.w H s.heap b (.dK ls) from I.hok b _ eb)
  obtain ⟨oa, Ia⟩ := I.lock ea trivial
  have eb1 : (upd H a (.frz oa (.dK ks))) b = some (.dK ls) := by rw [upd_ne nab.symm]; exact eb
  obtain ⟨ob, Ib⟩ := Ia.lock eb1 trivial
  have fa : (upd (upd H a (.frz oa (.dK ks))) b (.frz ob (.dK ls))) a = some (.frz oa (.dK ks)) := by rw [upd_ne nab, upd_same]
  have fb : (upd (upd H a (.frz oa (.dK ks))) b (.frz ob (.dK ls))) b = some (.frz ob (.dK ls)) := upd_same
  have out : ∀ c o, c ≠ a → c ≠ b → H c = some o → (upd (upd H a (.frz oa (.dK ks))) b (.frz ob (.dK ls))) c = some o := fun c o h1 h2 e => by rw [upd_ne h2, upd_ne h1]; exact e
  have noa := I.nofrz ea trivial
  have nob := Ia.nofrz eb1 trivial
  generalize upd (upd H a (.frz oa (.dK ks))) b (.frz ob (.dK ls)) = H2 at Ib fa fb out
  refine PySem.W.vf_rcDicts (knd := mixKind X.prog X.w) (r := r) (J := fun s' => ∃ H', L2.Inv X pins σ H' s' ∧ Ext H2 H') ya yb (fun s' js => ?_) ⟨H2, Ib, Ext.rfl'⟩ da db hr.units0 (fun hl => ?_) fun s' js => ?_
  · obtain ⟨H', I', e⟩ := js
    exact ⟨(I'.frzK (e _ _ fa)).2.1.trans (Ib.frzK fa).2.1.symm, (I'.frzK (e _ _ fb)).2.1.trans (Ib.frzK fb).2.1.symm⟩
  · refine DHits.vf rb (fun {x y u v bb} hd rx ry s2 Q2 js k => ?_) ra (hits (by rw [ra.length, rb.length]; exact hl))
    obtain ⟨H', I', e⟩ := js
    refine wpAny_mono (h X.A.in1 pins s2 σ H' x y u v bb ⟨hr.in1, rfl⟩ I' rx ry (hd H' fun c o h1 h2 hc => e _ _ (out c o h1 h2 hc))) (fun r2 s3 q2 => ?_) fun _ _ z => z
    obtain ⟨h2, H3, I3, e2⟩ := q2
    subst h2
    exact k s3 ⟨H3, I3, e.trans e2⟩
  · obtain ⟨H', I', e⟩ := js
    have fa' := e _ _ fa
    have fb' := e _ _ fb
    have I2 := I'.unlock fb' nob
    have fa2 : (upd H' b (.dK ls)) a = some (.frz oa (.dK ks)) := by rw [upd_ne nab]; exact fa'
    have I3 := I2.unlock fa2 noa
    refine ⟨.bl _, _, I3, by rw [← ra.length, ← rb.length]; rfl, q _ fun c o hc => ?_⟩
    by_cases h1 : c = a
    · subst h1
      rw [ea] at hc
      cases hc
      exact upd_same
    · rw [upd_ne h1]
      by_cases h2 : c = b
      · subst h2
        rw [eb] at hc
        cases hc
        exact upd_same
      · rw [upd_ne h2]
        exact e _ _ (out c o h1 h2 hc)
/-- data beside data -/
def DDat (K : PySem.W.Frag) : Eqb := fun x y H b => ∃ d e, Dp K H x d ∧ Dp K H y e ∧ SeqAt.shaped d = true ∧ SeqAt.shaped e = true ∧ b = PyData.eqv d e ∧ (x = y → b = true)
theorem eqB_dat {n : Nat} : EqB X n (DDat X.K) := fun A pins s σ H x y u v b sb I rx ry hd => by
  obtain ⟨d, e, h1, h2, sd, se, rfl, hid⟩ := hd
  obtain ⟨as, r1⟩ := Dp.reads I d x u h1 rx
  obtain ⟨bs, r2⟩ := Dp.reads I e y v h2 ry
  have hf : ∀ i t, u ≠ .float i t := fun i t z => by
    subst z
    cases h1 <;> first | (cases rx; done) | (obtain ⟨_, z⟩ := rx; cases z; done)
  have hxy : (u == v) = true → x = y := fun z => by
    have euv := eq_of_beq z
    subst euv
    cases h1 <;> cases h2 <;> first
      | (cases rx; cases ry; rfl)
      | (cases rx; cases ry; done)
      | (obtain ⟨t, q⟩ := rx; obtain ⟨t', q'⟩ := ry; rw [q] at q'; injection q' with q1 q2; rw [q1])
      | (obtain ⟨t, q⟩ := rx; obtain ⟨t', q'⟩ := ry; rw [q] at q'; cases q'; done)
      | (cases rx; obtain ⟨t, q⟩ := ry; cases q; done)
      | (obtain ⟨t, q⟩ := rx; cases ry; cases q; done)
  exact eqB_of_rc (fun z => hid (hxy z)) hf I (SeqAt.compareEq_shaped (A := A) r1 r2 sd se sb.room.units ⟨.bl _, H, I, rfl, rfl, Ext.rfl'⟩)
end
end Vf

set_option Elab.async false
set_option linter.all false
set_option maxRecDepth 100000
set_option maxHeartbeats 2000000
namespace PySem.W
open PySem PySem.SeqAt MeetsSeq
section
variable {prog : Program} {w : World} {A : Around} {E : Value → Shared → Prop} {s : Shared} {a : Addr} {o : Obj}
theorem vf_no_dic_str {z : Str} {t : Tok} (ha : s.heap.get? a = some o) (hc : o.cls = .type "dict") {Q : Fin → Shared → Prop} (h : Q (.done (.ret .notImplemented)) s) : wpAny (model prog w) A (PySem.Builtin.«dict.__eq__» ⟨[.ref a, .str z t], []⟩) Q E s := by
  have f1 := PySem.F.sub_str_dict
  wp_walk
  exact h
theorem vf_no_str_dic {z : Str} {t : Tok} {es : Array DictEntry} {ep : Nat} (ha : s.heap.get? a = some o) (hd : o.data = .dict es ep) {Q : Fin → Shared → Prop} (h : Q (.done (.ret .notImplemented)) s) : wpAny (model prog w) A (PySem.Builtin.«str.__eq__» ⟨[.str z t, .ref a], []⟩) Q E s := by
  obtain ⟨hp, gg, d, tk, os⟩ := s
  obtain ⟨oc, odd, oda, osl⟩ := o
  dsimp only at hd
  subst hd
  wp_walk using AutoSeq1.wpAny_loadPart' ha
  exact h
theorem vf_rc_str_dict {b : Str} {u : Tok} {es : Array DictEntry} {ep : Nat} (ho : s.heap.get? a = some o) (hc : o.cls = .type "dict") (hd : o.data = .dict es ep) (hu : A.units < cLine) : RcAt A s (.str b u) (.ref a) false := fun prog w E Q h => by
  have tb : s.TypeIs (.ref a) "dict" := ⟨o, ho, hc⟩
  exact rc_eq_decline_or (k := false) (typeIs_str s b u) tb (by decide) PySem.F.sub_dict_str PySem.F.slot_str_eq PySem.F.slot_dict_eq_refl
    (fun _ hq => wpAny_call_entry PySem.F.slot_str_eq (typeIs_str s b u) PySem.F.entry_str_eq (vf_no_str_dic ho hd ⟨_, rfl, hq⟩) (PySem.F.args_str_eq_2 _ _))
    (fun _ hq => wpAny_call_entry PySem.F.slot_dict_eq_refl tb PySem.F.entry_dict_eq (vf_no_dic_str ho hc ⟨_, rfl, hq⟩) (PySem.F.args_dict_eq_2 _ _))
    (fun _ hq => wpAny_of_eq (rfl : isSame (.str b u) (.ref a) = pure false) hq) (.inr hu) h
theorem vf_str_dict {b : Str} {u : Tok} {es : Array DictEntry} {ep : Nat} (ho : s.heap.get? a = some o) (hc : o.cls = .type "dict") (hd : o.data = .dict es ep) (hu : A.units < cLine) : EqAt A s (.str b u) (.ref a) false := fun prog w E Q h => by
  unfold eqBool
  refine wpAny_holding ?_
  refine wpAny_ite_split (fun hab => absurd (eq_of_beq hab) nofun) (fun _ => ?_)
  exact wpAny_bind (vf_rc_str_dict ho hc hd hu prog w E _ (wpAny_truthy_bool h))
end
end PySem.W
namespace Vf
open PySem PySem.Spec PyProof.Rows L2
/-- == of two items, in place -/
inductive EqI (K : PySem.W.Frag) (H : Hp) : V → V → Bool → Prop
  | flat {x y : V} : flatV x = true → flatV y = true → EqI K H x y (eqV x y)
  | same (a : Addr) : EqI K H (.ref a) (.ref a) true
  | strT {z : Str} {a : Addr} {xs : List V} : SqT K H a xs → EqI K H (.str z) (.ref a) false
  | strL {z : Str} {a : Addr} {xs : List V} : SqL K H a xs → EqI K H (.str z) (.ref a) false
  | strD {z : Str} {a : Addr} {ks : List (Key × V)} : H a = some (.dK ks) → EqI K H (.str z) (.ref a) false
section
variable {X : Cx} {pins : List (Addr × Obj)} {σ : L2.St} {H : Hp} {s : Shared}
theorem EqI.at (I : L2.Inv X pins σ H s) {A : Around} {x y : V} {u v : Value} {b : Bool} (h : EqI X.K H x y b) (rx : RelV x u) (ry : RelV y v) (hu : A.units < cLine) : SeqAt.EqAt A s u v b := by
  cases h with
  | flat fx fy => exact eqAt_V rx ry fx fy
  | same a =>
    cases rx
    cases ry
    exact SeqAt.EqAt.same _
  | strT h =>
    obtain ⟨t, rfl⟩ := rx
    cases ry
    obtain ⟨its, r, p, _⟩ := I.tuple h
    exact SeqAt.EqAt.str_tuple _ _ p hu
  | strL h =>
    obtain ⟨t, rfl⟩ := rx
    cases ry
    obtain ⟨its, r, p, _⟩ := I.list h
    exact SeqAt.EqAt.str_list _ _ p.isList hu
  | strD h =>
    obtain ⟨t, rfl⟩ := rx
    cases ry
    obtain ⟨_, _, vs, _, o, es, ep, h1, h2, h3, _⟩ := (show ObjOk X.prog X.w H s.heap _ (.dK _) from I.hok _ _ h)
    exact PySem.W.vf_str_dict h1 h2.1 h3 hu
end
theorem vals_mem : ∀ {xs : List V} {us : List Value} {w : Value}, Vals xs us → w ∈ us → ∃ z ∈ xs, RelV z w
  | _, _, _, .nil, h => nomatch h
  | _, _, _, .cons r t, h => by
    rcases List.mem_cons.mp h with rfl | h
    · exact ⟨_, List.mem_cons_self, r⟩
    · obtain ⟨z, hz, rz⟩ := vals_mem t h
      exact ⟨z, List.mem_cons_of_mem _ hz, rz⟩
def answ (e : V → Bool) (w : Value) : Bool := match absV w with | some z => e z | none => false
theorem answ_of (e : V → Bool) {z : V} {w : Value} (r : RelV z w) : answ e w = e z := by
  unfold answ
  rw [r.abs]
theorem any_answ (e : V → Bool) : ∀ {xs : List V} {us : List Value}, Vals xs us → us.any (answ e) = xs.any e
  | _, _, .nil => rfl
  | _, _, .cons r t => by
    rw [List.any_cons, List.any_cons, answ_of e r, any_answ e t]
theorem items_at {A : Around} {s : Shared} {F : V → V → Prop} (ih : ∀ {x y v u}, RelV x v → RelV y u → F x y → SeqAt.EqAt A s v u true) {xs ys : List V} (hp : Paired F xs ys) :
    ∀ {us ws : List Value}, Vals xs us → Vals ys ws → ∀ j (h1 : j < us.length) (h2 : j < ws.length), SeqAt.EqAt A s us[j] ws[j] true := by
  induction hp with
  | nil =>
    intro us ws r1 r2 j h1 h2
    cases r1
    exact absurd h1 (Nat.not_lt_zero j)
  | cons h _ k =>
    intro us ws r1 r2 j h1 h2
    cases r1 with
    | cons a1 b1 =>
      cases r2 with
      | cons a2 b2 =>
        cases j with
        | zero => exact ih a1 a2 h
        | succ j => exact k b1 b2 j (Nat.lt_of_succ_lt_succ h1) (Nat.lt_of_succ_lt_succ h2)
section
variable {X : Cx}
/-- x not in l, l a list, item by item -/
def rNotInI (K : PySem.W.Frag) : R2 := fun x y H Q => ∃ (p : Addr) (xs : List V) (e : V → Bool), y = .ref p ∧ SqL K H p xs ∧ (∀ z ∈ xs, EqI K H z x (e z)) ∧ Q (.bl (!xs.any e)) H
theorem op_notInI (hu : X.A.units + 64 < cLine) : OpR X (compareOp .NotIn) (rNotInI X.K) := by
  intro pins s σ H x y v u Q I rx ry h
  obtain ⟨p, xs, e, rfl, hx, hall, q⟩ := h
  cases ry
  obtain ⟨its, r, pl, hz⟩ := I.list hx
  refine SeqAt.notIn_listAt (answ e) pl.isList (fun w hw => ?_) ⟨.bl _, H, I, rfl, ?_⟩
  · obtain ⟨z, hz, rz⟩ := vals_mem r (by simpa using hw)
    rw [answ_of e rz]
    exact (hall z hz).at I rz rx (by show X.A.units + 1 < cLine; omega)
  · rw [List.any_toArray, any_answ e r]
    exact q
/-- l != m, two lists or two tuples of equal items -/
def rNe0 (K : PySem.W.Frag) : R2 := fun x y H Q => ∃ (a b : Addr) (xs ys : List V), x = .ref a ∧ y = .ref b ∧ ((SqT K H a xs ∧ SqT K H b ys) ∨ (SqL K H a xs ∧ SqL K H b ys)) ∧ Paired (fun z z' => EqI K H z z' true) xs ys ∧ Q (.bl false) H
theorem op_ne0 (hu : X.A.units + 64 < cLine) : OpR X (compareOp .NotEq) (rNe0 X.K) := by
  intro pins s σ H x y v u Q I rx ry h
  obtain ⟨a, b, xs, ys, rfl, rfl, hq, hp, q⟩ := h
  cases rx
  cases ry
  have hu1 : X.A.in1.units < cLine := by show X.A.units + 1 < cLine; omega
  rcases hq with ⟨ha, hb⟩ | ⟨ha, hb⟩
  · obtain ⟨us, r1, p1, _⟩ := I.tuple ha
    obtain ⟨ws, r2, p2, _⟩ := I.tuple hb
    have hs : us.toArray.size = ws.toArray.size := by rw [List.size_toArray, List.size_toArray, ← r1.length, ← r2.length]; exact Paired.length hp
    refine SeqAt.RcNeAt.tuples (e := fun _ => true) p1 p2 (by omega) (fun j h1 h2 => ?_) _ _ _ _ ?_
    · have := items_at (fun r1 r2 k => EqI.at I k r1 r2 hu1) hp r1 r2 j (by simpa using h1) (by simpa using h2)
      simpa using this
    · rw [hs, show ((List.range (min ws.toArray.size ws.toArray.size)).all fun _ => true) = true from List.all_eq_true.mpr fun _ _ => rfl, beq_self_eq_true]
      exact ⟨.bl false, H, I, rfl, q⟩
  · obtain ⟨us, r1, p1, _⟩ := I.list ha
    obtain ⟨ws, r2, p2, _⟩ := I.list hb
    have hs : us.toArray.size = ws.toArray.size := by rw [List.size_toArray, List.size_toArray, ← r1.length, ← r2.length]; exact Paired.length hp
    refine SeqAt.RcNeAt.lists (e := fun _ => true) p1.isList p2.isList hs (by omega) (fun j h1 h2 => ?_) _ _ _ _ ?_
    · have := items_at (fun r1 r2 k => EqI.at I k r1 r2 hu1) hp r1 r2 j (by simpa using h1) (by simpa using h2)
      simpa using this
    · rw [show ((List.range us.toArray.size).all fun _ => true) = true from List.all_eq_true.mpr fun _ _ => rfl]
      exact ⟨.bl false, H, I, rfl, q⟩
/-- d != e, two dicts of equal items -/
def rNe0D (K : PySem.W.Frag) : R2 := fun x y H Q => ∃ (a b : Addr) (ks ls : List (Key × V)), x = .ref a ∧ y = .ref b ∧ H a = some (.dK ks) ∧ H b = some (.dK ls) ∧ ks.length = ls.length ∧ (∀ p ∈ ks, ∃ u, valV ls p.1 = some u ∧ EqI K H p.2 u true) ∧ Q (.bl false) H
theorem op_ne0D (hu : X.A.units + 64 < cLine) : OpR X (compareOp .NotEq) (rNe0D X.K) := by
  intro pins s σ H x y v u Q I rx ry h
  obtain ⟨a, b, ks, ls, rfl, rfl, ha, hb, hl, hp, q⟩ := h
  cases rx
  cases ry
  have hu1 : X.A.in1.units < cLine := by show X.A.units + 1 < cLine; omega
  obtain ⟨_, ya, va, ra, da⟩ := (show ObjOk X.prog X.w H s.heap a (.dK ks) from I.hok a _ ha)
  obtain ⟨_, yb, vb, rb, db⟩ := (show ObjOk X.prog X.w H s.heap b (.dK ls) from I.hok b _ hb)
  have e : va.length = vb.length := by rw [← ra.length, ← rb.length]; exact hl
  refine PySem.W.keq_ne (knd := mixKind X.prog X.w) (r := true) ya yb da db (by omega) (fun _ => ?_) ?_
  · have go : ∀ {ks : List (Key × V)} {va : List (Key × Value)}, KV ks va → (∀ p ∈ ks, ∃ u, valV ls p.1 = some u ∧ EqI X.K H p.2 u true) → PySem.W.KeqHits X.A.in1 s vb va true := by
      intro ks va ra
      unfold KV at ra
      induction ra with
      | nil => intro _; exact .nil
      | @cons p q ps qs h t k =>
        intro hp
        obtain ⟨h1, h2⟩ := h
        obtain ⟨u, e, f⟩ := hp p List.mem_cons_self
        have rr : RelO (some u) (valueAt vb p.1) := by rw [← e]; exact rb.val p.1
        obtain ⟨y, hy, ry⟩ := rr.some_of
        obtain ⟨key, v⟩ := q
        have h1' : p.1 = key := h1
        rw [h1'] at hy
        show PySem.W.KeqHits X.A.in1 s vb ((key, v) :: qs) (true && true)
        exact .hit hy (f.at I h2 ry hu1) (k fun p' hm => hp p' (List.mem_cons_of_mem _ hm))
    exact go ra hp
  · rw [show (!(va.length == vb.length && true)) = false from by rw [e]; simp]
    exact ⟨.bl false, H, I, rfl, q⟩
end
end Vf

set_option Elab.async false
set_option linter.all false
set_option maxRecDepth 100000
set_option maxHeartbeats 2000000
namespace Vf
open PySem PySem.Spec PyProof.Rows L2
/-! ### properties: their getters, found by the class and the name -/
def gAd (K : PySem.W.Frag) (c m : Str) : Addr := match PySem.W.recIn K (He.ma K (He.ga K c) m) "property" with
  | some (.ref f :: _) => f
  | _ => 0
structure GetD where
  cls : Str
  attr : Str
  d : He.DefD
def GetD.val (g : GetD) : He.FnW := g.d.val
def gnW (K : PySem.W.Frag) (g : GetD) : He.FnW := match K.lookup (gAd K g.cls g.attr) with
  | some ⟨_, _, .func fd, _⟩ => some (fd.name, fd.qualname, fd.params, fd.body, fd.scope, fd.globals, fd.closure, fd.builtins)
  | _ => none
def propB (K : PySem.W.Frag) (C : Addr) (m : Str) : Bool := He.eqO (PySem.W.findIn K (.ref C) m) (some (some (.ref (He.ma K C m)))) && (He.eqO (PySem.W.specialIn K (.ref (He.ma K C m)) "__get__") (some (some (.builtin "property.__get__"))) &&
  (decide (PySem.W.takesIn K (.ref (He.ma K C m)) = some true) && (match PySem.W.recIn K (He.ma K C m) "property" with
    | some (.ref _ :: _) => true
    | _ => false)))
def GetD.ok (K : PySem.W.Frag) (g : GetD) : Bool := propB K (He.ga K g.cls) g.attr && (PySem.W.keepIn K (.ref (gAd K g.cls g.attr)) && (match K.lookup (gAd K g.cls g.attr) with
  | some ⟨_, _, .func fd, _⟩ => PySem.W.codeIn K fd.code g.d.qual && (He.dflB K fd.defaults (g.d.dvs K) && He.kwdB K fd.kwdefaults (g.d.kws K))
  | _ => false))
theorem propB_ok {K : PySem.W.Frag} {c m : Str} (h : propB K (He.ga K c) m = true) : PropOf K (He.ga K c) m (He.ma K (He.ga K c) m) (gAd K c m) := by
  obtain ⟨h1, h⟩ := He.ba h
  obtain ⟨h2, h⟩ := He.ba h
  obtain ⟨h3, h4⟩ := He.ba h
  refine ⟨He.eqO_ok h1, He.eqO_ok h2, of_decide_eq_true h3, ?_⟩
  unfold gAd
  split at h4
  · rename_i f r e
    exact ⟨r, by rw [e]⟩
  · cases h4
theorem GetD.funD {K : PySem.W.Frag} {g : GetD} (e : gnW K g = g.d.val) (c : g.ok K = true) : (∃ fd, FunD K g.d.name g.d.qual g.d.params g.d.body g.d.scope (g.d.dvs K) (g.d.kws K) (gAd K g.cls g.attr) fd) ∧ PropOf K (He.ga K g.cls) g.attr (He.ma K (He.ga K g.cls) g.attr) (gAd K g.cls g.attr) := by
  obtain ⟨pr, c⟩ := He.ba c
  refine ⟨?_, propB_ok pr⟩
  obtain ⟨kp, c2⟩ := He.ba c
  unfold gnW at e
  cases q : K.lookup (gAd K g.cls g.attr) with
  | none =>
    rw [q] at c2
    cases c2
  | some o =>
    obtain ⟨oc, od, dt, osl⟩ := o
    rw [q] at c2 e
    cases dt with
    | func fd =>
      obtain ⟨n1, n2, n3, n4, n5, n6, n7, n8, n9, n10, n11, n12, n13, n14, n15⟩ := fd
      have e2 : (some (n1, n2, n3, n4, n5, n6, n7, n15) : He.FnW) = some (g.d.name, g.d.qual, g.d.params, .stmts g.d.body, g.d.scope, mainGlobals, [], builtinsNs) := e
      simp only [Option.some.injEq, Prod.mk.injEq] at e2
      obtain ⟨h1, h2, h3, h4, h5, h6, h7, h8⟩ := e2
      subst h1 h2 h3 h4 h5 h6 h7 h8
      have c3 : (PySem.W.codeIn K n13 g.d.qual && (He.dflB K n8 (g.d.dvs K) && He.kwdB K n9 (g.d.kws K))) = true := c2
      obtain ⟨k1, k2⟩ := He.ba c3
      obtain ⟨k3, k4⟩ := He.ba k2
      exact ⟨_, ⟨oc, od, n8, n9, n10, n11, n12, n13, n14, osl, rfl, q, k1, He.dflB_ok k3, He.kwdB_ok k4⟩, kp⟩
    | _ => cases c2
/-! ### the head's hook, with properties -/
abbrev AlP : Type := Bool × List He.FnW × List He.FnW
def obsP (ex : PySem.W.Frag → Bool) (fn : List He.DefD) (gs : List GetD) (K : PySem.W.Frag) : AlP := (ex K && ((fn.all fun d => d.ok K) && gs.all fun g => g.ok K), fn.map fun d => He.fnW K d.at_, gs.map (gnW K))
def SaysP (ex : PySem.W.Frag → Bool) (fn : List He.DefD) (gs : List GetD) (K : PySem.W.Frag) : Prop := obsP ex fn gs K = (true, fn.map He.DefD.val, gs.map GetD.val)
def obsPG (n : Nat) (ex : PySem.W.Frag → Bool) (fn : List He.DefD) (gs : List GetD) (g : Addr → Option Obj) : AlP := obsP ex fn gs (He.frG g (He.asD g n))
def hookP (n : Nat) (ex : PySem.W.Frag → Bool) (fn : List He.DefD) (gs : List GetD) : PySem.W.Hook where
  α := AlP
  obs := fun s => obsPG n ex fn gs s.heap.get?
  val := fun _ => (true, fn.map He.DefD.val, gs.map GetD.val)
  says := fun _ h => ∃ K : PySem.W.Frag, K.In h ∧ SaysP ex fn gs K
  of := fun _ _ e => ⟨_, He.frG_in, e⟩
  keeps := fun _ _ _ ⟨K, hK, c⟩ k => ⟨K, PySem.W.Frag.In.keeps hK k, c⟩
theorem obsPG_eq {n : Nat} {ex : PySem.W.Frag → Bool} {fn : List He.DefD} {gs : List GetD} {g : Addr → Option Obj} {s : Shared} (h : ∀ a, g a = s.heap.get? a) : obsPG n ex fn gs g = (hookP n ex fn gs).obs s := by
  have e : g = s.heap.get? := funext h
  rw [e]
  rfl
theorem SaysP.ex {ex : PySem.W.Frag → Bool} {fn : List He.DefD} {gs : List GetD} {K : PySem.W.Frag} (c : SaysP ex fn gs K) : ex K = true := (He.ba (congrArg (fun z : AlP => z.1) c)).1
theorem SaysP.fn {ex : PySem.W.Frag → Bool} {fn : List He.DefD} {gs : List GetD} {K : PySem.W.Frag} (c : SaysP ex fn gs K) (i : Nat) {d : He.DefD} (h : fn[i]? = some d := by rfl) : ∃ fd, FunD K d.name d.qual d.params d.body d.scope (d.dvs K) (d.kws K) (He.fAd K d.at_) fd := by
  have c2 := (He.ba (He.ba (congrArg (fun z : AlP => z.1) c)).2).1
  have e : fn.map (fun d => He.fnW K d.at_) = fn.map He.DefD.val := congrArg (fun z : AlP => z.2.1) c
  have e2 : He.fnW K d.at_ = d.val := by
    have e3 : (fn.map fun d => He.fnW K d.at_)[i]? = (fn.map He.DefD.val)[i]? := by rw [e]
    simp only [List.getElem?_map, h, Option.map_some] at e3
    exact Option.some.inj e3
  exact He.DefD.funD e2 (List.all_eq_true.mp c2 d (List.mem_of_getElem? h))
theorem SaysP.gt {ex : PySem.W.Frag → Bool} {fn : List He.DefD} {gs : List GetD} {K : PySem.W.Frag} (c : SaysP ex fn gs K) (i : Nat) {g : GetD} (h : gs[i]? = some g := by rfl) : (∃ fd, FunD K g.d.name g.d.qual g.d.params g.d.body g.d.scope (g.d.dvs K) (g.d.kws K) (gAd K g.cls g.attr) fd) ∧ PropOf K (He.ga K g.cls) g.attr (He.ma K (He.ga K g.cls) g.attr) (gAd K g.cls g.attr) := by
  have c2 := (He.ba (He.ba (congrArg (fun z : AlP => z.1) c)).2).2
  have e : (gs.map (gnW K)) = gs.map GetD.val := congrArg (fun z : AlP => z.2.2) c
  have e2 : gnW K g = g.val := by
    have e3 : (gs.map (gnW K))[i]? = (gs.map GetD.val)[i]? := by rw [e]
    simp only [List.getElem?_map, h, Option.map_some] at e3
    exact Option.some.inj e3
  exact GetD.funD e2 (List.all_eq_true.mp c2 g (List.mem_of_getElem? h))
/-- the getter keeps its promise -/
structure OkG (P : Program) (w : World) (K : PySem.W.Frag) (mg : Str → Option Value) (base : Heap) (CX : CXT) (k : Nat) (c m : Str) (sp : Sp) : Prop where
  ex : ∃ fd, FnOk P w K mg base CX k (gAd K c m) fd ["self"] sp ∧ Binds K fd ["self"] []
  pr : PropOf K (He.ga K c) m (He.ma K (He.ga K c) m) (gAd K c m)
theorem pe_propG {X : Cx} {k j : Nat} {c m : Str} {sp : Sp} {e : Expr} {pos : Pos} {ta : TE} (he : PE X e ta) (cl : Cls X.K (He.ga X.K c)) (O : OkG X.prog X.w X.K X.mg X.base CX0 k c m sp) (hr : Room j X.A) (hj : k + 1 ≤ j)
    (hab : attributeBase e m X.env (eval e X.env) = eval e X.env) : PE X (.Attribute e m pos) (tProp (He.ga X.K c) sp [] E0 ta) := by
  obtain ⟨fd, F, b⟩ := O.ex
  exact pe_prop he cl O.pr F (hr.mono hj) b .nil pass0 hab
end Vf

set_option Elab.async false
set_option linter.all false
set_option maxRecDepth 100000
set_option maxHeartbeats 2000000
namespace PySem.W
open PySem PySem.SeqAt MeetsSeq
section
variable {prog : Program} {w : World} {A : Around} {E : Value → Shared → Prop} {s : Shared} {a b : Addr} {o : Obj}
/-- a dict's slot declines what is no dict -/
theorem vf_dic_no {v : Value} {T : String} (ha : s.TypeIs (.ref a) "dict") (hT : s.TypeIs v T) (hs : isSubtype (.type T) (.type "dict") = pure false) {Q : Fin → Shared → Prop} (h : Q (.done (.ret .notImplemented)) s) : wpAny (model prog w) A (PySem.Builtin.«dict.__eq__» ⟨[.ref a, v], []⟩) Q E s := by
  wp_walk using wpAny_isInstance hT hs
  exact h
theorem vf_none_no {Q : Fin → Shared → Prop} (h : Q (.done (.ret .notImplemented)) s) : wpAny (model prog w) A (PySem.Builtin.«NoneType.__eq__» ⟨[.none, .ref a], []⟩) Q E s := by
  wp_walk
  exact h
theorem vf_int_no {v : Value} {es : Array DictEntry} {ep : Nat} (hv : (∃ c, v = .bool c) ∨ ∃ i t, v = .int i t) (ha : s.heap.get? a = some o) (hd : o.data = .dict es ep) {Q : Fin → Shared → Prop} (h : Q (.done (.ret .notImplemented)) s) : wpAny (model prog w) A (PySem.Builtin.«int.__eq__» ⟨[v, .ref a], []⟩) Q E s := by
  obtain ⟨hp, gg, d, tk, os⟩ := s
  obtain ⟨oc, odd, oda, osl⟩ := o
  dsimp only at hd
  subst hd
  rcases hv with ⟨c, rfl⟩ | ⟨i, t, rfl⟩
  · wp_walk using AutoSeq1.wpAny_loadPart' ha
    exact h
  · wp_walk using AutoSeq1.wpAny_loadPart' ha
    exact h
theorem vf_tup_no {T : String} (hT : s.TypeIs (.ref a) T) (hs : isSubtype (.type T) (.type "tuple") = pure false) {Q : Fin → Shared → Prop} (h : Q (.done (.ret .notImplemented)) s) : wpAny (model prog w) A (PySem.Builtin.«tuple.__eq__» ⟨[.ref b, .ref a], []⟩) Q E s := by
  wp_walk using wpAny_isInstance hT hs
  exact h
theorem vf_lst_no {T : String} (hT : s.TypeIs (.ref a) T) (hs : isSubtype (.type T) (.type "list") = pure false) {Q : Fin → Shared → Prop} (h : Q (.done (.ret .notImplemented)) s) : wpAny (model prog w) A (PySem.Builtin.«list.__eq__» ⟨[.ref b, .ref a], []⟩) Q E s := by
  wp_walk using wpAny_isInstance hT hs
  exact h
end
end PySem.W
namespace PySem.W
open PySem PySem.SeqAt MeetsSeq
/-- == answers no, asked either way -/
structure NoAt (A : Around) (s : Shared) (x y : Value) : Prop where
  rc : RcAt A s x y false
  eq : EqAt A s x y false
theorem eq_of_rc {A : Around} {s : Shared} {x y : Value} {b : Bool} (hxy : (x == y) = true → b = true) (hf : ∀ i t, x ≠ .float i t) (rc : RcAt A s x y b) : EqAt A s x y b := fun prog w E Q h => by
  unfold eqBool
  refine wpAny_holding ?_
  refine wpAny_ite_split (fun hab => ?_) (fun _ => ?_)
  · rw [hxy hab] at h
    first
      | exact wpAny_pure h
      | exact wpAny_bind (wpAny_rule (wpAny_pure h))
  · cases x with
    | float i t => exact absurd rfl (hf i t)
    | _ => exact wpAny_bind (rc prog w E _ (wpAny_truthy_bool h))
/-- both slots decline: not equal -/
theorem vf_no {A : Around} {s : Shared} {x y : Value} {Tx Ty idx idy : String} {Bx By : Builtin} (hx : s.TypeIs x Tx) (hy : s.TypeIs y Ty) (hne : (Value.type Tx != Value.type Ty) = true) (hxy : (x == y) = false) (hsub : isSubtype (.type Ty) (.type Tx) = pure false)
    (sx : Slot Tx (cmpInfo .Eq).2.1 idx) (sy : Slot Ty (cmpInfo .Eq).2.2 idy) (sy1 : Slot Ty (cmpInfo .Eq).2.1 idy) (ex : entryFor table idx = some Bx) (ey : entryFor table idy = some By) (ax : argsOk idx ⟨[x, y], []⟩) (ay : argsOk idy ⟨[y, x], []⟩)
    (bx : ∀ (prog : Program) (w : World) (A : Around) (E : Value → Shared → Prop) (Q : Fin → Shared → Prop), Q (.done (.ret .notImplemented)) s → wpAny (model prog w) A (Bx ⟨[x, y], []⟩) Q E s)
    (by_ : ∀ (prog : Program) (w : World) (A : Around) (E : Value → Shared → Prop) (Q : Fin → Shared → Prop), Q (.done (.ret .notImplemented)) s → wpAny (model prog w) A (By ⟨[y, x], []⟩) Q E s)
    (hs : ∀ (prog : Program) (w : World) (A : Around) (E : Value → Shared → Prop) (Q : Bool → Shared → Prop), Q false s → wpAny (model prog w) A (isSame x y) Q E s) (hf : ∀ i t, x ≠ .float i t) (hu : A.units < cLine) : NoAt A s x y := by
  have rc : RcAt A s x y false := fun prog w E Q h =>
    rc_eq_decline_or (k := false) hx hy hne hsub sx sy
      (fun _ hq => wpAny_call_entry sx hx ex (bx _ _ _ _ _ ⟨_, rfl, hq⟩) ax)
      (fun _ hq => wpAny_call_entry sy1 hy ey (by_ _ _ _ _ _ ⟨_, rfl, hq⟩) ay)
      (fun _ hq => hs _ _ _ _ _ hq) (.inr hu) h
  exact ⟨rc, eq_of_rc (fun z => absurd (z.symm.trans hxy) (by decide)) hf rc⟩
end PySem.W
namespace Vf
open PySem PySem.Spec PyProof.Rows L2 PySem.W
/-- == of two values: data, or a dict beside what is none, or two empty dicts -/
inductive EqW (K : PySem.W.Frag) (H : Hp) : V → V → Bool → Prop
  | dat {x y : V} {d e : PyData} : Dp K H x d → Dp K H y e → SeqAt.shaped d = true → SeqAt.shaped e = true → EqW K H x y (PyData.eqv d e)
  | dicL {y : V} {e : PyData} {a : Addr} {ks : List (Key × V)} : H a = some (.dK ks) → Dp K H y e → EqW K H (.ref a) y false
  | dicR {x : V} {d : PyData} {a : Addr} {ks : List (Key × V)} : Dp K H x d → H a = some (.dK ks) → EqW K H x (.ref a) false
  | dd {a b : Addr} : H a = some (.dK []) → H b = some (.dK []) → EqW K H (.ref a) (.ref b) true
section
variable {X : Cx} {pins : List (Addr × Obj)} {σ : L2.St} {H : Hp} {s : Shared}
theorem dic_obj (I : L2.Inv X pins σ H s) {a : Addr} {ks : List (Key × V)} (h : H a = some (.dK ks)) : ∃ o es ep, s.heap.get? a = some o ∧ o.cls = .type "dict" ∧ o.data = .dict es ep := by
  obtain ⟨_, _, vs, _, o, es, ep, h1, h2, h3, _⟩ := (show ObjOk X.prog X.w H s.heap _ (.dK _) from I.hok _ _ h)
  exact ⟨o, es, ep, h1, h2.1, h3⟩
theorem eqW_dicR (I : L2.Inv X pins σ H s) {A : Around} {x : V} {u : Value} {d : PyData} {a : Addr} {ks : List (Key × V)} (h : Dp X.K H x d) (ha : H a = some (.dK ks)) (rx : RelV x u) (hu : A.units < cLine) : NoAt A s u (.ref a) := by
  obtain ⟨o, es, ep, ho, hc, hd⟩ := dic_obj I ha
  have ta : s.TypeIs (.ref a) "dict" := ⟨o, ho, hc⟩
  cases h with
  | non =>
    cases rx
    exact vf_no (rfl : s.TypeIs .none "NoneType") ta (by decide) rfl PySem.F.sub_dict_NoneType PySem.F.slot_NoneType_eq PySem.F.slot_dict_eq_refl PySem.F.slot_dict_eq PySem.F.entry_NoneType_eq PySem.F.entry_dict_eq (PySem.F.args_NoneType_eq_2 _ _) (PySem.F.args_dict_eq_2 _ _)
      (fun _ _ _ _ _ q => vf_none_no q) (fun _ _ _ _ _ q => vf_dic_no (v := .none) (T := "NoneType") ta rfl PySem.F.sub_NoneType_dict q) (fun _ _ _ _ _ q => wpAny_of_eq (rfl : isSame .none (.ref a) = pure false) q) (fun _ _ z => nomatch z) hu
  | bl b =>
    cases rx
    exact vf_no (rfl : s.TypeIs (.bool b) "bool") ta (by decide) rfl PySem.F.sub_dict_bool PySem.F.slot_bool_eq PySem.F.slot_dict_eq_refl PySem.F.slot_dict_eq PySem.F.entry_int_eq PySem.F.entry_dict_eq (PySem.F.args_int_eq_2 _ _) (PySem.F.args_dict_eq_2 _ _)
      (fun _ _ _ _ _ q => vf_int_no (.inl ⟨_, rfl⟩) ho hd q) (fun _ _ _ _ _ q => vf_dic_no (v := .bool b) (T := "bool") ta rfl PySem.F.sub_bool_dict q) (fun _ _ _ _ _ q => wpAny_of_eq (rfl : isSame (.bool b) (.ref a) = pure false) q) (fun _ _ z => nomatch z) hu
  | int i =>
    obtain ⟨t, rfl⟩ := rx
    exact vf_no (rfl : s.TypeIs (.int i t) "int") ta (by decide) rfl PySem.F.sub_dict_int PySem.F.slot_int_eq PySem.F.slot_dict_eq_refl PySem.F.slot_dict_eq PySem.F.entry_int_eq PySem.F.entry_dict_eq (PySem.F.args_int_eq_2 _ _) (PySem.F.args_dict_eq_2 _ _)
      (fun _ _ _ _ _ q => vf_int_no (.inr ⟨_, _, rfl⟩) ho hd q) (fun _ _ _ _ _ q => vf_dic_no (v := .int i t) (T := "int") ta rfl PySem.F.sub_int_dict q) (fun _ _ _ _ _ q => wpAny_of_eq (rfl : isSame (.int i t) (.ref a) = pure false) q) (fun _ _ z => nomatch z) hu
  | str z =>
    obtain ⟨t, rfl⟩ := rx
    exact ⟨vf_rc_str_dict ho hc hd hu, vf_str_dict ho hc hd hu⟩
  | @lst l _ _ hs _ =>
    cases rx
    obtain ⟨its, r, p, _⟩ := I.list hs
    obtain ⟨ol, n, hl, hlc, hld, hlx⟩ := p
    have tl : s.TypeIs (.ref l) "list" := ⟨_, hl, hlc⟩
    have hne : l ≠ a := fun e => by
      rw [e, ho] at hl
      cases hl
      rw [hc] at hlc
      exact absurd hlc (by simp)
    exact vf_no tl ta (by decide) (by simpa using hne) PySem.F.sub_dict_list PySem.F.slot_list_eq PySem.F.slot_dict_eq_refl PySem.F.slot_dict_eq PySem.F.entry_list_eq PySem.F.entry_dict_eq (PySem.F.args_list_eq_2 _ _) (PySem.F.args_dict_eq_2 _ _)
      (fun _ _ _ _ _ q => vf_lst_no ta PySem.F.sub_dict_list q) (fun _ _ _ _ _ q => vf_dic_no ta tl PySem.F.sub_list_dict q) (fun _ _ _ _ _ q => SeqAt.wpAny_isSame_ref_other' hne hl ho (by rw [hc]; simp) q) (fun _ _ z => nomatch z) hu
  | @tup l _ _ hs _ =>
    cases rx
    obtain ⟨its, r, p, _⟩ := I.tuple hs
    obtain ⟨ol, hl, hlc, hld⟩ := p
    have tl : s.TypeIs (.ref l) "tuple" := ⟨_, hl, hlc⟩
    have hne : l ≠ a := fun e => by
      rw [e, ho] at hl
      cases hl
      rw [hc] at hlc
      exact absurd hlc (by simp)
    exact vf_no tl ta (by decide) (by simpa using hne) PySem.F.sub_dict_tuple PySem.F.slot_tuple_eq PySem.F.slot_dict_eq_refl PySem.F.slot_dict_eq PySem.F.entry_tuple_eq PySem.F.entry_dict_eq (PySem.F.args_tuple_eq_2 _ _) (PySem.F.args_dict_eq_2 _ _)
      (fun _ _ _ _ _ q => vf_tup_no ta PySem.F.sub_dict_tuple q) (fun _ _ _ _ _ q => vf_dic_no ta tl PySem.F.sub_tuple_dict q) (fun _ _ _ _ _ q => SeqAt.wpAny_isSame_ref_other' hne hl ho (by rw [hc]; simp) q) (fun _ _ z => nomatch z) hu
theorem eqW_dicL (I : L2.Inv X pins σ H s) {A : Around} {x : V} {u : Value} {d : PyData} {a : Addr} {ks : List (Key × V)} (h : Dp X.K H x d) (ha : H a = some (.dK ks)) (rx : RelV x u) (hu : A.units < cLine) : NoAt A s (.ref a) u := by
  obtain ⟨o, es, ep, ho, hc, hd⟩ := dic_obj I ha
  have ta : s.TypeIs (.ref a) "dict" := ⟨o, ho, hc⟩
  cases h with
  | non =>
    cases rx
    exact vf_no ta (show s.TypeIs .none "NoneType" from rfl) (by decide) rfl PySem.F.sub_NoneType_dict PySem.F.slot_dict_eq PySem.F.slot_NoneType_eq_refl PySem.F.slot_NoneType_eq PySem.F.entry_dict_eq PySem.F.entry_NoneType_eq (PySem.F.args_dict_eq_2 _ _) (PySem.F.args_NoneType_eq_2 _ _)
      (fun _ _ _ _ _ q => vf_dic_no (v := .none) (T := "NoneType") ta rfl PySem.F.sub_NoneType_dict q) (fun _ _ _ _ _ q => vf_none_no q) (fun _ _ _ _ _ q => wpAny_of_eq (rfl : isSame (.ref a) .none = pure false) q) (fun _ _ z => nomatch z) hu
  | bl b =>
    cases rx
    exact vf_no ta (show s.TypeIs (.bool b) "bool" from rfl) (by decide) rfl PySem.F.sub_bool_dict PySem.F.slot_dict_eq PySem.F.slot_bool_eq_refl PySem.F.slot_bool_eq PySem.F.entry_dict_eq PySem.F.entry_int_eq (PySem.F.args_dict_eq_2 _ _) (PySem.F.args_int_eq_2 _ _)
      (fun _ _ _ _ _ q => vf_dic_no (v := .bool b) (T := "bool") ta rfl PySem.F.sub_bool_dict q) (fun _ _ _ _ _ q => vf_int_no (.inl ⟨_, rfl⟩) ho hd q) (fun _ _ _ _ _ q => wpAny_of_eq (rfl : isSame (.ref a) (.bool b) = pure false) q) (fun _ _ z => nomatch z) hu
  | int i =>
    obtain ⟨t, rfl⟩ := rx
    exact vf_no ta (show s.TypeIs (.int i t) "int" from rfl) (by decide) rfl PySem.F.sub_int_dict PySem.F.slot_dict_eq PySem.F.slot_int_eq_refl PySem.F.slot_int_eq PySem.F.entry_dict_eq PySem.F.entry_int_eq (PySem.F.args_dict_eq_2 _ _) (PySem.F.args_int_eq_2 _ _)
      (fun _ _ _ _ _ q => vf_dic_no (v := .int i t) (T := "int") ta rfl PySem.F.sub_int_dict q) (fun _ _ _ _ _ q => vf_int_no (.inr ⟨_, _, rfl⟩) ho hd q) (fun _ _ _ _ _ q => wpAny_of_eq (rfl : isSame (.ref a) (.int i t) = pure false) q) (fun _ _ z => nomatch z) hu
  | str z =>
    obtain ⟨t, rfl⟩ := rx
    exact vf_no ta (show s.TypeIs (.str z t) "str" from rfl) (by decide) rfl PySem.F.sub_str_dict PySem.F.slot_dict_eq PySem.F.slot_str_eq_refl PySem.F.slot_str_eq PySem.F.entry_dict_eq PySem.F.entry_str_eq (PySem.F.args_dict_eq_2 _ _) (PySem.F.args_str_eq_2 _ _)
      (fun _ _ _ _ _ q => vf_dic_no (v := .str z t) (T := "str") ta rfl PySem.F.sub_str_dict q) (fun _ _ _ _ _ q => vf_no_str_dic ho hd q) (fun _ _ _ _ _ q => wpAny_of_eq (rfl : isSame (.ref a) (.str z t) = pure false) q) (fun _ _ z => nomatch z) hu
  | @lst l _ _ hs _ =>
    cases rx
    obtain ⟨its, r, p, _⟩ := I.list hs
    obtain ⟨ol, n, hl, hlc, hld, hlx⟩ := p
    have tl : s.TypeIs (.ref l) "list" := ⟨_, hl, hlc⟩
    have hne : a ≠ l := fun e => by
      rw [← e, ho] at hl
      cases hl
      rw [hc] at hlc
      exact absurd hlc (by simp)
    exact vf_no ta tl (by decide) (by simpa using hne) PySem.F.sub_list_dict PySem.F.slot_dict_eq PySem.F.slot_list_eq_refl PySem.F.slot_list_eq PySem.F.entry_dict_eq PySem.F.entry_list_eq (PySem.F.args_dict_eq_2 _ _) (PySem.F.args_list_eq_2 _ _)
      (fun _ _ _ _ _ q => vf_dic_no ta tl PySem.F.sub_list_dict q) (fun _ _ _ _ _ q => vf_lst_no ta PySem.F.sub_dict_list q) (fun _ _ _ _ _ q => wpAny_isSame_ref_other hne ho hl (by rw [hc]; simp) q) (fun _ _ z => nomatch z) hu
  | @tup l _ _ hs _ =>
    cases rx
    obtain ⟨its, r, p, _⟩ := I.tuple hs
    obtain ⟨ol, hl, hlc, hld⟩ := p
    have tl : s.TypeIs (.ref l) "tuple" := ⟨_, hl, hlc⟩
    have hne : a ≠ l := fun e => by
      rw [← e, ho] at hl
      cases hl
      rw [hc] at hlc
      exact absurd hlc (by simp)
    exact vf_no ta tl (by decide) (by simpa using hne) PySem.F.sub_tuple_dict PySem.F.slot_dict_eq PySem.F.slot_tuple_eq_refl PySem.F.slot_tuple_eq PySem.F.entry_dict_eq PySem.F.entry_tuple_eq (PySem.F.args_dict_eq_2 _ _) (PySem.F.args_tuple_eq_2 _ _)
      (fun _ _ _ _ _ q => vf_dic_no ta tl PySem.F.sub_tuple_dict q) (fun _ _ _ _ _ q => vf_tup_no ta PySem.F.sub_dict_tuple q) (fun _ _ _ _ _ q => wpAny_isSame_ref_other hne ho hl (by rw [hc]; simp) q) (fun _ _ z => nomatch z) hu
theorem EqW.run (I : L2.Inv X pins σ H s) {A : Around} {x y : V} {u v : Value} {b : Bool} (h : EqW X.K H x y b) (rx : RelV x u) (ry : RelV y v) (hu : A.units + 64 < cLine) :
    (∀ E Q : Value → Shared → Prop, Q (.bool b) s → wpAny (model X.prog X.w) A (richCompare .Eq u v) Q E s) ∧ SeqAt.EqP X.prog X.w A s u v b := by
  cases h with
  | dat h1 h2 sd se =>
    obtain ⟨as, r1⟩ := Dp.reads I _ x u h1 rx
    obtain ⟨bs, r2⟩ := Dp.reads I _ y v h2 ry
    exact ⟨fun E Q q => SeqAt.compareEq_shaped r1 r2 sd se hu q, (SeqAt.eqAt_reads _ _ A s u v as bs r1 r2 (SeqAt.canLay_of_shaped sd) (SeqAt.canLay_of_shaped se) (SeqAt.room_of_shaped sd hu)).eqP⟩
  | dicL h1 h2 =>
    cases rx
    have := eqW_dicL I (A := A) h2 h1 ry (by omega)
    exact ⟨this.rc X.prog X.w, this.eq.eqP⟩
  | dicR h1 h2 =>
    cases ry
    have := eqW_dicR I (A := A) h1 h2 rx (by omega)
    exact ⟨this.rc X.prog X.w, this.eq.eqP⟩
  | @dd a b h1 h2 =>
    cases rx
    cases ry
    obtain ⟨_, ya, va, ra, da⟩ := (show ObjOk X.prog X.w H s.heap a (.dK []) from I.hok a _ h1)
    obtain ⟨_, yb, vb, rb, db⟩ := (show ObjOk X.prog X.w H s.heap b (.dK []) from I.hok b _ h2)
    cases ra
    cases rb
    have rc : ∀ E Q : Value → Shared → Prop, Q (.bool true) s → wpAny (model X.prog X.w) A (richCompare .Eq (.ref a) (.ref b)) Q E s := fun E Q q =>
      PySem.W.rcP_dicts (knd := mixKind X.prog X.w) (r := true) ya yb da db (by omega) (fun _ => .nil) E Q q
    refine ⟨rc, ?_⟩
    by_cases e : a = b
    · subst e
      exact (SeqAt.EqAt.same _).eqP
    · exact SeqAt.eqP_refs e rc
/-- x == y of such values -/
def rEqW (K : PySem.W.Frag) : R2 := fun x y H Q => ∃ b, EqW K H x y b ∧ Q (.bl b) H
theorem op_eqW (hu : X.A.units + 64 < cLine) : OpR X (compareOp .Eq) (rEqW X.K) := by
  intro pins s σ H x y v u Q I rx ry h
  obtain ⟨b, h, q⟩ := h
  exact (h.run I rx ry hu).1 _ _ ⟨.bl b, H, I, rfl, q⟩
/-- in, not in: such values -/
def DW (K : PySem.W.Frag) : Eqb := fun x y H b => EqW K H x y b
theorem eqB_w {n : Nat} : EqB X n (DW X.K) := fun A pins s σ H x y u v b sb I rx ry hd => (hd.run I rx ry sb.room.units).2 _ _ ⟨rfl, H, I, Ext.rfl'⟩
mutual
theorem Dp_ext {K : PySem.W.Frag} {H H' : Hp} (sm : Same H H') : ∀ (d : PyData) (x : V), Dp K H x d → Dp K H' x d
  | _, _, .non => .non
  | _, _, .bl b => .bl b
  | _, _, .int i => .int i
  | _, _, .str z => .str z
  | .list ds, _, .lst h hs => .lst (sm.seq h) (DpAll_ext sm ds _ hs)
  | .tuple ds, _, .tup h hs => .tup (SqT.ext h sm) (DpAll_ext sm ds _ hs)
theorem DpAll_ext {K : PySem.W.Frag} {H H' : Hp} (sm : Same H H') : ∀ (ds : List PyData) (xs : List V), DpAll K H xs ds → DpAll K H' xs ds
  | _, _, .nil => .nil
  | d :: ds, _, .cons h hs => .cons (Dp_ext sm d _ h) (DpAll_ext sm ds _ hs)
end
theorem EqW.ext {K : PySem.W.Frag} {H H' : Hp} (sm : Same H H') {x y : V} {b : Bool} (h : EqW K H x y b) : EqW K H' x y b := by
  cases h with
  | dat h1 h2 sd se => exact .dat (Dp_ext sm _ _ h1) (Dp_ext sm _ _ h2) sd se
  | dicL h1 h2 => exact .dicL (sm _ _ h1) (Dp_ext sm _ _ h2)
  | dicR h1 h2 => exact .dicR (Dp_ext sm _ _ h1) (sm _ _ h2)
  | dd h1 h2 => exact .dd (sm _ _ h1) (sm _ _ h2)
end
end Vf

set_option Elab.async false
set_option linter.all false
set_option maxRecDepth 100000
set_option maxHeartbeats 2000000
/-! try with several clauses that bind their error; over the library's readings of one clause and of clauses without names. -/
namespace Vf
open PySem PySem.Spec PyProof.Rows L2
abbrev Clause : Type := Value × Nat × (Addr → Value → Option Addr → TS)
/-- the ends of a clause: its name goes -/
def goneE (i : Nat) (D : Ends) : Ends := { nx := fun τ G => D.nx (τ.set i none) G, rt := D.rt, bk := fun τ G => D.bk (τ.set i none) G, ct := fun τ G => D.ct (τ.set i none) G }
def wClauses (K : PySem.W.Frag) (Wout : WX) (D : Ends) : List Clause → WX
  | [] => Wout
  | (c, i, ts) :: r => fun cls d τ G => ∃ t, PySem.W.exmOne K cls c = some t ∧ (t = true → ∀ a, G a = none → ts a cls d (goneE i D) (τ.set i (some (.ref a))) G) ∧ (t = false → wClauses K Wout D r cls d τ G)
inductive Clauses (X : Cx) : List ExceptHandler → List Clause → Prop
  | nil : Clauses X [] []
  | cons {x n : Str} {c : Value} {i : Nat} {ts : Addr → Value → Option Addr → TS} {b₀ : Stmt} {suite : List Stmt} {np np' : Pos} {hds : List ExceptHandler} {l : List Clause} (hi : X.N[i]? = some n) (hl : X.env.kindOf n = some .local) (hc : Names X x c)
      (hsu : ∀ (a : Addr) (oe : Obj) (cls : Value) (d : Option Addr) (pn : List (Addr × Obj)), Zc cls d oe → (∃ vs, oe.data = .fields vs) → PSs (X.suite a ((a, oe) :: pn)) (b₀ :: suite) (ts a cls d)) (r : Clauses X hds l) :
      Clauses X (.ExceptHandler (some (.Name x np)) (some n) (b₀ :: suite) np' :: hds) ((c, i, ts) :: l)
section
variable {X : Cx} {body : List Stmt} {h₀ : ExceptHandler} {hds : List ExceptHandler} {l : List Clause} {pos : Pos} {tb : WX → TS} {Wout : WX}
theorem ps_try_clauses (hst : X.stack = X.env :: X.outer) (hfr0 : X.env.frame = some X.env.locals) (hN : X.N.Nodup) (tk : Takes X Wout)
    (hb : ∀ (W : WX) (pn : List (Addr × Obj)) (xe : Value → Shared → Prop), Takes (X.tr pn xe) W → PassesOwn (model X.prog X.w) X.A X.env xe → PSs (X.tr pn xe) body (tb W))
    (hh : Clauses X (h₀ :: hds) l) : PS X (.Try body (h₀ :: hds) [] [] pos) (fun D σ H => tb (wClauses X.K Wout D l) D σ H) := by
  refine ⟨fun pins s σ H D I hyp => ?_⟩
  have iok := I.ok
  have hframes : X.A.frames = some (X.env :: X.outer) := by rw [iok.frames, hst]
  refine wpAny_Try_except (wpAny_mono ((hb (wClauses X.K Wout D l) (X.pn ++ pins) (fun er t1 => wpAny (model X.prog X.w) X.A (noteFrame er X.env) (fun _ t2 => wpAny (model X.prog X.w) X.A (setFlight er none) (fun _ t3 =>
    wpAny (model X.prog X.w) X.A (handleBy er X.env (h₀ :: hds)) (SP X pins D) X.xe t3) X.xe t2) X.xe t1) (fun u s' air => ?_) PassesOwn.looking).run [] s σ H D (I.toTry _) hyp) (fun fl t1 done => ?_) (fun er t1 q => q))
  · obtain ⟨a, B, sI, pins', τ, G, cls, d, rfl, Ja, newB, upA, sky, gNone, osEq, bare, wish⟩ := air
    have Jb : Inv X pins τ G sI := Ja.ofTry iok
    have skyB : Sky B (X.env :: X.outer) a (Zc cls d) X.env.locals s'.heap := by rw [← hst]; exact sky
    show wpAny (model X.prog X.w) X.A (noteFrame (.ref a) X.env) _ _ _
    refine Sky.land Zc.steady hframes hfr0 skyB fun hp3 fly3 up3 => ?_
    have J3 : Inv X pins τ G { s' with heap := hp3 } := Jb.landed newB fly3.1 (upA.trans up3) osEq bare
    obtain ⟨o3, w3, there3, zc3, dat3⟩ := fly3.there
    have off : a ∉ frs (X.env :: X.outer) := fun hm => by
      obtain ⟨_, o', e', hno⟩ := fly3.2.2.1.mem hm
      rw [there3] at e'
      cases e'
      exact hno _ dat3
    have offL : a ≠ X.env.locals := fun z => off (List.mem_filterMap.mpr ⟨X.env, List.mem_cons_self, by rw [hfr0, z]⟩)
    have offF : a ∉ X.fs := fun hm => by
      obtain ⟨en, hen, q⟩ := List.mem_filterMap.mp hm
      exact off (List.mem_filterMap.mpr ⟨en, List.mem_cons_of_mem _ hen, q⟩)
    have S3 := J3.suite there3 dat3 gNone offL offF
    have walk : ∀ {hs2 : List ExceptHandler} {l2 : List Clause}, Clauses X hs2 l2 → wClauses X.K Wout D l2 cls d τ G → wpAny (model X.prog X.w) X.A (handleBy (.ref a) X.env hs2) (SP X pins D) X.xe { s' with heap := hp3 } := by
      intro hs2 l2 hk
      induction hk with
      | nil =>
        intro out
        refine wpAny_handleBy_nil ?_
        obtain ⟨_, _, _, oe, vs, T, oT, _, there, zc, dat, v1, _⟩ := id fly3
        unfold PySem.passOn
        refine wpAny_bind (wpAny_field there dat v1 ?_)
        rw [if_neg (by simp : ¬ ((Value.ref T == Value.none) = true))]
        have last : wpAny (model X.prog X.w) X.A (setFlight (.ref a) X.env.frame) (fun _ t4 => wpAny (model X.prog X.w) X.A (throw (.ref a) : Sem Flow) (SP X pins D) X.xe t4) X.xe { s' with heap := hp3 } := by
          rw [hfr0]
          refine HandSPX.setFlight_upZ fly3 fun hp4 fly4 up4 => wpAny_throw (tk _ _ ⟨a, B, sI, pins, τ, G, cls, d, rfl, Jb, newB, (upA.trans up3).trans up4, .inr (.inr (by rw [hst]; exact fly4)), gNone, osEq, bare, out⟩)
        first
          | exact wpAny_bind (wpAny_pure (wpAny_bind last))
          | exact wpAny_bind last
      | @cons x n c i ts b₀ suite np np' hds2 l2 hi hl hc hsu r ih =>
        rintro ⟨t, et, yes, no⟩
        refine wpAny_handleBy_cons (codeAny_handlers_test ?_) (by intro q; cases q)
        have look : PySem.W.Looks (model X.prog X.w) hp3 (typeOf (.ref a)) cls := fun A Q E t keep q => wpAny_typeOf_ref (keep _ _ there3) (by rw [zc3.1]; exact q)
        have match_ := PySem.W.exm_one (M := model X.prog X.w) (J3.kIn) look et
        have name : ∀ {Q E : Value → Shared → Prop}, Q c { s' with heap := hp3 } → wpAny (model X.prog X.w) (X.A.mark (some (.ref a))) (eval (.Name x np) X.env) Q E { s' with heap := hp3 } := fun {Q E} q => by
          obtain ⟨g1, g2, g3 | ⟨g3, g4, g5⟩⟩ := hc
          · exact ld_glob (X := X.suite a ((a, o3) :: (X.pn ++ pins))) S3 g1 g3 q g2
          · exact ld_blt (X := X.suite a ((a, o3) :: (X.pn ++ pins))) S3 g1 g3 g4 q g5 g2
        refine name (match_.here ?_)
        cases t with
        | false =>
          show wpAny _ X.A (handleBy (.ref a) X.env hds2) _ _ _
          exact ih (no rfl)
        | true =>
          refine codeAny_handlers_suite_as (HandSPX.lands_againZ fly3 fun hp4 fly4 up4 => ?_)
          have J4 : Inv X pins τ G { s' with heap := hp4 } := Jb.landed newB fly4.1 ((upA.trans up3).trans up4) osEq bare
          obtain ⟨o4, w4, there4, zc4, dat4⟩ := fly4.there
          refine store_ok (X := X.suite a ((a, o4) :: (X.pn ++ pins))) (v := .ref a) (J4.suite there4 dat4 gNone offL offF) hN hi (.inl hl) rfl (fun t5 S5 => ?_) (.inr hl)
          refine wpAny_mono ((hsu a o4 cls d (X.pn ++ pins) zc4 ⟨_, dat4⟩).run [] t5 _ G _ S5 (yes rfl a gNone)) (fun fl t6 done => ?_) (fun _ _ z => False.elim z)
          have bye : ∀ {τ6 : L2.St} {G6 : Hp} {Q : Shared → Prop}, Inv (X.suite a ((a, o4) :: (X.pn ++ pins))) [] τ6 G6 t6 → (∀ t7, Inv X pins (τ6.set i none) G6 t7 → Q t7) →
              wpAny (model X.prog X.w) X.A (do bindName X.env n .none; unbindBehindTheSuite X.env n np') (fun _ t7 => Q t7) X.xe t6 := fun {τ6 G6 Q} S6 q => gone_ok (S6.unsuite iok) hN hi hl q
          cases fl with
          | ret u =>
            obtain ⟨v6, τ6, G6, S6, r6, q6⟩ := done
            exact bye S6 fun t7 J7 => ⟨_, _, _, J7, r6, q6⟩
          | _ =>
            obtain ⟨τ6, G6, S6, q6⟩ := done
            exact bye S6 fun t7 J7 => ⟨_, _, J7, q6⟩
    exact walk hh wish
  · cases fl with
    | ret u =>
      obtain ⟨v, τ, G, Ja, rv, q⟩ := done
      exact ⟨v, τ, G, Ja.ofTry iok, rv, q⟩
    | next =>
      obtain ⟨τ, G, Ja, q⟩ := done
      exact wpAny_execs_nil ⟨τ, G, Ja.ofTry iok, q⟩
    | _ =>
      obtain ⟨τ, G, Ja, q⟩ := done
      exact ⟨τ, G, Ja.ofTry iok, q⟩
end
end Vf

set_option Elab.async false
set_option linter.all false
set_option maxRecDepth 100000
set_option maxHeartbeats 2000000
namespace Vf
open PySem PySem.Spec PyProof.Rows L2
section
variable {X : Cx}
/-- xs.count(y), flat items -/
def rCntV (K : PySem.W.Frag) : V → List V → Hp → VK → Prop := fun x xs H Q => ∃ (p : Addr) (ys : List V) (y : V), x = .ref p ∧ xs = [y] ∧ SqL K H p ys ∧ flatV y = true ∧ ys.all flatV = true ∧ Q (.int ((ys.countP fun z => eqV z y : Nat) : Int)) H
theorem count_answ (e : V → Bool) : ∀ {xs : List V} {us : List Value}, Vals xs us → us.countP (answ e) = xs.countP e
  | _, _, .nil => rfl
  | _, _, .cons r t => by
    rw [List.countP_cons, List.countP_cons, answ_of e r, count_answ e t]
theorem mt_lcountV : MtR X "list.count" (rCntV X.K) := by
  intro pins s σ H x xs v us Q I rx rxs h
  obtain ⟨p, ys, y, rfl, rfl, hs, fy, fs, q⟩ := h
  cases rx
  obtain ⟨u, rfl, ru⟩ := rxs.one
  obtain ⟨its, rv, ⟨⟨cls, dd, data, sl⟩, n, ho, hc, hdn, hd⟩, hlen⟩ := I.list hs
  simp only at hc hd
  subst hc hd
  refine call_meets PySem.F.slot_list_count ⟨_, ho, rfl⟩ PySem.F.entry_list_count (PySem.F.args_list_count_2 _ _)
    (SeqAt.list_countAt p its.toArray n dd sl u (answ fun z => eqV z y)) ⟨ho, fun w hw => ?_, ?_⟩
  · obtain ⟨z, hz, rz⟩ := vals_mem rv (by simpa using hw)
    rw [answ_of _ rz]
    exact eqAt_V rz ru (List.all_eq_true.mp fs z hz) fy
  · have ec : its.toArray.toList.countP (answ fun z => eqV z y) = ys.countP fun z => eqV z y := count_answ _ rv
    refine ⟨.int ((ys.countP fun z => eqV z y : Nat) : Int), H, I.tok _, ⟨s.toks, ?_⟩, q⟩
    show Value.int ((its.toArray.toList.countP (answ fun z => eqV z y) : Nat) : Int) s.toks = Value.int ((ys.countP fun z => eqV z y : Nat) : Int) s.toks
    rw [ec]
/-! ### readings over a given K -/
theorem mt_lcountVK {K : PySem.W.Frag} (h : X.K = K) : MtR X "list.count" (rCntV K) := h ▸ mt_lcountV
theorem sl_listK {K : PySem.W.Frag} (h : X.K = K) : SlR X (rSlL K) := h ▸ sl_list
theorem sl_tupK {K : PySem.W.Frag} (h : X.K = K) : SlR X (rSlT K) := h ▸ sl_tup
theorem op_in_seqK {K : PySem.W.Frag} (hK : X.K = K) : OpR X (compareOp .In) (rIn K false) := hK ▸ op_in_seq
theorem op_notIn_seqK {K : PySem.W.Frag} (hK : X.K = K) : OpR X (compareOp .NotIn) (rIn K true) := hK ▸ op_notIn_seq
theorem op_notInIK {K : PySem.W.Frag} (hK : X.K = K) (hu : X.A.units + 64 < cLine) : OpR X (compareOp .NotIn) (rNotInI K) := hK ▸ op_notInI hu
theorem op_inBK {K : PySem.W.Frag} {n : Nat} (hK : X.K = K) (hr : Room (n + 1) X.A) : OpR X (compareOp .In) (rInB K false (DW K)) := hK ▸ op_inB (n := n) eqB_w hr
end
section
variable {X : Cx} {o e : Expr} {es : List Expr} {to : TE} {t : TA} {name : Str} {apos cpos : Pos} {T id : String} {r : V → List V → Hp → VK → Prop}
theorem pe_bmK {K : PySem.W.Frag} (hK : X.K = K) (pa : PlainAttrs T) (slot : Slot T name id) (hty : typeOf (.builtin id) = pure (.type "method_descriptor")) (hm : MtR X id r) (ho : PE X o to) (ha : PA X (e :: es) t)
    (hbase : attributeBase o name X.env (eval o X.env) = eval o X.env := by rfl)
    (hfew : ((backTo cpos (starEach (e :: es) X.env)).all (fun x => !x.1) && (backToKw cpos (keywordEach [] X.env)).all (fun x => x.1.isSome)
      && decide ((e :: es).length + ([] : List Keyword).length + (if ([] : List Keyword).isEmpty then 0 else 1) < 30)) = true := by rfl)
    (hline : (apos.endLine == cpos.line) = true := by rfl) (hs : starEach (e :: es) X.env = (false, eval e X.env) :: starEach es X.env := by rfl) (hplain : (backTo cpos (starEach es X.env)).any (·.1) = false := by rfl) :
    PE X (.Call (.Attribute o name apos) (e :: es) [] cpos) (tBM K T r to t) := hK ▸ pe_bm pa slot hty hm ho ha hbase hfew hline hs hplain
end
/-! ### a comprehension of two walks -/
theorem lc2_it {J : It} {n : Nat} {G : Hp → Prop} {Y : Nat → Hp → V → Hp → Prop} (w : Walk J n G Y) {g g1 : TG} {tt tt1 : TT} {wi1 : TI} {te : TE} {vs vs1 : List Nat} {σ : L2.St} {H1 : Hp} {D : Addr} {Qd : Hp → Prop} (Pv : Nat → Hp → Prop) (h0 : Pv 0 (upd H1 D (.lst []))) (hG : ∀ i H, i ≤ n → Pv i H → G H)
    (hs : ∀ i x H H', i < n → Pv i H → Y i H x H' → g x (wipe σ vs) H' fun σ2 H2 => wipe σ2 vs = wipe σ vs ∧ tt σ2 H2 fun b H3 =>
      if b = true then wi1 σ2 H3 fun J1 H4 => ∃ W1 : Nat → Nat → Hp → Prop, (∃ m, W1 0 m H4) ∧ ∀ j k H, W1 j k H →
        (J1.stop j H ∧ Pv (i + 1) H) ∨ (J1.go j H ∧ ∃ Nx1 : Hp → Prop, (∀ H', Nx1 H' → ∃ k', k' < k ∧ W1 (j + 1) k' H') ∧ ∀ x H', J1.yld j H x H' → g1 x (wipe σ2 vs1) H' fun σ3 H5 => wipe σ3 vs1 = wipe σ2 vs1 ∧ tt1 σ3 H5 fun b H6 =>
          if b = true then te σ3 H6 fun y H7 => ∃ acc, H7 D = some (.lst acc) ∧ acc.length < sizeLine ∧ Nx1 (upd H7 D (.lst (acc ++ [y]))) else Nx1 H6)
      else Pv (i + 1) H3) (hd : ∀ H, Pv n H → Qd H) :
    ∃ W : Nat → Nat → Hp → Prop, (∃ m, W 0 m (upd H1 D (.lst []))) ∧ ∀ i m H, W i m H →
      (J.stop i H ∧ Qd H) ∨ (J.go i H ∧ ∃ Nx : Hp → Prop, (∀ H', Nx H' → ∃ m', m' < m ∧ W (i + 1) m' H') ∧ ∀ x H', J.yld i H x H' → g x (wipe σ vs) H' fun σ2 H2 => wipe σ2 vs = wipe σ vs ∧ tt σ2 H2 fun b H3 =>
        if b = true then wi1 σ2 H3 fun J1 H4 => ∃ W1 : Nat → Nat → Hp → Prop, (∃ m, W1 0 m H4) ∧ ∀ j k H, W1 j k H →
          (J1.stop j H ∧ Nx H) ∨ (J1.go j H ∧ ∃ Nx1 : Hp → Prop, (∀ H', Nx1 H' → ∃ k', k' < k ∧ W1 (j + 1) k' H') ∧ ∀ x H', J1.yld j H x H' → g1 x (wipe σ2 vs1) H' fun σ3 H5 => wipe σ3 vs1 = wipe σ2 vs1 ∧ tt1 σ3 H5 fun b H6 =>
            if b = true then te σ3 H6 fun y H7 => ∃ acc, H7 D = some (.lst acc) ∧ acc.length < sizeLine ∧ Nx1 (upd H7 D (.lst (acc ++ [y]))) else Nx1 H6)
        else Nx H3) := by
  refine ⟨fun i m H => m = n - i ∧ i ≤ n ∧ Pv i H, ⟨n, by simp, Nat.zero_le _, h0⟩, ?_⟩
  rintro i m H ⟨rfl, hi, p⟩
  have q := hG i H hi p
  by_cases hlt : i < n
  · exact .inr ⟨w.goes i H hlt q, Pv (i + 1), fun H' p' => ⟨n - (i + 1), by omega, rfl, hlt, p'⟩, fun x H' y => hs i x H H' hlt p (w.yields i H x H' hlt q y)⟩
  · have e : i = n := by omega
    subst e
    exact .inl ⟨w.stops H q, hd H p⟩
/-- its inner walk -/
theorem lc2_in {J1 : It} {n : Nat} {G : Hp → Prop} {Y : Nat → Hp → V → Hp → Prop} (w : Walk J1 n G Y) {g1 : TG} {tt1 : TT} {te : TE} {vs1 : List Nat} {σ2 : L2.St} {H4 : Hp} {D : Addr} {Qd : Hp → Prop} (Pv : Nat → Hp → Prop) (h0 : Pv 0 H4) (hG : ∀ i H, i ≤ n → Pv i H → G H)
    (hs : ∀ i x H H', i < n → Pv i H → Y i H x H' → g1 x (wipe σ2 vs1) H' fun σ3 H5 => wipe σ3 vs1 = wipe σ2 vs1 ∧ tt1 σ3 H5 fun b H6 =>
      if b = true then te σ3 H6 fun y H7 => ∃ acc, H7 D = some (.lst acc) ∧ acc.length < sizeLine ∧ Pv (i + 1) (upd H7 D (.lst (acc ++ [y]))) else Pv (i + 1) H6) (hd : ∀ H, Pv n H → Qd H) :
    ∃ W1 : Nat → Nat → Hp → Prop, (∃ m, W1 0 m H4) ∧ ∀ j k H, W1 j k H →
      (J1.stop j H ∧ Qd H) ∨ (J1.go j H ∧ ∃ Nx1 : Hp → Prop, (∀ H', Nx1 H' → ∃ k', k' < k ∧ W1 (j + 1) k' H') ∧ ∀ x H', J1.yld j H x H' → g1 x (wipe σ2 vs1) H' fun σ3 H5 => wipe σ3 vs1 = wipe σ2 vs1 ∧ tt1 σ3 H5 fun b H6 =>
        if b = true then te σ3 H6 fun y H7 => ∃ acc, H7 D = some (.lst acc) ∧ acc.length < sizeLine ∧ Nx1 (upd H7 D (.lst (acc ++ [y]))) else Nx1 H6) := by
  refine ⟨fun i m H => m = n - i ∧ i ≤ n ∧ Pv i H, ⟨n, by simp, Nat.zero_le _, h0⟩, ?_⟩
  rintro i m H ⟨rfl, hi, p⟩
  have q := hG i H hi p
  by_cases hlt : i < n
  · exact .inr ⟨w.goes i H hlt q, Pv (i + 1), fun H' p' => ⟨n - (i + 1), by omega, rfl, hlt, p'⟩, fun x H' y => hs i x H H' hlt p (w.yields i H x H' hlt q y)⟩
  · have e : i = n := by omega
    subst e
    exact .inl ⟨w.stops H q, hd H p⟩
/-! ### name = {..: .. for ..} on one line -/
section
variable {X : Cx}
theorem sw_trueD {kx vx : Expr} {gs : List Comprehension} {scope : Scope} {pos py : Pos} {y : Str} {l : Nat} {env : Env} (hk : env.scope.kind = .function) (hy : env.scope.names.lookup y = some .local) (hl : (py.line == pos.line) = true)
    (ha : (scope.names.any fun (n, k) => n == y && (k == .local || k == .cell)) = false) : swapsWith (.DictComp kx vx gs scope pos) (some (.Name y py)) l env = pure true := by
  have ky : env.kindOf y = some .local := hy
  have hb : env.blockKind = .function := by unfold Env.blockKind; rw [hk]; rfl
  unfold swapsWith
  simp only [hb, ky, ha, Expr.pos, hl]
  rfl
theorem ps_setDc {i : Nat} {y : Str} {py : Pos} {kx vx tg iter : Expr} {ifs : List Expr} {scope : Scope} {own : List (Str × Nat)} {pos spos : Pos} {wi : TI} {g : TG} {tt : TT} {tk tv : TE} (hc : X.calm = true) (hN : X.N.Nodup) (hy : X.N[i]? = some y) (hyl : X.env.scope.names.lookup y = some .local)
    (hsw : swapsWith (.DictComp kx vx [⟨tg, iter, ifs, 0⟩] scope pos) (some (.Name y py)) spos.line X.env = pure true) (hi : PI X tg iter wi) (ok : BlkOk X.N X.env.scope scope own)
    (hg : ∀ (s : Shared) (H : Hp) (C : Addr) (cl : List (Str × Addr)) (fp : List Addr), PG (X.blk s H scope (compEnvC scope cl C X.env) fp) tg g) (ht : ∀ (s : Shared) (H : Hp) (C : Addr) (cl : List (Str × Addr)) (fp : List Addr), PTs (X.blk s H scope (compEnvC scope cl C X.env) fp) ifs tt)
    (hk : ∀ (s : Shared) (H : Hp) (C : Addr) (cl : List (Str × Addr)) (fp : List Addr), PE (X.blk s H scope (compEnvC scope cl C X.env) fp) kx tk)
    (he : ∀ (s : Shared) (H : Hp) (C : Addr) (cl : List (Str × Addr)) (fp : List Addr), PE (X.blk s H scope (compEnvC scope cl C X.env) fp) vx tv) (hs : ∀ x, foldedSetIterable iter X.env x = pure x := by intro _; rfl) :
    PS X (.Assign [.Name y py] (.DictComp kx vx [⟨tg, iter, ifs, 0⟩] scope pos) spos) (tAsg (tDc wi g tt tk tv (own.map (·.2))) (gName i)) := by
  refine ⟨fun pins s σ H D I h => ?_⟩
  rw [PySem.exec_Assign_Name_used _ _ _ _ hsw]
  refine wpAny_bind (wpAny_standAt (wpAny_bind ?_))
  show wpAny _ X.A (do let _ ← comprehension (.DictComp kx vx [⟨tg, iter, ifs, 0⟩] scope pos) scope X.env (firstIterPos [⟨tg, iter, ifs, 0⟩] pos) newDict false (eval iter X.env) (some (assign (.Name y py) X.env))) _ _ s
  have h : tDc wi g tt tk tv (own.map (·.2)) σ H (fun x H1 => gName i x σ H1 D.nx) := h
  refine wpAny_bind (thn (dc_core (Qf := fun _ s' => SP X pins D .next s') hc hN I hi ok hg ht hk he hs h fun L C s' m H' I' q hn f => ?_) fun _ s' hq => wpAny_pure (wpAny_pure hq))
  show wpAny _ _ (assign (.Name y py) X.env (.ref L)) _ _ _
  refine wpAny_assign_Name (store_ok2 (v := V.ref L) I' hN hy (.inl hyl) rfl (fun s2 I2 ⟨a, sb, ha⟩ => ?_) (.inr hyl))
  obtain ⟨f0, f1, f2, f3, f4, f5⟩ := f
  have haC : C ≠ a := by
    rcases ha with z | z
    · rw [z]; exact f1
    · exact fun e => f4 y a z e.symm
  refine ⟨m, hn.sameBut sb haC, fun h3 sb3 => ?_⟩
  exact ⟨_, H', I2.turned (t' := s2.toks) (fun b o hb e => (sb3.2 b hb).trans e) f0 f1 f3 f4 f5, q⟩
end
end Vf

set_option Elab.async false
set_option linter.all false
set_option maxRecDepth 100000
set_option maxHeartbeats 2000000
namespace Vf
open PySem PySem.Spec PyProof.Rows L2
/-! ### and, or: one way on, whatever the parts answer -/
section
variable {X : Cx} {e a b : Expr} {rest : List Expr} {pos : Pos}
def tWk (t : TE) : TE := fun σ H Q => ∃ R : VK, t σ H R ∧ ∀ v H', R v H' → Q v H'
def tTWk (t : TT) : TT := fun σ H Q => ∃ R : Bool → Hp → Prop, t σ H R ∧ ∀ c H', R c H' → Q c H'
theorem pe_weak {t : TE} (h : PE X e t) : PE X e (tWk t) := ⟨fun pins s σ H Q I ⟨R, h1, k⟩ =>
  PySem.wpAny_mono (h.run pins s σ H R I h1) (fun v s' ⟨x, H', I', r, q⟩ => ⟨x, H', I', r, k _ _ q⟩) fun _ _ z => z⟩
theorem pt_weak {t : TT} (h : PT X e t) : PT X e (tTWk t) := ⟨fun pins s σ H Q I ⟨R, h1, k⟩ =>
  PySem.wpAny_mono (h.run pins s σ H R I h1) (fun v s' ⟨H', I', q⟩ => ⟨H', I', k _ _ q⟩) fun _ _ z => z⟩
theorem pw_weak {t : TT} (h : PW X e t) : PW X e (tTWk t) := ⟨fun wh pins s σ H Q I ⟨R, h1, k⟩ =>
  PySem.wpAny_mono (h.run wh pins s σ H R I h1) (fun v s' ⟨H', I', q⟩ => ⟨H', I', k _ _ q⟩) fun _ _ z => z⟩
def tAndB (t u : TT) : TT := fun σ H Q => t σ H fun c H1 => ∃ (d : Bool) (R : Hp → Prop), (c = true → u σ H1 fun b H2 => b = d ∧ R H2) ∧ (c = false → R H1) ∧ ∀ H2, R H2 → Q (c && d) H2
def tOrB (t u : TT) : TT := fun σ H Q => t σ H fun c H1 => ∃ (d : Bool) (R : Hp → Prop), (c = false → u σ H1 fun b H2 => b = d ∧ R H2) ∧ (c = true → R H1) ∧ ∀ H2, R H2 → Q (c || d) H2
def tAndVB (t u : TE) : TE := fun σ H Q => t σ H fun x H1 => ∃ (c d : Bool) (R : Hp → Prop), x = .bl c ∧ (c = true → u σ H1 fun b H2 => b = .bl d ∧ R H2) ∧ (c = false → R H1) ∧ ∀ H2, R H2 → Q (.bl (c && d)) H2
def tOrVB (t u : TE) : TE := fun σ H Q => t σ H fun x H1 => ∃ (c d : Bool) (R : Hp → Prop), x = .bl c ∧ (c = false → u σ H1 fun b H2 => b = .bl d ∧ R H2) ∧ (c = true → R H1) ∧ ∀ H2, R H2 → Q (.bl (c || d)) H2
theorem pw_andB {t u : TT} (ha : PT X a t) (hb : PW X (.BoolOp .And (b :: rest) pos) u) : PW X (.BoolOp .And (a :: b :: rest) pos) (tAndB t u) :=
  ⟨fun wh pins s σ H Q I h => (pw_and (pt_weak ha) (pw_weak hb)).run wh pins s σ H Q I ⟨_, h, fun c H1 ⟨d, R, h1, h2, k⟩ => by
    cases c with
    | true => exact iteT ⟨_, h1 rfl, fun b H2 ⟨e, r⟩ => e ▸ k H2 r⟩
    | false => exact iteF (k H1 (h2 rfl))⟩⟩
theorem pw_orB {t u : TT} (ha : PT X a t) (hb : PW X (.BoolOp .Or (b :: rest) pos) u) : PW X (.BoolOp .Or (a :: b :: rest) pos) (tOrB t u) :=
  ⟨fun wh pins s σ H Q I h => (pw_or (pt_weak ha) (pw_weak hb)).run wh pins s σ H Q I ⟨_, h, fun c H1 ⟨d, R, h1, h2, k⟩ => by
    cases c with
    | true => exact iteT (k H1 (h2 rfl))
    | false => exact iteF ⟨_, h1 rfl, fun b H2 ⟨e, r⟩ => e ▸ k H2 r⟩⟩⟩
theorem pe_andB {t u : TE} (ha : PE X a t) (hb : PE X (.BoolOp .And (b :: rest) pos) u) : PE X (.BoolOp .And (a :: b :: rest) pos) (tAndVB t u) :=
  ⟨fun pins s σ H Q I h => (pe_and (pe_weak ha) (pe_weak hb)).run pins s σ H Q I ⟨_, h, fun x H1 ⟨c, d, R, e, h1, h2, k⟩ => ⟨c, e, by
    cases c with
    | true => exact iteT ⟨_, h1 rfl, fun b H2 ⟨e, r⟩ => e ▸ k H2 r⟩
    | false => exact iteF (k H1 (h2 rfl))⟩⟩⟩
theorem pe_orB {t u : TE} (ha : PE X a t) (hb : PE X (.BoolOp .Or (b :: rest) pos) u) : PE X (.BoolOp .Or (a :: b :: rest) pos) (tOrVB t u) :=
  ⟨fun pins s σ H Q I h => (pe_or (pe_weak ha) (pe_weak hb)).run pins s σ H Q I ⟨_, h, fun x H1 ⟨c, d, R, e, h1, h2, k⟩ => ⟨c, e, by
    cases c with
    | true => exact iteT (k H1 (h2 rfl))
    | false => exact iteF ⟨_, h1 rfl, fun b H2 ⟨e, r⟩ => e ▸ k H2 r⟩⟩⟩⟩
/-- a if t else b: one value -/
def tIfB (t : TT) (u v : TE) : TE := fun σ H Q => t σ H fun c H1 => ∃ (x : V) (R : Hp → Prop), (c = true → u σ H1 fun y H2 => y = x ∧ R H2) ∧ (c = false → v σ H1 fun y H2 => y = x ∧ R H2) ∧ ∀ H2, R H2 → Q x H2
theorem pe_ifExpB {c : Expr} {t : TT} {u v : TE} (hc : PT X c t) (ha : PE X a u) (hb : PE X b v) : PE X (.IfExp c a b pos) (tIfB t u v) :=
  ⟨fun pins s σ H Q I h => (pe_ifExp (pt_weak hc) (pe_weak ha) (pe_weak hb)).run pins s σ H Q I ⟨_, h, fun c H1 ⟨x, R, h1, h2, k⟩ => by
    cases c with
    | true => exact iteT ⟨_, h1 rfl, fun y H2 ⟨e, r⟩ => e ▸ k H2 r⟩
    | false => exact iteF ⟨_, h2 rfl, fun y H2 ⟨e, r⟩ => e ▸ k H2 r⟩⟩⟩
/-- a tuple as target, within a comprehension -/
theorem pg_tupK {K : PySem.W.Frag} {es : List Expr} {k : Nat} {t : TGs} (hK : X.K = K) (n : Nat) (hc : X.calm = true) (h : PGs X es t)
    (hn : (assignEach es X.env).length = n := by rfl) (hst : (assignEach es X.env).findIdx? (·.1) = none := by rfl) : PG X (.Tuple es k pos) (gTup K n t) := hK ▸ pg_tup hc h hn hst
/-- a test whose two ways are told by one -/
theorem ite_one {c : Bool} {A B : Prop} (h1 : c = true → A) (h2 : c = false → B) : if c = true then A else B := by
  cases c with
  | true => exact iteT (h1 rfl)
  | false => exact iteF (h2 rfl)
end
/-! ### f(e, .., k = v, ..) of a def with defaults -/
def tFnK (n m : Nat) (sp : Sp) (gV : List V → List V → List V) (E : XK) (t tk : TA) : TE := fun σ H Q => t σ H fun vs H1 => tk σ H1 fun zs H2 => vs.length = n ∧ zs.length = m ∧ sp (gV vs zs) H2 Q E
theorem c_fnK {X : Cx} {CX : CXT} {k j n : Nat} {ps ks : List Str} {sp : Sp} {x : Str} {p pos : Pos} {e : Expr} {es : List Expr} {kws : List Keyword} {t tk : TA} {gV : List V → List V → List V} {E : XK} (O : OkK X.prog X.w X.K X.mg X.base CX k (x, none) ps n ks gV sp) (hr : Room j X.A) (hj : k ≤ j) (kp : PySem.W.keepIn X.K (.ref (He.fAd X.K (x, none))) = true)
    (hm : X.mg x = some (.ref (He.ga X.K x))) (hx : Passes CX X E) (ha : PA X (e :: es) t) (hkw : PK X kws tk) (hg : Gl X x := by rfl) (hall : (backToKw pos (keywordEach kws X.env)).all (·.1.isSome) = true := by rfl) (hks : (backToKw pos (keywordEach kws X.env)).filterMap (·.1) = ks := by rfl)
    (hdb : (x == ("__debug__" : Str)) = false := by decide) (he : starEach (e :: es) X.env = (false, eval e X.env) :: starEach es X.env := by rfl) (hpl : ((backTo pos (starEach (e :: es) X.env)).any (·.1) || (backToKw pos (keywordEach kws X.env)).any (·.1.isNone)) = false := by rfl) :
    PE X (.Call (.Name x p) (e :: es) kws pos) (tFnK n ks.length sp gV E t tk) := by
  obtain ⟨fd, g, F, b⟩ := O.ex
  refine ⟨fun pins s σ H Q I h => wpAny_Call_Name_kw (ld_glob I hg hm ?_ hdb)⟩
  refine PySem.W.callWith_KW (h₀ := X.base) I.ok.mod.kin kp hall (thn (ha.run pos pins s σ H _ I h) fun us s1 ⟨vs, H1, I1, r, q⟩ => thn (hkw.run pos pins s1 σ H1 _ I1 q) fun ws s2 ⟨zs, H2, I2, rz, l1, l2, q2⟩ => ⟨I2.kIn, ?_⟩) hpl he
  rw [hks]
  refine wpAny_call (codeAny_mono (F.run X.A X.stack s2 H2 ⟨us, ks.zip ws⟩ (g us ws) (gV vs zs) Q E (hr.mono hj) I2.env0 (b.to s2 us ws I2.kIn (r.length.symm.trans l1) (rz.length.symm.trans l2)) (b.rel r rz) q2) fun r s' hq => ?_)
  match r, hq with
  | .error e, hq => exact hx pins σ H2 s2 e s' I2 hq
  | .ok (.ret u), hq => exact I2.after hq
end Vf

set_option Elab.async false
set_option linter.all false
set_option maxRecDepth 100000
set_option maxHeartbeats 1000000
namespace Vf
open PySem PySem.Spec PyProof.Rows L2
section
variable {X : Cx}
/-- t == u, two tuples of equal items -/
def rEq0 (K : PySem.W.Frag) : R2 := fun x y H Q => ∃ (a b : Addr) (xs ys : List V), x = .ref a ∧ y = .ref b ∧ SqT K H a xs ∧ SqT K H b ys ∧ Paired (fun z z' => EqI K H z z' true) xs ys ∧ Q (.bl true) H
theorem op_eq0 (hu : X.A.units + 64 < cLine) : OpR X (compareOp .Eq) (rEq0 X.K) := by
  intro pins s σ H x y v u Q I rx ry h
  obtain ⟨a, b, xs, ys, rfl, rfl, ha, hb, hp, q⟩ := h
  cases rx
  cases ry
  have hu1 : X.A.in1.units < cLine := by show X.A.units + 1 < cLine; omega
  obtain ⟨us, r1, p1, _⟩ := I.tuple ha
  obtain ⟨ws, r2, p2, _⟩ := I.tuple hb
  have hs : us.toArray.size = ws.toArray.size := by rw [List.size_toArray, List.size_toArray, ← r1.length, ← r2.length]; exact Paired.length hp
  refine SeqAt.RcAt.tuples (e := fun _ => true) p1 p2 (by omega) (fun j h1 h2 => ?_) _ _ _ _ ?_
  · have := items_at (fun r1 r2 k => EqI.at I k r1 r2 hu1) hp r1 r2 j (by simpa using h1) (by simpa using h2)
    simpa using this
  · rw [hs, show ((List.range (min ws.toArray.size ws.toArray.size)).all fun _ => true) = true from List.all_eq_true.mpr fun _ _ => rfl, beq_self_eq_true]
    exact ⟨.bl true, H, I, rfl, q⟩
end
end Vf

set_option Elab.async false
set_option linter.all false
set_option maxRecDepth 100000
set_option maxHeartbeats 1000000
namespace Vf
open PySem PySem.Spec PyProof.Rows L2
section
variable {X : Cx}
/-- l == m, two lists: of unlike lengths, or of equal items -/
def rEqL0 (K : PySem.W.Frag) : R2 := fun x y H Q => ∃ (a b : Addr) (xs ys : List V), x = .ref a ∧ y = .ref b ∧ SqL K H a xs ∧ SqL K H b ys ∧ ((xs.length ≠ ys.length ∧ Q (.bl false) H) ∨ (Paired (fun z z' => EqI K H z z' true) xs ys ∧ Q (.bl true) H))
theorem op_eqL0 (hu : X.A.units + 64 < cLine) : OpR X (compareOp .Eq) (rEqL0 X.K) := by
  intro pins s σ H x y v u Q I rx ry h
  obtain ⟨a, b, xs, ys, rfl, rfl, ha, hb, h⟩ := h
  cases rx
  cases ry
  have hu1 : X.A.in1.units < cLine := by show X.A.units + 1 < cLine; omega
  obtain ⟨us, r1, p1, _⟩ := I.list ha
  obtain ⟨ws, r2, p2, _⟩ := I.list hb
  rcases h with ⟨hn, q⟩ | ⟨hp, q⟩
  · have hs : (us.toArray.size != ws.toArray.size) = true := by
      rw [List.size_toArray, List.size_toArray, ← r1.length, ← r2.length]
      simpa using hn
    exact SeqAt.RcAt.lists_lengths p1.isList p2.isList hs (by omega) _ _ _ _ ⟨.bl false, H, I, rfl, q⟩
  · have hs : us.toArray.size = ws.toArray.size := by rw [List.size_toArray, List.size_toArray, ← r1.length, ← r2.length]; exact Paired.length hp
    refine SeqAt.RcAt.lists (e := fun _ => true) p1.isList p2.isList hs (by omega) (fun j h1 h2 => ?_) _ _ _ _ ?_
    · have := items_at (fun r1 r2 k => EqI.at I k r1 r2 hu1) hp r1 r2 j (by simpa using h1) (by simpa using h2)
      simpa using this
    · rw [show ((List.range us.toArray.size).all fun _ => true) = true from List.all_eq_true.mpr fun _ _ => rfl]
      exact ⟨.bl true, H, I, rfl, q⟩
/-- l == [] -/
def rEqNil (K : PySem.W.Frag) : R2 := fun x y H Q => ∃ (a b : Addr) (xs : List V), x = .ref a ∧ y = .ref b ∧ SqL K H a xs ∧ SqL K H b [] ∧ Q (.bl xs.isEmpty) H
theorem op_eqNil (hu : X.A.units + 64 < cLine) : OpR X (compareOp .Eq) (rEqNil X.K) := by
  intro pins s σ H x y v u Q I rx ry h
  obtain ⟨a, b, xs, rfl, rfl, ha, hb, q⟩ := h
  refine op_eqL0 hu _ _ _ _ _ _ _ _ _ I rx ry ⟨a, b, xs, [], rfl, rfl, ha, hb, ?_⟩
  cases xs with
  | nil => exact .inr ⟨.nil, q⟩
  | cons x xs => exact .inl ⟨(by simp), q⟩
end
end Vf

set_option Elab.async false
set_option linter.all false
set_option maxRecDepth 100000
set_option maxHeartbeats 1000000
namespace Vf
open PySem PySem.Spec PyProof.Rows L2
/-- the objects that the facts want: those near the module's names, and what the properties' getters are made of -/
def asX (g : Addr → Option Obj) (gs : List GetD) : List Addr := He.asD g 4 ++ He.growD g (He.growD g (gs.map fun x => gAd (He.frG g (He.asD g 4)) x.cls x.attr))
def obsXG (ex : PySem.W.Frag → Bool) (fn : List He.DefD) (gs : List GetD) (g : Addr → Option Obj) : AlP := obsP ex fn gs (He.frG g (asX g gs))
def hookX (ex : PySem.W.Frag → Bool) (fn : List He.DefD) (gs : List GetD) : PySem.W.Hook where
  α := AlP
  obs := fun s => obsXG ex fn gs s.heap.get?
  val := fun _ => (true, fn.map He.DefD.val, gs.map GetD.val)
  says := fun _ h => ∃ K : PySem.W.Frag, K.In h ∧ SaysP ex fn gs K
  of := fun _ _ e => ⟨_, He.frG_in, e⟩
  keeps := fun _ _ _ ⟨K, hK, c⟩ k => ⟨K, PySem.W.Frag.In.keeps hK k, c⟩
theorem obsXG_eq {ex : PySem.W.Frag → Bool} {fn : List He.DefD} {gs : List GetD} {g : Addr → Option Obj} {s : Shared} (h : ∀ a, g a = s.heap.get? a) : obsXG ex fn gs g = (hookX ex fn gs).obs s := by
  have e : g = s.heap.get? := funext h
  rw [e]
  rfl
end Vf

set_option Elab.async false
set_option linter.all false
set_option maxRecDepth 100000
set_option maxHeartbeats 1000000
namespace Vf
open PySem PySem.Spec PyProof.Rows L2
/-- the objects that those at the addresses name -/
def nxL (g : Addr → Option Obj) (as : List Addr) : List Addr := as.flatMap fun a => match g a with
  | some o => (He.refsD o).filter fun b => !Nat.beq a b
  | none => []
/-- level by level, none taken out: a list in which each is there once costs its length's square -/
def lvL (g : Addr → Option Obj) : Nat → List Addr → List Addr
  | 0, as => as
  | n + 1, as => as ++ lvL g n (nxL g as)
def asL (g : Addr → Option Obj) (gs : List GetD) : List Addr := lvL g 4 [mainGlobals] ++ lvL g 2 (gs.map fun x => gAd (He.frG g (lvL g 4 [mainGlobals])) x.cls x.attr)
def obsLG (ex : PySem.W.Frag → Bool) (fn : List He.DefD) (gs : List GetD) (g : Addr → Option Obj) : AlP := obsP ex fn gs (He.frG g (asL g gs))
def hookL (ex : PySem.W.Frag → Bool) (fn : List He.DefD) (gs : List GetD) : PySem.W.Hook where
  α := AlP
  obs := fun s => obsLG ex fn gs s.heap.get?
  val := fun _ => (true, fn.map He.DefD.val, gs.map GetD.val)
  says := fun _ h => ∃ K : PySem.W.Frag, K.In h ∧ SaysP ex fn gs K
  of := fun _ _ e => ⟨_, He.frG_in, e⟩
  keeps := fun _ _ _ ⟨K, hK, c⟩ k => ⟨K, PySem.W.Frag.In.keeps hK k, c⟩
theorem obsLG_eq {ex : PySem.W.Frag → Bool} {fn : List He.DefD} {gs : List GetD} {g : Addr → Option Obj} {s : Shared} (h : ∀ a, g a = s.heap.get? a) : obsLG ex fn gs g = (hookL ex fn gs).obs s := by
  have e : g = s.heap.get? := funext h
  rw [e]
  rfl
end Vf

set_option Elab.async false
set_option linter.all false
set_option maxRecDepth 100000
set_option maxHeartbeats 1000000
namespace Vf
open PySem PySem.Spec PyProof.Rows L2
/-! == of two tuples whose items are equal flat values or dicts of equal flat values -/
def DDic : Eqv := fun x y H => ∃ (a b : Addr) (ks ls : List (Key × V)), x = .ref a ∧ y = .ref b ∧ H a = some (.dK ks) ∧ H b = some (.dK ls) ∧ ks.length = ls.length ∧ ∀ p ∈ ks, ∃ u, valV ls p.1 = some u ∧ flatV p.2 = true ∧ flatV u = true ∧ eqV p.2 u = true
theorem mon_dic : Mon DDic := fun x y H H' e d => by
  obtain ⟨a, b, ks, ls, rfl, rfl, ha, hb, r⟩ := d
  exact ⟨a, b, ks, ls, rfl, rfl, e _ _ ha, e _ _ hb, r⟩
theorem rcG_dic {X : Cx} {n : Nat} : RcG X n DDic := by
  intro A pins s σ H x y u v sb I rx ry d
  obtain ⟨a, b, ks, ls, rfl, rfl, ha, hb, hl, hp⟩ := d
  cases rx
  cases ry
  obtain ⟨_, ya, va, ra, da⟩ := (show ObjOk X.prog X.w H s.heap a (.dK ks) from I.hok a _ ha)
  obtain ⟨_, yb, vb, rb, db⟩ := (show ObjOk X.prog X.w H s.heap b (.dK ls) from I.hok b _ hb)
  have e : va.length = vb.length := by rw [← ra.length, ← rb.length]; exact hl
  show wpAny _ _ (compareOp .Eq _ _) _ _ _
  refine PySem.W.keq_eq (knd := mixKind X.prog X.w) (r := true) ya yb da db sb.room.units0 (fun _ => ?_) ?_
  · have go : ∀ {ks : List (Key × V)} {va : List (Key × Value)}, KV ks va → (∀ p ∈ ks, ∃ u, valV ls p.1 = some u ∧ flatV p.2 = true ∧ flatV u = true ∧ eqV p.2 u = true) → PySem.W.KeqHits A.in1 s vb va true := by
      intro ks va ra
      unfold KV at ra
      induction ra with
      | nil => intro _; exact .nil
      | @cons p q ps qs h t k =>
        intro hp
        obtain ⟨h1, h2⟩ := h
        obtain ⟨u, e, f1, f2, f3⟩ := hp p List.mem_cons_self
        have rr : RelO (some u) (valueAt vb p.1) := by rw [← e]; exact rb.val p.1
        obtain ⟨y, hy, ry⟩ := rr.some_of
        obtain ⟨key, v⟩ := q
        have h1' : p.1 = key := h1
        rw [h1'] at hy
        show PySem.W.KeqHits A.in1 s vb ((key, v) :: qs) (true && true)
        have z := eqAt_V (A := A.in1) (s := s) h2 ry f1 f2
        rw [f3] at z
        exact .hit hy z (k fun p' hm => hp p' (List.mem_cons_of_mem _ hm))
    exact go ra hp
  · exact ⟨by rw [e]; simp, H, I, Ext.rfl'⟩
theorem eqG_dic {X : Cx} {n : Nat} : EqG X n DDic := rcG_dic.eqG fun _ _ _ d => let ⟨a, b, _, _, hx, hy, _⟩ := d; ⟨a, b, hx, hy⟩
def DFD : Eqv := fun x y H => DFlat x y H ∨ DDic x y H
theorem mon_fd : Mon DFD := Mon.or mon_flat mon_dic
theorem eqG_fd {X : Cx} {n : Nat} : EqG X n DFD := fun A pins s σ H x y u v sb I rx ry d => by
  rcases d with d | d
  · exact eqG_flat A pins s σ H x y u v (sb.mono (Nat.zero_le _)) I rx ry d
  · exact eqG_dic A pins s σ H x y u v sb I rx ry d
def rEqTD (K : PySem.W.Frag) : R2 := rEqG (DTup K DFD)
theorem op_eqTD {X : Cx} {n : Nat} (hr : Room (n + 1) X.A) : OpR X (compareOp .Eq) (rEqTD X.K) := op_eqG (rcG_tup mon_fd eqG_fd) hr
end Vf

set_option Elab.async false
set_option linter.all false
set_option maxRecDepth 100000
namespace K16
open PySem PySem.Spec PyProof.Rows L2 Vf
def top (i : Nat) : Stmt := PySem.Challenge.pw_seenshares_k16_long_runs.main.body.getD i (.Pass ⟨0, 0, 0, 0⟩)
def KEPT : List Str := ["any", "closed", "end", "open", "to"]
def LET : Str := "abcdefghijklmnopqrstuvwxyz"
abbrev s_is_integer : Stmt := top 16
abbrev s_is_integer_from : Stmt := top 17
abbrev s_is_flag : Stmt := top 18
abbrev s_is_name : Stmt := top 19
abbrev s_BadPlace_init : Stmt := inClass (top 3) 0
abbrev s_Place_init : Stmt := inClass (top 24) 0
abbrev s_Place_eq : Stmt := inClass (top 24) 1
abbrev s_has_twins : Stmt := top 20
abbrev s_is_one_of : Stmt := top 26
abbrev s_is_choice : Stmt := top 29
abbrev s_are_places : Stmt := top 27
abbrev s_are_nexts : Stmt := top 28
abbrev s_BadProgram_init : Stmt := inClass (top 4) 0
abbrev s_Program_init : Stmt := inClass (top 25) 0
abbrev s_NoPlace_init : Stmt := inClass (top 5) 0
abbrev s_Program_contains : Stmt := inClass (top 25) 4
abbrev s_Program_getitem : Stmt := inClass (top 25) 2
abbrev s_BadSampler_init : Stmt := inClass (top 6) 0
abbrev s_Sampler_init : Stmt := inClass (top 52) 0
abbrev s_Record_init : Stmt := inClass (top 32) 0
abbrev s_is_due : Stmt := top 39
abbrev s_record_of : Stmt := top 40
abbrev s_Program_nexts : Stmt := inClass (top 25) 1
abbrev s_is_stay : Stmt := top 35
abbrev s_check_stays : Stmt := top 34
abbrev s_check_phase : Stmt := top 36
abbrev s_is_look : Stmt := top 38
abbrev s_check_looks : Stmt := top 37
abbrev s_observe : Stmt := top 33
abbrev s_law_take : Stmt := top 55
abbrev s_law_cell : Stmt := top 54
abbrev s_law_is_integer : Stmt := top 56
abbrev s_look_flags : Stmt := top 42
abbrev s_pair_at : Stmt := top 43
abbrev s_BadChoice_init : Stmt := inClass (top 11) 0
abbrev s_Profile_init : Stmt := inClass (top 46) 0
abbrev s_Profilespot : Stmt := inClass (top 46) 12
abbrev s_Profilehas_come : Stmt := inClass (top 46) 13
abbrev s_Profilemoves : Stmt := inClass (top 46) 11
abbrev s_Profile_choices : Stmt := inClass (top 46) 4
abbrev s_is_one_of_choices : Stmt := top 47
abbrev s_Profilego_on : Stmt := inClass (top 46) 10
abbrev s_Profile_call : Stmt := inClass (top 46) 1
abbrev s_stays_made : Stmt := top 48
abbrev s_looks_made : Stmt := top 49
abbrev s_Profile_record : Stmt := inClass (top 46) 6
abbrev s_Profile_run : Stmt := inClass (top 46) 7
abbrev s_law_told : Stmt := top 57
abbrev s_Profile_path : Stmt := inClass (top 46) 5
abbrev s_law_called : Stmt := top 58
abbrev s_law_profile_fits : Stmt := top 59
abbrev s_law : Stmt := top 60
abbrev s_Program_eq : Stmt := inClass (top 25) 6
abbrev s_BadStay_init : Stmt := inClass (top 7) 0
abbrev s_BadPhase_init : Stmt := inClass (top 8) 0
abbrev s_BadLook_init : Stmt := inClass (top 9) 0
def excNB (K : PySem.W.Frag) (x : Str) : Bool :=
  He.eqO (PySem.W.findIn K (.ref (He.ga K x)) "__getattribute__") (some (some (.builtin "BaseException.__getattribute__"))) && (He.eqO (PySem.W.findIn K (.ref (He.ga K x)) "__getattr__") (some none) && (decide (PySem.W.subIn K (.ref (He.ga K x)) (.type "BaseException") = some true) && (PySem.W.hasDictIn K (He.ga K x) && (He.eqO (PySem.W.findIn K (.ref (He.ga K x)) "__class__") (some (some (.builtin "object.__class__"))) &&
  (He.eqO (PySem.W.specialIn K (.builtin "object.__class__") "__get__") (some (some (.builtin "getset_descriptor.__get__"))) && (decide (PySem.W.takesIn K (.builtin "object.__class__") = some true) && decide (PySem.W.mroIn K (He.ga K x) (.type "object") = some true)))))))
theorem excNB_ok {K : PySem.W.Frag} {x : Str} (h : excNB K x = true) : ExcC K (He.ga K x) := by
  obtain ⟨h1, h⟩ := He.ba h
  obtain ⟨h2, h⟩ := He.ba h
  obtain ⟨h3, h⟩ := He.ba h
  obtain ⟨h4, h⟩ := He.ba h
  obtain ⟨h5, h⟩ := He.ba h
  obtain ⟨h6, h⟩ := He.ba h
  obtain ⟨h7, h8⟩ := He.ba h
  exact ⟨He.eqO_ok h1, He.eqO_ok h2, of_decide_eq_true h3, h4, He.eqO_ok h5, He.eqO_ok h6, of_decide_eq_true h7, of_decide_eq_true h8⟩

end K16
set_option Elab.async false
set_option linter.all false
set_option maxRecDepth 100000
set_option maxHeartbeats 0
namespace K16
open PySem PySem.Spec PyProof.Rows L2 Vf
def fn : List He.DefD := [
  ⟨("is_integer", none), "is_integer", "is_integer", defArgs s_is_integer, defBody s_is_integer, defScope s_is_integer, [], []⟩,
  ⟨("is_integer_from", none), "is_integer_from", "is_integer_from", defArgs s_is_integer_from, defBody s_is_integer_from, defScope s_is_integer_from, [], []⟩,
  ⟨("is_flag", none), "is_flag", "is_flag", defArgs s_is_flag, defBody s_is_flag, defScope s_is_flag, [], []⟩,
  ⟨("is_name", none), "is_name", "is_name", defArgs s_is_name, defBody s_is_name, defScope s_is_name, [], []⟩,
  ⟨("has_twins", none), "has_twins", "has_twins", defArgs s_has_twins, defBody s_has_twins, defScope s_has_twins, [], []⟩,
  ⟨("BadPlace", some "__init__"), "__init__", "BadPlace.__init__", defArgs s_BadPlace_init, defBody s_BadPlace_init, defScope s_BadPlace_init, [], []⟩,
  ⟨("Place", some "__init__"), "__init__", "Place.__init__", defArgs s_Place_init, defBody s_Place_init, defScope s_Place_init, [.int 1, .non], [("let", .bl true)]⟩,
  ⟨("BadProgram", some "__init__"), "__init__", "BadProgram.__init__", defArgs s_BadProgram_init, defBody s_BadProgram_init, defScope s_BadProgram_init, [], []⟩,
  ⟨("NoPlace", some "__init__"), "__init__", "NoPlace.__init__", defArgs s_NoPlace_init, defBody s_NoPlace_init, defScope s_NoPlace_init, [], []⟩,
  ⟨("Program", some "__init__"), "__init__", "Program.__init__", defArgs s_Program_init, defBody s_Program_init, defScope s_Program_init, [], [("start", .non)]⟩,
  ⟨("Program", some "__contains__"), "__contains__", "Program.__contains__", defArgs s_Program_contains, defBody s_Program_contains, defScope s_Program_contains, [], []⟩,
  ⟨("Program", some "__getitem__"), "__getitem__", "Program.__getitem__", defArgs s_Program_getitem, defBody s_Program_getitem, defScope s_Program_getitem, [], []⟩,
  ⟨("is_one_of", none), "is_one_of", "is_one_of", defArgs s_is_one_of, defBody s_is_one_of, defScope s_is_one_of, [], []⟩,
  ⟨("are_places", none), "are_places", "are_places", defArgs s_are_places, defBody s_are_places, defScope s_are_places, [], []⟩,
  ⟨("are_nexts", none), "are_nexts", "are_nexts", defArgs s_are_nexts, defBody s_are_nexts, defScope s_are_nexts, [], []⟩,
  ⟨("is_choice", none), "is_choice", "is_choice", defArgs s_is_choice, defBody s_is_choice, defScope s_is_choice, [], []⟩,
  ⟨("BadSampler", some "__init__"), "__init__", "BadSampler.__init__", defArgs s_BadSampler_init, defBody s_BadSampler_init, defScope s_BadSampler_init, [], []⟩,
  ⟨("Sampler", some "__init__"), "__init__", "Sampler.__init__", defArgs s_Sampler_init, defBody s_Sampler_init, defScope s_Sampler_init, [.int 0], [("phase", .int 0)]⟩,
  ⟨("Record", some "__init__"), "__init__", "Record.__init__", defArgs s_Record_init, defBody s_Record_init, defScope s_Record_init, [], []⟩,
  ⟨("BadStay", some "__init__"), "__init__", "BadStay.__init__", defArgs s_BadStay_init, defBody s_BadStay_init, defScope s_BadStay_init, [], []⟩,
  ⟨("BadPhase", some "__init__"), "__init__", "BadPhase.__init__", defArgs s_BadPhase_init, defBody s_BadPhase_init, defScope s_BadPhase_init, [], []⟩,
  ⟨("BadLook", some "__init__"), "__init__", "BadLook.__init__", defArgs s_BadLook_init, defBody s_BadLook_init, defScope s_BadLook_init, [], []⟩,
  ⟨("is_stay", none), "is_stay", "is_stay", defArgs s_is_stay, defBody s_is_stay, defScope s_is_stay, [], []⟩,
  ⟨("check_stays", none), "check_stays", "check_stays", defArgs s_check_stays, defBody s_check_stays, defScope s_check_stays, [], []⟩,
  ⟨("check_phase", none), "check_phase", "check_phase", defArgs s_check_phase, defBody s_check_phase, defScope s_check_phase, [], []⟩,
  ⟨("is_look", none), "is_look", "is_look", defArgs s_is_look, defBody s_is_look, defScope s_is_look, [], []⟩,
  ⟨("check_looks", none), "check_looks", "check_looks", defArgs s_check_looks, defBody s_check_looks, defScope s_check_looks, [], []⟩,
  ⟨("is_due", none), "is_due", "is_due", defArgs s_is_due, defBody s_is_due, defScope s_is_due, [], []⟩,
  ⟨("record_of", none), "record_of", "record_of", defArgs s_record_of, defBody s_record_of, defScope s_record_of, [], []⟩,
  ⟨("observe", none), "observe", "observe", defArgs s_observe, defBody s_observe, defScope s_observe, [], [("phase", .non)]⟩,
  ⟨("_law_cell", none), "_law_cell", "_law_cell", defArgs s_law_cell, defBody s_law_cell, defScope s_law_cell, [], []⟩,
  ⟨("_law_take", none), "_law_take", "_law_take", defArgs s_law_take, defBody s_law_take, defScope s_law_take, [], []⟩,
  ⟨("_law_is_integer", none), "_law_is_integer", "_law_is_integer", defArgs s_law_is_integer, defBody s_law_is_integer, defScope s_law_is_integer, [], []⟩,
  ⟨("_law_told", none), "_law_told", "_law_told", defArgs s_law_told, defBody s_law_told, defScope s_law_told, [], []⟩,
  ⟨("_law_called", none), "_law_called", "_law_called", defArgs s_law_called, defBody s_law_called, defScope s_law_called, [], []⟩,
  ⟨("_law_profile_fits", none), "_law_profile_fits", "_law_profile_fits", defArgs s_law_profile_fits, defBody s_law_profile_fits, defScope s_law_profile_fits, [], []⟩,
  ⟨("look_flags", none), "look_flags", "look_flags", defArgs s_look_flags, defBody s_look_flags, defScope s_look_flags, [], []⟩,
  ⟨("pair_at", none), "pair_at", "pair_at", defArgs s_pair_at, defBody s_pair_at, defScope s_pair_at, [], []⟩,
  ⟨("BadChoice", some "__init__"), "__init__", "BadChoice.__init__", defArgs s_BadChoice_init, defBody s_BadChoice_init, defScope s_BadChoice_init, [], []⟩,
  ⟨("Profile", some "__init__"), "__init__", "Profile.__init__", defArgs s_Profile_init, defBody s_Profile_init, defScope s_Profile_init, [], [("phase", .non)]⟩,
  ⟨("Profile", some "_spot"), "_spot", "Profile._spot", defArgs s_Profilespot, defBody s_Profilespot, defScope s_Profilespot, [], []⟩,
  ⟨("Profile", some "_has_come"), "_has_come", "Profile._has_come", defArgs s_Profilehas_come, defBody s_Profilehas_come, defScope s_Profilehas_come, [], []⟩,
  ⟨("Profile", some "_moves"), "_moves", "Profile._moves", defArgs s_Profilemoves, defBody s_Profilemoves, defScope s_Profilemoves, [], []⟩,
  ⟨("Profile", some "choices"), "choices", "Profile.choices", defArgs s_Profile_choices, defBody s_Profile_choices, defScope s_Profile_choices, [], []⟩,
  ⟨("is_one_of_choices", none), "is_one_of_choices", "is_one_of_choices", defArgs s_is_one_of_choices, defBody s_is_one_of_choices, defScope s_is_one_of_choices, [], []⟩,
  ⟨("Profile", some "_go_on"), "_go_on", "Profile._go_on", defArgs s_Profilego_on, defBody s_Profilego_on, defScope s_Profilego_on, [], []⟩,
  ⟨("Profile", some "__call__"), "__call__", "Profile.__call__", defArgs s_Profile_call, defBody s_Profile_call, defScope s_Profile_call, [], []⟩,
  ⟨("stays_made", none), "stays_made", "stays_made", defArgs s_stays_made, defBody s_stays_made, defScope s_stays_made, [], []⟩,
  ⟨("looks_made", none), "looks_made", "looks_made", defArgs s_looks_made, defBody s_looks_made, defScope s_looks_made, [], []⟩,
  ⟨("Profile", some "record"), "record", "Profile.record", defArgs s_Profile_record, defBody s_Profile_record, defScope s_Profile_record, [], []⟩,
  ⟨("Profile", some "path"), "path", "Profile.path", defArgs s_Profile_path, defBody s_Profile_path, defScope s_Profile_path, [], []⟩,
  ⟨("law", none), "law", "law", defArgs s_law, defBody s_law, defScope s_law, [], []⟩]
def fa : List He.Fa := [.meth "Place" "__eq__", .meth "Program" "__eq__", .meth "Program" "__contains__", .meth "Program" "__getitem__", .free "int", .free "bool", .free "str", .free "len", .free "all", .free "isinstance", .int "LONGEST_NAME" 8, .int "MOST_TICKS" 6, .str "LETTERS" "abcdefghijklmnopqrstuvwxyz", .glo "KEPT_WORDS", .glo "is_integer", .glo "is_integer_from", .glo "is_flag", .glo "is_name", .glo "Place", .glo "BadPlace", .cls "Place", .mkr "Place", .noat "Place" "name", .noat "Place" "least", .noat "Place" "most", .noat "Place" "let", .free "enumerate", .free "list", .free "tuple", .free "dict", .int "MOST_PLACES" 6, .glo "has_twins", .glo "is_one_of", .glo "are_places", .glo "are_nexts", .glo "is_choice", .glo "Program", .glo "BadProgram", .glo "NoPlace", .cls "Program", .mkr "Program", .noat "Program" "names", .noat "Program" "start", .noat "Program" "_places", .noat "Program" "_nexts", .free "range", .free "sum", .int "MOST_PERIOD" 8, .int "MOST_RUN_TICKS" 2000, .glo "Sampler", .glo "BadSampler", .cls "Sampler", .mkr "Sampler", .noat "Sampler" "period", .noat "Sampler" "jitter", .noat "Sampler" "phase", .glo "Record", .cls "Record", .mkr "Record", .noat "Record" "ticks", .noat "Record" "times", .noat "Record" "notes", .noat "Record" "waiting", .noat "Record" "lost", .glo "observe", .glo "check_stays", .glo "is_stay", .glo "check_phase", .glo "check_looks", .glo "is_look", .glo "is_due", .glo "record_of", .glo "BadStay", .glo "BadPhase", .glo "BadLook", .glo "NoTicks", .exc "NoTicks", .glo "_law_cell", .glo "_law_take", .glo "_law_is_integer", .glo "_law_told", .glo "_law_called", .glo "_law_profile_fits", .glo "look_flags", .glo "pair_at", .glo "is_one_of_choices", .glo "stays_made", .glo "looks_made", .glo "Profile", .glo "BadChoice", .cls "Profile", .mkr "Profile", .noat "Profile" "ticks", .noat "Profile" "_program", .noat "Profile" "_sampler", .noat "Profile" "_phase", .noat "Profile" "_made", .noat "Profile" "_state", .noat "Profile" "_mark", .glo "SeenError", .free "min", .meth "Profile" "choices", .meth "Profile" "record", .meth "Profile" "run", .meth "Profile" "_go_on", .meth "Profile" "_moves", .meth "Profile" "_spot", .meth "Profile" "_has_come", .meth "Profile" "__call__", .meth "Profile" "path", .glo "law"]
def gt : List GetD := [⟨"Program", "nexts", ⟨("Program", some "nexts"), "nexts", "Program.nexts", defArgs s_Program_nexts, defBody s_Program_nexts, defScope s_Program_nexts, [], []⟩⟩]
def ex2 (K : PySem.W.Frag) : Bool := ((He.eqO (PySem.W.findIn K (.ref (He.ga K "Place")) "__ne__") (some (some (.builtin "object.__ne__")))) && ((He.eqO (PySem.W.findIn K (.ref (He.ga K "Program")) "__ne__") (some (some (.builtin "object.__ne__")))) && ((PySem.W.fnIn K (He.fAd K ("Program", some "__getitem__"))) && ((kTup K (He.ga K "KEPT_WORDS") KEPT) && ((exI K "BadPlace" "why") && ((He.eqO (PySem.W.specialIn K (.builtin "object.__class__") "__get__") (some (some (.builtin "getset_descriptor.__get__")))) && ((decide (PySem.W.takesIn K (.builtin "object.__class__") = some true)) && ((He.eqO (PySem.W.findIn K (.ref (He.ga K "Place")) "__class__") (some (some (.builtin "object.__class__")))) && ((decide (PySem.W.mroIn K (He.ga K "Place") (.type "object") = some true)) && ((decide (PySem.W.kitOne K (.ref (He.ga K "Place")) (.ref (He.ga K "Place")) = some true)) && ((exI K "BadProgram" "why") && ((exI K "NoPlace" "name") && ((He.eqO (PySem.W.findIn K (.ref (He.ga K "Program")) "__class__") (some (some (.builtin "object.__class__")))) && ((decide (PySem.W.mroIn K (He.ga K "Program") (.type "object") = some true)) && ((decide (PySem.W.kitOne K (.ref (He.ga K "Program")) (.ref (He.ga K "Program")) = some true)) && ((exI K "BadSampler" "why") && ((exI K "BadStay" "index") && ((exI K "BadPhase" "phase") && ((exI K "BadLook" "index") && ((exI K "BadChoice" "index") && ((excNB K "NoTicks") && ((decide (PySem.W.exmOne K (.ref (He.ga K "NoTicks")) (.ref (He.ga K "NoTicks")) = some true)) && ((decide (PySem.W.exmOne K (.ref (He.ga K "BadLook")) (.ref (He.ga K "NoTicks")) = some false)) && ((decide (PySem.W.exmOne K (.ref (He.ga K "BadLook")) (.ref (He.ga K "BadLook")) = some true)) && ((decide (PySem.W.exmOne K (.ref (He.ga K "BadChoice")) (.ref (He.ga K "BadChoice")) = some true)) && ((decide (PySem.W.kitOne K (.ref (He.ga K "NoTicks")) (.ref (He.ga K "SeenError")) = some true)) && ((decide (PySem.W.kitOne K (.ref (He.ga K "NoTicks")) (.ref (He.ga K "BadLook")) = some false)) && ((PySem.W.fnIn K (He.fAd K ("Profile", some "__call__"))) && true))))))))))))))))))))))))))))
def ex (K : PySem.W.Frag) : Bool := (fa.all fun f => f.ok K) && ex2 K
abbrev R : PySem.W.OpenRow := PySem.W.OpenLaw.row PySem.Challenge.rw_seenshares_k16_long_runs
abbrev hk : PySem.W.Hook := hookL ex fn gt
def ob (s : PySem.W.SharedT) : AlP := obsLG ex fn gt (HandSHeadRun.getT s)
theorem ob_eq (s : PySem.W.SharedT) : ob s = hk.obs s.abs := obsLG_eq (HandSHeadRun.getT_eq s)
def names : List Str := ("_wall" : Str) :: ("SeenError" : Str) :: ("BadPlace" : Str) :: ("BadProgram" : Str) :: ("NoPlace" : Str) :: ("BadSampler" : Str) :: ("BadStay" : Str) :: ("BadPhase" : Str) :: ("BadLook" : Str) :: ("NoTicks" : Str) :: ("BadChoice" : Str) :: ("KEPT_WORDS" : Str) :: ("LETTERS" : Str) :: ("LONGEST_NAME" : Str) :: ("is_integer" : Str) :: ("is_integer_from" : Str) :: ("is_flag" : Str) :: ("is_name" : Str) :: ("has_twins" : Str) :: ("MOST_TICKS" : Str) :: ("MOST_PLACES" : Str) :: ("Place" : Str) :: ("Program" : Str) :: ("is_one_of" : Str) :: ("are_places" : Str) :: ("are_nexts" : Str) :: ("is_choice" : Str) :: ("MOST_RUN_TICKS" : Str) :: ("Record" : Str) :: ("observe" : Str) :: ("check_stays" : Str) :: ("is_stay" : Str) :: ("check_phase" : Str) :: ("check_looks" : Str) :: ("is_look" : Str) :: ("is_due" : Str) :: ("record_of" : Str) :: ("look_flags" : Str) :: ("pair_at" : Str) :: ("Mark" : Str) :: ("Profile" : Str) :: ("is_one_of_choices" : Str) :: ("stays_made" : Str) :: ("looks_made" : Str) :: ("MOST_PERIOD" : Str) :: ("Sampler" : Str) :: ("_law_cell" : Str) :: ("_law_take" : Str) :: ("_law_is_integer" : Str) :: ("_law_told" : Str) :: ("_law_called" : Str) :: ("_law_profile_fits" : Str) :: []
noncomputable def E0 (w : World) (os : OsState) : Option PySem.W.SharedT := HandSHeadRun.endF (HandSHeadRun.stepQ (HandSHeadRun.denQ HandSHeadRun.tabQ) R.prog w) 100000 R.prog w os
noncomputable def KK (s : PySem.W.SharedT) : PySem.W.Frag := He.frG (HandSHeadRun.getT s) (asL (HandSHeadRun.getT s) gt)
theorem run_of {w : World} {os : OsState} (a : (E0 w os).map (fun s => HandSHeadRun.looksF R.prog (PySem.W.boot_heap w.params) s.abs) = some true)
    (b : (E0 w os).map (fun s => HandSHeadRun.seenQ (PySem.W.view R.prog [60]) names (importedModules R.prog.main.body) (fun s => PySem.W.xlAt (PySem.W.view R.prog [60]) [] s && PySem.W.recOk R.toRowW.records s) s.abs) = some (PySem.W.openGood (PySem.W.view R.prog [60]) names))
    (c : (E0 w os).map (fun s => ex (KK s)) = some true) (d : (E0 w os).map (fun s => ((fn.all fun d => d.ok (KK s)) && gt.all fun g => g.ok (KK s))) = some true)
    (e : (E0 w os).map (fun s => (fn.map fun d => He.fnW (KK s) d.at_, gt.map (gnW (KK s)))) = some (fn.map He.DefD.val, gt.map GetD.val)) :
    (E0 w os).map (fun s => (HandSHeadRun.looksF R.prog (PySem.W.boot_heap w.params) s.abs, HandSHeadRun.seenQ (PySem.W.view R.prog [60]) names (importedModules R.prog.main.body) (fun s => PySem.W.xlAt (PySem.W.view R.prog [60]) [] s && PySem.W.recOk R.toRowW.records s) s.abs, ob s)) = some (true, PySem.W.openGood (PySem.W.view R.prog [60]) names, PySem.W.Hook.val hk w) := by
  generalize E0 w os = r at a b c d e ⊢
  cases r with
  | none => cases a
  | some s =>
    have a : HandSHeadRun.looksF R.prog (PySem.W.boot_heap w.params) s.abs = true := Option.some.inj a
    have b : HandSHeadRun.seenQ (PySem.W.view R.prog [60]) names (importedModules R.prog.main.body) (fun s => PySem.W.xlAt (PySem.W.view R.prog [60]) [] s && PySem.W.recOk R.toRowW.records s) s.abs = PySem.W.openGood (PySem.W.view R.prog [60]) names := Option.some.inj b
    have c : ex (KK s) = true := Option.some.inj c
    have d : ((fn.all fun d => d.ok (KK s)) && gt.all fun g => g.ok (KK s)) = true := Option.some.inj d
    have e : (fn.map (fun d => He.fnW (KK s) d.at_), gt.map (gnW (KK s))) = (fn.map He.DefD.val, gt.map GetD.val) := Option.some.inj e
    obtain ⟨e1, e2⟩ := Prod.mk.inj e
    have o : ob s = PySem.W.Hook.val hk w := by
      show ((ex (KK s) && ((fn.all fun d => d.ok (KK s)) && gt.all fun g => g.ok (KK s))), fn.map (fun d => He.fnW (KK s) d.at_), gt.map (gnW (KK s))) = (true, fn.map He.DefD.val, gt.map GetD.val)
      rw [c, d, e1, e2]
      rfl
    show some (_, _, _) = some (_, _, _)
    rw [a, b, o]
theorem runLk (w : World) (os : OsState) : (E0 w os).map (fun s => HandSHeadRun.looksF R.prog (PySem.W.boot_heap w.params) s.abs) = some true := by kernel_rfl
theorem runSn (w : World) (os : OsState) : (E0 w os).map (fun s => HandSHeadRun.seenQ (PySem.W.view R.prog [60]) names (importedModules R.prog.main.body) (fun s => PySem.W.xlAt (PySem.W.view R.prog [60]) [] s && PySem.W.recOk R.toRowW.records s) s.abs) = some (PySem.W.openGood (PySem.W.view R.prog [60]) names) := by kernel_rfl
theorem runA (w : World) (os : OsState) : (E0 w os).map (fun s => ex (KK s)) = some true := by kernel_rfl
theorem runB (w : World) (os : OsState) : (E0 w os).map (fun s => ((fn.all fun d => d.ok (KK s)) && gt.all fun g => g.ok (KK s))) = some true := by kernel_rfl
theorem runC (w : World) (os : OsState) : (E0 w os).map (fun s => (fn.map fun d => He.fnW (KK s) d.at_, gt.map (gnW (KK s)))) = some (fn.map He.DefD.val, gt.map GetD.val) := by kernel_rfl
theorem run (w : World) : HandSHeadRun.RunEq R (PySem.W.view R.prog [60]) hk ob 100000 names w := fun os => run_of (runLk w os) (runSn w os) (runA w os) (runB w os) (runC w os)
end K16

set_option Elab.async false
set_option linter.all false
set_option maxRecDepth 100000
set_option maxHeartbeats 2000000
namespace K16
open PySem PySem.Spec PyProof.Rows L2 Vf
abbrev OkF (P : Program) (w : World) (K : PySem.W.Frag) (mg : Str → Option Value) (base : Heap) (CX : CXT) (k : Nat) (x : Str) (ps : List Str) (sp : Sp) : Prop := OkD P w K mg base CX k (x, none) ps [] sp
abbrev OkM (P : Program) (w : World) (K : PySem.W.Frag) (mg : Str → Option Value) (base : Heap) (CX : CXT) (k : Nat) (c m : Str) (ps : List Str) (sp : Sp) : Prop := OkD P w K mg base CX k (c, some m) ps [] sp
abbrev FnD (K : PySem.W.Frag) (p : Pl) (x q : Str) (st : Stmt) (fd : FuncData) : Prop := FunD K x q (defArgs st) (defBody st) (defScope st) [] [] (He.fAd K p) fd
abbrev CP (K : PySem.W.Frag) : Addr := He.ga K "Place"
abbrev CBP (K : PySem.W.Frag) : Addr := He.ga K "BadPlace"
structure PTxt (K : PySem.W.Frag) (mg : Str → Option Value) : Prop where
  z_int : mg "int" = none
  z_bool : mg "bool" = none
  z_str : mg "str" = none
  z_len : mg "len" = none
  z_all : mg "all" = none
  z_isinstance : mg "isinstance" = none
  i_LONGEST_NAME : ∃ t, mg "LONGEST_NAME" = some (.int 8 t)
  i_MOST_TICKS : ∃ t, mg "MOST_TICKS" = some (.int 6 t)
  i_LETTERS : ∃ t, mg "LETTERS" = some (.str LET t)
  g_KEPT_WORDS : mg "KEPT_WORDS" = some (.ref (He.ga K "KEPT_WORDS"))
  t_KEPT : kTup K (He.ga K "KEPT_WORDS") KEPT = true
  g_is_integer : mg "is_integer" = some (.ref (He.ga K "is_integer"))
  g_is_integer_from : mg "is_integer_from" = some (.ref (He.ga K "is_integer_from"))
  g_is_flag : mg "is_flag" = some (.ref (He.ga K "is_flag"))
  g_is_name : mg "is_name" = some (.ref (He.ga K "is_name"))
  g_Place : mg "Place" = some (.ref (He.ga K "Place"))
  g_BadPlace : mg "BadPlace" = some (.ref (He.ga K "BadPlace"))
  c_Place : Cls K (He.ga K "Place")
  m_Place : Mk K (He.ga K "Place") (He.fAd K ("Place", some "__init__"))
  nN : NoAttr K (He.ga K "Place") "name"
  nL : NoAttr K (He.ga K "Place") "least"
  nM : NoAttr K (He.ga K "Place") "most"
  nT : NoAttr K (He.ga K "Place") "let"
  x_BadPlace : ExI K "BadPlace" "why"
  hn : PySem.W.specialIn K (.builtin "object.__class__") "__get__" = some (some (.builtin "getset_descriptor.__get__"))
  ht : PySem.W.takesIn K (.builtin "object.__class__") = some true
  ha : PySem.W.findIn K (.ref (He.ga K "Place")) "__class__" = some (some (.builtin "object.__class__"))
  hm : PySem.W.mroIn K (He.ga K "Place") (.type "object") = some true
  k1 : PySem.W.kitOne K (.ref (He.ga K "Place")) (.ref (He.ga K "Place")) = some true
/-! ### a place's fields -/
def plf (z : Str) (l m : Int) (b : Bool) : List (Str × V) := putF "let" (.bl b) (putF "most" (.int m) (putF "least" (.int l) (putF "name" (.str z) [])))
theorem plf_name (z : Str) (l m : Int) (b : Bool) : (plf z l m b).lookup ("name" : Str) = some (.str z) := by
  unfold plf
  rw [lookup_putF, if_neg (by decide +kernel), lookup_putF, if_neg (by decide +kernel), lookup_putF, if_neg (by decide +kernel), lookup_putF, if_pos rfl]
theorem plf_least (z : Str) (l m : Int) (b : Bool) : (plf z l m b).lookup ("least" : Str) = some (.int l) := by
  unfold plf
  rw [lookup_putF, if_neg (by decide +kernel), lookup_putF, if_neg (by decide +kernel), lookup_putF, if_pos rfl]
theorem plf_most (z : Str) (l m : Int) (b : Bool) : (plf z l m b).lookup ("most" : Str) = some (.int m) := by
  unfold plf
  rw [lookup_putF, if_neg (by decide +kernel), lookup_putF, if_pos rfl]
theorem plf_let (z : Str) (l m : Int) (b : Bool) : (plf z l m b).lookup ("let" : Str) = some (.bl b) := by
  unfold plf
  rw [lookup_putF, if_pos rfl]
/-- at p a place -/
def PlA (C : Addr) (H : Hp) (p : Addr) (z : Str) (l m : Int) (b : Bool) : Prop := ∃ dx, H p = some (.ins C dx (plf z l m b))
theorem PlA.ext {C : Addr} {H H' : Hp} {p : Addr} {z : Str} {l m : Int} {b : Bool} (h : PlA C H p z l m b) (s : Same H H') : PlA C H' p z l m b := by
  obtain ⟨dx, e⟩ := h
  exact ⟨dx, s _ _ e⟩
theorem same_new {H : Hp} {p : Addr} {o : HO} (h : H p = none) : Same H (upd H p o) := fun b u e => by
  rw [upd_ne (ne_of_none e h)]
  exact e
theorem same_make {H : Hp} {x dx : Addr} {o1 o2 : HO} (nx : H x = none) (ndx : H dx = none) : Same H (upd (upd H dx o1) x o2) := fun b o e => by
  rw [upd_ne (ne_of_none e nx), upd_ne (ne_of_none e ndx)]
  exact e
theorem same_make2 {H : Hp} {x dx : Addr} {o1 o2 o3 : HO} (nx : H x = none) (ndx : H dx = none) : Same H (upd (upd (upd H dx o1) x o2) x o3) := by
  rw [upd_upd]
  exact same_make nx ndx
theorem same_app {H H1 H2 : Hp} {D : Addr} {o : HO} (s : Same H H1) (s2 : Same H1 H2) (nD : H D = none) : Same H (upd H2 D o) := fun b u e => by
  rw [upd_ne (ne_of_none e nD)]
  exact s2 _ _ (s _ _ e)
section
variable {P : Program} {w : World} {K : PySem.W.Frag} {mg : Str → Option Value} {base : Heap}
theorem okd {CX : CXT} {k : Nat} {p : Pl} {x q : Str} {st : Stmt} {fd : FuncData} {ps : List Str} {sp : Sp} (F : FnD K p x q st fd) (ok : FnOk P w K mg base CX k (He.fAd K p) fd ps sp)
    (h : ∀ (kV doc pm : Value) (an : Option Addr) (cdv ct : Value) (us : List Value), us.length = ps.length → bindArgs (PySem.W.fnOf x q (defArgs st) (defBody st) (defScope st) .none kV doc pm an cdv ct) ⟨us, []⟩ = pure (ps.zip us)) : OkD P w K mg base CX k p ps [] sp :=
  ⟨⟨fd, [], ok, FunD.bindsN F h, .nil⟩, F.kp⟩
theorem sc_is_integer : FnScope ["x"] ["x"] (defScope s_is_integer) := ⟨rfl, rfl, rfl, by decide +kernel, rfl, by decide +kernel, by decide +kernel⟩
-- slots: 0 x
theorem ok_is_integer {fd : FuncData} (F : FnD K ("is_integer", none) "is_integer" "is_integer" s_is_integer fd) (T : PTxt K mg) : OkF P w K mg base CX0 1 "is_integer" ["x"] spIsInt := by
  refine okd F (F.ok sc_is_integer (fun vs H Q E h => ?_) fun cdv A outer s H vs Q E hr h => ⟨t_isint K, PSs.nox ?_, run_isint h⟩) fun _ _ _ _ _ _ us hl => match us, hl with | [_], _ => rfl
  · obtain ⟨x, rfl, _⟩ := h
    rfl
  · exact (pss_one (ps_ret (pe_and (pe_callB (id := "isinstance") call_isi (by rfl) T.z_isinstance (by decide +kernel) (pa_cons (pv 0) (pa_cons (pe_ty (n := "int") T.z_int (by decide +kernel)) pa_nil))) (pe_one (pe_not (pe_callB (id := "isinstance") call_isi (by rfl) T.z_isinstance (by decide +kernel) (pa_cons (pv 0) (pa_cons (pe_ty (n := "bool") T.z_bool (by decide +kernel)) pa_nil))))))))
theorem sc_is_integer_from : FnScope ["x", "low", "high"] ["x", "low", "high"] (defScope s_is_integer_from) := ⟨rfl, rfl, rfl, by decide +kernel, rfl, by decide +kernel, by decide +kernel⟩
-- slots: 0 x, 1 low, 2 high
/-- l is no integer from lo to hi -/
def NotFr (H : Hp) (l : V) (lo hi : Int) : Prop := (∃ n, l = .int n ∧ ¬ (lo ≤ n ∧ n ≤ hi)) ∨ Odd H l
def spFr : Sp := fun vs H Q _ => ∃ (x : V) (lo hi : Int), vs = [x, .int lo, .int hi] ∧ ((∃ n, x = .int n ∧ lo ≤ n ∧ n ≤ hi ∧ Q (.bl true) H) ∨ (NotFr H x lo hi ∧ Q (.bl false) H))
theorem ok_is_integer_from {fd : FuncData} (F : FnD K ("is_integer_from", none) "is_integer_from" "is_integer_from" s_is_integer_from fd) (T : PTxt K mg) (O_is_integer : OkF P w K mg base CX0 1 "is_integer" ["x"] spIsInt) : OkF P w K mg base CX0 2 "is_integer_from" ["x", "low", "high"] spFr := by
  refine okd F (F.ok sc_is_integer_from (fun vs H Q E h => ?_) fun cdv A outer s H vs Q E hr h => ?_) fun _ _ _ _ _ _ us hl => match us, hl with | [_, _, _], _ => rfl
  · obtain ⟨x, lo, hi, rfl, _⟩ := h
    rfl
  · obtain ⟨x, lo, hi, rfl, h⟩ := h
    refine ⟨_, PSs.nox (pss_one (ps_ret (pe_and (c_fn O_is_integer hr (by decide) T.g_is_integer pass0 (pa_cons (pv 0) pa_nil)) (pe_one (pe_chain op_le op_le (pv 1) (pv 0) (pv 2)))))), ?_⟩
    rcases h with ⟨n, rfl, l1, l2, q⟩ | ⟨⟨n, rfl, hn⟩ | o, q⟩
    · refine ⟨_, rfl, _, rfl, .inl ⟨⟨n, rfl⟩, true, rfl, iteT ?_⟩⟩
      refine ⟨_, rfl, _, rfl, lo, n, rfl, rfl, true, congrArg V.bl (decide_eq_true l1), iteT ⟨_, rfl, n, hi, rfl, rfl, ?_⟩⟩
      show Q (.bl (decide (n ≤ hi))) H
      rw [decide_eq_true l2]
      exact q
    · refine ⟨_, rfl, _, rfl, .inl ⟨⟨n, rfl⟩, true, rfl, iteT ?_⟩⟩
      by_cases l1 : lo ≤ n
      · have l2 : ¬ n ≤ hi := fun z => hn ⟨l1, z⟩
        refine ⟨_, rfl, _, rfl, lo, n, rfl, rfl, true, congrArg V.bl (decide_eq_true l1), iteT ⟨_, rfl, n, hi, rfl, rfl, ?_⟩⟩
        show Q (.bl (decide (n ≤ hi))) H
        rw [decide_eq_false l2]
        exact q
      · exact ⟨_, rfl, _, rfl, lo, n, rfl, rfl, false, congrArg V.bl (decide_eq_false l1), iteF q⟩
    · exact ⟨_, rfl, _, rfl, .inr ⟨o, false, rfl, iteF q⟩⟩
theorem sc_is_flag : FnScope ["x"] ["x"] (defScope s_is_flag) := ⟨rfl, rfl, rfl, by decide +kernel, rfl, by decide +kernel, by decide +kernel⟩
-- slots: 0 x
def spFlag : Sp := fun vs H Q _ => ∃ x, vs = [x] ∧ ((∃ b, x = .bl b ∧ Q (.bl true) H) ∨ (OddB H x ∧ Q (.bl false) H))
theorem ok_is_flag {fd : FuncData} (F : FnD K ("is_flag", none) "is_flag" "is_flag" s_is_flag fd) (T : PTxt K mg) : OkF P w K mg base CX0 1 "is_flag" ["x"] spFlag := by
  refine okd F (F.ok sc_is_flag (fun vs H Q E h => ?_) fun cdv A outer s H vs Q E hr h => ?_) fun _ _ _ _ _ _ us hl => match us, hl with | [_], _ => rfl
  · obtain ⟨x, rfl, _⟩ := h
    rfl
  · obtain ⟨x, rfl, h⟩ := h
    refine ⟨_, PSs.nox (pss_one (ps_ret (pe_callB (id := "isinstance") call_isi (by rfl) T.z_isinstance (by decide +kernel) (pa_cons (pv 0) (pa_cons (pe_ty (n := "bool") T.z_bool (by decide +kernel)) pa_nil))))), ?_⟩
    rcases h with ⟨b, rfl, q⟩ | ⟨o, q⟩
    · exact ⟨_, rfl, .bl b, .ty "bool", .type "bool", .type "bool", true, rfl, .ty _, .base (.bl _), kit_ty (by decide +kernel), q⟩
    · obtain ⟨n, t1, k1⟩ := oddB_ty K o
      exact ⟨_, rfl, x, .ty "bool", .type n, .type "bool", false, rfl, .ty _, t1, kit_ty k1, q⟩
theorem sc_is_name : FnScope ["x", "letter"] ["x"] (defScope s_is_name) := ⟨rfl, rfl, rfl, by decide +kernel, rfl, by decide +kernel, by decide +kernel⟩
-- slots: 0 x, 1 letter
/-- a text that is a name -/
def nmB (z : Str) : Bool := decide (1 ≤ z.length) && (decide (z.length ≤ 8) && (!inV (.str z) (KEPT.map V.str) && z.cps.toList.all fun c => decide (c ∈ LET.cps.toList)))
def spName : Sp := fun vs H Q _ => ∃ x, vs = [x] ∧ ((∃ z, x = .str z ∧ z.length ≤ sizeLine ∧ ∀ H', Same H H' → Q (.bl (nmB z)) H') ∨ (OddS H x ∧ Q (.bl false) H))
theorem ok_is_name {fd : FuncData} (F : FnD K ("is_name", none) "is_name" "is_name" s_is_name fd) (T : PTxt K mg) : OkF P w K mg base CX0 1 "is_name" ["x"] spName := by
  refine okd F (F.ok sc_is_name (fun vs H Q E h => ?_) fun cdv A outer s H vs Q E hr h => ?_) fun _ _ _ _ _ _ us hl => match us, hl with | [_], _ => rfl
  · obtain ⟨x, rfl, _⟩ := h
    rfl
  · obtain ⟨x, rfl, h⟩ := h
    refine ⟨_, PSs.nox (pss_cons (ps_if (PW.pt (pw_or (pt_not (pt_val (pe_callB (id := "isinstance") call_isi (by rfl) T.z_isinstance (by decide +kernel) (pa_cons (pv 0) (pa_cons (pe_ty (n := "str") T.z_str (by decide +kernel)) pa_nil))))) (pw_or1 (pt_not (pt_chain op_le op_le pe_int (pe_callB call_len_str (by rfl) T.z_len (by decide +kernel) (pa_cons (pv 0) pa_nil)) (c_gint T.i_LONGEST_NAME)))))) (pss_one (ps_ret pe_bl))
  pss_nil)
  (pss_one (ps_ret (pe_and (pe_cmpR op_notIn_seq (pv 0) (pe_cl T.g_KEPT_WORDS) rfl) (pe_one (pe_callB (id := "all") (cr_all rfl) (by rfl) T.z_all (by decide +kernel) (pa_cons (pe_lc (own := [("letter", 1)]) (g := gName 1) (tt := tYes) (by rfl) sc_is_name.nd (pi_str (pv 0)) (blkOk_by (N := ["x", "letter"]) (sc := defScope s_is_name) (by decide +kernel)) (fun _ _ _ _ _ => (pg_name (i := 1) sc_is_name.nd rfl (Or.inl rfl))) (fun _ _ _ _ _ => pts_nil) (fun _ _ _ _ _ => (pe_cmpR op_in_str (pv 1) (c_gstr T.i_LETTERS) rfl))) pa_nil))))))), ?_⟩
    rcases h with ⟨z, rfl, hz, k⟩ | ⟨o, q⟩
    · refine ⟨_, rfl, .str z, .ty "str", .type "str", .type "str", true, rfl, .ty _, .base (.str _), kit_ty (by decide +kernel), true, rfl, iteF ?_⟩
      have go : ∀ b : Bool, nmB z = b → ∀ H', Same H H' → Q (.bl b) H' := fun b e H' s => e ▸ k H' s
      by_cases l1 : (1 : Int) ≤ z.length
      · by_cases l2 : (z.length : Int) ≤ 8
        · refine ⟨_, rfl, z, rfl, hz, 1, z.length, rfl, rfl, true, congrArg V.bl (decide_eq_true l1), iteT ⟨z.length, 8, rfl, rfl, true, congrArg V.bl (decide_eq_true l2), iteF ?_⟩⟩
          refine ⟨_, rfl, _, _, rfl, .inr (kTup_ok T.t_KEPT _), rfl, by decide +kernel, _, rfl, ?_⟩
          have e1 : decide (1 ≤ z.length) = true := decide_eq_true (by omega)
          have e2 : decide (z.length ≤ 8) = true := decide_eq_true (by omega)
          unfold nmB at go
          rw [e1, e2, Bool.true_and, Bool.true_and] at go
          show if (!inV (.str z) (KEPT.map V.str)) = true then _ else _
          cases hv : inV (.str z) (KEPT.map V.str) with
          | true =>
            rw [hv] at go
            exact iteF (go false rfl _ fun _ _ h => h)
          | false =>
            rw [hv] at go
            refine iteT ?_
            refine ⟨_, rfl, z, rfl, fun D nD => lc_it walk_str (fun i H' => Same H H' ∧ H' D = some (.lst ((z.cps.toList.take i).map fun c => V.bl (decide (c ∈ LET.cps.toList))))) ⟨same_new nD, upd_same⟩ (fun _ _ _ _ => trivial) ?_ ?_⟩
            · rintro i x H1 H' hi ⟨sg, hD⟩ ⟨rfl, c, hc, rfl⟩
              have hc2 : z.cps.toList[i]? = some c := by simpa using hc
              refine ⟨rfl, _, rfl, _, _, rfl, rfl, ?_⟩
              refine ⟨_, hD, ?_, same_app sg (Same.refl _) nD, ?_⟩
              · rw [List.length_map, List.length_take]
                have hl : z.cps.toList.length = z.length := by simp [Str.length]
                have : min i z.cps.toList.length < 9 := by omega
                exact Nat.lt_of_lt_of_le this (by decide)
              · rw [upd_same, sign_in, List.take_add_one, List.map_append, hc2]
                rfl
            · rintro H' ⟨sg, hD⟩
              have hD2 : H' D = some (.lst ((z.cps.toList.map fun c => decide (c ∈ LET.cps.toList)).map V.bl)) := by
                rw [hD, List.map_map, List.take_of_length_le (by simp)]
                rfl
              refine ⟨D, _, rfl, SqL.of hD2, go _ ?_ _ sg⟩
              rw [List.all_map]
              rfl
        · refine ⟨_, rfl, z, rfl, hz, 1, z.length, rfl, rfl, true, congrArg V.bl (decide_eq_true l1), iteT ⟨z.length, 8, rfl, rfl, false, congrArg V.bl (decide_eq_false l2), iteT ?_⟩⟩
          refine go false ?_ _ fun _ _ h => h
          unfold nmB
          rw [show decide (z.length ≤ 8) = false from decide_eq_false (by omega)]
          simp
      · refine ⟨_, rfl, z, rfl, hz, 1, z.length, rfl, rfl, false, congrArg V.bl (decide_eq_false l1), iteF ⟨false, rfl, iteT ?_⟩⟩
        refine go false ?_ _ fun _ _ h => h
        unfold nmB
        rw [show decide (1 ≤ z.length) = false from decide_eq_false (by omega)]
        simp
    · obtain ⟨n, t1, k1⟩ := oddS_ty K o
      exact ⟨_, rfl, x, .ty "str", .type n, .type "str", false, rfl, .ty _, t1, kit_ty k1, false, rfl, iteT q⟩
end
end K16

set_option Elab.async false
set_option linter.all false
set_option pp.deepTerms.threshold 14
set_option pp.maxSteps 2500
set_option maxRecDepth 100000
set_option maxHeartbeats 2000000
namespace K16
open PySem PySem.Spec PyProof.Rows L2 Vf 
section
variable {P : Program} {w : World} {K : PySem.W.Frag} {mg : Str → Option Value} {base : Heap}
theorem sc_BadPlace_init : FnScope ["self", "why"] ["self", "why"] (defScope s_BadPlace_init) := ⟨rfl, rfl, rfl, by decide +kernel, rfl, by decide +kernel, by decide +kernel⟩
-- slots: 0 self, 1 why
theorem ok_BadPlace_init {fd : FuncData} (F : FnD K ("BadPlace", some "__init__") "__init__" "BadPlace.__init__" s_BadPlace_init fd) : OkD P w K mg base CX0 1 ("BadPlace", some "__init__") ["self", "why"] [] (spExI K (CBP K) "why") := by
  refine okd F (F.ok sc_BadPlace_init (fun vs H Q E h => ?_) fun cdv A outer s H vs Q E hr h => ⟨tOst K "why" (tVar 0) (tVar 1), PSs.nox ?_, run_exI h⟩) fun _ _ _ _ _ _ us hl => match us, hl with | [_, _], _ => rfl
  · obtain ⟨a, v, rfl, _⟩ := h
    rfl
  · exact pss_one (ps_ost (pv 0) (pv 1))
/-- what a place is made of -/
inductive PlIn (H : Hp) (x l m t : V) : Str → Prop where
  | name (h : (∃ z, x = .str z ∧ z.length ≤ sizeLine ∧ nmB z = false) ∨ OddS H x) : PlIn H x l m t "name"
  | least (z : Str) (hx : x = .str z) (hz : z.length ≤ sizeLine) (hn : nmB z = true) (h : NotFr H l 1 6) : PlIn H x l m t "least"
  | most (z : Str) (hx : x = .str z) (hz : z.length ≤ sizeLine) (hn : nmB z = true) (n : Int) (hl : l = .int n) (n1 : 1 ≤ n) (n2 : n ≤ 6) (hm : m ≠ .non) (h : NotFr H m n 6) : PlIn H x l m t "most"
  | let_ (z : Str) (hx : x = .str z) (hz : z.length ≤ sizeLine) (hn : nmB z = true) (n : Int) (hl : l = .int n) (n1 : 1 ≤ n) (n2 : n ≤ 6) (hm : m = .non ∨ ∃ k : Int, m = .int k ∧ n ≤ k ∧ k ≤ 6) (h : OddB H t) : PlIn H x l m t "let"
/-- the parts of a place that is made -/
def PlOk (x l m t : V) (z : Str) (n k : Int) (b : Bool) : Prop := x = .str z ∧ z.length ≤ sizeLine ∧ nmB z = true ∧ l = .int n ∧ 1 ≤ n ∧ n ≤ k ∧ k ≤ 6 ∧ (m = .int k ∨ (m = .non ∧ k = n)) ∧ t = .bl b
theorem Odd.same {H H' : Hp} {x : V} (o : Odd H x) (s : Same H H') : Odd H' x := o.ext s
theorem oddB_ext {H H' : Hp} {x : V} (o : OddB H x) (s : Same H H') : OddB H' x := by
  cases o with
  | str z => exact .str z
  | non => exact .non
  | int i => exact .int i
  | tup h => exact .tup (s _ _ h)
  | lst h => exact .lst (s _ _ h)
  | dic h => exact .dic (s _ _ h)
theorem NotFr.ext {H H' : Hp} {x : V} {lo hi : Int} (o : NotFr H x lo hi) (s : Same H H') : NotFr H' x lo hi := o.elim .inl fun o => .inr (o.ext s)
def spPlI (K : PySem.W.Frag) : Sp := fun vs H Q E => ∃ (p dx : Addr) (x l m t : V), vs = [.ref p, x, l, m, t] ∧ H p = some (.ins (CP K) dx []) ∧
  ((∃ w, PlIn H x l m t w ∧ ∀ H' d, Same H H' → H' d = none → E (.ref (CBP K)) (some d) (upd H' d (.xd [("why", .str w)]))) ∨
   (∃ z n k b, PlOk x l m t z n k b ∧ ∀ H', Same H H' → Q .non (upd H' p (.ins (CP K) dx (plf z n k b)))))
theorem sc_Place_init : FnScope ["self", "name", "least", "most", "let"] ["self", "name", "least", "most", "let"] (defScope s_Place_init) := ⟨rfl, rfl, rfl, by decide +kernel, rfl, by decide +kernel, by decide +kernel⟩
-- slots: 0 self, 1 name, 2 least, 3 most, 4 let
theorem ok_Place_init {fd : FuncData} (F : FunD K "__init__" "Place.__init__" (defArgs s_Place_init) (defBody s_Place_init) (defScope s_Place_init) [.int 1, .non] [("let", .bl true)] (He.fAd K ("Place", some "__init__")) fd) (T : PTxt K mg)
    (O_is_name : OkF P w K mg base CX0 1 "is_name" ["x"] spName) (O_is_integer_from : OkF P w K mg base CX0 2 "is_integer_from" ["x", "low", "high"] spFr) (O_is_flag : OkF P w K mg base CX0 1 "is_flag" ["x"] spFlag)
    (O_BadPlace_init : OkD P w K mg base CX0 1 ("BadPlace", some "__init__") ["self", "why"] [] (spExI K (CBP K) "why")) :
    FnOk P w K mg base (L2.CX P w) 4 (He.fAd K ("Place", some "__init__")) fd ["self", "name", "least", "most", "let"] (spPlI K) := by
  refine F.ok sc_Place_init (fun vs H Q E h => ?_) fun cdv A outer s H vs Q E hr h => ?_
  · obtain ⟨p, dx, x, l, m, t, rfl, _⟩ := h
    rfl
  · obtain ⟨p, dx, x, l, m, t, rfl, hp, h⟩ := h
    refine ⟨_, (pss_cons (ps_if (pt_not (pt_val (c_fn O_is_name hr (by decide) T.g_is_name pass0 (pa_cons (pv 1) pa_nil)))) (pss_one (c_raise T.x_BadPlace O_BadPlace_init hr (by decide) T.g_BadPlace (takes_of rfl rfl rfl rfl) (pa_cons pe_str pa_nil)))
  pss_nil)
  (pss_cons (ps_if (pt_not (pt_val (c_fn O_is_integer_from hr (by decide) T.g_is_integer_from pass0 (pa_cons (pv 2) (pa_cons pe_int (pa_cons (c_gint T.i_MOST_TICKS) pa_nil)))))) (pss_one (c_raise T.x_BadPlace O_BadPlace_init hr (by decide) T.g_BadPlace (takes_of rfl rfl rfl rfl) (pa_cons pe_str pa_nil)))
  pss_nil)
  (pss_cons (ps_if (PW.pt (pw_and (pt_cmpR op_notN (pv 3) pe_non (nomark _)) (pw_and1 (pt_not (pt_val (c_fn O_is_integer_from hr (by decide) T.g_is_integer_from pass0 (pa_cons (pv 3) (pa_cons (pv 2) (pa_cons (c_gint T.i_MOST_TICKS) pa_nil))))))))) (pss_one (c_raise T.x_BadPlace O_BadPlace_init hr (by decide) T.g_BadPlace (takes_of rfl rfl rfl rfl) (pa_cons pe_str pa_nil)))
  pss_nil)
  (pss_cons (ps_if (pt_not (pt_val (c_fn O_is_flag hr (by decide) T.g_is_flag pass0 (pa_cons (pv 4) pa_nil)))) (pss_one (c_raise T.x_BadPlace O_BadPlace_init hr (by decide) T.g_BadPlace (takes_of rfl rfl rfl rfl) (pa_cons pe_str pa_nil)))
  pss_nil)
  (pss_cons (ps_fld (pv 0) (pv 1) rfl)
  (pss_cons (ps_fld (pv 0) (pv 2) rfl)
  (pss_cons (ps_fld (pv 0) (pe_ifExp (pt_cmpR op_isN (pv 3) pe_non (nomark _)) (pv 2) (pv 3)) rfl)
  (pss_one (ps_fld (pv 0) (pv 4) rfl))))))))), ?_⟩
    rcases h with ⟨w, hi, k⟩ | ⟨z, n, kk, b, ⟨rfl, hz, hn, rfl, n1, n2, n3, hm, rfl⟩, k⟩
    · cases hi with
      | name h =>
        rcases h with ⟨z, rfl, hz, hn⟩ | o
        · refine ⟨_, rfl, _, rfl, .inl ⟨z, rfl, hz, fun H1 s1 => ⟨false, by rw [hn], iteT ⟨_, rfl, fun d hd => k H1 d s1 hd⟩⟩⟩⟩
        · exact ⟨_, rfl, _, rfl, .inr ⟨o, false, rfl, iteT ⟨_, rfl, fun d hd => k H d (Same.refl _) hd⟩⟩⟩
      | least z hx hz hn h =>
        subst hx
        refine ⟨_, rfl, _, rfl, .inl ⟨z, rfl, hz, fun H1 s1 => ⟨true, by rw [hn], iteF ?_⟩⟩⟩
        exact ⟨_, rfl, _, _, _, rfl, .inr ⟨h.ext s1, false, rfl, iteT ⟨_, rfl, fun d hd => k H1 d s1 hd⟩⟩⟩
      | most z hx hz hn n hl n1 n2 hm h =>
        subst hx hl
        refine ⟨_, rfl, _, rfl, .inl ⟨z, rfl, hz, fun H1 s1 => ⟨true, by rw [hn], iteF ?_⟩⟩⟩
        refine ⟨_, rfl, _, _, _, rfl, .inl ⟨n, rfl, n1, n2, true, rfl, iteF ?_⟩⟩
        exact ⟨_, rfl, rfl, true, by rw [decide_eq_false hm]; rfl, iteT ⟨_, rfl, _, rfl, _, _, _, rfl, .inr ⟨h.ext s1, false, rfl, iteT ⟨_, rfl, fun d hd => k H1 d s1 hd⟩⟩⟩⟩
      | let_ z hx hz hn n hl n1 n2 hm h =>
        subst hx hl
        refine ⟨_, rfl, _, rfl, .inl ⟨z, rfl, hz, fun H1 s1 => ⟨true, by rw [hn], iteF ?_⟩⟩⟩
        refine ⟨_, rfl, _, _, _, rfl, .inl ⟨n, rfl, n1, n2, true, rfl, iteF ?_⟩⟩
        have fin := fun d hd => k H1 d s1 hd
        rcases hm with rfl | ⟨kk, rfl, k1, k2⟩
        · exact ⟨_, rfl, rfl, false, rfl, iteF ⟨_, rfl, _, rfl, .inr ⟨oddB_ext h s1, false, rfl, iteT ⟨_, rfl, fin⟩⟩⟩⟩
        · exact ⟨_, rfl, rfl, true, rfl, iteT ⟨_, rfl, _, rfl, _, _, _, rfl, .inl ⟨kk, rfl, k1, k2, true, rfl, iteF ⟨_, rfl, _, rfl, .inr ⟨oddB_ext h s1, false, rfl, iteT ⟨_, rfl, fin⟩⟩⟩⟩⟩⟩
    · refine ⟨_, rfl, _, rfl, .inl ⟨z, rfl, hz, fun H1 s1 => ⟨true, by rw [hn], iteF ?_⟩⟩⟩
      refine ⟨_, rfl, _, _, _, rfl, .inl ⟨n, rfl, n1, by omega, true, rfl, iteF ?_⟩⟩
      have hp1 := s1 _ _ hp
      have z0 : (0 : Nat) < 1000 := by decide
      have fin := k H1 s1
      rcases hm with rfl | ⟨rfl, rfl⟩
      · refine ⟨_, rfl, rfl, true, rfl, iteT ⟨_, rfl, _, rfl, _, _, _, rfl, .inl ⟨kk, rfl, n2, n3, true, rfl, iteF ⟨_, rfl, _, rfl, .inl ⟨b, rfl, true, rfl, iteF ?_⟩⟩⟩⟩⟩
        refine ⟨_, rfl, _, rfl, p, _, dx, [], rfl, hp1, T.c_Place, T.nN, (by show 0 < 1000; decide), ?_⟩
        refine ⟨_, rfl, _, rfl, p, _, dx, _, rfl, upd_same, T.c_Place, T.nL, (by show 1 < 1000; decide), ?_⟩
        rw [upd_upd]
        refine ⟨_, rfl, rfl, false, rfl, iteF ⟨_, rfl, _, rfl, p, _, dx, _, rfl, upd_same, T.c_Place, T.nM, (by show 2 < 1000; decide), ?_⟩⟩
        rw [upd_upd]
        refine ⟨_, rfl, _, rfl, p, _, dx, _, rfl, upd_same, T.c_Place, T.nT, (by show 3 < 1000; decide), ?_⟩
        rw [upd_upd]
        exact fin
      · refine ⟨_, rfl, rfl, false, rfl, iteF ⟨_, rfl, _, rfl, .inl ⟨b, rfl, true, rfl, iteF ?_⟩⟩⟩
        refine ⟨_, rfl, _, rfl, p, _, dx, [], rfl, hp1, T.c_Place, T.nN, (by show 0 < 1000; decide), ?_⟩
        refine ⟨_, rfl, _, rfl, p, _, dx, _, rfl, upd_same, T.c_Place, T.nL, (by show 1 < 1000; decide), ?_⟩
        rw [upd_upd]
        refine ⟨_, rfl, rfl, true, rfl, iteT ⟨_, rfl, _, rfl, p, _, dx, _, rfl, upd_same, T.c_Place, T.nM, (by show 2 < 1000; decide), ?_⟩⟩
        rw [upd_upd]
        refine ⟨_, rfl, _, rfl, p, _, dx, _, rfl, upd_same, T.c_Place, T.nT, (by show 3 < 1000; decide), ?_⟩
        rw [upd_upd]
        exact fin
/-- Place(name, least, most, let=t); the shorter ones -/
theorem O_Place3k {fd : FuncData} (F : FunD K "__init__" "Place.__init__" (defArgs s_Place_init) (defBody s_Place_init) (defScope s_Place_init) [.int 1, .non] [("let", .bl true)] (He.fAd K ("Place", some "__init__")) fd) (G : FnOk P w K mg base (L2.CX P w) 4 (He.fAd K ("Place", some "__init__")) fd ["self", "name", "least", "most", "let"] (spPlI K)) :
    OkK P w K mg base (L2.CX P w) 4 ("Place", some "__init__") ["self", "name", "least", "most", "let"] 4 ["let"] (fun vs zs => vs ++ zs) (spPlI K) := by
  obtain ⟨its, mv, b⟩ := F.kbinds (ps := ["self", "name", "least", "most", "let"]) 4 ["let"] [] (fun us _ _ ws => us ++ ws) (by decide) (by decide) (fun _ h => nomatch h) (fun r1 _ _ r4 => r1.append r4)
    fun T D doc pm an cdv ct us its mv ws h1 h2 h3 h4 => match us, its, mv, ws, h1, h2, h3, h4 with | [_, _, _, _], [_, _], [], [_], _, _, _, _ => ⟨_, rfl, rfl⟩
  exact ⟨fd, _, G, b⟩
theorem O_Place2 {fd : FuncData} (F : FunD K "__init__" "Place.__init__" (defArgs s_Place_init) (defBody s_Place_init) (defScope s_Place_init) [.int 1, .non] [("let", .bl true)] (He.fAd K ("Place", some "__init__")) fd) (G : FnOk P w K mg base (L2.CX P w) 4 (He.fAd K ("Place", some "__init__")) fd ["self", "name", "least", "most", "let"] (spPlI K)) :
    OkK P w K mg base (L2.CX P w) 4 ("Place", some "__init__") ["self", "name", "least", "most", "let"] 3 [] (fun vs _ => vs ++ [.non, .bl true]) (spPlI K) := by
  obtain ⟨its, mv, b⟩ := F.kbinds (ps := ["self", "name", "least", "most", "let"]) 3 [] [("let", .bl true)] (fun us its mv _ => us ++ (its.drop 1 ++ mv)) (by decide) (by decide) (fun _ h => h) (fun r1 r2 r3 _ => r1.append ((r2.drop 1).append r3))
    fun T D doc pm an cdv ct us its mv ws h1 h2 h3 h4 => match us, its, mv, ws, h1, h2, h3, h4 with | [_, _, _], [_, _], [_], [], _, _, _, _ => ⟨_, rfl, _, _, _, _, _, _, rfl, rfl, rfl⟩
  exact ⟨fd, _, G, b⟩
theorem O_Place1 {fd : FuncData} (F : FunD K "__init__" "Place.__init__" (defArgs s_Place_init) (defBody s_Place_init) (defScope s_Place_init) [.int 1, .non] [("let", .bl true)] (He.fAd K ("Place", some "__init__")) fd) (G : FnOk P w K mg base (L2.CX P w) 4 (He.fAd K ("Place", some "__init__")) fd ["self", "name", "least", "most", "let"] (spPlI K)) :
    OkK P w K mg base (L2.CX P w) 4 ("Place", some "__init__") ["self", "name", "least", "most", "let"] 2 [] (fun vs _ => vs ++ [.int 1, .non, .bl true]) (spPlI K) := by
  obtain ⟨its, mv, b⟩ := F.kbinds (ps := ["self", "name", "least", "most", "let"]) 2 [] [("let", .bl true)] (fun us its mv _ => us ++ (its ++ mv)) (by decide) (by decide) (fun _ h => h) (fun r1 r2 r3 _ => r1.append (r2.append r3))
    fun T D doc pm an cdv ct us its mv ws h1 h2 h3 h4 => match us, its, mv, ws, h1, h2, h3, h4 with | [_, _], [_, _], [_], [], _, _, _, _ => ⟨_, rfl, _, _, _, _, _, _, rfl, rfl, rfl⟩
  exact ⟨fd, _, G, b⟩
theorem sc_Place_eq : FnScope ["self", "other"] ["self", "other"] (defScope s_Place_eq) := ⟨rfl, rfl, rfl, by decide +kernel, rfl, by decide +kernel, by decide +kernel⟩
-- slots: 0 self, 1 other
def plB (z z' : Str) (l l' m m' : Int) (b b' : Bool) : Bool := decide (z = z') && (decide (l = l') && (decide (m = m') && decide (b = b')))
def spPlE (C : Addr) : Sp := fun vs H Q _ => ∃ (p q : Addr) (z z' : Str) (l l' m m' : Int) (b b' : Bool), vs = [.ref p, .ref q] ∧ PlA C H p z l m b ∧ PlA C H q z' l' m' b' ∧ Q (.bl (plB z z' l l' m m' b b')) H
theorem str_dec (a c : Str) : decide (V.str a = V.str c) = decide (a = c) := decide_eq_decide.mpr ⟨fun h => V.str.inj h, fun h => by rw [h]⟩
theorem int_dec (a c : Int) : decide (V.int a = V.int c) = decide (a = c) := decide_eq_decide.mpr ⟨fun h => V.int.inj h, fun h => by rw [h]⟩
theorem bl_dec (a c : Bool) : decide (V.bl a = V.bl c) = decide (a = c) := decide_eq_decide.mpr ⟨fun h => V.bl.inj h, fun h => by rw [h]⟩
theorem ok_Place_eq {fd : FuncData} (F : FnD K ("Place", some "__eq__") "__eq__" "Place.__eq__" s_Place_eq fd) (T : PTxt K mg) : OkM P w K mg base CX0 1 "Place" "__eq__" ["self", "other"] (spPlE (CP K)) := by
  refine okd F (F.ok sc_Place_eq (fun vs H Q E h => ?_) fun cdv A outer s H vs Q E hr h => ?_) fun _ _ _ _ _ _ us hl => match us, hl with | [_, _], _ => rfl
  · obtain ⟨p, q, z, z', l, l', m, m', b, b', rfl, _⟩ := h
    rfl
  · obtain ⟨p, q, z, z', l, l', m, m', b, b', rfl, ⟨dx, hp⟩, ⟨dy, hq⟩, k⟩ := h
    refine ⟨_, PSs.nox (pss_one (ps_ret (pe_and (pe_callB (id := "isinstance") call_isi (by rfl) T.z_isinstance (by decide +kernel) (pa_cons (pv 1) (pa_cons (pe_cl T.g_Place) pa_nil))) (pe_and (pe_cmpR op_eq (pe_fld (pv 0) rfl) (pe_fld (pv 1) rfl) (nomark _)) (pe_and (pe_cmpR op_eq (pe_fld (pv 0) rfl) (pe_fld (pv 1) rfl) (nomark _)) (pe_and (pe_cmpR op_eq (pe_fld (pv 0) rfl) (pe_fld (pv 1) rfl) (nomark _)) (pe_one (pe_cmpR op_eq (pe_fld (pv 0) rfl) (pe_fld (pv 1) rfl) (nomark _))))))))), ?_⟩
    refine ⟨_, rfl, .ref q, .ref (CP K), .ref (CP K), .ref (CP K), true, rfl, .own _, .base (.ins hq T.c_Place T.ha T.hn T.ht T.hm), T.k1, true, rfl, iteT ?_⟩
    unfold plB at k
    rw [← str_dec, ← int_dec, ← int_dec, ← bl_dec] at k
    refine ⟨_, rfl, p, _, dx, _, _, rfl, hp, T.c_Place, T.nN, plf_name .., _, rfl, q, _, dy, _, _, rfl, hq, T.c_Place, T.nN, plf_name .., rfl, _, rfl, ?_⟩
    cases e1 : decide (V.str z = V.str z') with
    | false =>
      rw [e1] at k
      exact iteF k
    | true =>
      rw [e1] at k
      refine iteT ⟨_, rfl, p, _, dx, _, _, rfl, hp, T.c_Place, T.nL, plf_least .., _, rfl, q, _, dy, _, _, rfl, hq, T.c_Place, T.nL, plf_least .., rfl, _, rfl, ?_⟩
      cases e2 : decide (V.int l = V.int l') with
      | false =>
        rw [e2] at k
        exact iteF k
      | true =>
        rw [e2] at k
        refine iteT ⟨_, rfl, p, _, dx, _, _, rfl, hp, T.c_Place, T.nM, plf_most .., _, rfl, q, _, dy, _, _, rfl, hq, T.c_Place, T.nM, plf_most .., rfl, _, rfl, ?_⟩
        cases e3 : decide (V.int m = V.int m') with
        | false =>
          rw [e3] at k
          exact iteF k
        | true =>
          rw [e3] at k
          exact iteT ⟨_, rfl, p, _, dx, _, _, rfl, hp, T.c_Place, T.nT, plf_let .., _, rfl, q, _, dy, _, _, rfl, hq, T.c_Place, T.nT, plf_let .., rfl, k⟩
end
end K16

set_option Elab.async false
set_option linter.all false
set_option pp.deepTerms.threshold 14
set_option pp.maxSteps 2500
set_option maxRecDepth 100000
set_option maxHeartbeats 2000000
namespace K16
open PySem PySem.Spec PyProof.Rows L2 Vf 
section
variable {P : Program} {w : World} {K : PySem.W.Frag} {mg : Str → Option Value} {base : Heap}
structure GTxt (K : PySem.W.Frag) (mg : Str → Option Value) : Prop extends PTxt K mg where
  z_enumerate : mg "enumerate" = none
  z_list : mg "list" = none
  z_tuple : mg "tuple" = none
  z_dict : mg "dict" = none
  i_MOST_PLACES : ∃ t, mg "MOST_PLACES" = some (.int 6 t)
  g_has_twins : mg "has_twins" = some (.ref (He.ga K "has_twins"))
  g_is_one_of : mg "is_one_of" = some (.ref (He.ga K "is_one_of"))
  g_are_places : mg "are_places" = some (.ref (He.ga K "are_places"))
  g_are_nexts : mg "are_nexts" = some (.ref (He.ga K "are_nexts"))
  g_is_choice : mg "is_choice" = some (.ref (He.ga K "is_choice"))
  g_Program : mg "Program" = some (.ref (He.ga K "Program"))
  g_BadProgram : mg "BadProgram" = some (.ref (He.ga K "BadProgram"))
  g_NoPlace : mg "NoPlace" = some (.ref (He.ga K "NoPlace"))
  c_Program : Cls K (He.ga K "Program")
  m_Program : Mk K (He.ga K "Program") (He.fAd K ("Program", some "__init__"))
  nA : NoAttr K (He.ga K "Program") "names"
  nB : NoAttr K (He.ga K "Program") "start"
  nC : NoAttr K (He.ga K "Program") "_places"
  nD : NoAttr K (He.ga K "Program") "_nexts"
  x_BadProgram : ExI K "BadProgram" "why"
  x_NoPlace : ExI K "NoPlace" "name"
  pa : PySem.W.findIn K (.ref (He.ga K "Program")) "__class__" = some (some (.builtin "object.__class__"))
  pm : PySem.W.mroIn K (He.ga K "Program") (.type "object") = some true
  pk : PySem.W.kitOne K (.ref (He.ga K "Program")) (.ref (He.ga K "Program")) = some true
abbrev CG (K : PySem.W.Frag) : Addr := He.ga K "Program"
abbrev CBG (K : PySem.W.Frag) : Addr := He.ga K "BadProgram"
theorem pe_fldK {X : Cx} {K : PySem.W.Frag} {e : Expr} {f : Str} {pos : Pos} {ta : TE} (hK : X.K = K) (he : PE X e ta) (hb : attributeBase e f X.env (eval e X.env) = eval e X.env) : PE X (.Attribute e f pos) (tFld K ta f) := hK ▸ pe_fld he hb
theorem call_isiB {X : Cx} {K : PySem.W.Frag} (hK : X.K = K) : CallR X (.builtin "isinstance") (rIsi K) := hK ▸ call_isi
theorem cutV_upto {xs : List V} {i : Nat} (h : i ≤ xs.length) : cutV xs none (some (i : Int)) = xs.take i := by
  unfold cutV
  have e1 : HT.sIx xs.length 0 none = 0 := rfl
  have e2 : HT.sIx xs.length xs.length (some (i : Int)) = i := by
    rw [HT.sIx_nat]
    omega
  rw [e1, e2]
  simp
theorem nodup_snoc (zs : List Str) (z : Str) : (!decide (zs ++ [z]).Nodup) = (!decide zs.Nodup || decide (z ∈ zs)) := by
  rw [Bool.eq_iff_iff]
  simp only [Bool.not_eq_true', decide_eq_false_iff_not, Bool.or_eq_true, decide_eq_true_eq, List.nodup_append, List.mem_singleton]
  constructor
  · intro h
    by_cases hn : zs.Nodup
    · right
      exact Classical.byContradiction fun hz => h ⟨hn, by simp, fun a ha b hb => by rw [hb]; exact fun e => hz (e ▸ ha)⟩
    · exact .inl hn
  · rintro (h | h) ⟨h1, _, h3⟩
    · exact h h1
    · exact h3 z h z rfl rfl
theorem sc_has_twins : FnScope ["items", "at", "item", "earlier"] ["items"] (defScope s_has_twins) := ⟨rfl, rfl, rfl, by decide +kernel, rfl, by decide +kernel, by decide +kernel⟩
-- slots: 0 items, 1 at, 2 item, 3 earlier
/-- texts at a: are two of them equal -/
def spTw (K : PySem.W.Frag) : Sp := fun vs H Q _ => ∃ (a : Addr) (zs : List Str), vs = [.ref a] ∧ zs.length ≤ 1000 ∧ (SqL K H a (zs.map V.str) ∨ SqT K H a (zs.map V.str)) ∧ ∀ H', Same H H' → Q (.bl (!decide zs.Nodup)) H'
theorem ok_has_twins {fd : FuncData} (F : FnD K ("has_twins", none) "has_twins" "has_twins" s_has_twins fd) (T : GTxt K mg) : OkF P w K mg base CX0 1 "has_twins" ["items"] (spTw K) := by
  refine okd F (F.ok sc_has_twins (fun vs H Q E h => ?_) fun cdv A outer s H vs Q E hr h => ?_) fun _ _ _ _ _ _ us hl => match us, hl with | [_], _ => rfl
  · obtain ⟨a, zs, rfl, _⟩ := h
    rfl
  · obtain ⟨a, zs, rfl, hlen, hS | hS, k⟩ := h
    · refine ⟨_, PSs.nox (pss_cons (ps_for PassesOwn.never rfl (pi_enum (by rfl) T.z_enumerate (pa_cons (pv 0) pa_nil)) (pg_tup rfl (pgs_cons (pg_name (i := 1) sc_has_twins.nd rfl (Or.inl rfl)) (pgs_cons (pg_name (i := 2) sc_has_twins.nd rfl (Or.inl rfl)) pgs_nil)))
  (pss_one (ps_for PassesOwn.never rfl (pi_list (pe_slice sl_list (pv 0) po_none (po_some (pv 1)))) (pg_name (i := 3) sc_has_twins.nd rfl (Or.inl rfl))
  (pss_one (ps_if (pt_cmpR op_eq (pv 2) (pv 3) (nomark _)) (pss_one (ps_ret pe_bl))
  pss_nil)))))
  (pss_one (ps_ret pe_bl))), ?_⟩
      refine ⟨_, rfl, a, _, rfl, hS, for_it walk_enum (fun i σ H' => Same H H' ∧ (zs.take i).Nodup ∧ ∃ v1 v2 v3 : Option V, σ = [some (.ref a), v1, v2, v3]) ⟨Same.refl _, List.nodup_nil, none, none, none, rfl⟩ (fun i σ H' _ h => h.1.seq hS) ?_ ?_⟩
      · rintro i x σ H1 H2 hi ⟨sg, hn, v1, v2, v3, rfl⟩ hy
        obtain ⟨T', x', y', rfl, nT', rfl, hx', hy'⟩ := hy
        cases (Option.some.inj hx')
        replace hy' : (zs.map V.str)[i]? = some y' := hy'
        rw [List.getElem?_map] at hy'
        obtain ⟨z, hz, rfl⟩ : ∃ z, zs[i]? = some z ∧ y' = .str z := by
          cases hq : zs[i]? with
          | none => rw [hq] at hy'; cases hy'
          | some z =>
            rw [hq] at hy'
            exact ⟨z, rfl, (Option.some.inj hy').symm⟩
        have hi' : i < zs.length := (List.getElem?_eq_some_iff.mp hz).1
        have sT := sg.trans (same_new (o := .tup [.int (i : Nat), .str z]) nT')
        refine ⟨T', _, rfl, SqT.of upd_same, rfl, _, _, rfl, _, _, rfl, rfl, ?_⟩
        have ecut : cutV (zs.map V.str) none (some ((i : Nat) : Int)) = (zs.take i).map V.str := by
          rw [cutV_upto (xs := zs.map V.str) (i := i) (by rw [List.length_map]; omega), List.map_take]
        refine ⟨_, rfl, _, rfl, (i : Int), rfl, a, _, rfl, sT.seq hS, fun p np => ?_⟩
        rw [ecut]
        have sp := sT.trans (same_new (o := .lst ((zs.take i).map V.str)) np)
        have hp := upd_same (H := upd H1 T' (.tup [.int (i : Nat), .str z])) (a := p) (o := .lst ((zs.take i).map V.str))
        generalize upd (upd H1 T' (.tup [.int (i : Nat), .str z])) p (.lst ((zs.take i).map V.str)) = H3 at sp hp ⊢
        refine ⟨p, rfl, ⟨_, SqL.of hp⟩, for_list (K := K) (a := p) (xs := (zs.take i).map V.str) (fun j σ H' => H' = H3 ∧ (∀ w ∈ (zs.take i).take j, w ≠ z) ∧ ∃ v3 : Option V, σ = [some (.ref a), some (.int (i : Int)), some (.str z), v3]) ⟨rfl, (fun _ h => by cases h), v3, rfl⟩ (fun j σ H' _ h => h.1 ▸ SqL.of hp) ?_ ?_⟩
        · rintro j w σ H' hj ⟨rfl, hne, v, rfl⟩
          rw [List.getElem?_map] at hj
          obtain ⟨u, hu, rfl⟩ : ∃ u, (zs.take i)[j]? = some u ∧ w = .str u := by
            cases hq : (zs.take i)[j]? with
            | none => rw [hq] at hj; cases hj
            | some u =>
              rw [hq] at hj
              exact ⟨u, rfl, (Option.some.inj hj).symm⟩
          refine ⟨_, rfl, _, rfl, rfl, _, rfl, ite2 (fun e => ?_) fun e => ?_⟩
          · have ez : z = u := V.str.inj (of_decide_eq_true e)
            have hd : ¬ zs.Nodup := fun hn2 => by
              have h1 : (zs.take (i + 1)).Nodup := hn2.sublist (List.take_sublist _ _)
              rw [List.take_add_one, hz] at h1
              exact (List.nodup_append.mp h1).2.2 u (List.mem_of_getElem? hu) z (by simp) ez.symm
            have := k _ sp
            rw [decide_eq_false hd] at this
            exact this
          · refine ⟨rfl, fun v hv => ?_, _, rfl⟩
            rw [List.take_add_one, hu] at hv
            rcases List.mem_append.mp hv with hv | hv
            · exact hne v hv
            · have : v = u := by simpa using hv
              rw [this]
              exact fun ez => e (decide_eq_true (by rw [ez]))
        · rintro σ H' ⟨rfl, hne, v, rfl⟩
          refine ⟨sp, ?_, _, _, _, rfl⟩
          rw [List.length_map, List.take_length] at hne
          rw [List.take_add_one, hz]
          exact List.nodup_append.mpr ⟨hn, by simp, fun w hw w' hw' => by
            have : w' = z := by simpa using hw'
            rw [this]
            exact hne w hw⟩
      · rintro σ H1 ⟨sg, hn, v1, v2, v3, rfl⟩
        rw [List.length_map, List.take_length] at hn
        have := k H1 sg
        rw [decide_eq_true hn] at this
        exact this
    · refine ⟨_, PSs.nox (pss_cons (ps_for PassesOwn.never rfl (pi_enumT (by rfl) T.z_enumerate (pa_cons (pv 0) pa_nil)) (pg_tup rfl (pgs_cons (pg_name (i := 1) sc_has_twins.nd rfl (Or.inl rfl)) (pgs_cons (pg_name (i := 2) sc_has_twins.nd rfl (Or.inl rfl)) pgs_nil)))
  (pss_one (ps_for PassesOwn.never rfl (pi_tup (pe_slice sl_tup (pv 0) po_none (po_some (pv 1)))) (pg_name (i := 3) sc_has_twins.nd rfl (Or.inl rfl))
  (pss_one (ps_if (pt_cmpR op_eq (pv 2) (pv 3) (nomark _)) (pss_one (ps_ret pe_bl))
  pss_nil)))))
  (pss_one (ps_ret pe_bl))), ?_⟩
      refine ⟨_, rfl, a, _, rfl, hS, for_it walk_enumT (fun i σ H' => Same H H' ∧ (zs.take i).Nodup ∧ ∃ v1 v2 v3 : Option V, σ = [some (.ref a), v1, v2, v3]) ⟨Same.refl _, List.nodup_nil, none, none, none, rfl⟩ (fun i σ H' _ h => SqT.ext hS h.1) ?_ ?_⟩
      · rintro i x σ H1 H2 hi ⟨sg, hn, v1, v2, v3, rfl⟩ hy
        obtain ⟨T', x', y', rfl, nT', rfl, hx', hy'⟩ := hy
        cases (Option.some.inj hx')
        replace hy' : (zs.map V.str)[i]? = some y' := hy'
        rw [List.getElem?_map] at hy'
        obtain ⟨z, hz, rfl⟩ : ∃ z, zs[i]? = some z ∧ y' = .str z := by
          cases hq : zs[i]? with
          | none => rw [hq] at hy'; cases hy'
          | some z =>
            rw [hq] at hy'
            exact ⟨z, rfl, (Option.some.inj hy').symm⟩
        have hi' : i < zs.length := (List.getElem?_eq_some_iff.mp hz).1
        have sT := sg.trans (same_new (o := .tup [.int (i : Nat), .str z]) nT')
        refine ⟨T', _, rfl, SqT.of upd_same, rfl, _, _, rfl, _, _, rfl, rfl, ?_⟩
        have ecut : cutV (zs.map V.str) none (some ((i : Nat) : Int)) = (zs.take i).map V.str := by
          rw [cutV_upto (xs := zs.map V.str) (i := i) (by rw [List.length_map]; omega), List.map_take]
        have nw : ¬ (HT.sIx (zs.map V.str).length 0 none = 0 ∧ HT.sIx (zs.map V.str).length (zs.map V.str).length (some (i : Int)) = (zs.map V.str).length) := fun z => by
          have e1 : HT.sIx (zs.map V.str).length (zs.map V.str).length (some (i : Int)) = min i (zs.map V.str).length := HT.sIx_nat ..
          rw [e1, List.length_map] at z
          omega
        refine ⟨_, rfl, _, rfl, (i : Int), rfl, a, _, rfl, SqT.ext hS sT, nw, fun p np => ?_⟩
        rw [ecut]
        have sp := sT.trans (same_new (o := .tup ((zs.take i).map V.str)) np)
        have hp := upd_same (H := upd H1 T' (.tup [.int (i : Nat), .str z])) (a := p) (o := .tup ((zs.take i).map V.str))
        generalize upd (upd H1 T' (.tup [.int (i : Nat), .str z])) p (.tup ((zs.take i).map V.str)) = H3 at sp hp ⊢
        refine ⟨p, rfl, ⟨_, SqT.of hp⟩, for_tup (K := K) (a := p) (xs := (zs.take i).map V.str) (fun j σ H' => H' = H3 ∧ (∀ w ∈ (zs.take i).take j, w ≠ z) ∧ ∃ v3 : Option V, σ = [some (.ref a), some (.int (i : Int)), some (.str z), v3]) ⟨rfl, (fun _ h => by cases h), v3, rfl⟩ (fun j σ H' _ h => h.1 ▸ SqT.of hp) ?_ ?_⟩
        · rintro j w σ H' hj ⟨rfl, hne, v, rfl⟩
          rw [List.getElem?_map] at hj
          obtain ⟨u, hu, rfl⟩ : ∃ u, (zs.take i)[j]? = some u ∧ w = .str u := by
            cases hq : (zs.take i)[j]? with
            | none => rw [hq] at hj; cases hj
            | some u =>
              rw [hq] at hj
              exact ⟨u, rfl, (Option.some.inj hj).symm⟩
          refine ⟨_, rfl, _, rfl, rfl, _, rfl, ite2 (fun e => ?_) fun e => ?_⟩
          · have ez : z = u := V.str.inj (of_decide_eq_true e)
            have hd : ¬ zs.Nodup := fun hn2 => by
              have h1 : (zs.take (i + 1)).Nodup := hn2.sublist (List.take_sublist _ _)
              rw [List.take_add_one, hz] at h1
              exact (List.nodup_append.mp h1).2.2 u (List.mem_of_getElem? hu) z (by simp) ez.symm
            have := k _ sp
            rw [decide_eq_false hd] at this
            exact this
          · refine ⟨rfl, fun v hv => ?_, _, rfl⟩
            rw [List.take_add_one, hu] at hv
            rcases List.mem_append.mp hv with hv | hv
            · exact hne v hv
            · have : v = u := by simpa using hv
              rw [this]
              exact fun ez => e (decide_eq_true (by rw [ez]))
        · rintro σ H' ⟨rfl, hne, v, rfl⟩
          refine ⟨sp, ?_, _, _, _, rfl⟩
          rw [List.length_map, List.take_length] at hne
          rw [List.take_add_one, hz]
          exact List.nodup_append.mpr ⟨hn, by simp, fun w hw w' hw' => by
            have : w' = z := by simpa using hw'
            rw [this]
            exact hne w hw⟩
      · rintro σ H1 ⟨sg, hn, v1, v2, v3, rfl⟩
        rw [List.length_map, List.take_length] at hn
        have := k H1 sg
        rw [decide_eq_true hn] at this
        exact this
theorem inV_str (z : Str) (zs : List Str) : inV (.str z) (zs.map V.str) = decide (z ∈ zs) := by
  rw [Bool.eq_iff_iff, decide_eq_true_eq]
  unfold inV
  rw [List.any_eq_true]
  constructor
  · rintro ⟨y, hy, he⟩
    obtain ⟨w, hw, rfl⟩ := List.mem_map.mp hy
    have : (w == z) = true := he
    rw [← eq_of_beq this]
    exact hw
  · intro h
    exact ⟨.str z, List.mem_map_of_mem h, by show (z == z) = true; simp⟩
theorem flat_str (zs : List Str) : (zs.map V.str).all flatV = true := by
  rw [List.all_map, List.all_eq_true]
  exact fun _ _ => rfl
theorem sc_is_one_of : FnScope ["x", "names"] ["x", "names"] (defScope s_is_one_of) := ⟨rfl, rfl, rfl, by decide +kernel, rfl, by decide +kernel, by decide +kernel⟩
-- slots: 0 x, 1 names
/-- is x one of the texts at t -/
def spOne (K : PySem.W.Frag) : Sp := fun vs H Q _ => ∃ (x : V) (t : Addr) (zs : List Str), vs = [x, .ref t] ∧ SqT K H t (zs.map V.str) ∧ ((∃ z, x = .str z ∧ Q (.bl (decide (z ∈ zs))) H) ∨ (OddS H x ∧ Q (.bl false) H))
theorem ok_is_one_of {fd : FuncData} (F : FnD K ("is_one_of", none) "is_one_of" "is_one_of" s_is_one_of fd) (T : GTxt K mg) : OkF P w K mg base CX0 1 "is_one_of" ["x", "names"] (spOne K) := by
  refine okd F (F.ok sc_is_one_of (fun vs H Q E h => ?_) fun cdv A outer s H vs Q E hr h => ?_) fun _ _ _ _ _ _ us hl => match us, hl with | [_, _], _ => rfl
  · obtain ⟨x, t, zs, rfl, _⟩ := h
    rfl
  · obtain ⟨x, t, zs, rfl, hS, h⟩ := h
    refine ⟨_, PSs.nox (pss_one (ps_ret (pe_and (pe_callB (id := "isinstance") call_isi (by rfl) T.z_isinstance (by decide +kernel) (pa_cons (pv 0) (pa_cons (pe_ty (n := "str") T.z_str (by decide +kernel)) pa_nil))) (pe_one (pe_cmpR op_in_seq (pv 0) (pv 1) rfl))))), ?_⟩
    rcases h with ⟨z, rfl, q⟩ | ⟨o, q⟩
    · refine ⟨_, rfl, .str z, .ty "str", .type "str", .type "str", true, rfl, .ty _, .base (.str _), kit_ty (by decide +kernel), true, rfl, iteT ?_⟩
      refine ⟨_, rfl, _, rfl, t, _, rfl, .inr hS, rfl, flat_str zs, ?_⟩
      show Q (.bl (inV (.str z) (zs.map V.str))) H
      rw [inV_str]
      exact q
    · obtain ⟨n, t1, k1⟩ := oddS_ty K o
      exact ⟨_, rfl, x, .ty "str", .type n, .type "str", false, rfl, .ty _, t1, kit_ty k1, false, rfl, iteF q⟩
end
end K16

set_option Elab.async false
set_option linter.all false
set_option pp.deepTerms.threshold 14
set_option pp.maxSteps 2500
set_option maxRecDepth 100000
set_option maxHeartbeats 2000000
namespace K16
open PySem PySem.Spec PyProof.Rows L2 Vf 
section
variable {P : Program} {w : World} {K : PySem.W.Frag} {mg : Str → Option Value} {base : Heap}
theorem sc_is_choice : FnScope ["ways", "names", "way"] ["ways", "names"] (defScope s_is_choice) := ⟨rfl, rfl, rfl, by decide +kernel, rfl, by decide +kernel, by decide +kernel⟩
-- slots: 0 ways, 1 names, 2 way
def spChoice (K : PySem.W.Frag) : Sp := fun vs H Q _ => ∃ (t n : Addr) (ws zs : List Str), vs = [.ref t, .ref n] ∧ H t = some (.tup (ws.map V.str)) ∧ H n = some (.tup (zs.map V.str)) ∧ (∀ y ∈ ws, y ∈ zs) ∧ ws.Nodup ∧ ws.length ≤ 1000 ∧ ∀ H', Same H H' → Q (.bl true) H'
theorem take_rep (i : Nat) : (List.replicate i true).map V.bl ++ [V.bl true] = (List.replicate (i + 1) true).map V.bl := by
  rw [List.replicate_succ', List.map_append]
  rfl
theorem all_rep (i : Nat) : (List.replicate i true).all id = true := by
  rw [List.all_eq_true]
  intro x hx
  rw [List.mem_replicate] at hx
  rw [hx.2]
  rfl
theorem ok_is_choice {fd : FuncData} (F : FnD K ("is_choice", none) "is_choice" "is_choice" s_is_choice fd) (T : GTxt K mg) (O_is_one_of : OkF P w K mg base CX0 1 "is_one_of" ["x", "names"] (spOne K)) (O_has_twins : OkF P w K mg base CX0 1 "has_twins" ["items"] (spTw K)) : OkF P w K mg base CX0 2 "is_choice" ["ways", "names"] (spChoice K) := by
  refine okd F (F.ok sc_is_choice (fun vs H Q E h => ?_) fun cdv A outer s H vs Q E hr h => ?_) fun _ _ _ _ _ _ us hl => match us, hl with | [_, _], _ => rfl
  · obtain ⟨t, n, ws, zs, rfl, _⟩ := h
    rfl
  · obtain ⟨t, n, ws, zs, rfl, ht, hn, hsub, hnd, hlen, k⟩ := h
    refine ⟨_, PSs.nox (pss_cons (ps_if (PW.pt (pw_or (pt_not (pt_val (pe_callB (id := "isinstance") call_isi (by rfl) T.z_isinstance (by decide +kernel) (pa_cons (pv 0) (pa_cons (pe_ty (n := "tuple") T.z_tuple (by decide +kernel)) pa_nil))))) (pw_or1 (pt_not (pt_val (pe_callB (id := "all") (cr_all rfl) (by rfl) T.z_all (by decide +kernel) (pa_cons (pe_lc (own := [("way", 2)]) (g := gName 2) (tt := tYes) (by rfl) sc_is_choice.nd (pi_tup (pv 0)) (blkOk_by (N := ["ways", "names", "way"]) (sc := defScope s_is_choice) (by decide +kernel)) (fun _ _ _ _ _ => (pg_name (i := 2) sc_is_choice.nd rfl (Or.inl rfl))) (fun _ _ _ _ _ => pts_nil) (fun _ _ _ _ _ => (c_fn O_is_one_of hr (by decide) T.g_is_one_of pass0 (pa_cons (pv 2) (pa_cons (pv 1) pa_nil))))) pa_nil))))))) (pss_one (ps_ret pe_bl))
  pss_nil)
  (pss_one (ps_ret (pe_not (c_fn O_has_twins hr (by decide) T.g_has_twins pass0 (pa_cons (pv 0) pa_nil)))))), ?_⟩
    refine ⟨_, rfl, .ref t, .ty "tuple", .type "tuple", .type "tuple", true, rfl, .ty _, .base (.tup ht), kit_ty (by decide +kernel), true, rfl, iteF ?_⟩
    refine ⟨_, rfl, t, rfl, ⟨_, SqT.of ht⟩, fun D nD => lc_it walk_tup (fun i H' => Same H H' ∧ H' D = some (.lst ((List.replicate i true).map V.bl))) ⟨same_new nD, upd_same⟩ (fun i H' _ h => SqT.ext (SqT.of ht) h.1) ?_ ?_⟩
    · rintro i x H1 H' hi ⟨sg, hD⟩ ⟨rfl, hx⟩
      rw [List.getElem?_map] at hx
      obtain ⟨y, hy, rfl⟩ : ∃ y, ws[i]? = some y ∧ x = .str y := by
        cases hq : ws[i]? with
        | none => rw [hq] at hx; cases hx
        | some y =>
          rw [hq] at hx
          exact ⟨y, rfl, (Option.some.inj hx).symm⟩
      have hin := hsub y (List.mem_of_getElem? hy)
      refine ⟨rfl, _, rfl, _, rfl, .str y, n, zs, rfl, SqT.ext (SqT.of hn) sg, .inl ⟨y, rfl, ?_⟩⟩
      rw [decide_eq_true hin]
      refine ⟨_, hD, ?_, same_app sg (Same.refl _) nD, by rw [upd_same, take_rep]⟩
      rw [List.length_map, List.length_replicate]
      rw [List.length_map] at hi
      exact Nat.lt_of_lt_of_le hi (Nat.le_trans hlen (by decide))
    · rintro H' ⟨sg, hD⟩
      refine ⟨D, _, rfl, SqL.of hD, ?_⟩
      rw [all_rep]
      refine ⟨true, rfl, iteF ⟨_, rfl, t, ws, rfl, hlen, .inr (SqT.ext (SqT.of ht) sg), fun H2 s2 => ?_⟩⟩
      rw [decide_eq_true hnd]
      exact ⟨_, rfl, k H2 (sg.trans s2)⟩
structure Rw where
  z : Str
  l : Int
  m : Int
  b : Bool
  ns : List Str
deriving DecidableEq
/-- a place, the tuple of its nexts, its row -/
abbrev PgE : Type := Addr × Addr × Rw
def zsOf (xs : List PgE) : List Str := xs.map fun x => x.2.2.z
def PlE (K : PySem.W.Frag) (H : Hp) (x : PgE) : Prop := PlA (CP K) H x.1 x.2.2.z x.2.2.l x.2.2.m x.2.2.b
theorem PlE.ext {K : PySem.W.Frag} {H H' : Hp} {x : PgE} (h : PlE K H x) (s : Same H H') : PlE K H' x := PlA.ext h s
theorem getE {xs : List PgE} {f : PgE → V} {i : Nat} {x : V} (h : (xs.map f)[i]? = some x) : ∃ y, xs[i]? = some y ∧ x = f y := by
  rw [List.getElem?_map] at h
  cases hq : xs[i]? with
  | none => rw [hq] at h; cases h
  | some y =>
    rw [hq] at h
    exact ⟨y, rfl, (Option.some.inj h).symm⟩
theorem sc_are_places : FnScope ["places", "place"] ["places"] (defScope s_are_places) := ⟨rfl, rfl, rfl, by decide +kernel, rfl, by decide +kernel, by decide +kernel⟩
-- slots: 0 places, 1 place
def spArePl (K : PySem.W.Frag) : Sp := fun vs H Q _ => ∃ (L : Addr) (xs : List PgE), vs = [.ref L] ∧ (H L = some (.lst (xs.map fun x => V.ref x.1)) ∨ H L = some (.tup (xs.map fun x => V.ref x.1))) ∧ (∀ x ∈ xs, PlE K H x) ∧ 1 ≤ xs.length ∧ xs.length ≤ 6 ∧ (zsOf xs).Nodup ∧ ∀ H', Same H H' → Q (.bl true) H'
theorem ok_are_places {fd : FuncData} (F : FnD K ("are_places", none) "are_places" "are_places" s_are_places fd) (T : GTxt K mg) (O_has_twins : OkF P w K mg base CX0 1 "has_twins" ["items"] (spTw K)) : OkF P w K mg base CX0 2 "are_places" ["places"] (spArePl K) := by
  refine okd F (F.ok sc_are_places (fun vs H Q E h => ?_) fun cdv A outer s H vs Q E hr h => ?_) fun _ _ _ _ _ _ us hl => match us, hl with | [_], _ => rfl
  · obtain ⟨L, xs, rfl, _⟩ := h
    rfl
  · obtain ⟨L, xs, rfl, hL | hL, hp, l1, l6, hnd, k⟩ := h
    · refine ⟨_, PSs.nox (pss_cons (ps_if (PW.pt (pw_or (pt_not (pt_val (pe_callB (id := "isinstance") call_isiT (by rfl) T.z_isinstance (by decide +kernel) (pa_cons (pv 0) (pa_cons (pe_tup (pa_cons (pe_ty (n := "list") T.z_list (by decide +kernel)) (pa_cons (pe_ty (n := "tuple") T.z_tuple (by decide +kernel)) pa_nil))) pa_nil))))) (pw_or1 (pt_not (pt_chain op_le op_le pe_int (pe_callB (id := "len") call_len_seq (by rfl) T.z_len (by decide +kernel) (pa_cons (pv 0) pa_nil)) (c_gint T.i_MOST_PLACES)))))) (pss_one (ps_ret pe_bl))
  pss_nil)
  (pss_cons (ps_if (pt_not (pt_val (pe_callB (id := "all") (cr_all rfl) (by rfl) T.z_all (by decide +kernel) (pa_cons (pe_lc (own := [("place", 1)]) (g := gName 1) (tt := tYes) (by rfl) sc_are_places.nd (pi_list (pv 0)) (blkOk_by (N := ["places", "place"]) (sc := defScope s_are_places) (by decide +kernel)) (fun _ _ _ _ _ => (pg_name (i := 1) sc_are_places.nd rfl (Or.inl rfl))) (fun _ _ _ _ _ => pts_nil) (fun _ _ _ _ _ => (pe_callB (id := "isinstance") (call_isiB (K := K) rfl) (by rfl) T.z_isinstance (by decide +kernel) (pa_cons (pv 1) (pa_cons (pe_cl T.g_Place) pa_nil))))) pa_nil)))) (pss_one (ps_ret pe_bl))
  pss_nil)
  (pss_one (ps_ret (pe_not (c_fn O_has_twins hr (by decide) T.g_has_twins pass0 (pa_cons (pe_lc (own := [("place", 1)]) (g := gName 1) (tt := tYes) (by rfl) sc_are_places.nd (pi_list (pv 0)) (blkOk_by (N := ["places", "place"]) (sc := defScope s_are_places) (by decide +kernel)) (fun _ _ _ _ _ => (pg_name (i := 1) sc_are_places.nd rfl (Or.inl rfl))) (fun _ _ _ _ _ => pts_nil) (fun _ _ _ _ _ => (pe_fldK (K := K) rfl (pv 1) rfl))) pa_nil))))))), ?_⟩
      refine ⟨_, rfl, (by show 2 ≤ sizeLine; decide), fun tp ntp => ⟨.ref L, tp, [.ty "list", .ty "tuple"], .type "list", [.type "list", .type "tuple"], true, rfl, upd_same, .cons (.ty _) (.cons (.ty _) .nil), .base (.lst (same_new ntp _ _ hL)), kitAny_cons (b := true) (kit_ty (by decide +kernel)) (fun z => nomatch z) (fun _ => rfl), true, rfl, iteF ?_⟩⟩
      have s1 := same_new (o := .tup [.ty "list", .ty "tuple"]) ntp
      have hL1 := s1 _ _ hL
      generalize upd H tp (.tup [.ty "list", .ty "tuple"]) = H1 at s1 hL1 ⊢
      clear ntp
      refine ⟨_, rfl, L, _, rfl, .inl (SqL.of hL1), 1, _, rfl, rfl, true, congrArg V.bl (decide_eq_true (by rw [List.length_map]; omega)), iteT ⟨_, 6, rfl, rfl, true, congrArg V.bl (decide_eq_true (by rw [List.length_map]; omega)), iteF ?_⟩⟩
      refine ⟨_, rfl, L, rfl, ⟨_, SqL.of hL1⟩, fun D nD => lc_it walk_list (fun i H' => Same H1 H' ∧ H' D = some (.lst ((List.replicate i true).map V.bl))) ⟨same_new nD, upd_same⟩ (fun i H' _ h => h.1.seq (SqL.of hL1)) ?_ ?_⟩
      · rintro i x H2 H' hi ⟨sg, hD⟩ ⟨rfl, hx⟩
        obtain ⟨y, hy, rfl⟩ := getE hx
        obtain ⟨dy, ey⟩ := (hp y (List.mem_of_getElem? hy)).ext (s1.trans sg)
        refine ⟨rfl, _, rfl, .ref y.1, .ref (CP K), .ref (CP K), .ref (CP K), true, rfl, .own _, .base (.ins ey T.c_Place T.ha T.hn T.ht T.hm), T.k1, ?_⟩
        refine ⟨_, hD, ?_, same_app sg (Same.refl _) nD, by rw [upd_same, take_rep]⟩
        rw [List.length_map, List.length_replicate]
        rw [List.length_map] at hi
        exact Nat.lt_of_lt_of_le hi (Nat.le_trans l6 (by decide))
      · rintro H2 ⟨sg, hD⟩
        refine ⟨D, _, rfl, SqL.of hD, ?_⟩
        rw [all_rep]
        refine ⟨true, rfl, iteF ?_⟩
        have hL2 := sg _ _ hL1
        refine ⟨_, rfl, L, rfl, ⟨_, SqL.of hL2⟩, fun D2 nD2 => lc_it walk_list (fun i H' => Same H2 H' ∧ H' D2 = some (.lst (((zsOf xs).take i).map V.str))) ⟨same_new nD2, upd_same⟩ (fun i H' _ h => h.1.seq (SqL.of hL2)) ?_ ?_⟩
        · rintro i x H3 H' hi ⟨sg3, hD3⟩ ⟨rfl, hx⟩
          obtain ⟨y, hy, rfl⟩ := getE hx
          obtain ⟨dy, ey⟩ := (hp y (List.mem_of_getElem? hy)).ext (s1.trans (sg.trans sg3))
          refine ⟨rfl, _, rfl, y.1, _, dy, _, _, rfl, ey, T.c_Place, T.nN, plf_name .., ?_⟩
          refine ⟨_, hD3, ?_, same_app sg3 (Same.refl _) nD2, ?_⟩
          · rw [List.length_map, List.length_take]
            rw [List.length_map] at hi
            exact Nat.lt_of_le_of_lt (Nat.min_le_left _ _) (Nat.lt_of_lt_of_le hi (Nat.le_trans l6 (by decide)))
          · rw [upd_same, List.take_add_one, List.map_append]
            have : (zsOf xs)[i]? = some y.2.2.z := by
              unfold zsOf
              rw [List.getElem?_map, hy]
              rfl
            rw [this]
            rfl
        · rintro H3 ⟨sg3, hD3⟩
          have hlz : (zsOf xs).length = xs.length := List.length_map ..
          rw [List.length_map, ← hlz, List.take_length] at hD3
          refine ⟨D2, zsOf xs, rfl, by omega, .inl (SqL.of hD3), fun H4 s4 => ?_⟩
          rw [decide_eq_true hnd]
          exact ⟨_, rfl, k H4 (s1.trans (sg.trans (sg3.trans s4)))⟩
    · refine ⟨_, PSs.nox (pss_cons (ps_if (PW.pt (pw_or (pt_not (pt_val (pe_callB (id := "isinstance") call_isiT (by rfl) T.z_isinstance (by decide +kernel) (pa_cons (pv 0) (pa_cons (pe_tup (pa_cons (pe_ty (n := "list") T.z_list (by decide +kernel)) (pa_cons (pe_ty (n := "tuple") T.z_tuple (by decide +kernel)) pa_nil))) pa_nil))))) (pw_or1 (pt_not (pt_chain op_le op_le pe_int (pe_callB (id := "len") call_len_seq (by rfl) T.z_len (by decide +kernel) (pa_cons (pv 0) pa_nil)) (c_gint T.i_MOST_PLACES)))))) (pss_one (ps_ret pe_bl))
  pss_nil)
  (pss_cons (ps_if (pt_not (pt_val (pe_callB (id := "all") (cr_all rfl) (by rfl) T.z_all (by decide +kernel) (pa_cons (pe_lc (own := [("place", 1)]) (g := gName 1) (tt := tYes) (by rfl) sc_are_places.nd (pi_tup (pv 0)) (blkOk_by (N := ["places", "place"]) (sc := defScope s_are_places) (by decide +kernel)) (fun _ _ _ _ _ => (pg_name (i := 1) sc_are_places.nd rfl (Or.inl rfl))) (fun _ _ _ _ _ => pts_nil) (fun _ _ _ _ _ => (pe_callB (id := "isinstance") (call_isiB (K := K) rfl) (by rfl) T.z_isinstance (by decide +kernel) (pa_cons (pv 1) (pa_cons (pe_cl T.g_Place) pa_nil))))) pa_nil)))) (pss_one (ps_ret pe_bl))
  pss_nil)
  (pss_one (ps_ret (pe_not (c_fn O_has_twins hr (by decide) T.g_has_twins pass0 (pa_cons (pe_lc (own := [("place", 1)]) (g := gName 1) (tt := tYes) (by rfl) sc_are_places.nd (pi_tup (pv 0)) (blkOk_by (N := ["places", "place"]) (sc := defScope s_are_places) (by decide +kernel)) (fun _ _ _ _ _ => (pg_name (i := 1) sc_are_places.nd rfl (Or.inl rfl))) (fun _ _ _ _ _ => pts_nil) (fun _ _ _ _ _ => (pe_fldK (K := K) rfl (pv 1) rfl))) pa_nil))))))), ?_⟩
      refine ⟨_, rfl, (by show 2 ≤ sizeLine; decide), fun tp ntp => ⟨.ref L, tp, [.ty "list", .ty "tuple"], .type "tuple", [.type "list", .type "tuple"], true, rfl, upd_same, .cons (.ty _) (.cons (.ty _) .nil), .base (.tup (same_new ntp _ _ hL)), kitAny_cons (b := false) (kit_ty (by decide +kernel)) (fun _ => kitAny_cons (b := true) (kit_ty (by decide +kernel)) (fun z => nomatch z) (fun _ => rfl)) (fun z => nomatch z), true, rfl, iteF ?_⟩⟩
      have s1 := same_new (o := .tup [.ty "list", .ty "tuple"]) ntp
      have hL1 := s1 _ _ hL
      generalize upd H tp (.tup [.ty "list", .ty "tuple"]) = H1 at s1 hL1 ⊢
      clear ntp
      refine ⟨_, rfl, L, _, rfl, .inr (SqT.of hL1), 1, _, rfl, rfl, true, congrArg V.bl (decide_eq_true (by rw [List.length_map]; omega)), iteT ⟨_, 6, rfl, rfl, true, congrArg V.bl (decide_eq_true (by rw [List.length_map]; omega)), iteF ?_⟩⟩
      refine ⟨_, rfl, L, rfl, ⟨_, SqT.of hL1⟩, fun D nD => lc_it walk_tup (fun i H' => Same H1 H' ∧ H' D = some (.lst ((List.replicate i true).map V.bl))) ⟨same_new nD, upd_same⟩ (fun i H' _ h => SqT.ext (SqT.of hL1) h.1) ?_ ?_⟩
      · rintro i x H2 H' hi ⟨sg, hD⟩ ⟨rfl, hx⟩
        obtain ⟨y, hy, rfl⟩ := getE hx
        obtain ⟨dy, ey⟩ := (hp y (List.mem_of_getElem? hy)).ext (s1.trans sg)
        refine ⟨rfl, _, rfl, .ref y.1, .ref (CP K), .ref (CP K), .ref (CP K), true, rfl, .own _, .base (.ins ey T.c_Place T.ha T.hn T.ht T.hm), T.k1, ?_⟩
        refine ⟨_, hD, ?_, same_app sg (Same.refl _) nD, by rw [upd_same, take_rep]⟩
        rw [List.length_map, List.length_replicate]
        rw [List.length_map] at hi
        exact Nat.lt_of_lt_of_le hi (Nat.le_trans l6 (by decide))
      · rintro H2 ⟨sg, hD⟩
        refine ⟨D, _, rfl, SqL.of hD, ?_⟩
        rw [all_rep]
        refine ⟨true, rfl, iteF ?_⟩
        have hL2 := sg _ _ hL1
        refine ⟨_, rfl, L, rfl, ⟨_, SqT.of hL2⟩, fun D2 nD2 => lc_it walk_tup (fun i H' => Same H2 H' ∧ H' D2 = some (.lst (((zsOf xs).take i).map V.str))) ⟨same_new nD2, upd_same⟩ (fun i H' _ h => SqT.ext (SqT.of hL2) h.1) ?_ ?_⟩
        · rintro i x H3 H' hi ⟨sg3, hD3⟩ ⟨rfl, hx⟩
          obtain ⟨y, hy, rfl⟩ := getE hx
          obtain ⟨dy, ey⟩ := (hp y (List.mem_of_getElem? hy)).ext (s1.trans (sg.trans sg3))
          refine ⟨rfl, _, rfl, y.1, _, dy, _, _, rfl, ey, T.c_Place, T.nN, plf_name .., ?_⟩
          refine ⟨_, hD3, ?_, same_app sg3 (Same.refl _) nD2, ?_⟩
          · rw [List.length_map, List.length_take]
            rw [List.length_map] at hi
            exact Nat.lt_of_le_of_lt (Nat.min_le_left _ _) (Nat.lt_of_lt_of_le hi (Nat.le_trans l6 (by decide)))
          · rw [upd_same, List.take_add_one, List.map_append]
            have : (zsOf xs)[i]? = some y.2.2.z := by
              unfold zsOf
              rw [List.getElem?_map, hy]
              rfl
            rw [this]
            rfl
        · rintro H3 ⟨sg3, hD3⟩
          have hlz : (zsOf xs).length = xs.length := List.length_map ..
          rw [List.length_map, ← hlz, List.take_length] at hD3
          refine ⟨D2, zsOf xs, rfl, by omega, .inl (SqL.of hD3), fun H4 s4 => ?_⟩
          rw [decide_eq_true hnd]
          exact ⟨_, rfl, k H4 (s1.trans (sg.trans (sg3.trans s4)))⟩
end
end K16

set_option Elab.async false
set_option linter.all false
set_option pp.deepTerms.threshold 14
set_option pp.maxSteps 2500
set_option maxRecDepth 100000
set_option maxHeartbeats 2000000
namespace K16
open PySem PySem.Spec PyProof.Rows L2 Vf 
section
variable {P : Program} {w : World} {K : PySem.W.Frag} {mg : Str → Option Value} {base : Heap}
theorem dget_of {H : Hp} {N : Addr} {kvs : List (Key × V)} {z : Str} {o : Option V} (hN : H N = some (.dK kvs)) (hv : valV kvs (Sum.inr z) = o) : DGet H N (.str z) o := hv ▸ DGet.k (k := Sum.inr z) hN
/-- the dict at N: for each row the tuple of its nexts -/
def NxA (H : Hp) (N : Addr) (xs : List PgE) : Prop := ∃ kvs, H N = some (.dK kvs) ∧ kvs.length = xs.length ∧ ∀ x ∈ xs, valV kvs (Sum.inr x.2.2.z) = some (.ref x.2.1)
theorem NxA.ext {H H' : Hp} {N : Addr} {xs : List PgE} (h : NxA H N xs) (s : Same H H') : NxA H' N xs := by
  obtain ⟨kvs, h1, h2, h3⟩ := h
  exact ⟨kvs, s _ _ h1, h2, h3⟩
/-- the tuple of a row's nexts -/
def NsE (H : Hp) (zs : List Str) (x : PgE) : Prop := H x.2.1 = some (.tup (x.2.2.ns.map V.str)) ∧ (∀ y ∈ x.2.2.ns, y ∈ zs) ∧ x.2.2.ns.Nodup ∧ x.2.2.ns.length ≤ 1000
theorem NsE.ext {H H' : Hp} {zs : List Str} {x : PgE} (h : NsE H zs x) (s : Same H H') : NsE H' zs x := ⟨s _ _ h.1, h.2⟩
theorem zsAt {xs : List PgE} {i : Nat} {v : V} (h : ((zsOf xs).map V.str)[i]? = some v) : ∃ x, xs[i]? = some x ∧ v = .str x.2.2.z := by
  rw [zsOf, List.map_map] at h
  exact getE h
theorem sc_are_nexts : FnScope ["nexts", "names", "name"] ["nexts", "names"] (defScope s_are_nexts) := ⟨rfl, rfl, rfl, by decide +kernel, rfl, by decide +kernel, by decide +kernel⟩
-- slots: 0 nexts, 1 names, 2 name
def spAreNx (K : PySem.W.Frag) : Sp := fun vs H Q _ => ∃ (N n : Addr) (xs : List PgE), vs = [.ref N, .ref n] ∧ NxA H N xs ∧ H n = some (.tup ((zsOf xs).map V.str)) ∧ (∀ x ∈ xs, NsE H (zsOf xs) x) ∧ xs.length ≤ 6 ∧ ∀ H', Same H H' → Q (.bl true) H'
theorem ok_are_nexts {fd : FuncData} (F : FnD K ("are_nexts", none) "are_nexts" "are_nexts" s_are_nexts fd) (T : GTxt K mg) (O_is_choice : OkF P w K mg base CX0 2 "is_choice" ["ways", "names"] (spChoice K)) : OkF P w K mg base CX0 3 "are_nexts" ["nexts", "names"] (spAreNx K) := by
  refine okd F (F.ok sc_are_nexts (fun vs H Q E h => ?_) fun cdv A outer s H vs Q E hr h => ?_) fun _ _ _ _ _ _ us hl => match us, hl with | [_, _], _ => rfl
  · obtain ⟨N, n, xs, rfl, _⟩ := h
    rfl
  · obtain ⟨N, n, xs, rfl, ⟨kvs, hN, hlen, hv⟩, hn, hns, l6, k⟩ := h
    refine ⟨_, PSs.nox (pss_cons (ps_if (PW.pt (pw_or (pt_not (pt_val (pe_callB (id := "isinstance") call_isi (by rfl) T.z_isinstance (by decide +kernel) (pa_cons (pv 0) (pa_cons (pe_ty (n := "dict") T.z_dict (by decide +kernel)) pa_nil))))) (pw_or1 (pt_cmpR op_ne (pe_callB call_lenD (by rfl) T.z_len (by decide +kernel) (pa_cons (pv 0) pa_nil)) (pe_callB (id := "len") call_len_seq (by rfl) T.z_len (by decide +kernel) (pa_cons (pv 1) pa_nil)) (nomark _))))) (pss_one (ps_ret pe_bl))
  pss_nil)
  (pss_one (ps_ret (pe_callB (id := "all") (cr_all rfl) (by rfl) T.z_all (by decide +kernel) (pa_cons (pe_lc (own := [("name", 2)]) (g := gName 2) (tt := tYes) (by rfl) sc_are_nexts.nd (pi_tup (pv 1)) (blkOk_by (N := ["nexts", "names", "name"]) (sc := defScope s_are_nexts) (by decide +kernel)) (fun _ _ _ _ _ => (pg_name (i := 2) sc_are_nexts.nd rfl (Or.inl rfl))) (fun _ _ _ _ _ => pts_nil) (fun _ _ _ _ _ => (pe_and (pe_cmp (pc_din (hu_of hr) (pv 2) (pv 0)) rfl) (pe_one (c_fn O_is_choice hr (by decide) T.g_is_choice pass0 (pa_cons (pe_dget (hu_of hr) (pv 0) (pv 2) (fun _ _ => rfl)) (pa_cons (pv 1) pa_nil))))))) pa_nil))))), ?_⟩
    have hlz : (zsOf xs).length = xs.length := List.length_map ..
    refine ⟨_, rfl, .ref N, .ty "dict", .type "dict", .type "dict", true, rfl, .ty _, .base (.dK hN), kit_ty (by decide +kernel), true, rfl, iteF ?_⟩
    refine ⟨_, rfl, N, kvs, rfl, hN, _, rfl, n, _, rfl, .inr (SqT.of hn), rfl, false, ?_, iteF ?_⟩
    · rw [List.length_map, hlz, hlen, decide_eq_true rfl]
      rfl
    refine ⟨_, rfl, n, rfl, ⟨_, SqT.of hn⟩, fun D nD => lc_it walk_tup (fun i H' => Same H H' ∧ H' D = some (.lst ((List.replicate i true).map V.bl))) ⟨same_new nD, upd_same⟩ (fun i H' _ h => SqT.ext (SqT.of hn) h.1) ?_ ?_⟩
    · rintro i x H1 H' hi ⟨sg, hD⟩ ⟨rfl, hx⟩
      obtain ⟨y, hy, rfl⟩ := zsAt hx
      have hm := List.mem_of_getElem? hy
      obtain ⟨e1, e2, e3, e4⟩ := (hns y hm).ext sg
      refine ⟨rfl, _, rfl, _, rfl, N, _, rfl, dget_of (sg _ _ hN) (hv y hm), true, rfl, iteT ?_⟩
      refine ⟨_, rfl, _, rfl, N, _, rfl, dget_of (sg _ _ hN) (hv y hm), _, rfl, y.2.1, n, y.2.2.ns, zsOf xs, rfl, e1, sg _ _ hn, e2, e3, e4, fun H2 s2 => ?_⟩
      refine ⟨_, s2 _ _ hD, ?_, same_app sg s2 nD, by rw [upd_same, take_rep]⟩
      rw [List.length_map, List.length_replicate]
      rw [List.length_map, hlz] at hi
      exact Nat.lt_of_lt_of_le hi (Nat.le_trans l6 (by decide))
    · rintro H2 ⟨sg, hD⟩
      refine ⟨D, _, rfl, SqL.of hD, ?_⟩
      rw [all_rep]
      exact k H2 sg
/-! ### a program's fields -/
def pgf (tn : Addr) (st : Str) (dP dN : Addr) : List (Str × V) := putF "_nexts" (.ref dN) (putF "_places" (.ref dP) (putF "start" (.str st) (putF "names" (.ref tn) [])))
section
variable (tn : Addr) (st : Str) (dP dN : Addr)
theorem pgf_names : (pgf tn st dP dN).lookup ("names" : Str) = some (.ref tn) := by
  unfold pgf
  rw [lookup_putF, if_neg (by decide +kernel), lookup_putF, if_neg (by decide +kernel), lookup_putF, if_neg (by decide +kernel), lookup_putF, if_pos rfl]
theorem pgf_start : (pgf tn st dP dN).lookup ("start" : Str) = some (.str st) := by
  unfold pgf
  rw [lookup_putF, if_neg (by decide +kernel), lookup_putF, if_neg (by decide +kernel), lookup_putF, if_pos rfl]
theorem pgf_places : (pgf tn st dP dN).lookup ("_places" : Str) = some (.ref dP) := by
  unfold pgf
  rw [lookup_putF, if_neg (by decide +kernel), lookup_putF, if_pos rfl]
theorem pgf_nexts : (pgf tn st dP dN).lookup ("_nexts" : Str) = some (.ref dN) := by
  unfold pgf
  rw [lookup_putF, if_pos rfl]
end
def kvP (xs : List PgE) : List (Key × V) := xs.map fun x => (Sum.inr x.2.2.z, V.ref x.1)
def kvN (xs : List PgE) : List (Key × V) := xs.map fun x => (Sum.inr x.2.2.z, V.ref x.2.1)
/-- at g a program of the rows xs with the start st -/
structure PgA (K : PySem.W.Frag) (H : Hp) (g : Addr) (xs : List PgE) (st : Str) (dx tn dP dN : Addr) : Prop where
  hg : H g = some (.ins (CG K) dx (pgf tn st dP dN))
  hn : H tn = some (.tup ((zsOf xs).map V.str))
  hP : H dP = some (.dK (kvP xs))
  hN : H dN = some (.dK (kvN xs))
  pl : ∀ x ∈ xs, PlE K H x
  ns : ∀ x ∈ xs, NsE H (zsOf xs) x
  nd : (zsOf xs).Nodup
  l1 : 1 ≤ xs.length
  l6 : xs.length ≤ 6
  nm : ∀ z ∈ zsOf xs, nmB z = true
theorem PgA.ext {K : PySem.W.Frag} {H H' : Hp} {g : Addr} {xs : List PgE} {st : Str} {dx tn dP dN : Addr} (h : PgA K H g xs st dx tn dP dN) (s : Same H H') : PgA K H' g xs st dx tn dP dN :=
  ⟨s _ _ h.hg, s _ _ h.hn, s _ _ h.hP, s _ _ h.hN, fun x hx => (h.pl x hx).ext s, fun x hx => (h.ns x hx).ext s, h.nd, h.l1, h.l6, h.nm⟩
/-- all but what stands at d is as it was -/
def SameX (d : Addr) (H H' : Hp) : Prop := ∀ b o, b ≠ d → H b = some o → H' b = some o
theorem SameX.trans {d : Addr} {H H1 H2 : Hp} (a : SameX d H H1) (b : SameX d H1 H2) : SameX d H H2 := fun c o n h => b c o n (a c o n h)
theorem same_x {d : Addr} {H H' : Hp} (s : Same H H') : SameX d H H' := fun b o _ h => s b o h
theorem SameX.upd {d : Addr} {H : Hp} {o : HO} : SameX d H (upd H d o) := fun b u n h => by rw [upd_ne n]; exact h
/-- keys apart: what a row's name finds -/
theorem val_row {f : PgE → V} : ∀ {xs : List PgE} {i : Nat} {x : PgE}, (zsOf xs).Nodup → xs[i]? = some x → valV (xs.map fun y => ((Sum.inr y.2.2.z : Key), f y)) (Sum.inr x.2.2.z) = some (f x)
  | y :: ys, 0, x, nd, h => by
    cases h
    exact valV_pos rfl
  | y :: ys, i + 1, x, nd, h => by
    have h' : ys[i]? = some x := h
    have nd' : (y.2.2.z :: zsOf ys).Nodup := nd
    rw [List.nodup_cons] at nd'
    rw [List.map_cons, valV_neg fun z => nd'.1 ?_]
    · exact val_row nd'.2 h'
    · have : y.2.2.z = x.2.2.z := Sum.inr.inj z
      rw [this]
      exact List.mem_map_of_mem (List.mem_of_getElem? h')
theorem val_miss {f : PgE → V} {z : Str} : ∀ {xs : List PgE}, z ∉ zsOf xs → valV (xs.map fun y => ((Sum.inr y.2.2.z : Key), f y)) (Sum.inr z) = none
  | [], _ => rfl
  | y :: ys, h => by
    have h1 : ¬ y.2.2.z = z := fun e => h (e ▸ List.mem_cons_self ..)
    rw [List.map_cons, valV_neg (fun e => h1 (Sum.inr.inj e))]
    exact val_miss fun hm => h (List.mem_cons_of_mem _ hm)
theorem put_row {f : PgE → V} {xs : List PgE} {i : Nat} {x : PgE} (nd : (zsOf xs).Nodup) (h : xs[i]? = some x) : putK ((xs.take i).map fun y => ((Sum.inr y.2.2.z : Key), f y)) (Sum.inr x.2.2.z) (f x) = (xs.take (i + 1)).map fun y => ((Sum.inr y.2.2.z : Key), f y) := by
  have hn : x.2.2.z ∉ zsOf (xs.take i) := fun hm => by
    have h1 : (zsOf (xs.take (i + 1))).Nodup := by
      have : zsOf (xs.take (i + 1)) = (zsOf xs).take (i + 1) := List.map_take ..
      rw [this]
      exact nd.sublist (List.take_sublist _ _)
    rw [List.take_add_one, h] at h1
    have h2 : (zsOf (xs.take i) ++ [x.2.2.z]).Nodup := by simpa [zsOf] using h1
    exact (List.nodup_append.mp h2).2.2 _ hm _ (by simp) rfl
  rw [putK_new _ (val_miss hn), List.take_add_one, h, List.map_append]
  rfl
end
end K16

set_option Elab.async false
set_option linter.all false
set_option pp.deepTerms.threshold 14
set_option pp.maxSteps 2500
set_option maxRecDepth 100000
set_option maxHeartbeats 2000000
namespace K16
open PySem PySem.Spec PyProof.Rows L2 Vf 
section
variable {P : Program} {w : World} {K : PySem.W.Frag} {mg : Str → Option Value} {base : Heap}
theorem sc_BadProgram_init : FnScope ["self", "why"] ["self", "why"] (defScope s_BadProgram_init) := ⟨rfl, rfl, rfl, by decide +kernel, rfl, by decide +kernel, by decide +kernel⟩
-- slots: 0 self, 1 why
theorem ok_BadProgram_init {fd : FuncData} (F : FnD K ("BadProgram", some "__init__") "__init__" "BadProgram.__init__" s_BadProgram_init fd) : OkD P w K mg base CX0 1 ("BadProgram", some "__init__") ["self", "why"] [] (spExI K (CBG K) "why") := by
  refine okd F (F.ok sc_BadProgram_init (fun vs H Q E h => ?_) fun cdv A outer s H vs Q E hr h => ⟨tOst K "why" (tVar 0) (tVar 1), PSs.nox ?_, run_exI h⟩) fun _ _ _ _ _ _ us hl => match us, hl with | [_, _], _ => rfl
  · obtain ⟨a, v, rfl, _⟩ := h
    rfl
  · exact pss_one (ps_ost (pv 0) (pv 1))
theorem pl_ne {K : PySem.W.Frag} {H : Hp} {x : PgE} {g dx : Addr} (h : PlE K H x) (hg : H g = some (.ins (CG K) dx [])) : x.1 ≠ g := by
  obtain ⟨dy, e⟩ := h
  refine ne_of e hg fun z => ?_
  injection z with _ _ z
  have := plf_name x.2.2.z x.2.2.l x.2.2.m x.2.2.b
  rw [z] at this
  cases this
/-- the parts of a right program -/
structure PartsOk (K : PySem.W.Frag) (H : Hp) (o : List V → HO) (L N : Addr) (xs : List PgE) : Prop where
  hL : H L = some (o (xs.map fun x => V.ref x.1))
  pl : ∀ x ∈ xs, PlE K H x
  nx : NxA H N xs
  ns : ∀ x ∈ xs, NsE H (zsOf xs) x
  nd : (zsOf xs).Nodup
  l1 : 1 ≤ xs.length
  l6 : xs.length ≤ 6
  nm : ∀ z ∈ zsOf xs, nmB z = true
  ho : o = HO.lst ∨ o = HO.tup
theorem PartsOk.ext {K : PySem.W.Frag} {H H' : Hp} {o : List V → HO} {L N : Addr} {xs : List PgE} (h : PartsOk K H o L N xs) (s : Same H H') : PartsOk K H' o L N xs := ⟨s _ _ h.hL, fun x hx => (h.pl x hx).ext s, h.nx.ext s, fun x hx => (h.ns x hx).ext s, h.nd, h.l1, h.l6, h.nm, h.ho⟩
theorem PartsOk.extX {K : PySem.W.Frag} {H H' : Hp} {o : List V → HO} {L N g dx : Addr} {xs : List PgE} (h : PartsOk K H o L N xs) (hg : H g = some (.ins (CG K) dx [])) (s : SameX g H H') : PartsOk K H' o L N xs := by
  refine ⟨s _ _ (ne_of h.hL hg (by intro z; rcases h.ho with e | e <;> (rw [e] at z; cases z))) h.hL, fun x hx => ?_, ?_, fun x hx => ?_, h.nd, h.l1, h.l6, h.nm, h.ho⟩
  · have n := pl_ne (h.pl x hx) hg
    obtain ⟨dy, e⟩ := h.pl x hx
    exact ⟨dy, s _ _ n e⟩
  · obtain ⟨kvs, h1, h2, h3⟩ := h.nx
    exact ⟨kvs, s _ _ (ne_of h1 hg (by intro z; cases z)) h1, h2, h3⟩
  · obtain ⟨h1, h2⟩ := h.ns x hx
    exact ⟨s _ _ (ne_of h1 hg (by intro z; cases z)) h1, h2⟩
def spPgI (K : PySem.W.Frag) : Sp := fun vs H Q _ => ∃ (g dx L N : Addr) (o : List V → HO) (xs : List PgE) (st : V) (s : Str), vs = [.ref g, .ref L, .ref N, st] ∧ H g = some (.ins (CG K) dx []) ∧ PartsOk K H o L N xs ∧ s ∈ zsOf xs ∧ (st = .str s ∨ (st = .non ∧ (zsOf xs)[0]? = some s)) ∧
  ∀ H' dx tn dP dN, SameX g H H' → PgA K H' g xs s dx tn dP dN → H dP = none → H dN = none → Q .non H'
theorem same_xg {d : Addr} {H H1 H2 : Hp} (a : SameX d H H1) (b : Same H1 H2) : SameX d H H2 := a.trans (same_x b)
theorem sc_Program_init : FnScope ["self", "places", "nexts", "start", "names", "place", "name"] ["self", "places", "nexts", "start"] (defScope s_Program_init) := ⟨rfl, rfl, rfl, by decide +kernel, rfl, by decide +kernel, by decide +kernel⟩
-- slots: 0 self, 1 places, 2 nexts, 3 start, 4 names, 5 place, 6 name
theorem ok_Program_init {fd : FuncData} (F : FunD K "__init__" "Program.__init__" (defArgs s_Program_init) (defBody s_Program_init) (defScope s_Program_init) [] [("start", .non)] (He.fAd K ("Program", some "__init__")) fd) (T : GTxt K mg)
    (O_are_places : OkF P w K mg base CX0 2 "are_places" ["places"] (spArePl K)) (O_are_nexts : OkF P w K mg base CX0 3 "are_nexts" ["nexts", "names"] (spAreNx K)) (O_is_one_of : OkF P w K mg base CX0 1 "is_one_of" ["x", "names"] (spOne K))
    (O_BadProgram_init : OkD P w K mg base CX0 1 ("BadProgram", some "__init__") ["self", "why"] [] (spExI K (CBG K) "why")) :
    FnOk P w K mg base (L2.CX P w) 5 (He.fAd K ("Program", some "__init__")) fd ["self", "places", "nexts", "start"] (spPgI K) := by
  refine F.ok sc_Program_init (fun vs H Q E h => ?_) fun cdv A outer s H vs Q E hr h => ?_
  · obtain ⟨g, dx, L, N, o, xs, st, s, rfl, _⟩ := h
    rfl
  · obtain ⟨g, dx, L, N, o, xs, st, z, rfl, hg, hp, hz, hst, k⟩ := h
    have hpo := hp.ho
    rcases hpo with rfl | rfl
    · refine ⟨_, (pss_cons (ps_if (pt_not (pt_val (c_fn O_are_places hr (by decide) T.g_are_places pass0 (pa_cons (pv 1) pa_nil)))) (pss_one (c_raise T.x_BadProgram O_BadProgram_init hr (by decide) T.g_BadProgram (takes_of rfl rfl rfl rfl) (pa_cons pe_str pa_nil)))
  pss_nil)
  (pss_cons (ps_set (i := 4) sc_Program_init.nd rfl (Or.inl rfl) (pe_callTy call_tuple_of (by rfl) T.z_tuple (by decide +kernel) (pa_cons (pe_lc (own := [("place", 5)]) (g := gName 5) (tt := tYes) (by rfl) sc_Program_init.nd (pi_list (pv 1)) (blkOk_by (N := ["self", "places", "nexts", "start", "names", "place", "name"]) (sc := defScope s_Program_init) (by decide +kernel)) (fun _ _ _ _ _ => (pg_name (i := 5) sc_Program_init.nd rfl (Or.inl rfl))) (fun _ _ _ _ _ => pts_nil) (fun _ _ _ _ _ => (pe_fldK (K := K) rfl (pv 5) rfl))) pa_nil)))
  (pss_cons (ps_if (pt_not (pt_val (c_fn O_are_nexts hr (by decide) T.g_are_nexts pass0 (pa_cons (pv 2) (pa_cons (pv 4) pa_nil))))) (pss_one (c_raise T.x_BadProgram O_BadProgram_init hr (by decide) T.g_BadProgram (takes_of rfl rfl rfl rfl) (pa_cons pe_str pa_nil)))
  pss_nil)
  (pss_cons (ps_if (PW.pt (pw_and (pt_cmpR op_notN (pv 3) pe_non (nomark _)) (pw_and1 (pt_not (pt_val (c_fn O_is_one_of hr (by decide) T.g_is_one_of pass0 (pa_cons (pv 3) (pa_cons (pv 4) pa_nil)))))))) (pss_one (c_raise T.x_BadProgram O_BadProgram_init hr (by decide) T.g_BadProgram (takes_of rfl rfl rfl rfl) (pa_cons pe_str pa_nil)))
  pss_nil)
  (pss_cons (ps_fld (pv 0) (pv 4) rfl)
  (pss_cons (ps_fld (pv 0) (pe_ifExp (pt_cmpR op_isN (pv 3) pe_non (nomark _)) (pe_ix ix_tup (pv 4) pe_int (fun _ _ => rfl)) (pv 3)) rfl)
  (pss_cons (ps_fld (pv 0) (pe_dc (own := [("place", 5)]) (g := gName 5) (tt := tYes) (by rfl) sc_Program_init.nd (pi_list (pv 1)) (blkOk_by (N := ["self", "places", "nexts", "start", "names", "place", "name"]) (sc := defScope s_Program_init) (by decide +kernel)) (fun _ _ _ _ _ => (pg_name (i := 5) sc_Program_init.nd rfl (Or.inl rfl))) (fun _ _ _ _ _ => pts_nil) (fun _ _ _ _ _ => (pe_fldK (K := K) rfl (pv 5) rfl)) (fun _ _ _ _ _ => (pv 5))) rfl)
  (pss_one (ps_fld (pv 0) (pe_dc (own := [("name", 6)]) (g := gName 6) (tt := tYes) (by rfl) sc_Program_init.nd (pi_tup (pv 4)) (blkOk_by (N := ["self", "places", "nexts", "start", "names", "place", "name"]) (sc := defScope s_Program_init) (by decide +kernel)) (fun _ _ _ _ _ => (pg_name (i := 6) sc_Program_init.nd rfl (Or.inl rfl))) (fun _ _ _ _ _ => pts_nil) (fun _ _ _ _ _ => (pv 6)) (fun _ _ _ _ _ => (pe_dget (hu_of hr) (pv 2) (pv 6) (fun _ _ => rfl)))) rfl))))))))), ?_⟩
      have hlz : (zsOf xs).length = xs.length := List.length_map ..
      refine ⟨_, rfl, L, xs, rfl, .inl hp.hL, hp.pl, hp.l1, hp.l6, hp.nd, fun H1 s1 => ⟨true, rfl, iteF ?_⟩⟩
      have hp1 := hp.ext s1
      -- the names
      refine ⟨_, rfl, L, rfl, ⟨_, SqL.of hp1.hL⟩, fun D nD => lc_it walk_list (fun i H' => Same H1 H' ∧ H' D = some (.lst (((zsOf xs).take i).map V.str))) ⟨same_new nD, upd_same⟩ (fun i H' _ h => h.1.seq (SqL.of hp1.hL)) ?_ ?_⟩
      · rintro i x H3 H' hi ⟨sg3, hD3⟩ ⟨rfl, hx⟩
        obtain ⟨y, hy, rfl⟩ := getE hx
        obtain ⟨dy, ey⟩ := (hp1.pl y (List.mem_of_getElem? hy)).ext sg3
        refine ⟨rfl, _, rfl, y.1, _, dy, _, _, rfl, ey, T.c_Place, T.nN, plf_name .., ?_⟩
        refine ⟨_, hD3, ?_, same_app sg3 (Same.refl _) nD, ?_⟩
        · rw [List.length_map, List.length_take]
          rw [List.length_map] at hi
          exact Nat.lt_of_le_of_lt (Nat.min_le_left _ _) (Nat.lt_of_lt_of_le hi (Nat.le_trans hp.l6 (by decide)))
        · rw [upd_same, List.take_add_one, List.map_append]
          have : (zsOf xs)[i]? = some y.2.2.z := by
            unfold zsOf
            rw [List.getElem?_map, hy]
            rfl
          rw [this]
          rfl
      rintro H2 ⟨s12, hD⟩
      rw [List.length_map, ← hlz, List.take_length] at hD
      refine ⟨D, _, rfl, .inl ⟨SqL.of hD, fun tn ntn => ?_⟩⟩
      have s2t := same_new (o := .tup ((zsOf xs).map V.str)) ntn
      have hn : (upd H2 tn (.tup ((zsOf xs).map V.str))) tn = some (.tup ((zsOf xs).map V.str)) := upd_same
      have s3 := s1.trans (s12.trans s2t)
      generalize upd H2 tn (.tup ((zsOf xs).map V.str)) = H3 at hn s3 ⊢
      clear s2t ntn hD nD s12 hp1 s1
      have hp3 := hp.ext s3
      refine ⟨_, rfl, _, rfl, N, tn, xs, rfl, hp3.nx, hn, hp3.ns, hp.l6, fun H4 s34 => ⟨true, rfl, iteF ?_⟩⟩
      have s4 := s3.trans s34
      have hn4 := s34 _ _ hn
      have hg4 := s4 _ _ hg
      have ngt : tn ≠ g := ne_of hn4 hg4 (by intro z; cases z)
      clear hp3 hn s34 s3 H1 H2 H3
      have none_x : ∀ {H5 : Hp} {D : Addr}, SameX g H H5 → D ≠ g → H5 D = none → H D = none := fun {H5 D} x n e => by
        cases q : H D with
        | none => rfl
        | some o =>
          have := x D o n q
          rw [e] at this
          cases this
      have fin : ∀ H5 : Hp, SameX g H H5 → H5 tn = some (.tup ((zsOf xs).map V.str)) → ∀ dP : Addr, H5 dP = some (.dK (kvP xs)) → ∀ dN : Addr, H5 dN = some (.dK (kvN xs)) → H5 g = some (.ins (CG K) dx (pgf tn z dP dN)) → H dP = none → H dN = none → Q .non H5 := fun H5 x5 h1 dP h2 dN h3 h4 h5 h6 => by
        have hq := hp.extX hg x5
        exact k H5 dx tn dP dN x5 ⟨h4, h1, h2, h3, hq.pl, hq.ns, hq.nd, hq.l1, hq.l6, hq.nm⟩ h5 h6
      rcases hst with rfl | ⟨rfl, h0⟩
      · refine ⟨_, rfl, rfl, true, rfl, iteT ⟨_, rfl, _, rfl, .str z, tn, zsOf xs, rfl, SqT.of hn4, .inl ⟨z, rfl, true, by rw [decide_eq_true hz], iteF ?_⟩⟩⟩
        refine ⟨_, rfl, _, rfl, g, _, dx, [], rfl, hg4, T.c_Program, T.nA, (by show 0 < 1000; decide), ?_⟩
        refine ⟨_, rfl, rfl, false, rfl, iteF ⟨_, rfl, _, rfl, g, _, dx, _, rfl, upd_same, T.c_Program, T.nB, (by show 1 < 1000; decide), ?_⟩⟩
        have x5 : SameX g H (upd (upd H4 g (.ins (CG K) dx (putF "names" (.ref tn) []))) g (.ins (CG K) dx (putF "start" (.str z) (putF "names" (.ref tn) [])))) := (same_x s4).trans (SameX.upd.trans SameX.upd)
        have hg5 : (upd (upd H4 g (.ins (CG K) dx (putF "names" (.ref tn) []))) g (.ins (CG K) dx (putF "start" (.str z) (putF "names" (.ref tn) [])))) g = some (.ins (CG K) dx (putF "start" (.str z) (putF "names" (.ref tn) []))) := upd_same
        have hn5 : (upd (upd H4 g (.ins (CG K) dx (putF "names" (.ref tn) []))) g (.ins (CG K) dx (putF "start" (.str z) (putF "names" (.ref tn) [])))) tn = some (.tup ((zsOf xs).map V.str)) := by rw [upd_ne ngt, upd_ne ngt]; exact hn4
        generalize upd (upd H4 g (.ins (CG K) dx (putF "names" (.ref tn) []))) g (.ins (CG K) dx (putF "start" (.str z) (putF "names" (.ref tn) []))) = H5 at x5 hg5 hn5 ⊢
        clear hn4 hg4 s4 H4
        have hp5 := hp.extX hg x5
        refine ⟨_, rfl, L, rfl, ⟨_, SqL.of hp5.hL⟩, fun D nD => dc_it walk_list (fun i H' => Same H5 H' ∧ H' D = some (.dK ((xs.take i).map fun y => ((Sum.inr y.2.2.z : Key), V.ref y.1)))) ⟨same_new nD, by rw [upd_same]; rfl⟩ (fun i H' _ h => h.1.seq (SqL.of hp5.hL)) ?_ ?_⟩
        · rintro i x H6 H' hi ⟨sg, hD⟩ ⟨rfl, hx⟩
          obtain ⟨y, hy, rfl⟩ := getE hx
          obtain ⟨dy, ey⟩ := (hp5.pl y (List.mem_of_getElem? hy)).ext sg
          refine ⟨rfl, _, rfl, y.1, _, dy, _, _, rfl, ey, T.c_Place, T.nN, plf_name .., _, rfl, _, Sum.inr y.2.2.z, rfl, hD, ?_, same_app sg (Same.refl _) nD, ?_⟩
          · rw [List.length_map, List.length_take]
            rw [List.length_map] at hi
            exact Nat.lt_of_le_of_lt (Nat.min_le_left _ _) (Nat.lt_of_lt_of_le hi (Nat.le_trans hp.l6 (by decide)))
          · rw [upd_same, put_row (f := fun y => V.ref y.1) hp.nd hy]
        rintro H6 ⟨s56, hD⟩
        rw [List.length_map, List.take_length] at hD
        have hg6 := s56 _ _ hg5
        have nDg : D ≠ g := ne_of hD hg6 (by intro z; cases z)
        refine ⟨_, rfl, g, _, dx, _, rfl, hg6, T.c_Program, T.nC, (by show 2 < 1000; decide), ?_⟩
        have x7 : SameX g H (upd H6 g (.ins (CG K) dx (putF "_places" (.ref D) (putF "start" (.str z) (putF "names" (.ref tn) []))))) := (x5.trans (same_x s56)).trans SameX.upd
        have hg7 : (upd H6 g (.ins (CG K) dx (putF "_places" (.ref D) (putF "start" (.str z) (putF "names" (.ref tn) []))))) g = some (.ins (CG K) dx (putF "_places" (.ref D) (putF "start" (.str z) (putF "names" (.ref tn) [])))) := upd_same
        have hn7 : (upd H6 g (.ins (CG K) dx (putF "_places" (.ref D) (putF "start" (.str z) (putF "names" (.ref tn) []))))) tn = some (.tup ((zsOf xs).map V.str)) := by rw [upd_ne ngt]; exact s56 _ _ hn5
        have hD7 : (upd H6 g (.ins (CG K) dx (putF "_places" (.ref D) (putF "start" (.str z) (putF "names" (.ref tn) []))))) D = some (.dK (kvP xs)) := by rw [upd_ne nDg]; exact hD
        generalize upd H6 g (.ins (CG K) dx (putF "_places" (.ref D) (putF "start" (.str z) (putF "names" (.ref tn) [])))) = H7 at x7 hg7 hn7 hD7 ⊢
        have nD0 := none_x x5 nDg nD
        clear hg6 hD s56 nD hp5 hn5 hg5 x5 H6 H5
        have hp7 := hp.extX hg x7
        obtain ⟨kvs, hN, hl, hv⟩ := hp7.nx
        refine ⟨_, rfl, tn, rfl, ⟨_, SqT.of hn7⟩, fun D2 nD2 => dc_it walk_tup (fun i H' => Same H7 H' ∧ H' D2 = some (.dK ((xs.take i).map fun y => ((Sum.inr y.2.2.z : Key), V.ref y.2.1)))) ⟨same_new nD2, by rw [upd_same]; rfl⟩ (fun i H' _ h => SqT.ext (SqT.of hn7) h.1) ?_ ?_⟩
        · rintro i x H8 H' hi ⟨sg, hD2⟩ ⟨rfl, hx⟩
          obtain ⟨y, hy, rfl⟩ := zsAt hx
          refine ⟨rfl, _, rfl, _, rfl, _, rfl, N, _, rfl, dget_of (sg _ _ hN) (hv y (List.mem_of_getElem? hy)), _, Sum.inr y.2.2.z, rfl, hD2, ?_, same_app sg (Same.refl _) nD2, ?_⟩
          · rw [List.length_map, List.length_take]
            rw [List.length_map, hlz] at hi
            exact Nat.lt_of_le_of_lt (Nat.min_le_left _ _) (Nat.lt_of_lt_of_le hi (Nat.le_trans hp.l6 (by decide)))
          · rw [upd_same, put_row (f := fun y => V.ref y.2.1) hp.nd hy]
        rintro H8 ⟨s78, hD2⟩
        rw [List.length_map, hlz, List.take_length] at hD2
        have hg8 := s78 _ _ hg7
        have nDg2 : D2 ≠ g := ne_of hD2 hg8 (by intro z; cases z)
        refine ⟨_, rfl, g, _, dx, _, rfl, hg8, T.c_Program, T.nD, (by show 3 < 1000; decide), ?_⟩
        exact fin _ ((x7.trans (same_x s78)).trans SameX.upd) (by rw [upd_ne ngt]; exact s78 _ _ hn7) D (by rw [upd_ne nDg]; exact s78 _ _ hD7) D2 (by rw [upd_ne nDg2]; exact hD2) upd_same nD0 (none_x x7 nDg2 nD2)
      · refine ⟨_, rfl, rfl, false, rfl, iteF ?_⟩
        refine ⟨_, rfl, _, rfl, g, _, dx, [], rfl, hg4, T.c_Program, T.nA, (by show 0 < 1000; decide), ?_⟩
        have a0 : atI ((zsOf xs).map V.str) 0 = some (.str z) := atI_nat (j := 0) (by rw [List.getElem?_map, h0]; rfl)
        have hn4' : (upd H4 g (.ins (CG K) dx (putF "names" (.ref tn) []))) tn = some (.tup ((zsOf xs).map V.str)) := by rw [upd_ne ngt]; exact hn4
        refine ⟨_, rfl, rfl, true, rfl, iteT ⟨_, rfl, tn, _, 0, .str z, rfl, rfl, SqT.of hn4', a0, _, rfl, g, _, dx, _, rfl, upd_same, T.c_Program, T.nB, (by show 1 < 1000; decide), ?_⟩⟩
        clear hn4' a0
        have x5 : SameX g H (upd (upd H4 g (.ins (CG K) dx (putF "names" (.ref tn) []))) g (.ins (CG K) dx (putF "start" (.str z) (putF "names" (.ref tn) [])))) := (same_x s4).trans (SameX.upd.trans SameX.upd)
        have hg5 : (upd (upd H4 g (.ins (CG K) dx (putF "names" (.ref tn) []))) g (.ins (CG K) dx (putF "start" (.str z) (putF "names" (.ref tn) [])))) g = some (.ins (CG K) dx (putF "start" (.str z) (putF "names" (.ref tn) []))) := upd_same
        have hn5 : (upd (upd H4 g (.ins (CG K) dx (putF "names" (.ref tn) []))) g (.ins (CG K) dx (putF "start" (.str z) (putF "names" (.ref tn) [])))) tn = some (.tup ((zsOf xs).map V.str)) := by rw [upd_ne ngt, upd_ne ngt]; exact hn4
        generalize upd (upd H4 g (.ins (CG K) dx (putF "names" (.ref tn) []))) g (.ins (CG K) dx (putF "start" (.str z) (putF "names" (.ref tn) []))) = H5 at x5 hg5 hn5 ⊢
        clear hn4 hg4 s4 H4
        have hp5 := hp.extX hg x5
        refine ⟨_, rfl, L, rfl, ⟨_, SqL.of hp5.hL⟩, fun D nD => dc_it walk_list (fun i H' => Same H5 H' ∧ H' D = some (.dK ((xs.take i).map fun y => ((Sum.inr y.2.2.z : Key), V.ref y.1)))) ⟨same_new nD, by rw [upd_same]; rfl⟩ (fun i H' _ h => h.1.seq (SqL.of hp5.hL)) ?_ ?_⟩
        · rintro i x H6 H' hi ⟨sg, hD⟩ ⟨rfl, hx⟩
          obtain ⟨y, hy, rfl⟩ := getE hx
          obtain ⟨dy, ey⟩ := (hp5.pl y (List.mem_of_getElem? hy)).ext sg
          refine ⟨rfl, _, rfl, y.1, _, dy, _, _, rfl, ey, T.c_Place, T.nN, plf_name .., _, rfl, _, Sum.inr y.2.2.z, rfl, hD, ?_, same_app sg (Same.refl _) nD, ?_⟩
          · rw [List.length_map, List.length_take]
            rw [List.length_map] at hi
            exact Nat.lt_of_le_of_lt (Nat.min_le_left _ _) (Nat.lt_of_lt_of_le hi (Nat.le_trans hp.l6 (by decide)))
          · rw [upd_same, put_row (f := fun y => V.ref y.1) hp.nd hy]
        rintro H6 ⟨s56, hD⟩
        rw [List.length_map, List.take_length] at hD
        have hg6 := s56 _ _ hg5
        have nDg : D ≠ g := ne_of hD hg6 (by intro z; cases z)
        refine ⟨_, rfl, g, _, dx, _, rfl, hg6, T.c_Program, T.nC, (by show 2 < 1000; decide), ?_⟩
        have x7 : SameX g H (upd H6 g (.ins (CG K) dx (putF "_places" (.ref D) (putF "start" (.str z) (putF "names" (.ref tn) []))))) := (x5.trans (same_x s56)).trans SameX.upd
        have hg7 : (upd H6 g (.ins (CG K) dx (putF "_places" (.ref D) (putF "start" (.str z) (putF "names" (.ref tn) []))))) g = some (.ins (CG K) dx (putF "_places" (.ref D) (putF "start" (.str z) (putF "names" (.ref tn) [])))) := upd_same
        have hn7 : (upd H6 g (.ins (CG K) dx (putF "_places" (.ref D) (putF "start" (.str z) (putF "names" (.ref tn) []))))) tn = some (.tup ((zsOf xs).map V.str)) := by rw [upd_ne ngt]; exact s56 _ _ hn5
        have hD7 : (upd H6 g (.ins (CG K) dx (putF "_places" (.ref D) (putF "start" (.str z) (putF "names" (.ref tn) []))))) D = some (.dK (kvP xs)) := by rw [upd_ne nDg]; exact hD
        generalize upd H6 g (.ins (CG K) dx (putF "_places" (.ref D) (putF "start" (.str z) (putF "names" (.ref tn) [])))) = H7 at x7 hg7 hn7 hD7 ⊢
        have nD0 := none_x x5 nDg nD
        clear hg6 hD s56 nD hp5 hn5 hg5 x5 H6 H5
        have hp7 := hp.extX hg x7
        obtain ⟨kvs, hN, hl, hv⟩ := hp7.nx
        refine ⟨_, rfl, tn, rfl, ⟨_, SqT.of hn7⟩, fun D2 nD2 => dc_it walk_tup (fun i H' => Same H7 H' ∧ H' D2 = some (.dK ((xs.take i).map fun y => ((Sum.inr y.2.2.z : Key), V.ref y.2.1)))) ⟨same_new nD2, by rw [upd_same]; rfl⟩ (fun i H' _ h => SqT.ext (SqT.of hn7) h.1) ?_ ?_⟩
        · rintro i x H8 H' hi ⟨sg, hD2⟩ ⟨rfl, hx⟩
          obtain ⟨y, hy, rfl⟩ := zsAt hx
          refine ⟨rfl, _, rfl, _, rfl, _, rfl, N, _, rfl, dget_of (sg _ _ hN) (hv y (List.mem_of_getElem? hy)), _, Sum.inr y.2.2.z, rfl, hD2, ?_, same_app sg (Same.refl _) nD2, ?_⟩
          · rw [List.length_map, List.length_take]
            rw [List.length_map, hlz] at hi
            exact Nat.lt_of_le_of_lt (Nat.min_le_left _ _) (Nat.lt_of_lt_of_le hi (Nat.le_trans hp.l6 (by decide)))
          · rw [upd_same, put_row (f := fun y => V.ref y.2.1) hp.nd hy]
        rintro H8 ⟨s78, hD2⟩
        rw [List.length_map, hlz, List.take_length] at hD2
        have hg8 := s78 _ _ hg7
        have nDg2 : D2 ≠ g := ne_of hD2 hg8 (by intro z; cases z)
        refine ⟨_, rfl, g, _, dx, _, rfl, hg8, T.c_Program, T.nD, (by show 3 < 1000; decide), ?_⟩
        exact fin _ ((x7.trans (same_x s78)).trans SameX.upd) (by rw [upd_ne ngt]; exact s78 _ _ hn7) D (by rw [upd_ne nDg]; exact s78 _ _ hD7) D2 (by rw [upd_ne nDg2]; exact hD2) upd_same nD0 (none_x x7 nDg2 nD2)
    · refine ⟨_, (pss_cons (ps_if (pt_not (pt_val (c_fn O_are_places hr (by decide) T.g_are_places pass0 (pa_cons (pv 1) pa_nil)))) (pss_one (c_raise T.x_BadProgram O_BadProgram_init hr (by decide) T.g_BadProgram (takes_of rfl rfl rfl rfl) (pa_cons pe_str pa_nil)))
  pss_nil)
  (pss_cons (ps_set (i := 4) sc_Program_init.nd rfl (Or.inl rfl) (pe_callTy call_tuple_of (by rfl) T.z_tuple (by decide +kernel) (pa_cons (pe_lc (own := [("place", 5)]) (g := gName 5) (tt := tYes) (by rfl) sc_Program_init.nd (pi_tup (pv 1)) (blkOk_by (N := ["self", "places", "nexts", "start", "names", "place", "name"]) (sc := defScope s_Program_init) (by decide +kernel)) (fun _ _ _ _ _ => (pg_name (i := 5) sc_Program_init.nd rfl (Or.inl rfl))) (fun _ _ _ _ _ => pts_nil) (fun _ _ _ _ _ => (pe_fldK (K := K) rfl (pv 5) rfl))) pa_nil)))
  (pss_cons (ps_if (pt_not (pt_val (c_fn O_are_nexts hr (by decide) T.g_are_nexts pass0 (pa_cons (pv 2) (pa_cons (pv 4) pa_nil))))) (pss_one (c_raise T.x_BadProgram O_BadProgram_init hr (by decide) T.g_BadProgram (takes_of rfl rfl rfl rfl) (pa_cons pe_str pa_nil)))
  pss_nil)
  (pss_cons (ps_if (PW.pt (pw_and (pt_cmpR op_notN (pv 3) pe_non (nomark _)) (pw_and1 (pt_not (pt_val (c_fn O_is_one_of hr (by decide) T.g_is_one_of pass0 (pa_cons (pv 3) (pa_cons (pv 4) pa_nil)))))))) (pss_one (c_raise T.x_BadProgram O_BadProgram_init hr (by decide) T.g_BadProgram (takes_of rfl rfl rfl rfl) (pa_cons pe_str pa_nil)))
  pss_nil)
  (pss_cons (ps_fld (pv 0) (pv 4) rfl)
  (pss_cons (ps_fld (pv 0) (pe_ifExp (pt_cmpR op_isN (pv 3) pe_non (nomark _)) (pe_ix ix_tup (pv 4) pe_int (fun _ _ => rfl)) (pv 3)) rfl)
  (pss_cons (ps_fld (pv 0) (pe_dc (own := [("place", 5)]) (g := gName 5) (tt := tYes) (by rfl) sc_Program_init.nd (pi_tup (pv 1)) (blkOk_by (N := ["self", "places", "nexts", "start", "names", "place", "name"]) (sc := defScope s_Program_init) (by decide +kernel)) (fun _ _ _ _ _ => (pg_name (i := 5) sc_Program_init.nd rfl (Or.inl rfl))) (fun _ _ _ _ _ => pts_nil) (fun _ _ _ _ _ => (pe_fldK (K := K) rfl (pv 5) rfl)) (fun _ _ _ _ _ => (pv 5))) rfl)
  (pss_one (ps_fld (pv 0) (pe_dc (own := [("name", 6)]) (g := gName 6) (tt := tYes) (by rfl) sc_Program_init.nd (pi_tup (pv 4)) (blkOk_by (N := ["self", "places", "nexts", "start", "names", "place", "name"]) (sc := defScope s_Program_init) (by decide +kernel)) (fun _ _ _ _ _ => (pg_name (i := 6) sc_Program_init.nd rfl (Or.inl rfl))) (fun _ _ _ _ _ => pts_nil) (fun _ _ _ _ _ => (pv 6)) (fun _ _ _ _ _ => (pe_dget (hu_of hr) (pv 2) (pv 6) (fun _ _ => rfl)))) rfl))))))))), ?_⟩
      have hlz : (zsOf xs).length = xs.length := List.length_map ..
      refine ⟨_, rfl, L, xs, rfl, .inr hp.hL, hp.pl, hp.l1, hp.l6, hp.nd, fun H1 s1 => ⟨true, rfl, iteF ?_⟩⟩
      have hp1 := hp.ext s1
      -- the names
      refine ⟨_, rfl, L, rfl, ⟨_, SqT.of hp1.hL⟩, fun D nD => lc_it walk_tup (fun i H' => Same H1 H' ∧ H' D = some (.lst (((zsOf xs).take i).map V.str))) ⟨same_new nD, upd_same⟩ (fun i H' _ h => SqT.ext (SqT.of hp1.hL) h.1) ?_ ?_⟩
      · rintro i x H3 H' hi ⟨sg3, hD3⟩ ⟨rfl, hx⟩
        obtain ⟨y, hy, rfl⟩ := getE hx
        obtain ⟨dy, ey⟩ := (hp1.pl y (List.mem_of_getElem? hy)).ext sg3
        refine ⟨rfl, _, rfl, y.1, _, dy, _, _, rfl, ey, T.c_Place, T.nN, plf_name .., ?_⟩
        refine ⟨_, hD3, ?_, same_app sg3 (Same.refl _) nD, ?_⟩
        · rw [List.length_map, List.length_take]
          rw [List.length_map] at hi
          exact Nat.lt_of_le_of_lt (Nat.min_le_left _ _) (Nat.lt_of_lt_of_le hi (Nat.le_trans hp.l6 (by decide)))
        · rw [upd_same, List.take_add_one, List.map_append]
          have : (zsOf xs)[i]? = some y.2.2.z := by
            unfold zsOf
            rw [List.getElem?_map, hy]
            rfl
          rw [this]
          rfl
      rintro H2 ⟨s12, hD⟩
      rw [List.length_map, ← hlz, List.take_length] at hD
      refine ⟨D, _, rfl, .inl ⟨SqL.of hD, fun tn ntn => ?_⟩⟩
      have s2t := same_new (o := .tup ((zsOf xs).map V.str)) ntn
      have hn : (upd H2 tn (.tup ((zsOf xs).map V.str))) tn = some (.tup ((zsOf xs).map V.str)) := upd_same
      have s3 := s1.trans (s12.trans s2t)
      generalize upd H2 tn (.tup ((zsOf xs).map V.str)) = H3 at hn s3 ⊢
      clear s2t ntn hD nD s12 hp1 s1
      have hp3 := hp.ext s3
      refine ⟨_, rfl, _, rfl, N, tn, xs, rfl, hp3.nx, hn, hp3.ns, hp.l6, fun H4 s34 => ⟨true, rfl, iteF ?_⟩⟩
      have s4 := s3.trans s34
      have hn4 := s34 _ _ hn
      have hg4 := s4 _ _ hg
      have ngt : tn ≠ g := ne_of hn4 hg4 (by intro z; cases z)
      clear hp3 hn s34 s3 H1 H2 H3
      have none_x : ∀ {H5 : Hp} {D : Addr}, SameX g H H5 → D ≠ g → H5 D = none → H D = none := fun {H5 D} x n e => by
        cases q : H D with
        | none => rfl
        | some o =>
          have := x D o n q
          rw [e] at this
          cases this
      have fin : ∀ H5 : Hp, SameX g H H5 → H5 tn = some (.tup ((zsOf xs).map V.str)) → ∀ dP : Addr, H5 dP = some (.dK (kvP xs)) → ∀ dN : Addr, H5 dN = some (.dK (kvN xs)) → H5 g = some (.ins (CG K) dx (pgf tn z dP dN)) → H dP = none → H dN = none → Q .non H5 := fun H5 x5 h1 dP h2 dN h3 h4 h5 h6 => by
        have hq := hp.extX hg x5
        exact k H5 dx tn dP dN x5 ⟨h4, h1, h2, h3, hq.pl, hq.ns, hq.nd, hq.l1, hq.l6, hq.nm⟩ h5 h6
      rcases hst with rfl | ⟨rfl, h0⟩
      · refine ⟨_, rfl, rfl, true, rfl, iteT ⟨_, rfl, _, rfl, .str z, tn, zsOf xs, rfl, SqT.of hn4, .inl ⟨z, rfl, true, by rw [decide_eq_true hz], iteF ?_⟩⟩⟩
        refine ⟨_, rfl, _, rfl, g, _, dx, [], rfl, hg4, T.c_Program, T.nA, (by show 0 < 1000; decide), ?_⟩
        refine ⟨_, rfl, rfl, false, rfl, iteF ⟨_, rfl, _, rfl, g, _, dx, _, rfl, upd_same, T.c_Program, T.nB, (by show 1 < 1000; decide), ?_⟩⟩
        have x5 : SameX g H (upd (upd H4 g (.ins (CG K) dx (putF "names" (.ref tn) []))) g (.ins (CG K) dx (putF "start" (.str z) (putF "names" (.ref tn) [])))) := (same_x s4).trans (SameX.upd.trans SameX.upd)
        have hg5 : (upd (upd H4 g (.ins (CG K) dx (putF "names" (.ref tn) []))) g (.ins (CG K) dx (putF "start" (.str z) (putF "names" (.ref tn) [])))) g = some (.ins (CG K) dx (putF "start" (.str z) (putF "names" (.ref tn) []))) := upd_same
        have hn5 : (upd (upd H4 g (.ins (CG K) dx (putF "names" (.ref tn) []))) g (.ins (CG K) dx (putF "start" (.str z) (putF "names" (.ref tn) [])))) tn = some (.tup ((zsOf xs).map V.str)) := by rw [upd_ne ngt, upd_ne ngt]; exact hn4
        generalize upd (upd H4 g (.ins (CG K) dx (putF "names" (.ref tn) []))) g (.ins (CG K) dx (putF "start" (.str z) (putF "names" (.ref tn) []))) = H5 at x5 hg5 hn5 ⊢
        clear hn4 hg4 s4 H4
        have hp5 := hp.extX hg x5
        refine ⟨_, rfl, L, rfl, ⟨_, SqT.of hp5.hL⟩, fun D nD => dc_it walk_tup (fun i H' => Same H5 H' ∧ H' D = some (.dK ((xs.take i).map fun y => ((Sum.inr y.2.2.z : Key), V.ref y.1)))) ⟨same_new nD, by rw [upd_same]; rfl⟩ (fun i H' _ h => SqT.ext (SqT.of hp5.hL) h.1) ?_ ?_⟩
        · rintro i x H6 H' hi ⟨sg, hD⟩ ⟨rfl, hx⟩
          obtain ⟨y, hy, rfl⟩ := getE hx
          obtain ⟨dy, ey⟩ := (hp5.pl y (List.mem_of_getElem? hy)).ext sg
          refine ⟨rfl, _, rfl, y.1, _, dy, _, _, rfl, ey, T.c_Place, T.nN, plf_name .., _, rfl, _, Sum.inr y.2.2.z, rfl, hD, ?_, same_app sg (Same.refl _) nD, ?_⟩
          · rw [List.length_map, List.length_take]
            rw [List.length_map] at hi
            exact Nat.lt_of_le_of_lt (Nat.min_le_left _ _) (Nat.lt_of_lt_of_le hi (Nat.le_trans hp.l6 (by decide)))
          · rw [upd_same, put_row (f := fun y => V.ref y.1) hp.nd hy]
        rintro H6 ⟨s56, hD⟩
        rw [List.length_map, List.take_length] at hD
        have hg6 := s56 _ _ hg5
        have nDg : D ≠ g := ne_of hD hg6 (by intro z; cases z)
        refine ⟨_, rfl, g, _, dx, _, rfl, hg6, T.c_Program, T.nC, (by show 2 < 1000; decide), ?_⟩
        have x7 : SameX g H (upd H6 g (.ins (CG K) dx (putF "_places" (.ref D) (putF "start" (.str z) (putF "names" (.ref tn) []))))) := (x5.trans (same_x s56)).trans SameX.upd
        have hg7 : (upd H6 g (.ins (CG K) dx (putF "_places" (.ref D) (putF "start" (.str z) (putF "names" (.ref tn) []))))) g = some (.ins (CG K) dx (putF "_places" (.ref D) (putF "start" (.str z) (putF "names" (.ref tn) [])))) := upd_same
        have hn7 : (upd H6 g (.ins (CG K) dx (putF "_places" (.ref D) (putF "start" (.str z) (putF "names" (.ref tn) []))))) tn = some (.tup ((zsOf xs).map V.str)) := by rw [upd_ne ngt]; exact s56 _ _ hn5
        have hD7 : (upd H6 g (.ins (CG K) dx (putF "_places" (.ref D) (putF "start" (.str z) (putF "names" (.ref tn) []))))) D = some (.dK (kvP xs)) := by rw [upd_ne nDg]; exact hD
        generalize upd H6 g (.ins (CG K) dx (putF "_places" (.ref D) (putF "start" (.str z) (putF "names" (.ref tn) [])))) = H7 at x7 hg7 hn7 hD7 ⊢
        have nD0 := none_x x5 nDg nD
        clear hg6 hD s56 nD hp5 hn5 hg5 x5 H6 H5
        have hp7 := hp.extX hg x7
        obtain ⟨kvs, hN, hl, hv⟩ := hp7.nx
        refine ⟨_, rfl, tn, rfl, ⟨_, SqT.of hn7⟩, fun D2 nD2 => dc_it walk_tup (fun i H' => Same H7 H' ∧ H' D2 = some (.dK ((xs.take i).map fun y => ((Sum.inr y.2.2.z : Key), V.ref y.2.1)))) ⟨same_new nD2, by rw [upd_same]; rfl⟩ (fun i H' _ h => SqT.ext (SqT.of hn7) h.1) ?_ ?_⟩
        · rintro i x H8 H' hi ⟨sg, hD2⟩ ⟨rfl, hx⟩
          obtain ⟨y, hy, rfl⟩ := zsAt hx
          refine ⟨rfl, _, rfl, _, rfl, _, rfl, N, _, rfl, dget_of (sg _ _ hN) (hv y (List.mem_of_getElem? hy)), _, Sum.inr y.2.2.z, rfl, hD2, ?_, same_app sg (Same.refl _) nD2, ?_⟩
          · rw [List.length_map, List.length_take]
            rw [List.length_map, hlz] at hi
            exact Nat.lt_of_le_of_lt (Nat.min_le_left _ _) (Nat.lt_of_lt_of_le hi (Nat.le_trans hp.l6 (by decide)))
          · rw [upd_same, put_row (f := fun y => V.ref y.2.1) hp.nd hy]
        rintro H8 ⟨s78, hD2⟩
        rw [List.length_map, hlz, List.take_length] at hD2
        have hg8 := s78 _ _ hg7
        have nDg2 : D2 ≠ g := ne_of hD2 hg8 (by intro z; cases z)
        refine ⟨_, rfl, g, _, dx, _, rfl, hg8, T.c_Program, T.nD, (by show 3 < 1000; decide), ?_⟩
        exact fin _ ((x7.trans (same_x s78)).trans SameX.upd) (by rw [upd_ne ngt]; exact s78 _ _ hn7) D (by rw [upd_ne nDg]; exact s78 _ _ hD7) D2 (by rw [upd_ne nDg2]; exact hD2) upd_same nD0 (none_x x7 nDg2 nD2)
      · refine ⟨_, rfl, rfl, false, rfl, iteF ?_⟩
        refine ⟨_, rfl, _, rfl, g, _, dx, [], rfl, hg4, T.c_Program, T.nA, (by show 0 < 1000; decide), ?_⟩
        have a0 : atI ((zsOf xs).map V.str) 0 = some (.str z) := atI_nat (j := 0) (by rw [List.getElem?_map, h0]; rfl)
        have hn4' : (upd H4 g (.ins (CG K) dx (putF "names" (.ref tn) []))) tn = some (.tup ((zsOf xs).map V.str)) := by rw [upd_ne ngt]; exact hn4
        refine ⟨_, rfl, rfl, true, rfl, iteT ⟨_, rfl, tn, _, 0, .str z, rfl, rfl, SqT.of hn4', a0, _, rfl, g, _, dx, _, rfl, upd_same, T.c_Program, T.nB, (by show 1 < 1000; decide), ?_⟩⟩
        clear hn4' a0
        have x5 : SameX g H (upd (upd H4 g (.ins (CG K) dx (putF "names" (.ref tn) []))) g (.ins (CG K) dx (putF "start" (.str z) (putF "names" (.ref tn) [])))) := (same_x s4).trans (SameX.upd.trans SameX.upd)
        have hg5 : (upd (upd H4 g (.ins (CG K) dx (putF "names" (.ref tn) []))) g (.ins (CG K) dx (putF "start" (.str z) (putF "names" (.ref tn) [])))) g = some (.ins (CG K) dx (putF "start" (.str z) (putF "names" (.ref tn) []))) := upd_same
        have hn5 : (upd (upd H4 g (.ins (CG K) dx (putF "names" (.ref tn) []))) g (.ins (CG K) dx (putF "start" (.str z) (putF "names" (.ref tn) [])))) tn = some (.tup ((zsOf xs).map V.str)) := by rw [upd_ne ngt, upd_ne ngt]; exact hn4
        generalize upd (upd H4 g (.ins (CG K) dx (putF "names" (.ref tn) []))) g (.ins (CG K) dx (putF "start" (.str z) (putF "names" (.ref tn) []))) = H5 at x5 hg5 hn5 ⊢
        clear hn4 hg4 s4 H4
        have hp5 := hp.extX hg x5
        refine ⟨_, rfl, L, rfl, ⟨_, SqT.of hp5.hL⟩, fun D nD => dc_it walk_tup (fun i H' => Same H5 H' ∧ H' D = some (.dK ((xs.take i).map fun y => ((Sum.inr y.2.2.z : Key), V.ref y.1)))) ⟨same_new nD, by rw [upd_same]; rfl⟩ (fun i H' _ h => SqT.ext (SqT.of hp5.hL) h.1) ?_ ?_⟩
        · rintro i x H6 H' hi ⟨sg, hD⟩ ⟨rfl, hx⟩
          obtain ⟨y, hy, rfl⟩ := getE hx
          obtain ⟨dy, ey⟩ := (hp5.pl y (List.mem_of_getElem? hy)).ext sg
          refine ⟨rfl, _, rfl, y.1, _, dy, _, _, rfl, ey, T.c_Place, T.nN, plf_name .., _, rfl, _, Sum.inr y.2.2.z, rfl, hD, ?_, same_app sg (Same.refl _) nD, ?_⟩
          · rw [List.length_map, List.length_take]
            rw [List.length_map] at hi
            exact Nat.lt_of_le_of_lt (Nat.min_le_left _ _) (Nat.lt_of_lt_of_le hi (Nat.le_trans hp.l6 (by decide)))
          · rw [upd_same, put_row (f := fun y => V.ref y.1) hp.nd hy]
        rintro H6 ⟨s56, hD⟩
        rw [List.length_map, List.take_length] at hD
        have hg6 := s56 _ _ hg5
        have nDg : D ≠ g := ne_of hD hg6 (by intro z; cases z)
        refine ⟨_, rfl, g, _, dx, _, rfl, hg6, T.c_Program, T.nC, (by show 2 < 1000; decide), ?_⟩
        have x7 : SameX g H (upd H6 g (.ins (CG K) dx (putF "_places" (.ref D) (putF "start" (.str z) (putF "names" (.ref tn) []))))) := (x5.trans (same_x s56)).trans SameX.upd
        have hg7 : (upd H6 g (.ins (CG K) dx (putF "_places" (.ref D) (putF "start" (.str z) (putF "names" (.ref tn) []))))) g = some (.ins (CG K) dx (putF "_places" (.ref D) (putF "start" (.str z) (putF "names" (.ref tn) [])))) := upd_same
        have hn7 : (upd H6 g (.ins (CG K) dx (putF "_places" (.ref D) (putF "start" (.str z) (putF "names" (.ref tn) []))))) tn = some (.tup ((zsOf xs).map V.str)) := by rw [upd_ne ngt]; exact s56 _ _ hn5
        have hD7 : (upd H6 g (.ins (CG K) dx (putF "_places" (.ref D) (putF "start" (.str z) (putF "names" (.ref tn) []))))) D = some (.dK (kvP xs)) := by rw [upd_ne nDg]; exact hD
        generalize upd H6 g (.ins (CG K) dx (putF "_places" (.ref D) (putF "start" (.str z) (putF "names" (.ref tn) [])))) = H7 at x7 hg7 hn7 hD7 ⊢
        have nD0 := none_x x5 nDg nD
        clear hg6 hD s56 nD hp5 hn5 hg5 x5 H6 H5
        have hp7 := hp.extX hg x7
        obtain ⟨kvs, hN, hl, hv⟩ := hp7.nx
        refine ⟨_, rfl, tn, rfl, ⟨_, SqT.of hn7⟩, fun D2 nD2 => dc_it walk_tup (fun i H' => Same H7 H' ∧ H' D2 = some (.dK ((xs.take i).map fun y => ((Sum.inr y.2.2.z : Key), V.ref y.2.1)))) ⟨same_new nD2, by rw [upd_same]; rfl⟩ (fun i H' _ h => SqT.ext (SqT.of hn7) h.1) ?_ ?_⟩
        · rintro i x H8 H' hi ⟨sg, hD2⟩ ⟨rfl, hx⟩
          obtain ⟨y, hy, rfl⟩ := zsAt hx
          refine ⟨rfl, _, rfl, _, rfl, _, rfl, N, _, rfl, dget_of (sg _ _ hN) (hv y (List.mem_of_getElem? hy)), _, Sum.inr y.2.2.z, rfl, hD2, ?_, same_app sg (Same.refl _) nD2, ?_⟩
          · rw [List.length_map, List.length_take]
            rw [List.length_map, hlz] at hi
            exact Nat.lt_of_le_of_lt (Nat.min_le_left _ _) (Nat.lt_of_lt_of_le hi (Nat.le_trans hp.l6 (by decide)))
          · rw [upd_same, put_row (f := fun y => V.ref y.2.1) hp.nd hy]
        rintro H8 ⟨s78, hD2⟩
        rw [List.length_map, hlz, List.take_length] at hD2
        have hg8 := s78 _ _ hg7
        have nDg2 : D2 ≠ g := ne_of hD2 hg8 (by intro z; cases z)
        refine ⟨_, rfl, g, _, dx, _, rfl, hg8, T.c_Program, T.nD, (by show 3 < 1000; decide), ?_⟩
        exact fin _ ((x7.trans (same_x s78)).trans SameX.upd) (by rw [upd_ne ngt]; exact s78 _ _ hn7) D (by rw [upd_ne nDg]; exact s78 _ _ hD7) D2 (by rw [upd_ne nDg2]; exact hD2) upd_same nD0 (none_x x7 nDg2 nD2)
theorem O_Program2k {fd : FuncData} (F : FunD K "__init__" "Program.__init__" (defArgs s_Program_init) (defBody s_Program_init) (defScope s_Program_init) [] [("start", .non)] (He.fAd K ("Program", some "__init__")) fd) (G : FnOk P w K mg base (L2.CX P w) 5 (He.fAd K ("Program", some "__init__")) fd ["self", "places", "nexts", "start"] (spPgI K)) :
    OkK P w K mg base (L2.CX P w) 5 ("Program", some "__init__") ["self", "places", "nexts", "start"] 3 ["start"] (fun vs zs => vs ++ zs) (spPgI K) := by
  obtain ⟨mv, b⟩ := F.kbinds0 (ps := ["self", "places", "nexts", "start"]) 3 ["start"] [] (fun us _ ws => us ++ ws) (by decide) (fun _ h => nomatch h) (fun r1 _ r4 => r1.append r4)
    fun D doc pm an cdv ct us mv ws h1 h3 h4 => match us, mv, ws, h1, h3, h4 with | [_, _, _], [], [_], _, _, _ => rfl
  exact ⟨fd, _, G, b⟩
theorem O_Program2 {fd : FuncData} (F : FunD K "__init__" "Program.__init__" (defArgs s_Program_init) (defBody s_Program_init) (defScope s_Program_init) [] [("start", .non)] (He.fAd K ("Program", some "__init__")) fd) (G : FnOk P w K mg base (L2.CX P w) 5 (He.fAd K ("Program", some "__init__")) fd ["self", "places", "nexts", "start"] (spPgI K)) :
    OkK P w K mg base (L2.CX P w) 5 ("Program", some "__init__") ["self", "places", "nexts", "start"] 3 [] (fun vs _ => vs ++ [.non]) (spPgI K) := by
  obtain ⟨mv, b⟩ := F.kbinds0 (ps := ["self", "places", "nexts", "start"]) 3 [] [("start", .non)] (fun us mv _ => us ++ mv) (by decide) (fun _ h => h) (fun r1 r2 _ => r1.append r2)
    fun D doc pm an cdv ct us mv ws h1 h3 h4 => match us, mv, ws, h1, h3, h4 with | [_, _, _], [_], [], _, _, _ => ⟨_, _, _, _, _, _, rfl, rfl, rfl⟩
  exact ⟨fd, _, G, b⟩
end
end K16

set_option Elab.async false
set_option linter.all false
set_option pp.deepTerms.threshold 14
set_option pp.maxSteps 2500
set_option maxRecDepth 100000
set_option maxHeartbeats 2000000
namespace K16
open PySem PySem.Spec PyProof.Rows L2 Vf 
section
variable {P : Program} {w : World} {K : PySem.W.Frag} {mg : Str → Option Value} {base : Heap}
structure GMeth (K : PySem.W.Frag) : Prop where
  p_eq : Meth K (He.ga K "Place") "__eq__" (He.fAd K ("Place", some "__eq__"))
  p_ne : PySem.W.findIn K (.ref (He.ga K "Place")) "__ne__" = some (some (.builtin "object.__ne__"))
  m_eq : Meth K (He.ga K "Program") "__eq__" (He.fAd K ("Program", some "__eq__"))
  m_ne : PySem.W.findIn K (.ref (He.ga K "Program")) "__ne__" = some (some (.builtin "object.__ne__"))
  m_contains : Meth K (He.ga K "Program") "__contains__" (He.fAd K ("Program", some "__contains__"))
  m_getitem : Meth K (He.ga K "Program") "__getitem__" (He.fAd K ("Program", some "__getitem__"))
  f_getitem : PySem.W.fnIn K (He.fAd K ("Program", some "__getitem__")) = true
theorem sc_NoPlace_init : FnScope ["self", "name"] ["self", "name"] (defScope s_NoPlace_init) := ⟨rfl, rfl, rfl, by decide +kernel, rfl, by decide +kernel, by decide +kernel⟩
-- slots: 0 self, 1 name
abbrev CNP (K : PySem.W.Frag) : Addr := He.ga K "NoPlace"
theorem ok_NoPlace_init {fd : FuncData} (F : FnD K ("NoPlace", some "__init__") "__init__" "NoPlace.__init__" s_NoPlace_init fd) : OkD P w K mg base CX0 1 ("NoPlace", some "__init__") ["self", "name"] [] (spExI K (CNP K) "name") := by
  refine okd F (F.ok sc_NoPlace_init (fun vs H Q E h => ?_) fun cdv A outer s H vs Q E hr h => ⟨tOst K "name" (tVar 0) (tVar 1), PSs.nox ?_, run_exI h⟩) fun _ _ _ _ _ _ us hl => match us, hl with | [_, _], _ => rfl
  · obtain ⟨a, v, rfl, _⟩ := h
    rfl
  · exact pss_one (ps_ost (pv 0) (pv 1))
theorem sc_Program_contains : FnScope ["self", "x"] ["self", "x"] (defScope s_Program_contains) := ⟨rfl, rfl, rfl, by decide +kernel, rfl, by decide +kernel, by decide +kernel⟩
-- slots: 0 self, 1 x
def spCon (K : PySem.W.Frag) : Sp := fun vs H Q _ => ∃ (g : Addr) (x : V) (xs : List PgE) (st : Str) (dx tn dP dN : Addr), vs = [.ref g, x] ∧ PgA K H g xs st dx tn dP dN ∧ ((∃ z, x = .str z ∧ Q (.bl (decide (z ∈ zsOf xs))) H) ∨ (OddS H x ∧ Q (.bl false) H))
theorem ok_Program_contains {fd : FuncData} (F : FnD K ("Program", some "__contains__") "__contains__" "Program.__contains__" s_Program_contains fd) (T : GTxt K mg) (O_is_one_of : OkF P w K mg base CX0 1 "is_one_of" ["x", "names"] (spOne K)) : OkM P w K mg base CX0 2 "Program" "__contains__" ["self", "x"] (spCon K) := by
  refine okd F (F.ok sc_Program_contains (fun vs H Q E h => ?_) fun cdv A outer s H vs Q E hr h => ?_) fun _ _ _ _ _ _ us hl => match us, hl with | [_, _], _ => rfl
  · obtain ⟨g, x, xs, st, dx, tn, dP, dN, rfl, _⟩ := h
    rfl
  · obtain ⟨g, x, xs, st, dx, tn, dP, dN, rfl, hp, h⟩ := h
    refine ⟨_, PSs.nox (pss_one (ps_ret (c_fn O_is_one_of hr (by decide) T.g_is_one_of pass0 (pa_cons (pv 1) (pa_cons (pe_fld (pv 0) rfl) pa_nil))))), ?_⟩
    exact ⟨_, rfl, _, rfl, g, _, dx, _, _, rfl, hp.hg, T.c_Program, T.nA, pgf_names .., x, tn, zsOf xs, rfl, SqT.of hp.hn, h⟩
theorem sc_Program_getitem : FnScope ["self", "at"] ["self", "at"] (defScope s_Program_getitem) := ⟨rfl, rfl, rfl, by decide +kernel, rfl, by decide +kernel, by decide +kernel⟩
-- slots: 0 self, 1 at
def spGet (K : PySem.W.Frag) : Sp := fun vs H Q E => ∃ (g : Addr) (x : V) (xs : List PgE) (st : Str) (dx tn dP dN : Addr), vs = [.ref g, x] ∧ PgA K H g xs st dx tn dP dN ∧
  ((∃ (i : Nat) (y : PgE), xs[i]? = some y ∧ x = .str y.2.2.z ∧ Q (.ref y.1) H) ∨ (((∃ z, x = .str z ∧ z ∉ zsOf xs) ∨ OddS H x) ∧ ∀ d, H d = none → E (.ref (CNP K)) (some d) (upd H d (.xd [("name", x)]))))
theorem ok_Program_getitem {fd : FuncData} (F : FnD K ("Program", some "__getitem__") "__getitem__" "Program.__getitem__" s_Program_getitem fd) (T : GTxt K mg) (M : GMeth K) (O_contains : OkM P w K mg base CX0 2 "Program" "__contains__" ["self", "x"] (spCon K))
    (O_NoPlace_init : OkD P w K mg base CX0 1 ("NoPlace", some "__init__") ["self", "name"] [] (spExI K (CNP K) "name")) : OkM P w K mg base (L2.CX P w) 4 "Program" "__getitem__" ["self", "at"] (spGet K) := by
  refine okd F (F.ok sc_Program_getitem (fun vs H Q E h => ?_) fun cdv A outer s H vs Q E hr h => ?_) fun _ _ _ _ _ _ us hl => match us, hl with | [_, _], _ => rfl
  · obtain ⟨g, x, xs, st, dx, tn, dP, dN, rfl, _⟩ := h
    rfl
  · obtain ⟨g, x, xs, st, dx, tn, dP, dN, rfl, hp, h⟩ := h
    refine ⟨_, (pss_cons (ps_if (pt_cmpR (op_notInO M.m_contains O_contains hr (by decide)) (pv 1) (pv 0) rfl) (pss_one (c_raise T.x_NoPlace O_NoPlace_init hr (by decide) T.g_NoPlace (takes_of rfl rfl rfl rfl) (pa_cons (pv 1) pa_nil)))
  pss_nil)
  (pss_one (ps_ret (pe_dget (hu_of hr) (pe_fld (pv 0) rfl) (pv 1) (fun _ _ => rfl))))), ?_⟩
    rcases h with ⟨i, y, hy, rfl, q⟩ | ⟨hx, q⟩
    · have hm : y.2.2.z ∈ zsOf xs := List.mem_map_of_mem (List.mem_of_getElem? hy)
      refine ⟨_, rfl, _, rfl, g, dx, _, rfl, hp.hg, g, _, xs, st, dx, tn, dP, dN, rfl, hp, .inl ⟨_, rfl, _, rfl, false, by rw [decide_eq_true hm]; rfl, iteF ?_⟩⟩
      exact ⟨_, rfl, g, _, dx, _, _, rfl, hp.hg, T.c_Program, T.nC, pgf_places .., _, rfl, dP, _, rfl, dget_of hp.hP (val_row (f := fun y => V.ref y.1) hp.nd hy), q⟩
    · rcases hx with ⟨z, rfl, hz⟩ | o
      · exact ⟨_, rfl, _, rfl, g, dx, _, rfl, hp.hg, g, _, xs, st, dx, tn, dP, dN, rfl, hp, .inl ⟨_, rfl, _, rfl, true, by rw [decide_eq_false hz]; rfl, iteT ⟨_, rfl, _, rfl, fun d hd => q d hd⟩⟩⟩
      · exact ⟨_, rfl, _, rfl, g, dx, _, rfl, hp.hg, g, _, xs, st, dx, tn, dP, dN, rfl, hp, .inr ⟨o, _, rfl, true, rfl, iteT ⟨_, rfl, _, rfl, fun d hd => q d hd⟩⟩⟩
/-! ### two programs -/
def plOf (xs : List PgE) : List (Str × Int × Int × Bool) := xs.map fun x => (x.2.2.z, x.2.2.l, x.2.2.m, x.2.2.b)
def nsOf (xs : List PgE) : List (List Str) := xs.map fun x => x.2.2.ns
def pgB (xs xs' : List PgE) (st st' : Str) : Bool := decide (zsOf xs = zsOf xs') && (decide (plOf xs = plOf xs') && (decide (nsOf xs = nsOf xs') && decide (st = st')))
def zipAll (f : PgE → PgE → Bool) : List PgE → List PgE → Bool
  | y :: ys, y' :: ys' => f y y' && zipAll f ys ys'
  | _, _ => true
def plE (y y' : PgE) : Bool := plB y.2.2.z y'.2.2.z y.2.2.l y'.2.2.l y.2.2.m y'.2.2.m y.2.2.b y'.2.2.b
def nsE (y y' : PgE) : Bool := decide (y.2.2.ns = y'.2.2.ns)
theorem cons_dec {α : Type} [DecidableEq α] (a a' : α) (l l' : List α) : decide (a :: l = a' :: l') = (decide (a = a') && decide (l = l')) := by
  rw [Bool.eq_iff_iff]
  simp
theorem zip_pl : ∀ {ys ys' : List PgE}, ys.length = ys'.length → zipAll plE ys ys' = decide (plOf ys = plOf ys')
  | [], [], _ => rfl
  | y :: ys, y' :: ys', h => by
    have e : plE y y' = decide ((y.2.2.z, y.2.2.l, y.2.2.m, y.2.2.b) = (y'.2.2.z, y'.2.2.l, y'.2.2.m, y'.2.2.b)) := by
      unfold plE plB
      rw [Bool.eq_iff_iff]
      simp [Prod.ext_iff]
    show (plE y y' && zipAll plE ys ys') = decide ((y.2.2.z, y.2.2.l, y.2.2.m, y.2.2.b) :: plOf ys = (y'.2.2.z, y'.2.2.l, y'.2.2.m, y'.2.2.b) :: plOf ys')
    rw [cons_dec, zip_pl (Nat.succ.inj h), e]
theorem zip_ns : ∀ {ys ys' : List PgE}, ys.length = ys'.length → zipAll nsE ys ys' = decide (nsOf ys = nsOf ys')
  | [], [], _ => rfl
  | y :: ys, y' :: ys', h => by
    show (nsE y y' && zipAll nsE ys ys') = decide (y.2.2.ns :: nsOf ys = y'.2.2.ns :: nsOf ys')
    rw [cons_dec, zip_ns (Nat.succ.inj h)]
    rfl
theorem hits_rows {D : V → V → Bool → Prop} {f : PgE → V} {r : PgE → PgE → Bool} {xs' : List PgE} (nd : (zsOf xs').Nodup) : ∀ {ys ys' : List PgE}, (∀ y ∈ ys', ∃ i : Nat, xs'[i]? = some y) → zsOf ys = zsOf ys' → (∀ y ∈ ys, ∀ y' ∈ ys', D (f y) (f y') (r y y')) →
    DHits D (xs'.map fun y => ((Sum.inr y.2.2.z : Key), f y)) (ys.map fun y => ((Sum.inr y.2.2.z : Key), f y)) (zipAll r ys ys')
  | [], [], _, _, _ => .nil
  | [], _ :: _, _, h, _ => nomatch h
  | _ :: _, [], _, h, _ => nomatch h
  | y :: ys, y' :: ys', hi, hz, hd => by
    have h1 : y.2.2.z = y'.2.2.z := (List.cons.inj hz).1
    have h2 : zsOf ys = zsOf ys' := (List.cons.inj hz).2
    obtain ⟨i, e⟩ := hi y' (List.mem_cons_self ..)
    refine .hit (y := f y') ?_ (hd y (List.mem_cons_self ..) y' (List.mem_cons_self ..)) (hits_rows nd (fun v hv => hi v (List.mem_cons_of_mem _ hv)) h2 fun v hv v' hv' => hd v (List.mem_cons_of_mem _ hv) v' (List.mem_cons_of_mem _ hv'))
    rw [h1]
    exact val_row nd e
def strD (zs : List Str) : PyData := .tuple (zs.map PyData.str)
theorem strs_dp {H : Hp} : ∀ {zs : List Str}, DpAll K H (zs.map V.str) (zs.map PyData.str)
  | [] => .nil
  | _ :: _ => .cons (.str _) strs_dp
theorem strs_eq : ∀ {zs zs' : List Str}, PyData.eqvAll (zs.map PyData.str) (zs'.map PyData.str) = decide (zs = zs')
  | [], [] => rfl
  | [], _ :: _ => rfl
  | _ :: _, [] => rfl
  | z :: zs, z' :: zs' => by
    rw [cons_dec]
    show ((z == z') && PyData.eqvAll (zs.map PyData.str) (zs'.map PyData.str)) = _
    rw [strs_eq]
    rfl
end
end K16

set_option Elab.async false
set_option linter.all false
set_option pp.deepTerms.threshold 14
set_option pp.maxSteps 2500
set_option maxRecDepth 100000
set_option maxHeartbeats 2000000
namespace K16
open PySem PySem.Spec PyProof.Rows L2 Vf 
section
variable {P : Program} {w : World} {K : PySem.W.Frag} {mg : Str → Option Value} {base : Heap}
structure RTxt (K : PySem.W.Frag) (mg : Str → Option Value) : Prop extends GTxt K mg where
  z_range : mg "range" = none
  z_sum : mg "sum" = none
  i_MOST_PERIOD : ∃ t, mg "MOST_PERIOD" = some (.int 8 t)
  i_MOST_RUN_TICKS : ∃ t, mg "MOST_RUN_TICKS" = some (.int 2000 t)
  g_Sampler : mg "Sampler" = some (.ref (He.ga K "Sampler"))
  g_BadSampler : mg "BadSampler" = some (.ref (He.ga K "BadSampler"))
  c_Sampler : Cls K (He.ga K "Sampler")
  m_Sampler : Mk K (He.ga K "Sampler") (He.fAd K ("Sampler", some "__init__"))
  sP : NoAttr K (He.ga K "Sampler") "period"
  sJ : NoAttr K (He.ga K "Sampler") "jitter"
  sF : NoAttr K (He.ga K "Sampler") "phase"
  x_BadSampler : ExI K "BadSampler" "why"
  g_Record : mg "Record" = some (.ref (He.ga K "Record"))
  c_Record : Cls K (He.ga K "Record")
  m_Record : Mk K (He.ga K "Record") (He.fAd K ("Record", some "__init__"))
  rA : NoAttr K (He.ga K "Record") "ticks"
  rB : NoAttr K (He.ga K "Record") "times"
  rC : NoAttr K (He.ga K "Record") "notes"
  rD : NoAttr K (He.ga K "Record") "waiting"
  rE : NoAttr K (He.ga K "Record") "lost"
  g_observe : mg "observe" = some (.ref (He.ga K "observe"))
  g_check_stays : mg "check_stays" = some (.ref (He.ga K "check_stays"))
  g_is_stay : mg "is_stay" = some (.ref (He.ga K "is_stay"))
  g_check_phase : mg "check_phase" = some (.ref (He.ga K "check_phase"))
  g_check_looks : mg "check_looks" = some (.ref (He.ga K "check_looks"))
  g_is_look : mg "is_look" = some (.ref (He.ga K "is_look"))
  g_is_due : mg "is_due" = some (.ref (He.ga K "is_due"))
  g_record_of : mg "record_of" = some (.ref (He.ga K "record_of"))
  g_BadStay : mg "BadStay" = some (.ref (He.ga K "BadStay"))
  g_BadPhase : mg "BadPhase" = some (.ref (He.ga K "BadPhase"))
  g_BadLook : mg "BadLook" = some (.ref (He.ga K "BadLook"))
  g_NoTicks : mg "NoTicks" = some (.ref (He.ga K "NoTicks"))
  x_BadStay : ExI K "BadStay" "index"
  x_BadPhase : ExI K "BadPhase" "phase"
  x_BadLook : ExI K "BadLook" "index"
  e_NoTicks : (He.Fa.exc "NoTicks").ok K = true
/-! ### a sampler's fields -/
def saf (n i : Int) (f : V) : List (Str × V) := putF "phase" f (putF "jitter" (.int i) (putF "period" (.int n) []))
theorem saf_period (n i : Int) (f : V) : (saf n i f).lookup ("period" : Str) = some (.int n) := by
  unfold saf
  rw [lookup_putF, if_neg (by decide +kernel), lookup_putF, if_neg (by decide +kernel), lookup_putF, if_pos rfl]
theorem saf_jitter (n i : Int) (f : V) : (saf n i f).lookup ("jitter" : Str) = some (.int i) := by
  unfold saf
  rw [lookup_putF, if_neg (by decide +kernel), lookup_putF, if_pos rfl]
theorem saf_phase (n i : Int) (f : V) : (saf n i f).lookup ("phase" : Str) = some f := by
  unfold saf
  rw [lookup_putF, if_pos rfl]
theorem saf_with (n i : Int) (f : V) : (saf n i f).lookup ("with_values" : Str) = none := by
  unfold saf
  rw [lookup_putF, if_neg (by decide +kernel), lookup_putF, if_neg (by decide +kernel), lookup_putF, if_neg (by decide +kernel)]
  rfl
/-- at p a sampler -/
def SaA (C : Addr) (H : Hp) (p : Addr) (n i : Int) (f : V) : Prop := ∃ dx, H p = some (.ins C dx (saf n i f))
theorem SaA.ext {C : Addr} {H H' : Hp} {p : Addr} {n i : Int} {f : V} (h : SaA C H p n i f) (s : Same H H') : SaA C H' p n i f := by
  obtain ⟨dx, e⟩ := h
  exact ⟨dx, s _ _ e⟩
abbrev CS (K : PySem.W.Frag) : Addr := He.ga K "Sampler"
abbrev CBS (K : PySem.W.Frag) : Addr := He.ga K "BadSampler"
theorem sc_BadSampler_init : FnScope ["self", "why"] ["self", "why"] (defScope s_BadSampler_init) := ⟨rfl, rfl, rfl, by decide +kernel, rfl, by decide +kernel, by decide +kernel⟩
-- slots: 0 self, 1 why
theorem ok_BadSampler_init {fd : FuncData} (F : FnD K ("BadSampler", some "__init__") "__init__" "BadSampler.__init__" s_BadSampler_init fd) : OkD P w K mg base CX0 1 ("BadSampler", some "__init__") ["self", "why"] [] (spExI K (CBS K) "why") := by
  refine okd F (F.ok sc_BadSampler_init (fun vs H Q E h => ?_) fun cdv A outer s H vs Q E hr h => ⟨tOst K "why" (tVar 0) (tVar 1), PSs.nox ?_, run_exI h⟩) fun _ _ _ _ _ _ us hl => match us, hl with | [_, _], _ => rfl
  · obtain ⟨a, v, rfl, _⟩ := h
    rfl
  · exact pss_one (ps_ost (pv 0) (pv 1))
/-- an int or another value -/
def Any (H : Hp) (x : V) : Prop := (∃ q : Int, x = .int q) ∨ Odd H x
theorem Any.ext {H H' : Hp} {x : V} (o : Any H x) (s : Same H H') : Any H' x := o.imp id fun o => o.ext s
/-- what a sampler is refused for -/
inductive SaIn (H : Hp) (x j f : V) : Str → Prop where
  | period (h : NotFr H x 1 8) : SaIn H x j f "period"
  | jitter (n : Int) (hx : x = .int n) (n1 : 1 ≤ n) (n2 : n ≤ 8) (h : NotFr H j 0 (n - 1)) : SaIn H x j f "jitter"
  | phase (n i : Int) (hx : x = .int n) (n1 : 1 ≤ n) (n2 : n ≤ 8) (hj : j = .int i) (i0 : 0 ≤ i) (i1 : i ≤ n - 1) (hf : f ≠ .non) (h : NotFr H f 0 (n - 1)) : SaIn H x j f "phase"
def PhOk (f : V) (n : Int) : Prop := f = .non ∨ ∃ q : Int, f = .int q ∧ 0 ≤ q ∧ q ≤ n - 1
/-- the parts of a sampler that is made -/
def SaOk (x j f : V) (n i : Int) : Prop := x = .int n ∧ 1 ≤ n ∧ n ≤ 8 ∧ j = .int i ∧ 0 ≤ i ∧ i ≤ n - 1 ∧ PhOk f n
theorem SaIn.ext {H H' : Hp} {x j f : V} {w : Str} (h : SaIn H x j f w) (s : Same H H') : SaIn H' x j f w := by
  cases h with
  | period h => exact .period (h.ext s)
  | jitter n hx n1 n2 h => exact .jitter n hx n1 n2 (h.ext s)
  | phase n i hx n1 n2 hj i0 i1 hf h => exact .phase n i hx n1 n2 hj i0 i1 hf (h.ext s)
def spSaI (K : PySem.W.Frag) : Sp := fun vs H Q E => ∃ (p dx : Addr) (x j f : V), vs = [.ref p, x, j, f] ∧ H p = some (.ins (CS K) dx []) ∧
  ((∃ w, SaIn H x j f w ∧ ∀ d, H d = none → E (.ref (CBS K)) (some d) (upd H d (.xd [("why", .str w)]))) ∨
   (∃ n i, SaOk x j f n i ∧ Q .non (upd H p (.ins (CS K) dx (saf n i f)))))
theorem sc_Sampler_init : FnScope ["self", "period", "jitter", "phase"] ["self", "period", "jitter", "phase"] (defScope s_Sampler_init) := ⟨rfl, rfl, rfl, by decide +kernel, rfl, by decide +kernel, by decide +kernel⟩
-- slots: 0 self, 1 period, 2 jitter, 3 phase
theorem ok_Sampler_init {fd : FuncData} (F : FunD K "__init__" "Sampler.__init__" (defArgs s_Sampler_init) (defBody s_Sampler_init) (defScope s_Sampler_init) [.int 0] [("phase", .int 0)] (He.fAd K ("Sampler", some "__init__")) fd) (T : RTxt K mg)
    (O_is_integer_from : OkF P w K mg base CX0 2 "is_integer_from" ["x", "low", "high"] spFr)
    (O_BadSampler_init : OkD P w K mg base CX0 1 ("BadSampler", some "__init__") ["self", "why"] [] (spExI K (CBS K) "why")) :
    FnOk P w K mg base (L2.CX P w) 4 (He.fAd K ("Sampler", some "__init__")) fd ["self", "period", "jitter", "phase"] (spSaI K) := by
  refine F.ok sc_Sampler_init (fun vs H Q E h => ?_) fun cdv A outer s H vs Q E hr h => ?_
  · obtain ⟨p, dx, x, j, f, rfl, _⟩ := h
    rfl
  · obtain ⟨p, dx, x, j, f, rfl, hp, h⟩ := h
    refine ⟨_, (pss_cons (ps_if (pt_not (pt_val (c_fn O_is_integer_from hr (by decide) T.g_is_integer_from pass0 (pa_cons (pv 1) (pa_cons pe_int (pa_cons (c_gint T.i_MOST_PERIOD) pa_nil)))))) (pss_one (c_raise T.x_BadSampler O_BadSampler_init hr (by decide) T.g_BadSampler (takes_of rfl rfl rfl rfl) (pa_cons pe_str pa_nil)))
  pss_nil)
  (pss_cons (ps_if (pt_not (pt_val (c_fn O_is_integer_from hr (by decide) T.g_is_integer_from pass0 (pa_cons (pv 2) (pa_cons pe_int (pa_cons (pe_op op_sub (pv 1) pe_int) pa_nil)))))) (pss_one (c_raise T.x_BadSampler O_BadSampler_init hr (by decide) T.g_BadSampler (takes_of rfl rfl rfl rfl) (pa_cons pe_str pa_nil)))
  pss_nil)
  (pss_cons (ps_if (PW.pt (pw_and (pt_cmpR op_notN (pv 3) pe_non (nomark _)) (pw_and1 (pt_not (pt_val (c_fn O_is_integer_from hr (by decide) T.g_is_integer_from pass0 (pa_cons (pv 3) (pa_cons pe_int (pa_cons (pe_op op_sub (pv 1) pe_int) pa_nil))))))))) (pss_one (c_raise T.x_BadSampler O_BadSampler_init hr (by decide) T.g_BadSampler (takes_of rfl rfl rfl rfl) (pa_cons pe_str pa_nil)))
  pss_nil)
  (pss_cons (ps_fld (pv 0) (pv 1) rfl)
  (pss_cons (ps_fld (pv 0) (pv 2) rfl)
  (pss_one (ps_fld (pv 0) (pv 3) rfl))))))), ?_⟩
    rcases h with ⟨w, hi, k⟩ | ⟨n, i, ⟨rfl, n1, n2, rfl, i0, i1, hf⟩, k⟩
    · cases hi with
      | period h => exact ⟨_, rfl, _, _, _, rfl, .inr ⟨h, false, rfl, iteT ⟨_, rfl, fun d hd => k d hd⟩⟩⟩
      | jitter n hx n1 n2 h =>
        subst hx
        refine ⟨_, rfl, _, _, _, rfl, .inl ⟨n, rfl, n1, n2, true, rfl, iteF ?_⟩⟩
        exact ⟨_, rfl, _, rfl, n, 1, rfl, rfl, _, _, _, rfl, .inr ⟨h, false, rfl, iteT ⟨_, rfl, fun d hd => k d hd⟩⟩⟩
      | phase n i hx n1 n2 hj i0 i1 hf h =>
        subst hx hj
        refine ⟨_, rfl, _, _, _, rfl, .inl ⟨n, rfl, n1, n2, true, rfl, iteF ?_⟩⟩
        refine ⟨_, rfl, _, rfl, n, 1, rfl, rfl, _, _, _, rfl, .inl ⟨i, rfl, i0, i1, true, rfl, iteF ?_⟩⟩
        exact ⟨_, rfl, rfl, true, by rw [decide_eq_false hf]; rfl, iteT ⟨_, rfl, _, rfl, n, 1, rfl, rfl, _, _, _, rfl, .inr ⟨h, false, rfl, iteT ⟨_, rfl, fun d hd => k d hd⟩⟩⟩⟩
    · refine ⟨_, rfl, _, _, _, rfl, .inl ⟨n, rfl, n1, n2, true, rfl, iteF ?_⟩⟩
      refine ⟨_, rfl, _, rfl, n, 1, rfl, rfl, _, _, _, rfl, .inl ⟨i, rfl, i0, i1, true, rfl, iteF ?_⟩⟩
      rcases hf with rfl | ⟨q, rfl, q0, q1⟩
      · refine ⟨_, rfl, rfl, false, rfl, iteF ?_⟩
        refine ⟨_, rfl, _, rfl, p, _, dx, [], rfl, hp, T.c_Sampler, T.sP, (by show 0 < 1000; decide), ?_⟩
        refine ⟨_, rfl, _, rfl, p, _, dx, _, rfl, upd_same, T.c_Sampler, T.sJ, (by show 1 < 1000; decide), ?_⟩
        rw [upd_upd]
        refine ⟨_, rfl, _, rfl, p, _, dx, _, rfl, upd_same, T.c_Sampler, T.sF, (by show 2 < 1000; decide), ?_⟩
        rw [upd_upd]
        exact k
      · refine ⟨_, rfl, rfl, true, rfl, iteT ⟨_, rfl, _, rfl, n, 1, rfl, rfl, _, _, _, rfl, .inl ⟨q, rfl, q0, q1, true, rfl, iteF ?_⟩⟩⟩
        refine ⟨_, rfl, _, rfl, p, _, dx, [], rfl, hp, T.c_Sampler, T.sP, (by show 0 < 1000; decide), ?_⟩
        refine ⟨_, rfl, _, rfl, p, _, dx, _, rfl, upd_same, T.c_Sampler, T.sJ, (by show 1 < 1000; decide), ?_⟩
        rw [upd_upd]
        refine ⟨_, rfl, _, rfl, p, _, dx, _, rfl, upd_same, T.c_Sampler, T.sF, (by show 2 < 1000; decide), ?_⟩
        rw [upd_upd]
        exact k
/-- Sampler(period, jitter, phase=f), Sampler(period) -/
theorem O_Sampler2k {fd : FuncData} (F : FunD K "__init__" "Sampler.__init__" (defArgs s_Sampler_init) (defBody s_Sampler_init) (defScope s_Sampler_init) [.int 0] [("phase", .int 0)] (He.fAd K ("Sampler", some "__init__")) fd) (G : FnOk P w K mg base (L2.CX P w) 4 (He.fAd K ("Sampler", some "__init__")) fd ["self", "period", "jitter", "phase"] (spSaI K)) :
    OkK P w K mg base (L2.CX P w) 4 ("Sampler", some "__init__") ["self", "period", "jitter", "phase"] 3 ["phase"] (fun vs zs => vs ++ zs) (spSaI K) := by
  obtain ⟨its, mv, b⟩ := F.kbinds (ps := ["self", "period", "jitter", "phase"]) 3 ["phase"] [] (fun us _ _ ws => us ++ ws) (by decide) (by decide) (fun _ h => nomatch h) (fun r1 _ _ r4 => r1.append r4)
    fun T D doc pm an cdv ct us its mv ws h1 h2 h3 h4 => match us, its, mv, ws, h1, h2, h3, h4 with | [_, _, _], [_], [], [_], _, _, _, _ => ⟨_, rfl, rfl⟩
  exact ⟨fd, _, G, b⟩
theorem O_Sampler1 {fd : FuncData} (F : FunD K "__init__" "Sampler.__init__" (defArgs s_Sampler_init) (defBody s_Sampler_init) (defScope s_Sampler_init) [.int 0] [("phase", .int 0)] (He.fAd K ("Sampler", some "__init__")) fd) (G : FnOk P w K mg base (L2.CX P w) 4 (He.fAd K ("Sampler", some "__init__")) fd ["self", "period", "jitter", "phase"] (spSaI K)) :
    OkK P w K mg base (L2.CX P w) 4 ("Sampler", some "__init__") ["self", "period", "jitter", "phase"] 2 [] (fun vs _ => vs ++ [.int 0, .int 0]) (spSaI K) := by
  obtain ⟨its, mv, b⟩ := F.kbinds (ps := ["self", "period", "jitter", "phase"]) 2 [] [("phase", .int 0)] (fun us its mv _ => us ++ (its ++ mv)) (by decide) (by decide) (fun _ h => h) (fun r1 r2 r3 _ => r1.append (r2.append r3))
    fun T D doc pm an cdv ct us its mv ws h1 h2 h3 h4 => match us, its, mv, ws, h1, h2, h3, h4 with | [_, _], [_], [_], [], _, _, _, _ => ⟨_, rfl, _, _, _, _, _, _, rfl, rfl, rfl⟩
  exact ⟨fd, _, G, b⟩
end
end K16

set_option Elab.async false
set_option linter.all false
set_option pp.deepTerms.threshold 14
set_option pp.maxSteps 2500
set_option maxRecDepth 100000
set_option maxHeartbeats 2000000
namespace K16
open PySem PySem.Spec PyProof.Rows L2 Vf 
section
variable {P : Program} {w : World} {K : PySem.W.Frag} {mg : Str → Option Value} {base : Heap}
abbrev CR (K : PySem.W.Frag) : Addr := He.ga K "Record"
def rcf (t : Int) (ti no : Addr) (w : Bool) (lo : Int) : List (Str × V) := putF "lost" (.int lo) (putF "waiting" (.bl w) (putF "notes" (.ref no) (putF "times" (.ref ti) (putF "ticks" (.int t) []))))
theorem rcf_ticks (t : Int) (ti no : Addr) (w : Bool) (lo : Int) : (rcf t ti no w lo).lookup ("ticks" : Str) = some (.int t) := by
  unfold rcf
  rw [lookup_putF, if_neg (by decide +kernel), lookup_putF, if_neg (by decide +kernel), lookup_putF, if_neg (by decide +kernel), lookup_putF, if_neg (by decide +kernel), lookup_putF, if_pos rfl]
theorem rcf_times (t : Int) (ti no : Addr) (w : Bool) (lo : Int) : (rcf t ti no w lo).lookup ("times" : Str) = some (.ref ti) := by
  unfold rcf
  rw [lookup_putF, if_neg (by decide +kernel), lookup_putF, if_neg (by decide +kernel), lookup_putF, if_neg (by decide +kernel), lookup_putF, if_pos rfl]
theorem rcf_notes (t : Int) (ti no : Addr) (w : Bool) (lo : Int) : (rcf t ti no w lo).lookup ("notes" : Str) = some (.ref no) := by
  unfold rcf
  rw [lookup_putF, if_neg (by decide +kernel), lookup_putF, if_neg (by decide +kernel), lookup_putF, if_pos rfl]
theorem rcf_waiting (t : Int) (ti no : Addr) (w : Bool) (lo : Int) : (rcf t ti no w lo).lookup ("waiting" : Str) = some (.bl w) := by
  unfold rcf
  rw [lookup_putF, if_neg (by decide +kernel), lookup_putF, if_pos rfl]
theorem rcf_lost (t : Int) (ti no : Addr) (w : Bool) (lo : Int) : (rcf t ti no w lo).lookup ("lost" : Str) = some (.int lo) := by
  unfold rcf
  rw [lookup_putF, if_pos rfl]
theorem sc_Record_init : FnScope ["self", "ticks", "times", "notes", "waiting", "lost"] ["self", "ticks", "times", "notes", "waiting", "lost"] (defScope s_Record_init) := ⟨rfl, rfl, rfl, by decide +kernel, rfl, by decide +kernel, by decide +kernel⟩
-- slots: 0 self, 1 ticks, 2 times, 3 notes, 4 waiting, 5 lost
def spRecI (K : PySem.W.Frag) : Sp := fun vs H Q _ => ∃ (r dx ti no : Addr) (t lo : Int) (w : Bool), vs = [.ref r, .int t, .ref ti, .ref no, .bl w, .int lo] ∧ H r = some (.ins (CR K) dx []) ∧ Q .non (upd H r (.ins (CR K) dx (rcf t ti no w lo)))
theorem ok_Record_init {fd : FuncData} (F : FnD K ("Record", some "__init__") "__init__" "Record.__init__" s_Record_init fd) (T : RTxt K mg) : OkD P w K mg base CX0 1 ("Record", some "__init__") ["self", "ticks", "times", "notes", "waiting", "lost"] [] (spRecI K) := by
  refine okd F (F.ok sc_Record_init (fun vs H Q E h => ?_) fun cdv A outer s H vs Q E hr h => ?_) fun _ _ _ _ _ _ us hl => match us, hl with | [_, _, _, _, _, _], _ => rfl
  · obtain ⟨r, dx, ti, no, t, lo, w, rfl, _⟩ := h
    rfl
  · obtain ⟨r, dx, ti, no, t, lo, w, rfl, hr1, k⟩ := h
    refine ⟨_, PSs.nox (pss_cons (ps_fld (pv 0) (pv 1) rfl)
  (pss_cons (ps_fld (pv 0) (pv 2) rfl)
  (pss_cons (ps_fld (pv 0) (pv 3) rfl)
  (pss_cons (ps_fld (pv 0) (pv 4) rfl)
  (pss_one (ps_fld (pv 0) (pv 5) rfl)))))), ?_⟩
    refine ⟨_, rfl, _, rfl, r, _, dx, [], rfl, hr1, T.c_Record, T.rA, (by show 0 < 1000; decide), ?_⟩
    refine ⟨_, rfl, _, rfl, r, _, dx, _, rfl, upd_same, T.c_Record, T.rB, (by show 1 < 1000; decide), ?_⟩
    rw [upd_upd]
    refine ⟨_, rfl, _, rfl, r, _, dx, _, rfl, upd_same, T.c_Record, T.rC, (by show 2 < 1000; decide), ?_⟩
    rw [upd_upd]
    refine ⟨_, rfl, _, rfl, r, _, dx, _, rfl, upd_same, T.c_Record, T.rD, (by show 3 < 1000; decide), ?_⟩
    rw [upd_upd]
    refine ⟨_, rfl, _, rfl, r, _, dx, _, rfl, upd_same, T.c_Record, T.rE, (by show 4 < 1000; decide), ?_⟩
    rw [upd_upd]
    exact k
/-! ### looks -/
def lkV : Option Int → V
  | none => .non
  | some q => .int q
theorem lk_scal (o : Option Int) (q : Int) : scal (lkV o) (.int q) = true := by cases o <;> rfl
theorem lk_eq (o : Option Int) (q : Int) : decide (lkV o = .int q) = decide (o = some q) := by
  cases o with
  | none => rfl
  | some p => exact decide_eq_decide.mpr ⟨fun h => by rw [V.int.inj h], fun h => by rw [Option.some.inj h]; rfl⟩
theorem sc_is_due : FnScope ["looks", "spot", "period"] ["looks", "spot", "period"] (defScope s_is_due) := ⟨rfl, rfl, rfl, by decide +kernel, rfl, by decide +kernel, by decide +kernel⟩
-- slots: 0 looks, 1 spot, 2 period
/-- at the spot-th place a look comes due -/
def dueAt (lks : List (Option Int)) (n spot : Nat) : Bool := decide (lks.getD (spot / n) none = some ((spot % n : Nat) : Int))
def spDue1 (K : PySem.W.Frag) : Sp := fun vs H Q _ => ∃ (L : Addr) (lks : List (Option Int)) (spot n : Nat), vs = [.ref L, .int (spot : Int), .int (n : Int)] ∧ SqL K H L (lks.map lkV) ∧ 1 ≤ n ∧ n ≤ 8 ∧ spot / n < lks.length ∧ Q (.bl (dueAt lks n spot)) H
theorem ok_is_due {fd : FuncData} (F : FnD K ("is_due", none) "is_due" "is_due" s_is_due fd) (T : RTxt K mg) : OkF P w K mg base CX0 1 "is_due" ["looks", "spot", "period"] (spDue1 K) := by
  refine okd F (F.ok sc_is_due (fun vs H Q E h => ?_) fun cdv A outer s H vs Q E hr h => ?_) fun _ _ _ _ _ _ us hl => match us, hl with | [_, _, _], _ => rfl
  · obtain ⟨L, lks, spot, n, rfl, _⟩ := h
    rfl
  · obtain ⟨L, lks, spot, n, rfl, hL, n1, n8, hlt, k⟩ := h
    refine ⟨_, PSs.nox (pss_one (ps_ret (pe_cmpR op_eq (pe_ix ix_list (pv 0) (pe_op op_fdiv (pv 1) (pv 2)) (fun _ _ => rfl)) (pe_op op_mod (pv 1) (pv 2)) (nomark _)))), ?_⟩
    have hq : lks[spot / n]? = some (lks[spot / n]'hlt) := List.getElem?_eq_getElem hlt
    refine ⟨_, rfl, _, rfl, _, rfl, (spot : Int), (n : Int), rfl, rfl, ⟨by omega, by show (n : Int) < _; omega⟩, ?_⟩
    refine ⟨L, _, ((spot / n : Nat) : Int), lkV (lks[spot / n]'hlt), rfl, rfl, hL, atI_nat (by rw [List.getElem?_map, hq]; rfl), _, rfl, _, rfl, (spot : Int), (n : Int), rfl, rfl, (by show (0 : Int) < n; omega), ?_⟩
    refine ⟨lk_scal _ _, ?_⟩
    rw [lk_eq]
    have e2 : decide (lks[spot / n]'hlt = some ((spot : Int) % (n : Int))) = dueAt lks n spot := by
      unfold dueAt
      rw [List.getD_eq_getElem?_getD, hq]
      rfl
    rw [e2]
    exact k
end
end K16

set_option Elab.async false
set_option linter.all false
set_option pp.deepTerms.threshold 14
set_option pp.maxSteps 2500
set_option maxRecDepth 100000
set_option maxHeartbeats 2000000
namespace K16
open PySem PySem.Spec PyProof.Rows L2 Vf 
section
variable {P : Program} {w : World} {K : PySem.W.Frag} {mg : Str → Option Value} {base : Heap}
/-! ### notes -/
def nStep (lt : Str → Bool) (s : List (Nat × Str) × Bool × Nat) (p : Str × Bool) : List (Nat × Str) × Bool × Nat :=
  if ((s.2.1 || p.2) && lt p.1) = true then (s.1 ++ [(s.2.2, p.1)], false, s.2.2 + 1) else (s.1, s.2.1 || p.2, s.2.2 + 1)
def nRun (lt : Str → Bool) (l : List (Str × Bool)) : List (Nat × Str) × Bool × Nat := l.foldl (nStep lt) ([], false, 0)
theorem nRun_snoc (lt : Str → Bool) (l : List (Str × Bool)) (p : Str × Bool) : nRun lt (l ++ [p]) = nStep lt (nRun lt l) p := by
  unfold nRun
  rw [List.foldl_append]
  rfl
theorem nStep_tick (lt : Str → Bool) (s : List (Nat × Str) × Bool × Nat) (p : Str × Bool) : (nStep lt s p).2.2 = s.2.2 + 1 := by
  unfold nStep
  split <;> rfl
theorem fold_tick (lt : Str → Bool) : ∀ (l : List (Str × Bool)) (s : List (Nat × Str) × Bool × Nat), (l.foldl (nStep lt) s).2.2 = s.2.2 + l.length
  | [], _ => rfl
  | p :: l, s => by
    rw [List.foldl_cons, fold_tick lt l, nStep_tick, List.length_cons]
    omega
theorem nRun_tick (lt : Str → Bool) (l : List (Str × Bool)) : (nRun lt l).2.2 = l.length := by
  have h := fold_tick lt l ([], false, 0)
  unfold nRun
  rw [h]
  exact Nat.zero_add _
theorem nStep_len (lt : Str → Bool) (s : List (Nat × Str) × Bool × Nat) (p : Str × Bool) : (nStep lt s p).1.length ≤ s.1.length + 1 := by
  unfold nStep
  split
  · show (s.1 ++ [_]).length ≤ _
    rw [List.length_append]
    exact Nat.le_refl _
  · exact Nat.le_succ _
theorem fold_len (lt : Str → Bool) : ∀ (l : List (Str × Bool)) (s : List (Nat × Str) × Bool × Nat), (l.foldl (nStep lt) s).1.length ≤ s.1.length + l.length
  | [], _ => Nat.le_refl _
  | p :: l, s => by
    rw [List.foldl_cons, List.length_cons]
    exact Nat.le_trans (fold_len lt l _) (by have := nStep_len lt s p; omega)
theorem nRun_len (lt : Str → Bool) (l : List (Str × Bool)) : (nRun lt l).1.length ≤ l.length := by
  have h := fold_len lt l ([], false, 0)
  exact Nat.le_trans h (by simp)
/-- the place of this name is let -/
def letQ (xs : List PgE) (z : Str) : Bool := match xs.find? (fun x => x.2.2.z == z) with
  | some x => x.2.2.b
  | none => false
theorem find_row {xs : List PgE} (nd : (zsOf xs).Nodup) {i : Nat} {x : PgE} (h : xs[i]? = some x) : xs.find? (fun y => y.2.2.z == x.2.2.z) = some x := by
  induction xs generalizing i with
  | nil => cases h
  | cons a xs ih =>
    have nd' : a.2.2.z ∉ zsOf xs ∧ (zsOf xs).Nodup := List.nodup_cons.mp nd
    cases i with
    | zero =>
      cases h
      rw [List.find?_cons, beq_self_eq_true]
    | succ i =>
      have hm : x.2.2.z ∈ zsOf xs := List.mem_map_of_mem (List.mem_of_getElem? h)
      rw [List.find?_cons, show (a.2.2.z == x.2.2.z) = false from beq_eq_false_iff_ne.mpr fun e => nd'.1 (e ▸ hm)]
      exact ih nd'.2 h
theorem letQ_row {xs : List PgE} (nd : (zsOf xs).Nodup) {i : Nat} {x : PgE} (h : xs[i]? = some x) : letQ xs x.2.2.z = x.2.2.b := by
  unfold letQ
  rw [find_row nd h]
/-- the list of notes at no -/
def NotesA (H : Hp) (no : Addr) (ns : List (Nat × Str)) : Prop := ∃ rs : List Addr, H no = some (.lst (rs.map V.ref)) ∧ Paired (fun r (p : Nat × Str) => H r = some (.tup [.int (p.1 : Int), .str p.2])) rs ns
theorem paired_imp {α β : Type} {R S : α → β → Prop} (h : ∀ a b, R a b → S a b) : ∀ {xs : List α} {ys : List β}, Paired R xs ys → Paired S xs ys
  | _, _, .nil => .nil
  | _, _, .cons r p => .cons (h _ _ r) (paired_imp h p)
theorem paired_snoc {α β : Type} {R : α → β → Prop} {a : α} {b : β} (r : R a b) : ∀ {xs : List α} {ys : List β}, Paired R xs ys → Paired R (xs ++ [a]) (ys ++ [b])
  | _, _, .nil => .cons r .nil
  | _, _, .cons q p => .cons q (paired_snoc r p)
theorem NotesA.ext {H H' : Hp} {no : Addr} {ns : List (Nat × Str)} (h : NotesA H no ns) (s : Same H H') : NotesA H' no ns := by
  obtain ⟨rs, h1, h2⟩ := h
  exact ⟨rs, s _ _ h1, paired_imp (fun _ _ q => s _ _ q) h2⟩
theorem NotesA.add {H : Hp} {no t : Addr} {ns : List (Nat × Str)} {k : Nat} {z : Str} {vs : List V} (h : NotesA H no ns) (hv : H no = some (.lst vs)) (ht : H t = some (.tup [.int (k : Int), .str z])) : NotesA (upd H no (.lst (vs ++ [.ref t]))) no (ns ++ [(k, z)]) := by
  obtain ⟨rs, h1, h2⟩ := h
  rw [hv] at h1
  cases h1
  refine ⟨rs ++ [t], by rw [upd_same, List.map_append]; rfl, paired_snoc ?_ (paired_imp (fun r p q => ?_) h2)⟩
  · rw [upd_ne (ne_of ht hv (by intro z; cases z))]
    exact ht
  · rw [upd_ne (ne_of q hv (by intro z; cases z))]
    exact q
theorem NotesA.len {H : Hp} {no : Addr} {ns : List (Nat × Str)} (h : NotesA H no ns) : ∃ vs, H no = some (.lst vs) ∧ vs.length = ns.length := by
  obtain ⟨rs, h1, h2⟩ := h
  exact ⟨_, h1, by rw [List.length_map, paired_len h2]⟩
def cntN (zs : List Str) (z : Str) : Nat := (zs.map V.str).countP fun v => eqV v (.str z)
def kvT (xs : List PgE) (zs : List Str) : List (Key × V) := xs.map fun x => (Sum.inr x.2.2.z, V.int (cntN zs x.2.2.z : Int))
def cntT (ds : List Bool) : Nat := (ds.map V.bl).countP fun v => eqV v (.bl true)
def recLost (lt : Str → Bool) (l : List (Str × Bool)) : Int := (cntT (l.map (·.2)) : Int) - ((nRun lt l).1.length : Int) - (if (nRun lt l).2.1 = true then 1 else 0)
/-- the record at r of the ticks l -/
structure RecA (K : PySem.W.Frag) (H : Hp) (r : Addr) (xs : List PgE) (l : List (Str × Bool)) (dx ti no : Addr) : Prop where
  hr : H r = some (.ins (CR K) dx (rcf (l.length : Int) ti no (nRun (letQ xs) l).2.1 (recLost (letQ xs) l)))
  ht : H ti = some (.dK (kvT xs (l.map (·.1))))
  hn : NotesA H no (nRun (letQ xs) l).1
theorem RecA.ext {K : PySem.W.Frag} {H H' : Hp} {r : Addr} {xs : List PgE} {l : List (Str × Bool)} {dx ti no : Addr} (h : RecA K H r xs l dx ti no) (s : Same H H') : RecA K H' r xs l dx ti no := ⟨s _ _ h.hr, s _ _ h.ht, h.hn.ext s⟩
theorem row_of {xs : List PgE} {z : Str} (h : z ∈ zsOf xs) : ∃ (i : Nat) (y : PgE), xs[i]? = some y ∧ y.2.2.z = z := by
  obtain ⟨y, hy, e⟩ := List.mem_map.mp h
  obtain ⟨i, hi⟩ := List.mem_iff_getElem?.mp hy
  exact ⟨i, y, hi, e⟩
theorem sc_record_of : FnScope ["program", "names", "dues", "notes", "waiting", "tick", "name", "times", "lost"] ["program", "names", "dues"] (defScope s_record_of) := ⟨rfl, rfl, rfl, by decide +kernel, rfl, by decide +kernel, by decide +kernel⟩
-- slots: 0 program, 1 names, 2 dues, 3 notes, 4 waiting, 5 tick, 6 name, 7 times, 8 lost
def spRecOf (K : PySem.W.Frag) : Sp := fun vs H Q _ => ∃ (g N D : Addr) (xs : List PgE) (st : Str) (dx tn dP dN : Addr) (l : List (Str × Bool)), vs = [.ref g, .ref N, .ref D] ∧ PgA K H g xs st dx tn dP dN ∧ SqL K H N ((l.map (·.1)).map V.str) ∧ SqL K H D ((l.map (·.2)).map V.bl) ∧ l.length ≤ 10000 ∧ (∀ p ∈ l, p.1 ∈ zsOf xs) ∧
  ∀ H' r dr ti no, Same H H' → RecA K H' r xs l dr ti no → H ti = none → H no = none → Q (.ref r) H'
theorem ok_record_of {fd : FuncData} (F : FnD K ("record_of", none) "record_of" "record_of" s_record_of fd) (T : RTxt K mg) (M : GMeth K) (O_getitem : OkM P w K mg base (L2.CX P w) 4 "Program" "__getitem__" ["self", "at"] (spGet K)) (O_Record_init5 : OkD P w K mg base CX0 1 ("Record", some "__init__") ["self", "ticks", "times", "notes", "waiting", "lost"] [] (spRecI K)) :
    OkF P w K mg base CX0 6 "record_of" ["program", "names", "dues"] (spRecOf K) := by
  refine okd F (F.ok sc_record_of (fun vs H Q E h => ?_) fun cdv A outer s H vs Q E hr h => ?_) fun _ _ _ _ _ _ us hl => match us, hl with | [_, _, _], _ => rfl
  · obtain ⟨g, N, D, xs, st, dx, tn, dP, dN, l, rfl, _⟩ := h
    rfl
  · obtain ⟨g, N, D, xs, st, dx, tn, dP, dN, l, rfl, hg, hN, hD, hl, hz, k⟩ := h
    refine ⟨_, PSs.nox (pss_cons (ps_set (i := 3) sc_record_of.nd rfl (Or.inl rfl) (pe_lst pa_nil))
  (pss_cons (ps_set (i := 4) sc_record_of.nd rfl (Or.inl rfl) pe_bl)
  (pss_cons (ps_for PassesOwn.never rfl (pi_enum (by rfl) T.z_enumerate (pa_cons (pv 1) pa_nil)) (pg_tup rfl (pgs_cons (pg_name (i := 5) sc_record_of.nd rfl (Or.inl rfl)) (pgs_cons (pg_name (i := 6) sc_record_of.nd rfl (Or.inl rfl)) pgs_nil)))
  (pss_cons (ps_set (i := 4) sc_record_of.nd rfl (Or.inl rfl) (pe_orB (pv 4) (pe_one (pe_ix ix_list (pv 2) (pv 5) (fun _ _ => rfl)))))
  (pss_one (ps_if (PW.pt (pw_andB (pt_val (pv 4)) (pw_and1 (pt_val (pe_fld (pe_subO (pv 0) (pv 6) M.m_getitem M.f_getitem O_getitem hr (by decide) passL) rfl))))) (pss_cons (ps_expr (pe_bm PySem.F.plainAttrs_list PySem.F.slot_list_append PySem.F.type_list_append mt_append (pv 3) (pa_cons (pe_tup (pa_cons (pv 5) (pa_cons (pv 6) pa_nil))) pa_nil)))
  (pss_one (ps_set (i := 4) sc_record_of.nd rfl (Or.inl rfl) pe_bl)))
  pss_nil))))
  (pss_cons (ps_setDc (i := 7) (own := [("name", 6)]) (g := gName 6) (tt := tYes) (by rfl) sc_record_of.nd rfl rfl (sw_trueD rfl rfl rfl (by decide +kernel)) (pi_tup (pe_fld (pv 0) rfl)) (blkOk_by (N := ["program", "names", "dues", "notes", "waiting", "tick", "name", "times", "lost"]) (sc := defScope s_record_of) (by decide +kernel)) (fun _ _ _ _ _ => (pg_name (i := 6) sc_record_of.nd rfl (Or.inl rfl))) (fun _ _ _ _ _ => pts_nil) (fun _ _ _ _ _ => (pv 6)) (fun _ _ _ _ _ => (pe_bmK (K := K) rfl PySem.F.plainAttrs_list PySem.F.slot_list_count PySem.F.type_list_count (mt_lcountVK (K := K) rfl) (pv 1) (pa_cons (pv 6) pa_nil))))
  (pss_cons (ps_set (i := 8) sc_record_of.nd rfl (Or.inl rfl) (pe_op op_sub (pe_op op_sub (pe_bm PySem.F.plainAttrs_list PySem.F.slot_list_count PySem.F.type_list_count mt_lcountV (pv 2) (pa_cons pe_bl pa_nil)) (pe_callB (id := "len") call_len_seq (by rfl) T.z_len (by decide +kernel) (pa_cons (pv 3) pa_nil))) (pe_callTy call_int1 (by rfl) T.z_int (by decide +kernel) (pa_cons (pv 4) pa_nil))))
  (pss_one (ps_ret (c_mk T.m_Record O_Record_init5 hr (by decide) T.g_Record pass0 (pa_cons (pe_callB (id := "len") call_len_seq (by rfl) T.z_len (by decide +kernel) (pa_cons (pv 1) pa_nil)) (pa_cons (pv 7) (pa_cons (pv 3) (pa_cons (pv 4) (pa_cons (pv 8) pa_nil))))))))))))), ?_⟩
    refine ⟨(by show 0 ≤ sizeLine; decide), fun no nno => ?_⟩
    have s1 := same_new (o := .lst []) nno
    have hno : NotesA (upd H no (.lst [])) no (nRun (letQ xs) (l.take 0)).1 := ⟨[], upd_same, .nil⟩
    refine ⟨_, rfl, N, _, rfl, s1.seq hN, for_it walk_enum (fun i σ H' => Same H H' ∧ NotesA H' no (nRun (letQ xs) (l.take i)).1 ∧ ∃ v5 v6 : Option V, σ = [some (.ref g), some (.ref N), some (.ref D), some (.ref no), some (.bl (nRun (letQ xs) (l.take i)).2.1), v5, v6, none, none]) ⟨s1, hno, none, none, rfl⟩ (fun i σ H' _ h => h.1.seq hN) ?_ ?_⟩
    · clear hno s1
      rintro i x σ H1 H2 hi ⟨sg, hno, v5, v6, rfl⟩ hy
      obtain ⟨T', x', y', rfl, nT', rfl, hx', hz'⟩ := hy
      cases (Option.some.inj hx')
      rw [List.length_map, List.length_map] at hi
      have hp : l[i]? = some l[i] := List.getElem?_eq_getElem hi
      generalize l[i] = p at hp
      obtain ⟨z, d⟩ := p
      obtain rfl : y' = .str z := by
        replace hz' : ((l.map (·.1)).map V.str)[i]? = some y' := hz'
        rw [List.getElem?_map, List.getElem?_map, hp] at hz'
        exact (Option.some.inj hz').symm
      have sT := sg.trans (same_new (o := .tup [.int (i : Nat), .str z]) nT')
      have hno2 := hno.ext (same_new (o := .tup [.int (i : Nat), .str z]) nT')
      refine ⟨T', _, rfl, SqT.of upd_same, rfl, _, _, rfl, _, _, rfl, rfl, ?_⟩
      generalize upd H1 T' (.tup [.int (i : Nat), .str z]) = H2 at sT hno2 ⊢
      clear hno sg nT'
      have hD2 := sT.seq hD
      have hg2 := hg.ext sT
      have htk := nRun_tick (letQ xs) (l.take i)
      rw [List.length_take, Nat.min_eq_left (Nat.le_of_lt hi)] at htk
      have hst : nRun (letQ xs) (l.take (i + 1)) = nStep (letQ xs) (nRun (letQ xs) (l.take i)) (z, d) := by
        rw [List.take_add_one, hp]
        exact nRun_snoc ..
      generalize hns : nRun (letQ xs) (l.take i) = S at hst hno2 htk ⊢
      obtain ⟨ns, w, tk⟩ := S
      replace htk : tk = i := htk
      subst htk
      replace hno2 : NotesA H2 no ns := hno2
      refine ⟨_, rfl, w, d, (· = H2), rfl, fun _ => ⟨_, rfl, _, rfl, D, _, (tk : Int), .bl d, rfl, rfl, hD2, atI_nat (by rw [List.getElem?_map, List.getElem?_map, hp]; rfl), rfl, rfl⟩, fun _ => rfl, fun H3 e => ?_⟩
      subst e
      obtain ⟨iy, y, hy, hyz⟩ := row_of (hz _ (List.mem_of_getElem? hp))
      replace hyz : y.2.2.z = z := hyz
      obtain ⟨d1, e1⟩ := hg2.pl y (List.mem_of_getElem? hy)
      have hlq : letQ xs z = y.2.2.b := by rw [← hyz]; exact letQ_row hg2.nd hy
      refine ⟨_, rfl, w || d, rfl, y.2.2.b, (· = H3), fun _ => ⟨_, rfl, _, rfl, g, dx, _, rfl, hg2.hg, g, _, xs, st, dx, tn, dP, dN, rfl, hg2, .inl ⟨iy, y, hy, by rw [hyz], y.1, _, d1, _, _, rfl, e1, T.c_Place, T.nT, plf_let .., _, rfl, rfl, rfl⟩⟩, fun _ => rfl, fun H4 e => ?_⟩
      subst e
      rw [← hlq]
      have hs2 : nRun (letQ xs) (l.take (tk + 1)) = if ((w || d) && letQ xs z) = true then (ns ++ [(tk, z)], false, tk + 1) else (ns, w || d, tk + 1) := hst
      refine ite_one (fun e => ?_) fun e => ?_
      · rw [if_pos e] at hs2
        obtain ⟨vs, hvs, hvl⟩ := hno2.len
        have hnl : ns.length ≤ 10000 := by
          have h1 := nRun_len (letQ xs) (l.take tk)
          rw [hns, List.length_take] at h1
          have h1 : ns.length ≤ min tk l.length := h1
          omega
        refine ⟨_, rfl, .inl ⟨rfl, _, SqL.of hvs⟩, _, rfl, _, rfl, (by show 2 ≤ sizeLine; decide), fun a na => ?_⟩
        have sa := same_new (o := .tup [.int (tk : Int), .str z]) na
        refine ⟨no, _, _, rfl, rfl, sa _ _ hvs, ?_, ?_⟩
        · rw [hvl]
          exact Nat.lt_of_le_of_lt hnl (by decide)
        · rw [hs2]
          exact ⟨same_app (sT.trans sa) (Same.refl _) nno, (hno2.ext sa).add (sa _ _ hvs) upd_same, _, _, rfl⟩
      · rw [if_neg (by rw [e]; decide)] at hs2
        rw [hs2]
        exact ⟨sT, hno2, _, _, rfl⟩
    · rintro σ H1 ⟨sg, hno, v5, v6, rfl⟩
      rw [List.length_map, List.length_map, List.take_length] at hno ⊢
      clear s1
      generalize hw : nRun (letQ xs) l = S at hno ⊢
      obtain ⟨ns, w, tk⟩ := S
      have hg1 := hg.ext sg
      have hlz : (zsOf xs).length = xs.length := List.length_map ..
      have hN1 := sg.seq hN
      have hD1 := sg.seq hD
      have allN : ((l.map (·.1)).map V.str).all flatV = true := List.all_eq_true.mpr fun v hv => by
        obtain ⟨z, _, rfl⟩ := List.mem_map.mp hv
        rfl
      have allD : ((l.map (·.2)).map V.bl).all flatV = true := List.all_eq_true.mpr fun v hv => by
        obtain ⟨z, _, rfl⟩ := List.mem_map.mp hv
        rfl
      refine ⟨_, rfl, g, _, dx, _, _, rfl, hg1.hg, T.c_Program, T.nA, pgf_names .., tn, rfl, ⟨_, SqT.of hg1.hn⟩, fun TD nTD => dc_it walk_tup (fun i H' => Same H1 H' ∧ H' TD = some (.dK ((xs.take i).map fun y => ((Sum.inr y.2.2.z : Key), V.int (cntN (l.map (·.1)) y.2.2.z : Int))))) ⟨same_new nTD, by rw [upd_same]; rfl⟩ (fun i H' _ h => SqT.ext (SqT.of hg1.hn) h.1) ?_ ?_⟩
      · rintro i x H8 H' hi ⟨s8, hD8⟩ ⟨rfl, hx⟩
        obtain ⟨y, hy, rfl⟩ := zsAt hx
        refine ⟨rfl, _, rfl, _, rfl, .inl ⟨rfl, _, s8.seq hN1⟩, _, rfl, N, _, _, rfl, rfl, s8.seq hN1, rfl, allN, _, Sum.inr y.2.2.z, rfl, hD8, ?_, same_app s8 (Same.refl _) nTD, ?_⟩
        · rw [List.length_map, List.length_take]
          rw [List.length_map, hlz] at hi
          exact Nat.lt_of_le_of_lt (Nat.min_le_left _ _) (Nat.lt_of_lt_of_le hi (Nat.le_trans hg1.l6 (by decide)))
        · rw [upd_same]
          exact congrArg (fun z => some (HO.dK z)) (put_row (f := fun y => V.int (cntN (l.map (·.1)) y.2.2.z : Int)) hg1.nd hy)
      rintro H8 ⟨s18, hT8⟩
      rw [List.length_map, hlz, List.take_length] at hT8
      replace hno := hno.ext s18
      replace hN1 := s18.seq hN1
      replace hD1 := s18.seq hD1
      obtain ⟨vs, hvs, hvl⟩ := hno.len
      have hnT : H TD = none := by
        cases e : H TD with
        | none => rfl
        | some o =>
          have := sg _ _ e
          rw [nTD] at this
          cases this
      refine ⟨_, rfl, .inl ⟨rfl, _, hD1⟩, D, _, _, rfl, rfl, hD1, rfl, allD, _, rfl, no, _, rfl, .inl (SqL.of hvs), _, _, rfl, rfl, _, rfl, .inr ⟨w, rfl, _, _, rfl, rfl, ?_⟩⟩
      refine ⟨_, rfl, N, _, rfl, .inl hN1, _, rfl, _, rfl, _, rfl, _, rfl, fun r dr nr ndr ne => ⟨r, dr, TD, no, _, _, w, rfl, upd_same, ?_⟩⟩
      have sm : Same H8 (upd (upd (upd H8 dr (.own r)) r (.ins (CR K) dr [])) r (.ins (CR K) dr (rcf (((l.map (·.1)).map V.str).length : Int) TD no w (((List.countP (fun z => eqV z (V.bl true)) ((l.map (·.2)).map V.bl) : Nat) : Int) - (vs.length : Int) - (if w = true then 1 else 0))))) := same_make2 nr ndr
      have hrr : (upd (upd (upd H8 dr (.own r)) r (.ins (CR K) dr [])) r (.ins (CR K) dr (rcf (((l.map (·.1)).map V.str).length : Int) TD no w (((List.countP (fun z => eqV z (V.bl true)) ((l.map (·.2)).map V.bl) : Nat) : Int) - (vs.length : Int) - (if w = true then 1 else 0))))) r = some (.ins (CR K) dr (rcf (((l.map (·.1)).map V.str).length : Int) TD no w (((List.countP (fun z => eqV z (V.bl true)) ((l.map (·.2)).map V.bl) : Nat) : Int) - (vs.length : Int) - (if w = true then 1 else 0)))) := upd_same
      refine ⟨rfl, k _ r dr TD no (sg.trans (s18.trans sm)) ⟨?_, sm _ _ hT8, ?_⟩ hnT nno⟩
      · rw [hrr, hw]
        unfold recLost
        rw [hw, hvl, List.length_map, List.length_map]
        rfl
      · rw [hw]
        exact hno.ext sm
end
end K16

set_option Elab.async false
set_option linter.all false
set_option pp.deepTerms.threshold 14
set_option pp.maxSteps 2500
set_option maxRecDepth 100000
set_option maxHeartbeats 2000000
namespace K16
open PySem PySem.Spec PyProof.Rows L2 Vf 
section
variable {P : Program} {w : World} {K : PySem.W.Frag} {mg : Str → Option Value} {base : Heap}
theorem sc_Program_nexts : FnScope ["self", "name"] ["self"] (defScope s_Program_nexts) := ⟨rfl, rfl, rfl, by decide +kernel, rfl, by decide +kernel, by decide +kernel⟩
-- slots: 0 self, 1 name
/-- the table of nexts, new -/
def spNxT (K : PySem.W.Frag) : Sp := fun vs H Q _ => ∃ (g : Addr) (xs : List PgE) (st : Str) (dx tn dP dN : Addr), vs = [.ref g] ∧ PgA K H g xs st dx tn dP dN ∧ ∀ H' D, Same H H' → H D = none → H' D = some (.dK (kvN xs)) → Q (.ref D) H'
theorem ok_Program_nexts {fd : FuncData} (F : FunD K "nexts" "Program.nexts" (defArgs s_Program_nexts) (defBody s_Program_nexts) (defScope s_Program_nexts) [] [] (gAd K "Program" "nexts") fd) (pr : PropOf K (He.ga K "Program") "nexts" (He.ma K (He.ga K "Program") "nexts") (gAd K "Program" "nexts")) (T : GTxt K mg) : OkG P w K mg base CX0 1 "Program" "nexts" (spNxT K) := by
  refine ⟨⟨fd, F.ok sc_Program_nexts (fun vs H Q E h => ?_) fun cdv A outer s H vs Q E hr h => ?_, F.bindsN fun _ _ _ _ _ _ us hl => match us, hl with | [_], _ => rfl⟩, pr⟩
  · obtain ⟨g, xs, st, dx, tn, dP, dN, rfl, _⟩ := h
    rfl
  · obtain ⟨g, xs, st, dx, tn, dP, dN, rfl, hp, k⟩ := h
    refine ⟨_, PSs.nox (pss_one (ps_ret (pe_dc (own := [("name", 1)]) (g := gName 1) (tt := tYes) (by rfl) sc_Program_nexts.nd (pi_tup (pe_fld (pv 0) rfl)) (blkOk_by (N := ["self", "name"]) (sc := defScope s_Program_nexts) (by decide +kernel)) (fun _ _ _ _ _ => (pg_name (i := 1) sc_Program_nexts.nd rfl (Or.inl rfl))) (fun _ _ _ _ _ => pts_nil) (fun _ _ _ _ _ => (pv 1)) (fun _ _ _ _ _ => (pe_dget (hu_of hr) (pe_fldK (K := K) rfl (pv 0) rfl) (pv 1) (fun _ _ => rfl)))))), ?_⟩
    have hlz : (zsOf xs).length = xs.length := List.length_map ..
    refine ⟨_, rfl, g, _, dx, _, _, rfl, hp.hg, T.c_Program, T.nA, pgf_names .., tn, rfl, ⟨_, SqT.of hp.hn⟩, fun D nD => dc_it walk_tup (fun i H' => Same H H' ∧ H' D = some (.dK ((xs.take i).map fun y => ((Sum.inr y.2.2.z : Key), V.ref y.2.1)))) ⟨same_new nD, by rw [upd_same]; rfl⟩ (fun i H' _ h => SqT.ext (SqT.of hp.hn) h.1) ?_ ?_⟩
    · rintro i x H8 H' hi ⟨sg, hD2⟩ ⟨rfl, hx⟩
      obtain ⟨y, hy, rfl⟩ := zsAt hx
      have hq := hp.ext sg
      refine ⟨rfl, _, rfl, _, rfl, g, _, dx, _, _, rfl, hq.hg, T.c_Program, T.nD, pgf_nexts .., _, rfl, dN, _, rfl, dget_of hq.hN (val_row (f := fun y => V.ref y.2.1) hp.nd hy), _, Sum.inr y.2.2.z, rfl, hD2, ?_, same_app sg (Same.refl _) nD, ?_⟩
      · rw [List.length_map, List.length_take]
        rw [List.length_map, hlz] at hi
        exact Nat.lt_of_le_of_lt (Nat.min_le_left _ _) (Nat.lt_of_lt_of_le hi (Nat.le_trans hp.l6 (by decide)))
      · rw [upd_same, put_row (f := fun y => V.ref y.2.1) hp.nd hy]
    rintro H8 ⟨s78, hD2⟩
    rw [List.length_map, hlz, List.take_length] at hD2
    exact k H8 D s78 nD hD2
/-- the list of stays at S -/
def StsA (H : Hp) (S : Addr) (sts : List (Str × Int)) : Prop := ∃ rs : List Addr, H S = some (.lst (rs.map V.ref)) ∧ Paired (fun r (p : Str × Int) => H r = some (.tup [.str p.1, .int p.2])) rs sts
theorem StsA.ext {H H' : Hp} {S : Addr} {sts : List (Str × Int)} (h : StsA H S sts) (s : Same H H') : StsA H' S sts := by
  obtain ⟨rs, h1, h2⟩ := h
  exact ⟨rs, s _ _ h1, paired_imp (fun _ _ q => s _ _ q) h2⟩
theorem paired_at {α β : Type} {R : α → β → Prop} : ∀ {xs : List α} {ys : List β} {i : Nat} {x : α}, Paired R xs ys → xs[i]? = some x → ∃ y, ys[i]? = some y ∧ R x y
  | _, _, i, _, .nil, h => by cases h
  | _, _, 0, _, .cons r _, h => by cases h; exact ⟨_, rfl, r⟩
  | _, _, i + 1, _, .cons _ p, h => paired_at (i := i) p h
theorem paired_at2 {α β : Type} {R : α → β → Prop} : ∀ {xs : List α} {ys : List β} {i : Nat} {y : β}, Paired R xs ys → ys[i]? = some y → ∃ x, xs[i]? = some x ∧ R x y
  | _, _, i, _, .nil, h => by cases h
  | _, _, 0, _, .cons r _, h => by cases h; exact ⟨_, rfl, r⟩
  | _, _, i + 1, _, .cons _ p, h => paired_at2 (i := i) p h
/-- the stays are a way through the program -/
structure StsOk (xs : List PgE) (st : Str) (sts : List (Str × Int)) : Prop where
  ne : sts ≠ []
  h0 : ∀ p, sts[0]? = some p → p.1 = st
  hs : ∀ j p, sts[j]? = some p → ∃ (i : Nat) (x : PgE), xs[i]? = some x ∧ x.2.2.z = p.1 ∧ 1 ≤ p.2 ∧ p.2 ≤ x.2.2.m ∧ (j + 1 < sts.length → x.2.2.l ≤ p.2) ∧ ∀ p', sts[j + 1]? = some p' → p'.1 ∈ x.2.2.ns
/-- what is no list -/
inductive NoLst (H : Hp) : V → Prop where
  | int (q : Int) : NoLst H (.int q)
  | non : NoLst H .non
  | str (z : Str) : NoLst H (.str z)
  | tup {a : Addr} {xs : List V} (h : H a = some (.tup xs)) : NoLst H (.ref a)
  | dic {a : Addr} {kvs : List (Key × V)} (h : H a = some (.dK kvs)) : NoLst H (.ref a)
theorem NoLst.ext {H H' : Hp} {x : V} (o : NoLst H x) (s : Same H H') : NoLst H' x := by
  cases o with
  | int q => exact .int q
  | non => exact .non
  | str z => exact .str z
  | tup h => exact .tup (s _ _ h)
  | dic h => exact .dic (s _ _ h)
theorem noLst_ty (K : PySem.W.Frag) {H : Hp} {x : V} (o : NoLst H x) : ∃ t, TyX K H x t ∧ PySem.W.kitOne K t (.type "list") = some false := by
  cases o with
  | int q =>
    obtain ⟨t, h, _⟩ := int_ty K H q
    exact ⟨_, .base (.int q), kit_ty (by decide +kernel)⟩
  | non => exact ⟨_, .base .non, kit_ty (by decide +kernel)⟩
  | str z => exact ⟨_, .base (.str z), kit_ty (by decide +kernel)⟩
  | tup h => exact ⟨_, .base (.tup h), kit_ty (by decide +kernel)⟩
  | dic h => exact ⟨_, .base (.dK h), kit_ty (by decide +kernel)⟩
/-- a value that is no reference -/
inductive Flt : V → Prop where
  | int (q : Int) : Flt (.int q)
  | non : Flt .non
  | str (z : Str) : Flt (.str z)
  | bl (b : Bool) : Flt (.bl b)
/-- what stands in a list of stays: a tuple of these, or no tuple -/
def StV (H : Hp) (v : V) : Option (List V) → Prop
  | none => v = .non ∨ ∃ (a : Addr) (us : List V), v = .ref a ∧ H a = some (.lst us)
  | some ts => ∃ a : Addr, v = .ref a ∧ H a = some (.tup ts) ∧ ∀ t ∈ ts, Flt t
theorem StV.ext {H H' : Hp} {v : V} {d : Option (List V)} (h : StV H v d) (s : Same H H') : StV H' v d := by
  cases d with
  | none =>
    rcases h with rfl | ⟨a, us, rfl, h⟩
    · exact .inl rfl
    · exact .inr ⟨a, us, rfl, s _ _ h⟩
  | some ts =>
    obtain ⟨a, rfl, h, f⟩ := h
    exact ⟨a, rfl, s _ _ h, f⟩
/-- what is handed in as stays -/
def StsX (H : Hp) (x : V) : Option (List (Option (List V))) → Prop
  | none => NoLst H x
  | some ds => ∃ (L : Addr) (us : List V), x = .ref L ∧ H L = some (.lst us) ∧ Paired (StV H) us ds
theorem StsX.ext {H H' : Hp} {x : V} {o : Option (List (Option (List V)))} (h : StsX H x o) (s : Same H H') : StsX H' x o := by
  cases o with
  | none => exact NoLst.ext h s
  | some ds =>
    obtain ⟨L, us, h1, h2, h3⟩ := h
    exact ⟨L, us, h1, s _ _ h2, paired_imp (fun _ _ q => StV.ext q s) h3⟩
def rwOf (xs : List PgE) : List Rw := xs.map fun x => x.2.2
theorem find_rw {xs : List PgE} (nd : (zsOf xs).Nodup) {i : Nat} {x : PgE} (h : xs[i]? = some x) : (rwOf xs).find? (fun r => r.z == x.2.2.z) = some x.2.2 := by
  unfold rwOf
  rw [List.find?_map]
  have := find_row nd h
  rw [show ((fun r : Rw => r.z == x.2.2.z) ∘ fun x : PgE => x.2.2) = fun y : PgE => y.2.2.z == x.2.2.z from rfl, this]
  rfl
/-- the row of a stay that keeps the rules -/
def stFit (rs : List Rw) (al : List Str) (last : Bool) : Option (List V) → Option Rw
  | some [.str z, .int q] => match rs.find? (fun r => r.z == z) with
    | some r => if z ∈ al ∧ (if last = true then 1 else r.l) ≤ q ∧ q ≤ r.m then some r else none
    | none => none
  | _ => none
/-- the first stay that breaks a rule -/
def stBad (rs : List Rw) : List Str → List (Option (List V)) → Option Nat
  | _, [] => none
  | al, d :: ds => match stFit rs al ds.isEmpty d with
    | none => some 0
    | some r => (stBad rs r.ns ds).map (· + 1)
def stDue (rs : List Rw) (st : Str) : Option (List (Option (List V))) → Option Int
  | none => some (-1)
  | some ds => if ds.isEmpty = true then some (-1) else (stBad rs [st] ds).map fun k => (k : Int)
theorem drop_of {α : Type} {ds : List α} {j : Nat} {d : α} (h : ds[j]? = some d) : ds.drop j = d :: ds.drop (j + 1) := by
  obtain ⟨hj, rfl⟩ := List.getElem?_eq_some_iff.mp h
  exact List.drop_eq_getElem_cons hj
theorem stBad_stop {rs : List Rw} {st : Str} {al : List Str} {ds : List (Option (List V))} {j : Nat} {d : Option (List V)} (h : stBad rs [st] ds = (stBad rs al (ds.drop j)).map (· + j)) (hd : ds[j]? = some d) (hf : stFit rs al (ds.drop (j + 1)).isEmpty d = none) : stDue rs st (some ds) = some (j : Int) := by
  rw [drop_of hd, stBad, hf] at h
  have hne : ds.isEmpty = false := by
    cases ds with
    | nil => cases hd
    | cons a l => rfl
  unfold stDue
  simp only []
  rw [hne, if_neg (by decide), h]
  simp
theorem stBad_go {rs : List Rw} {st : Str} {al : List Str} {ds : List (Option (List V))} {j : Nat} {d : Option (List V)} {r : Rw} (h : stBad rs [st] ds = (stBad rs al (ds.drop j)).map (· + j)) (hd : ds[j]? = some d) (hf : stFit rs al (ds.drop (j + 1)).isEmpty d = some r) : stBad rs [st] ds = (stBad rs r.ns (ds.drop (j + 1))).map (· + (j + 1)) := by
  rw [drop_of hd, stBad, hf] at h
  rw [h]
  simp only [Option.map_map]
  congr 1
  funext k
  simp only [Function.comp]
  omega
theorem stBad_end {rs : List Rw} {st : Str} {al : List Str} {ds : List (Option (List V))} (h : stBad rs [st] ds = (stBad rs al (ds.drop ds.length)).map (· + ds.length)) (hne : ds ≠ []) : stDue rs st (some ds) = none := by
  rw [List.drop_length, stBad] at h
  unfold stDue
  simp only []
  rw [if_neg (by cases ds with | nil => exact absurd rfl hne | cons a l => simp), h]
  rfl
theorem last_iff {α β : Type} {us : List α} {ds : List β} {j : Nat} (hl : us.length = ds.length) (hj : j < us.length) : (ds.drop (j + 1)).isEmpty = decide ((j : Int) = (us.length : Int) - 1) := by
  rw [Bool.eq_iff_iff, List.isEmpty_iff, List.drop_eq_nil_iff, decide_eq_true_iff]
  omega
/-- stays that are taken are a way through the program -/
theorem stBad_ok {xs : List PgE} (nd : (zsOf xs).Nodup) (hl : ∀ x ∈ xs, 1 ≤ x.2.2.l) : ∀ {ds : List (Option (List V))} {al : List Str}, stBad (rwOf xs) al ds = none → ∃ sts : List (Str × Int), ds = sts.map (fun p => some [.str p.1, .int p.2]) ∧ (∀ p, sts[0]? = some p → p.1 ∈ al) ∧
    ∀ j p, sts[j]? = some p → ∃ (i : Nat) (x : PgE), xs[i]? = some x ∧ x.2.2.z = p.1 ∧ 1 ≤ p.2 ∧ p.2 ≤ x.2.2.m ∧ (j + 1 < sts.length → x.2.2.l ≤ p.2) ∧ ∀ p', sts[j + 1]? = some p' → p'.1 ∈ x.2.2.ns
  | [], al, _ => ⟨[], rfl, (fun _ h => nomatch h), (fun _ _ h => nomatch h)⟩
  | d :: ds, al, h => by
    rw [stBad] at h
    cases hf : stFit (rwOf xs) al ds.isEmpty d with
    | none =>
      rw [hf] at h
      cases h
    | some r =>
      rw [hf] at h
      have h' : stBad (rwOf xs) r.ns ds = none := by
        cases hb : stBad (rwOf xs) r.ns ds with
        | none => rfl
        | some k =>
          simp only [] at h
          rw [hb] at h
          cases h
      obtain ⟨sts, rfl, h0, hs⟩ := stBad_ok nd hl h'
      unfold stFit at hf
      split at hf
      case h_2 => cases hf
      rename_i z q
      split at hf
      case h_2 => cases hf
      rename_i r' hfind
      obtain ⟨hc, hf⟩ := Option.ite_none_right_eq_some.mp hf
      cases hf
      obtain ⟨hz, hlo, hhi⟩ := hc
      have hrm := List.mem_of_find?_eq_some hfind
      have hrz := List.find?_some hfind
      replace hrz : r.z = z := by simpa using hrz
      obtain ⟨x, hx, hxr⟩ := List.mem_map.mp hrm
      obtain ⟨i, hi⟩ := List.mem_iff_getElem?.mp hx
      have hlx := hl x hx
      refine ⟨(z, q) :: sts, rfl, fun p hp => ?_, fun j p hp => ?_⟩
      · cases hp
        exact hz
      · cases j with
        | succ j =>
          obtain ⟨i', x', a1, a2, a3, a4, a5, a6⟩ := hs j p hp
          exact ⟨i', x', a1, a2, a3, a4, fun z => a5 (by simp at z; omega), a6⟩
        | zero =>
          cases hp
          refine ⟨i, x, hi, by rw [hxr, hrz], ?_, by rw [hxr]; exact hhi, fun hj => ?_, fun p' hp' => ?_⟩
          · show 1 ≤ q
            have hlr : 1 ≤ r.l := by rw [← hxr]; exact hlx
            split at hlo <;> omega
          · have : (sts.map fun p : Str × Int => some [V.str p.1, V.int p.2]).isEmpty = false := by
              cases sts with
              | nil => simp at hj
              | cons a l => rfl
            rw [this, if_neg (by decide)] at hlo
            rw [hxr]
            exact hlo
          · rw [hxr]
            exact h0 p' hp'
theorem stDue_ok {xs : List PgE} {st : Str} (nd : (zsOf xs).Nodup) (hl : ∀ x ∈ xs, 1 ≤ x.2.2.l) {o : Option (List (Option (List V)))} (h : stDue (rwOf xs) st o = none) : ∃ sts : List (Str × Int), o = some (sts.map fun p => some [.str p.1, .int p.2]) ∧ StsOk xs st sts := by
  cases o with
  | none => cases h
  | some ds =>
    unfold stDue at h
    simp only [] at h
    split at h
    · cases h
    rename_i hne
    have hb : stBad (rwOf xs) [st] ds = none := by
      cases hb : stBad (rwOf xs) [st] ds with
      | none => rfl
      | some k =>
        rw [hb] at h
        cases h
    obtain ⟨sts, rfl, h0, hs⟩ := stBad_ok nd hl hb
    refine ⟨sts, rfl, ⟨fun e => ?_, fun p hp => List.mem_singleton.mp (h0 p hp), hs⟩⟩
    subst e
    exact hne rfl
theorem StsX.sts {H : Hp} {x : V} {sts : List (Str × Int)} (h : StsX H x (some (sts.map fun p => some [.str p.1, .int p.2]))) : ∃ L : Addr, x = .ref L ∧ StsA H L sts := by
  obtain ⟨L, us, rfl, hL, hp⟩ := h
  have : ∀ (us : List V) (sts : List (Str × Int)), Paired (StV H) us (sts.map fun p => some [.str p.1, .int p.2]) → ∃ rs : List Addr, us = rs.map V.ref ∧ Paired (fun r (p : Str × Int) => H r = some (.tup [.str p.1, .int p.2])) rs sts := fun us => by
    induction us with
    | nil =>
      intro sts h
      cases sts with
      | nil => exact ⟨[], rfl, .nil⟩
      | cons a l => cases h
    | cons u us ih =>
      intro sts h
      cases sts with
      | nil => cases h
      | cons a l =>
        cases h with
        | cons h1 h2 =>
          obtain ⟨r, rfl, hr, _⟩ := h1
          obtain ⟨rs, rfl, hrs⟩ := ih l h2
          exact ⟨r :: rs, rfl, .cons hr hrs⟩
  obtain ⟨rs, rfl, hrs⟩ := this us sts hp
  exact ⟨L, rfl, rs, hL, hrs⟩
/-- is it a tuple of a name of a place and an integer -/
def isStB (zs : List Str) : Option (List V) → Bool
  | some [.str z, .int _] => decide (z ∈ zs)
  | _ => false
theorem noTup_ty (K : PySem.W.Frag) {H : Hp} {v : V} (h : StV H v none) : ∃ t, TyX K H v t ∧ PySem.W.kitOne K t (.type "tuple") = some false := by
  rcases h with rfl | ⟨a, us, rfl, h⟩
  · exact ⟨_, .base .non, kit_ty (by decide +kernel)⟩
  · exact ⟨_, .base (.lst h), kit_ty (by decide +kernel)⟩
theorem two_of {α : Type} {ts : List α} (h : ts.length = 2) : ∃ a b, ts = [a, b] := by
  match ts, h with
  | [a, b], _ => exact ⟨a, b, rfl⟩
theorem sc_is_stay : FnScope ["program", "stay"] ["program", "stay"] (defScope s_is_stay) := ⟨rfl, rfl, rfl, by decide +kernel, rfl, by decide +kernel, by decide +kernel⟩
-- slots: 0 program, 1 stay
def spIsSt (K : PySem.W.Frag) : Sp := fun vs H Q _ => ∃ (g : Addr) (v : V) (d : Option (List V)) (xs : List PgE) (st : Str) (dx tn dP dN : Addr), vs = [.ref g, v] ∧ PgA K H g xs st dx tn dP dN ∧ StV H v d ∧ Q (.bl (isStB (zsOf xs) d)) H
theorem ok_is_stay {fd : FuncData} (F : FnD K ("is_stay", none) "is_stay" "is_stay" s_is_stay fd) (T : RTxt K mg) (M : GMeth K) (O_contains : OkM P w K mg base CX0 2 "Program" "__contains__" ["self", "x"] (spCon K)) (O_is_integer : OkF P w K mg base CX0 1 "is_integer" ["x"] spIsInt) : OkF P w K mg base CX0 3 "is_stay" ["program", "stay"] (spIsSt K) := by
  refine okd F (F.ok sc_is_stay (fun vs H Q E h => ?_) fun cdv A outer s H vs Q E hr h => ?_) fun _ _ _ _ _ _ us hl => match us, hl with | [_, _], _ => rfl
  · obtain ⟨g, v, d, xs, st, dx, tn, dP, dN, rfl, _⟩ := h
    rfl
  · obtain ⟨g, v, d, xs, st, dx, tn, dP, dN, rfl, hg, hS, q⟩ := h
    refine ⟨_, PSs.nox (pss_one (ps_ret (pe_and (pe_callB (id := "isinstance") call_isi (by rfl) T.z_isinstance (by decide +kernel) (pa_cons (pv 1) (pa_cons (pe_ty (n := "tuple") T.z_tuple (by decide +kernel)) pa_nil))) (pe_and (pe_cmpR op_eq (pe_callB (id := "len") call_len_seq (by rfl) T.z_len (by decide +kernel) (pa_cons (pv 1) pa_nil)) pe_int (nomark _)) (pe_and (pe_cmpR (op_inO M.m_contains O_contains hr (by decide)) (pe_ix ix_tup (pv 1) pe_int (fun _ _ => rfl)) (pv 0) rfl) (pe_one (c_fn O_is_integer hr (by decide) T.g_is_integer pass0 (pa_cons (pe_ix ix_tup (pv 1) pe_int (fun _ _ => rfl)) pa_nil)))))))), ?_⟩
    cases d with
    | none =>
      obtain ⟨t, ht, hk⟩ := noTup_ty K hS
      exact ⟨_, rfl, v, .ty "tuple", t, .type "tuple", false, rfl, .ty _, ht, hk, false, rfl, iteF q⟩
    | some ts =>
      obtain ⟨r, rfl, hr, hfl⟩ := hS
      refine ⟨_, rfl, .ref r, .ty "tuple", .type "tuple", .type "tuple", true, rfl, .ty _, .base (.tup hr), kit_ty (by decide +kernel), true, rfl, iteT ?_⟩
      by_cases hl : ts.length = 2
      case neg =>
        have e : isStB (zsOf xs) (some ts) = false := by
          unfold isStB
          split
          · rename_i he
            cases he
            exact absurd rfl hl
          · rfl
        rw [e] at q
        exact ⟨_, rfl, r, _, rfl, .inr (SqT.of hr), rfl, false, congrArg V.bl (decide_eq_false fun z => hl (by have := V.int.inj z; omega)), iteF q⟩
      obtain ⟨a, b, rfl⟩ := two_of hl
      refine ⟨_, rfl, r, _, rfl, .inr (SqT.of hr), rfl, true, rfl, iteT ?_⟩
      have fa := hfl a List.mem_cons_self
      have fb := hfl b (List.mem_cons_of_mem _ List.mem_cons_self)
      refine ⟨_, rfl, r, _, 0, a, rfl, rfl, SqT.of hr, atI0, _, rfl, g, dx, _, rfl, hg.hg, g, _, xs, st, dx, tn, dP, dN, rfl, hg, ?_⟩
      cases fa with
      | int n => exact .inr ⟨.int n, _, rfl, _, rfl, iteF q⟩
      | non => exact .inr ⟨.non, _, rfl, _, rfl, iteF q⟩
      | bl c => exact .inr ⟨.bl c, _, rfl, _, rfl, iteF q⟩
      | str z =>
        refine .inl ⟨z, rfl, _, rfl, _, rfl, ?_⟩
        by_cases hz : z ∈ zsOf xs
        · rw [decide_eq_true hz]
          refine iteT ⟨_, rfl, r, _, 1, b, rfl, rfl, SqT.of hr, atI1, _, rfl, ?_⟩
          cases fb with
          | int n => exact .inl ⟨⟨n, rfl⟩, by unfold isStB at q; simp only [] at q; rwa [decide_eq_true hz] at q⟩
          | non => exact .inr ⟨.non, q⟩
          | bl c => exact .inr ⟨.bl c, q⟩
          | str z => exact .inr ⟨.str z, q⟩
        · rw [decide_eq_false hz]
          have e : isStB (zsOf xs) (some [.str z, b]) = false := by
            cases fb with
            | int n => exact decide_eq_false hz
            | non => rfl
            | bl c => rfl
            | str z => rfl
          rw [e] at q
          exact iteF q
theorem isStB_of {zs : List Str} {d : Option (List V)} (h : isStB zs d = true) : ∃ z q, d = some [.str z, .int q] ∧ z ∈ zs := by
  unfold isStB at h
  split at h
  · rename_i z q
    exact ⟨z, q, rfl, of_decide_eq_true h⟩
  · cases h
theorem isStB_no {xs : List PgE} {al : List Str} {l : Bool} {d : Option (List V)} (h : isStB (zsOf xs) d = false) : stFit (rwOf xs) al l d = none := by
  unfold stFit
  split
  · rename_i z q
    have hz : z ∉ zsOf xs := of_decide_eq_false h
    split
    · rename_i r hf
      obtain ⟨x, hx, e⟩ := List.mem_map.mp (List.mem_of_find?_eq_some hf)
      have e2 : r.z = z := by simpa using List.find?_some hf
      exact absurd (List.mem_map.mpr ⟨x, hx, by rw [e, e2]⟩) hz
    · rfl
  · rfl
theorem stFit_row {xs : List PgE} (nd : (zsOf xs).Nodup) {i : Nat} {y : PgE} (hy : xs[i]? = some y) (al : List Str) (l : Bool) (q : Int) : stFit (rwOf xs) al l (some [.str y.2.2.z, .int q]) = if y.2.2.z ∈ al ∧ (if l = true then 1 else y.2.2.l) ≤ q ∧ q ≤ y.2.2.m then some y.2.2 else none := by
  unfold stFit
  simp only []
  rw [find_rw nd hy]
theorem sc_check_stays : FnScope ["program", "stays", "nexts", "allowed", "at", "stay", "place", "least"] ["program", "stays"] (defScope s_check_stays) := ⟨rfl, rfl, rfl, by decide +kernel, rfl, by decide +kernel, by decide +kernel⟩
-- slots: 0 program, 1 stays, 2 nexts, 3 allowed, 4 at, 5 stay, 6 place, 7 least
def spChkSt (K : PySem.W.Frag) : Sp := fun vs H Q E => ∃ (g : Addr) (x : V) (o : Option (List (Option (List V)))) (xs : List PgE) (st : Str) (dx tn dP dN : Addr), vs = [.ref g, x] ∧ PgA K H g xs st dx tn dP dN ∧ StsX H x o ∧
  (∀ k, stDue (rwOf xs) st o = some k → ∀ H' d, Same H H' → H' d = none → E (.ref (He.ga K "BadStay")) (some d) (upd H' d (.xd [("index", .int k)]))) ∧ (stDue (rwOf xs) st o = none → ∀ H', Same H H' → Q .non H')
theorem ok_check_stays {fd : FuncData} (F : FnD K ("check_stays", none) "check_stays" "check_stays" s_check_stays fd) (T : RTxt K mg) (M : GMeth K) (O_is_stay : OkF P w K mg base CX0 3 "is_stay" ["program", "stay"] (spIsSt K)) (O_getitem : OkM P w K mg base (L2.CX P w) 4 "Program" "__getitem__" ["self", "at"] (spGet K)) (O_nexts : OkG P w K mg base CX0 1 "Program" "nexts" (spNxT K))
    (O_BadStay_init : OkD P w K mg base CX0 1 ("BadStay", some "__init__") ["self", "index"] [] (spExI K (He.ga K "BadStay") "index")) : OkF P w K mg base (L2.CX P w) 6 "check_stays" ["program", "stays"] (spChkSt K) := by
  refine okd F (F.ok sc_check_stays (fun vs H Q E h => ?_) fun cdv A outer s H vs Q E hr h => ?_) fun _ _ _ _ _ _ us hl => match us, hl with | [_, _], _ => rfl
  · obtain ⟨g, x, o, xs, st, dx, tn, dP, dN, rfl, _⟩ := h
    rfl
  · obtain ⟨g, x, o, xs, st, dx, tn, dP, dN, rfl, hg, hx, kb, k⟩ := h
    refine ⟨_, (pss_cons (ps_if (PW.pt (pw_orB (pt_not (pt_val (pe_callB (id := "isinstance") call_isi (by rfl) T.z_isinstance (by decide +kernel) (pa_cons (pv 1) (pa_cons (pe_ty (n := "list") T.z_list (by decide +kernel)) pa_nil))))) (pw_or1 (pt_cmpR op_eq (pe_callB (id := "len") call_len_seq (by rfl) T.z_len (by decide +kernel) (pa_cons (pv 1) pa_nil)) pe_int (nomark _))))) (pss_one (c_raise T.x_BadStay O_BadStay_init hr (by decide) T.g_BadStay (takes_of rfl rfl rfl rfl) (pa_cons (pe_un un_neg pe_int) pa_nil)))
  pss_nil)
  (pss_cons (ps_set (i := 2) sc_check_stays.nd rfl (Or.inl rfl) (pe_propG (pv 0) T.c_Program O_nexts hr (by decide) rfl))
  (pss_cons (ps_set (i := 3) sc_check_stays.nd rfl (Or.inl rfl) (pe_tup (pa_cons (pe_fld (pv 0) rfl) pa_nil)))
  (pss_one (ps_for (passes_of rfl) rfl (pi_enum (by rfl) T.z_enumerate (pa_cons (pv 1) pa_nil)) (pg_tup rfl (pgs_cons (pg_name (i := 4) sc_check_stays.nd rfl (Or.inl rfl)) (pgs_cons (pg_name (i := 5) sc_check_stays.nd rfl (Or.inl rfl)) pgs_nil)))
  (pss_cons (ps_if (PW.pt (pw_orB (pt_not (pt_val (c_fn O_is_stay hr (by decide) T.g_is_stay pass0 (pa_cons (pv 0) (pa_cons (pv 5) pa_nil))))) (pw_or1 (pt_cmpR op_notIn_seq (pe_ix ix_tup (pv 5) pe_int (fun _ _ => rfl)) (pv 3) rfl)))) (pss_one (c_raise T.x_BadStay O_BadStay_init hr (by decide) T.g_BadStay (takes_of rfl rfl rfl rfl) (pa_cons (pv 4) pa_nil)))
  pss_nil)
  (pss_cons (ps_set (i := 6) sc_check_stays.nd rfl (Or.inl rfl) (pe_subO (pv 0) (pe_ix ix_tup (pv 5) pe_int (fun _ _ => rfl)) M.m_getitem M.f_getitem O_getitem hr (by decide) passL))
  (pss_cons (ps_set (i := 7) sc_check_stays.nd rfl (Or.inl rfl) (pe_ifExpB (pt_cmpR op_eq (pv 4) (pe_op op_sub (pe_callB (id := "len") call_len_seq (by rfl) T.z_len (by decide +kernel) (pa_cons (pv 1) pa_nil)) pe_int) (nomark _)) pe_int (pe_fld (pv 6) rfl)))
  (pss_cons (ps_if (pt_not (pt_chain op_le op_le (pv 7) (pe_ix ix_tup (pv 5) pe_int (fun _ _ => rfl)) (pe_fld (pv 6) rfl))) (pss_one (c_raise T.x_BadStay O_BadStay_init hr (by decide) T.g_BadStay (takes_of rfl rfl rfl rfl) (pa_cons (pv 4) pa_nil)))
  pss_nil)
  (pss_one (ps_set (i := 3) sc_check_stays.nd rfl (Or.inl rfl) (pe_dget (hu_of hr) (pv 2) (pe_ix ix_tup (pv 5) pe_int (fun _ _ => rfl)) (fun _ _ => rfl))))))))))))), ?_⟩
    cases o with
    | none =>
      obtain ⟨t, ht, hk⟩ := noLst_ty K hx
      refine ⟨_, rfl, x, .ty "list", t, .type "list", false, rfl, .ty _, ht, hk, false, rfl, true, (· = H), (fun z => nomatch z), fun _ => rfl, fun H1 e => ?_⟩
      subst e
      exact iteT ⟨_, rfl, _, rfl, fun d hd => kb (-1) rfl H1 d (Same.refl _) hd⟩
    | some ds =>
    obtain ⟨S, us, rfl, hS, hps⟩ := hx
    have hrl : us.length = ds.length := paired_len hps
    refine ⟨_, rfl, .ref S, .ty "list", .type "list", .type "list", true, rfl, .ty _, .base (.lst hS), kit_ty (by decide +kernel), true, rfl, decide (us.length = 0), (· = H), fun _ => ⟨_, rfl, S, _, rfl, .inl (SqL.of hS), rfl, _, rfl, ?_, rfl⟩, fun _ => rfl, fun H1 e => ?_⟩
    · exact decide_eq_decide.mpr ⟨fun e => by have := V.int.inj e; omega, fun e => by rw [e]; rfl⟩
    subst e
    by_cases hne : us.length = 0
    case pos =>
      rw [decide_eq_true hne]
      refine iteT ⟨_, rfl, _, rfl, fun d hd => kb (-1) ?_ H1 d (Same.refl _) hd⟩
      have : ds = [] := List.length_eq_zero_iff.mp (by omega)
      subst this
      rfl
    rw [decide_eq_false hne]
    refine iteF ?_
    refine ⟨_, rfl, g, dx, _, rfl, hg.hg, g, xs, st, dx, tn, dP, dN, rfl, hg, fun H2 ND s2 nND hND => ?_⟩
    have hg2 := hg.ext s2
    refine ⟨_, rfl, g, _, dx, _, _, rfl, hg2.hg, T.c_Program, T.nB, pgf_start .., (by show 1 ≤ sizeLine; decide), fun al nal => ?_⟩
    have s3 := same_new (o := .tup [.str st]) nal
    have hal : (upd H2 al (.tup [.str st])) al = some (.tup ([st].map V.str)) := upd_same
    have sg3 := s2.trans s3
    generalize upd H2 al (.tup [.str st]) = H3 at s3 hal sg3 ⊢
    refine ⟨_, rfl, S, _, rfl, SqL.of (sg3 _ _ hS), for_it walk_enum (fun j σ H' => Same H1 H' ∧ H' ND = some (.dK (kvN xs)) ∧ (∃ (al : Addr) (als : List Str), H' al = some (.tup (als.map V.str)) ∧ stBad (rwOf xs) [st] ds = (stBad (rwOf xs) als (ds.drop j)).map (· + j) ∧ ∃ v4 v5 v6 v7 : Option V, σ = [some (.ref g), some (.ref S), some (.ref ND), some (.ref al), v4, v5, v6, v7])) ⟨sg3, s3 _ _ hND, al, [st], hal, ?_, none, none, none, none, rfl⟩ (fun j σ H' _ h => SqL.of (h.1 _ _ hS)) ?_ ?_⟩
    · rw [List.drop_zero]
      cases stBad (rwOf xs) [st] ds <;> rfl
    · clear hal sg3 s3 nal al hg2 nND s2 hND H2 H3
      rintro j x σ H3 H2 hj ⟨sg, hND, al, als, hal, hB, v4, v5, v6, v7, rfl⟩ hy
      obtain ⟨T', x', y', rfl, nT', rfl, hx', hz'⟩ := hy
      cases (Option.some.inj hx')
      replace hz' : us[j]? = some y' := hz'
      have sT := sg.trans (same_new (o := .tup [.int (j : Nat), y']) nT')
      obtain ⟨d, hd, hv⟩ := paired_at hps hz'
      have hlast := last_iff hrl hj
      have hND2 := same_new (o := .tup [.int (j : Nat), y']) nT' _ _ hND
      have hal2 := same_new (o := .tup [.int (j : Nat), y']) nT' _ _ hal
      refine ⟨T', _, rfl, SqT.of upd_same, rfl, _, _, rfl, _, _, rfl, rfl, ?_⟩
      generalize upd H3 T' (.tup [.int (j : Nat), y']) = H2 at sT hND2 hal2 ⊢
      clear hND hal sg nT' H3
      have hv2 := hv.ext sT
      have hg2 := hg.ext sT
      have stop : stFit (rwOf xs) als (ds.drop (j + 1)).isEmpty d = none → ∀ e, H2 e = none → E (.ref (He.ga K "BadStay")) (some e) (upd H2 e (.xd [("index", .int (j : Int))])) := fun hf e he => kb (j : Int) (stBad_stop hB hd hf) H2 e sT he
      have flat : (als.map V.str).all flatV = true := List.all_eq_true.mpr fun v hv => by
        obtain ⟨z, _, rfl⟩ := List.mem_map.mp hv
        rfl
      by_cases hst : isStB (zsOf xs) d = true
      case neg =>
        have hst := Bool.eq_false_iff.mpr hst
        refine ⟨_, rfl, _, rfl, g, y', d, xs, st, dx, tn, dP, dN, rfl, hg2, hv2, false, by rw [hst], true, (· = H2), (fun z => nomatch z), fun _ => rfl, fun H3 e => ?_⟩
        subst e
        exact iteT ⟨_, rfl, _, rfl, fun e he => stop (isStB_no hst) e he⟩
      obtain ⟨z, q, rfl, hzm⟩ := isStB_of hst
      obtain ⟨r, rfl, hr2, _⟩ := hv2
      obtain ⟨iy, y, hy, hyz⟩ := row_of hzm
      subst hyz
      obtain ⟨d1, e1⟩ := hg2.pl y (List.mem_of_getElem? hy)
      have hfit := stFit_row hg.nd hy als (ds.drop (j + 1)).isEmpty q
      refine ⟨_, rfl, _, rfl, g, .ref r, _, xs, st, dx, tn, dP, dN, rfl, hg2, hv.ext sT, true, by rw [hst], !decide (y.2.2.z ∈ als), (· = H2), fun _ => ⟨_, rfl, r, _, 0, .str y.2.2.z, rfl, rfl, SqT.of hr2, atI0, _, rfl, al, _, rfl, .inr (SqT.of hal2), rfl, flat, _, rfl, ?_, rfl⟩, fun _ => rfl, fun H3 e => ?_⟩
      · have := inV_str y.2.2.z als
        rw [if_pos rfl, this]
      subst e
      by_cases hzin : y.2.2.z ∈ als
      case neg =>
        rw [decide_eq_false hzin]
        exact iteT ⟨_, rfl, _, rfl, fun e he => stop (by rw [hfit, if_neg fun z => hzin z.1]) e he⟩
      rw [decide_eq_true hzin]
      refine iteF ?_
      refine ⟨_, rfl, _, rfl, r, _, 0, .str y.2.2.z, rfl, rfl, SqT.of hr2, atI0, g, dx, _, rfl, hg2.hg, g, _, xs, st, dx, tn, dP, dN, rfl, hg2, .inl ⟨iy, y, hy, rfl, ?_⟩⟩
      have hS2 : SqL K H3 S us := SqL.of (sT _ _ hS)
      refine ⟨_, rfl, _, rfl, S, _, rfl, .inl hS2, _, _, rfl, rfl, rfl, _, rfl, .int (if (j : Int) = (us.length : Int) - 1 then (1 : Int) else y.2.2.l), (· = H3), fun hc => ?_, fun hc => ?_, fun H4 e => ?_⟩
      · have hc := V.int.inj (of_decide_eq_true hc)
        exact ⟨by rw [if_pos hc], rfl⟩
      · have hc := of_decide_eq_false hc
        refine ⟨_, rfl, y.1, _, d1, _, _, rfl, e1, T.c_Place, T.nL, plf_least .., ?_, rfl⟩
        rw [if_neg (fun z => hc (by rw [z]))]
      subst e
      have hlo : (if (ds.drop (j + 1)).isEmpty = true then (1 : Int) else y.2.2.l) = if (j : Int) = (us.length : Int) - 1 then (1 : Int) else y.2.2.l := by
        rw [hlast]
        by_cases hc : (j : Int) = (us.length : Int) - 1
        · rw [decide_eq_true hc, if_pos rfl, if_pos hc]
        · rw [decide_eq_false hc, if_neg (by decide), if_neg hc]
      rw [hlo] at hfit
      generalize (if (j : Int) = (us.length : Int) - 1 then (1 : Int) else y.2.2.l) = lo at hfit ⊢
      by_cases hq1 : lo ≤ q
      case neg =>
        exact ⟨_, rfl, _, rfl, r, _, 1, .int q, rfl, rfl, SqT.of hr2, atI1, lo, q, rfl, rfl, false, congrArg V.bl (decide_eq_false hq1), iteF ⟨false, rfl, iteT ⟨_, rfl, _, rfl, fun e he => stop (by rw [hfit, if_neg fun z => hq1 z.2.1]) e he⟩⟩⟩
      by_cases hq2 : q ≤ y.2.2.m
      case neg =>
        exact ⟨_, rfl, _, rfl, r, _, 1, .int q, rfl, rfl, SqT.of hr2, atI1, lo, q, rfl, rfl, true, congrArg V.bl (decide_eq_true hq1), iteT ⟨_, rfl, y.1, _, d1, _, _, rfl, e1, T.c_Place, T.nM, plf_most .., q, y.2.2.m, rfl, rfl, false, congrArg V.bl (decide_eq_false hq2), iteT ⟨_, rfl, _, rfl, fun e he => stop (by rw [hfit, if_neg fun z => hq2 z.2.2]) e he⟩⟩⟩
      rw [if_pos ⟨hzin, hq1, hq2⟩] at hfit
      refine ⟨_, rfl, _, rfl, r, _, 1, .int q, rfl, rfl, SqT.of hr2, atI1, lo, q, rfl, rfl, true, congrArg V.bl (decide_eq_true hq1), iteT ⟨_, rfl, y.1, _, d1, _, _, rfl, e1, T.c_Place, T.nM, plf_most .., q, y.2.2.m, rfl, rfl, true, congrArg V.bl (decide_eq_true hq2), iteF ?_⟩⟩
      refine ⟨_, rfl, _, rfl, r, _, 0, .str y.2.2.z, rfl, rfl, SqT.of hr2, atI0, ND, _, rfl, dget_of hND2 (val_row (f := fun y => V.ref y.2.1) hg2.nd hy), ?_⟩
      exact ⟨sT, hND2, y.2.1, y.2.2.ns, (hg2.ns y (List.mem_of_getElem? hy)).1, stBad_go hB hd hfit, _, _, _, _, rfl⟩
    · rintro σ H2 ⟨sg, hND, al, als, hal, hB, v4, v5, v6, v7, rfl⟩
      rw [hrl] at hB
      exact k (stBad_end hB fun e => hne (by rw [hrl, e]; rfl)) H2 sg
end
end K16

set_option Elab.async false
set_option linter.all false
set_option pp.deepTerms.threshold 14
set_option pp.maxSteps 2500
set_option maxRecDepth 100000
set_option maxHeartbeats 2000000
namespace K16
open PySem PySem.Spec PyProof.Rows L2 Vf 
section
variable {P : Program} {w : World} {K : PySem.W.Frag} {mg : Str → Option Value} {base : Heap}
/-- the phase that is handed in fits the sampler's -/
def PhFit (f : V) (n : Int) (ph : V) : Prop := (f = .non ∧ ∃ q : Int, ph = .int q ∧ 0 ≤ q ∧ q ≤ n - 1) ∨ (f ≠ .non ∧ (ph = .non ∨ ph = f))
theorem sc_check_phase : FnScope ["sampler", "phase", "fits"] ["sampler", "phase"] (defScope s_check_phase) := ⟨rfl, rfl, rfl, by decide +kernel, rfl, by decide +kernel, by decide +kernel⟩
-- slots: 0 sampler, 1 phase, 2 fits
def spChkPh (K : PySem.W.Frag) : Sp := fun vs H Q E => ∃ (p : Addr) (ph : V) (n i : Int) (f : V), vs = [.ref p, ph] ∧ SaA (CS K) H p n i f ∧ 1 ≤ n ∧ n ≤ 8 ∧ PhOk f n ∧ Any H ph ∧ (PhFit f n ph → Q .non H) ∧ (¬ PhFit f n ph → ∀ d, H d = none → E (.ref (He.ga K "BadPhase")) (some d) (upd H d (.xd [("phase", ph)])))
theorem ok_check_phase {fd : FuncData} (F : FnD K ("check_phase", none) "check_phase" "check_phase" s_check_phase fd) (T : RTxt K mg) (O_is_integer : OkF P w K mg base CX0 1 "is_integer" ["x"] spIsInt) (O_is_integer_from : OkF P w K mg base CX0 2 "is_integer_from" ["x", "low", "high"] spFr)
    (O_BadPhase_init : OkD P w K mg base CX0 1 ("BadPhase", some "__init__") ["self", "phase"] [] (spExI K (He.ga K "BadPhase") "phase")) : OkF P w K mg base (L2.CX P w) 3 "check_phase" ["sampler", "phase"] (spChkPh K) := by
  refine okd F (F.ok sc_check_phase (fun vs H Q E h => ?_) fun cdv A outer s H vs Q E hr h => ?_) fun _ _ _ _ _ _ us hl => match us, hl with | [_, _], _ => rfl
  · obtain ⟨p, ph, n, i, f, rfl, _⟩ := h
    rfl
  · obtain ⟨p, ph, n, i, f, rfl, hp, n1, n8, hf, ha, k1, k2⟩ := h
    obtain ⟨dx, hp⟩ := hp
    refine ⟨_, (C8.pss_cut (ps_if (pt_cmpR op_isN (pe_fld (pv 0) rfl) pe_non (nomark _)) (pss_one (ps_set (i := 2) sc_check_phase.nd rfl (Or.inl rfl) (c_fn O_is_integer_from hr (by decide) T.g_is_integer_from pass0 (pa_cons (pv 1) (pa_cons pe_int (pa_cons (pe_op op_sub (pe_fld (pv 0) rfl) pe_int) pa_nil))))))
  (pss_one (ps_set (i := 2) sc_check_phase.nd rfl (Or.inl rfl) (pe_orB (pe_cmpR op_isN (pv 1) pe_non (nomark _)) (pe_one (pe_andB (c_fn O_is_integer hr (by decide) T.g_is_integer pass0 (pa_cons (pv 1) pa_nil)) (pe_one (pe_cmpR op_eq (pv 1) (pe_fld (pv 0) rfl) (nomark _)))))))))
  (pss_one (ps_if (pt_not (pt_val (pv 2))) (pss_one (c_raise T.x_BadPhase O_BadPhase_init hr (by decide) T.g_BadPhase (takes_of rfl rfl rfl rfl) (pa_cons (pv 1) pa_nil)))
  pss_nil))), ?_⟩
    refine ⟨fun σ' H' => H' = H ∧ ∃ b : Bool, (b = true ↔ PhFit f n ph) ∧ σ' = [some (.ref p), some ph, some (.bl b)], ?_, ?_⟩
    · refine ⟨_, rfl, p, _, dx, _, _, rfl, hp, T.c_Sampler, T.sF, saf_phase .., rfl, _, rfl, ite2 (fun hc => ?_) fun hc => ?_⟩
      · have hc := of_decide_eq_true hc
        refine ⟨_, rfl, _, rfl, p, _, dx, _, _, rfl, hp, T.c_Sampler, T.sP, saf_period .., n, 1, rfl, rfl, ph, 0, n - 1, rfl, ?_⟩
        by_cases hq : ∃ q : Int, ph = .int q ∧ 0 ≤ q ∧ q ≤ n - 1
        · obtain ⟨q, rfl, q0, q1⟩ := hq
          exact .inl ⟨q, rfl, q0, q1, rfl, true, ⟨fun _ => .inl ⟨hc, q, rfl, q0, q1⟩, fun _ => rfl⟩, rfl⟩
        · refine .inr ⟨?_, rfl, false, ⟨fun z => Bool.noConfusion z, fun z => ?_⟩, rfl⟩
          · rcases ha with ⟨q, rfl⟩ | o
            · exact .inl ⟨q, rfl, fun z => hq ⟨q, rfl, z⟩⟩
            · exact .inr o
          · rcases z with ⟨_, z⟩ | ⟨z, _⟩
            · exact absurd z hq
            · exact absurd hc z
      · have hc := of_decide_eq_false (Bool.eq_false_iff.mpr hc)
        obtain ⟨q0, rfl⟩ : ∃ q : Int, f = .int q := by
          rcases hf with h | ⟨q, e, _⟩
          · exact absurd h hc
          · exact ⟨q, e⟩
        refine ⟨_, rfl, rfl, decide (ph = .non), decide (ph = .int q0), (· = H), rfl, fun hn => ?_, fun _ => rfl, fun H2 e => ?_⟩
        · refine ⟨_, rfl, ph, rfl, ?_⟩
          rcases ha with ⟨q, rfl⟩ | o
          · exact .inl ⟨⟨q, rfl⟩, true, decide (V.int q = .int q0), (· = H), rfl, fun _ => ⟨_, rfl, _, rfl, p, _, dx, _, _, rfl, hp, T.c_Sampler, T.sF, saf_phase .., rfl, rfl, rfl⟩, fun _ => rfl, fun H2 e => ⟨rfl, e⟩⟩
          · refine .inr ⟨o, false, true, (· = H), rfl, fun z => Bool.noConfusion z, fun _ => rfl, fun H2 e => ⟨?_, e⟩⟩
            rw [decide_eq_false (fun z => by rw [z] at o; cases o)]
            rfl
        · subst e
          refine ⟨rfl, _, ?_, rfl⟩
          constructor
          · intro z
            rcases Bool.or_eq_true_iff.mp z with z | z
            · exact .inr ⟨hc, .inl (of_decide_eq_true z)⟩
            · exact .inr ⟨hc, .inr (of_decide_eq_true z)⟩
          · rintro (⟨z, _⟩ | ⟨_, z | z⟩)
            · exact absurd z hc
            · rw [decide_eq_true z]
              rfl
            · rw [decide_eq_true z, Bool.or_true]
    · rintro σ' H' ⟨rfl, b, hb, rfl⟩
      refine ⟨_, rfl, b, rfl, ?_⟩
      cases b with
      | true => exact iteF (k1 (hb.mp rfl))
      | false => exact iteT ⟨_, rfl, _, rfl, fun d hd => k2 (fun z => Bool.noConfusion (hb.mpr z)) d hd⟩
/-- a look that fits the places lo to hi of its slot -/
def LkFit (lk : V) (lo hi j : Int) : Prop := (lk = .non ∧ (lo > j ∨ hi < j)) ∨ ∃ q : Int, lk = .int q ∧ lo ≤ q ∧ q ≤ hi ∧ q ≤ j
theorem sc_is_look : FnScope ["look", "low", "high", "jitter"] ["look", "low", "high", "jitter"] (defScope s_is_look) := ⟨rfl, rfl, rfl, by decide +kernel, rfl, by decide +kernel, by decide +kernel⟩
-- slots: 0 look, 1 low, 2 high, 3 jitter
def spIsLk : Sp := fun vs H Q _ => ∃ (lk : V) (lo hi j : Int), vs = [lk, .int lo, .int hi, .int j] ∧ Any H lk ∧ ∀ b : Bool, (b = true ↔ LkFit lk lo hi j) → Q (.bl b) H
theorem ok_is_look {fd : FuncData} (F : FnD K ("is_look", none) "is_look" "is_look" s_is_look fd) (T : RTxt K mg) (O_is_integer_from : OkF P w K mg base CX0 2 "is_integer_from" ["x", "low", "high"] spFr) : OkF P w K mg base CX0 3 "is_look" ["look", "low", "high", "jitter"] spIsLk := by
  refine okd F (F.ok sc_is_look (fun vs H Q E h => ?_) fun cdv A outer s H vs Q E hr h => ?_) fun _ _ _ _ _ _ us hl => match us, hl with | [_, _, _, _], _ => rfl
  · obtain ⟨lk, lo, hi, j, rfl, _⟩ := h
    rfl
  · obtain ⟨lk, lo, hi, j, rfl, ha, k⟩ := h
    refine ⟨_, PSs.nox (pss_cons (ps_if (pt_cmpR op_isN (pv 0) pe_non (nomark _)) (pss_one (ps_ret (pe_orB (pe_cmpR op_gt (pv 1) (pv 3) (nomark _)) (pe_one (pe_cmpR op_lt (pv 2) (pv 3) (nomark _))))))
  pss_nil)
  (pss_one (ps_ret (pe_andB (c_fn O_is_integer_from hr (by decide) T.g_is_integer_from pass0 (pa_cons (pv 0) (pa_cons (pv 1) (pa_cons (pv 2) pa_nil)))) (pe_one (pe_cmpR op_le (pv 0) (pv 3) (nomark _))))))), ?_⟩
    refine ⟨_, rfl, rfl, _, rfl, ite2 (fun hc => ?_) fun hc => ?_⟩
    · obtain rfl := of_decide_eq_true hc
      refine ⟨_, rfl, _, rfl, lo, j, rfl, rfl, decide (lo > j), decide (hi < j), (· = H), rfl, fun _ => ⟨_, rfl, _, rfl, hi, j, rfl, rfl, rfl, rfl⟩, fun _ => rfl, fun H2 e => ?_⟩
      subst e
      refine k _ ⟨fun z => ?_, fun z => ?_⟩
      · rcases Bool.or_eq_true_iff.mp z with z | z
        · exact .inl ⟨rfl, .inl (of_decide_eq_true z)⟩
        · exact .inl ⟨rfl, .inr (of_decide_eq_true z)⟩
      · rcases z with ⟨_, z | z⟩ | ⟨q, z, _⟩
        · rw [decide_eq_true z]
          rfl
        · rw [decide_eq_true z, Bool.or_true]
        · cases z
    · have hc := of_decide_eq_false (Bool.eq_false_iff.mpr hc)
      refine ⟨_, rfl, _, rfl, _, rfl, lk, lo, hi, rfl, ?_⟩
      by_cases hq : ∃ q : Int, lk = .int q ∧ lo ≤ q ∧ q ≤ hi
      · obtain ⟨q, rfl, q0, q1⟩ := hq
        refine .inl ⟨q, rfl, q0, q1, true, decide (q ≤ j), (· = H), rfl, fun _ => ⟨_, rfl, _, rfl, q, j, rfl, rfl, rfl, rfl⟩, fun _ => rfl, fun H2 e => ?_⟩
        subst e
        refine k _ ⟨fun z => .inr ⟨q, rfl, q0, q1, of_decide_eq_true z⟩, fun z => ?_⟩
        rcases z with ⟨z, _⟩ | ⟨q', e, _, _, z⟩
        · cases z
        · cases e
          exact decide_eq_true z
      · refine .inr ⟨?_, false, true, (· = H), rfl, fun z => Bool.noConfusion z, fun _ => rfl, fun H2 e => ?_⟩
        · rcases ha with ⟨q, rfl⟩ | o
          · exact .inl ⟨q, rfl, fun z => hq ⟨q, rfl, z⟩⟩
          · exact .inr o
        subst e
        refine k _ ⟨fun z => Bool.noConfusion z, fun z => ?_⟩
        rcases z with ⟨z, _⟩ | ⟨q', e, z0, z1, z⟩
        · exact absurd z hc
        · exact absurd ⟨q', e, z0, z1⟩ hq
end
end K16

set_option Elab.async false
set_option linter.all false
set_option pp.deepTerms.threshold 14
set_option pp.maxSteps 2500
set_option maxRecDepth 100000
set_option maxHeartbeats 2000000
namespace K16
open PySem PySem.Spec PyProof.Rows L2 Vf 
section
variable {P : Program} {w : World} {K : PySem.W.Frag} {mg : Str → Option Value} {base : Heap}
/-- the looks fit the slots of the ticks that count from first to last -/
structure LksOk (n i first last : Int) (lks : List (Option Int)) : Prop where
  len : (lks.length : Int) = last / n + 1
  ok : ∀ (s : Nat) (o : Option Int), lks[s]? = some o → LkFit (lkV o) (if (s : Int) = 0 then first else 0) (if (s : Int) = last / n + 1 - 1 then last % n else n - 1) i
theorem lk_any (H : Hp) (o : Option Int) : Any H (lkV o) := by
  cases o with
  | none => exact .inr .non
  | some q => exact .inl ⟨q, rfl⟩
/-- the places of the s-th slot -/
def lkLo (first : Int) (s : Nat) : Int := if (s : Int) = 0 then first else 0
def lkHi (n last : Int) (s : Nat) : Int := if (s : Int) = last / n + 1 - 1 then last % n else n - 1
/-- what is handed in as looks: a list of these values, or no list -/
def LksX (H : Hp) (x : V) : Option (List V) → Prop
  | none => NoLst H x
  | some us => ∃ L : Addr, x = .ref L ∧ H L = some (.lst us) ∧ ∀ u ∈ us, Any H u
theorem LksX.ext {H H' : Hp} {x : V} {o : Option (List V)} (h : LksX H x o) (s : Same H H') : LksX H' x o := by
  cases o with
  | none => exact NoLst.ext h s
  | some us =>
    obtain ⟨L, h1, h2, h3⟩ := h
    exact ⟨L, h1, s _ _ h2, fun u hu => (h3 u hu).ext s⟩
/-- the looks are refused at k -/
def LkBad (n i first last : Int) (o : Option (List V)) (k : Int) : Prop := match o with
  | none => k = -1
  | some us => ((us.length : Int) ≠ last / n + 1 ∧ k = -1) ∨ ∃ (j : Nat) (v : V), (us.length : Int) = last / n + 1 ∧ k = (j : Int) ∧ us[j]? = some v ∧ ¬ LkFit v (lkLo first j) (lkHi n last j) i ∧ ∀ (s : Nat) (u : V), s < j → us[s]? = some u → LkFit u (lkLo first s) (lkHi n last s) i
/-- the looks are taken -/
def LkGood (n i first last : Int) (us : List V) : Prop := (us.length : Int) = last / n + 1 ∧ ∀ (s : Nat) (u : V), us[s]? = some u → LkFit u (lkLo first s) (lkHi n last s) i
theorem LkGood.lks {n i first last : Int} {us : List V} (h : LkGood n i first last us) : ∃ lks : List (Option Int), us = lks.map lkV ∧ LksOk n i first last lks := by
  have e : us = (us.map fun u : V => match u with | .int q => some q | _ => none).map lkV := by
    rw [List.map_map]
    refine (List.ext_getElem? fun s => ?_)
    rw [List.getElem?_map]
    cases hu : us[s]? with
    | none => rfl
    | some u =>
      rcases h.2 s u hu with ⟨rfl, _⟩ | ⟨q, rfl, _⟩ <;> rfl
  refine ⟨_, e, ?_, fun s o ho => ?_⟩
  · rw [List.length_map]
    exact h.1
  · exact h.2 s (lkV o) (by rw [e, List.getElem?_map, ho]; rfl)
theorem sc_check_looks : FnScope ["sampler", "looks", "first", "last", "slots", "slot", "look", "low", "high"] ["sampler", "looks", "first", "last"] (defScope s_check_looks) := ⟨rfl, rfl, rfl, by decide +kernel, rfl, by decide +kernel, by decide +kernel⟩
-- slots: 0 sampler, 1 looks, 2 first, 3 last, 4 slots, 5 slot, 6 look, 7 low, 8 high
def spChkLk (K : PySem.W.Frag) : Sp := fun vs H Q E => ∃ (p : Addr) (x : V) (o : Option (List V)) (n i : Int) (f : V) (first last : Int), vs = [.ref p, x, .int first, .int last] ∧ SaA (CS K) H p n i f ∧ 1 ≤ n ∧ n ≤ 8 ∧ LksX H x o ∧
  (∀ k, LkBad n i first last o k → ∀ H' d, Same H H' → H' d = none → E (.ref (He.ga K "BadLook")) (some d) (upd H' d (.xd [("index", .int k)]))) ∧
  (∀ us, o = some us → LkGood n i first last us → ∀ H', Same H H' → Q .non H')
theorem ok_check_looks {fd : FuncData} (F : FnD K ("check_looks", none) "check_looks" "check_looks" s_check_looks fd) (T : RTxt K mg) (O_is_look : OkF P w K mg base CX0 3 "is_look" ["look", "low", "high", "jitter"] spIsLk)
    (O_BadLook_init : OkD P w K mg base CX0 1 ("BadLook", some "__init__") ["self", "index"] [] (spExI K (He.ga K "BadLook") "index")) : OkF P w K mg base (L2.CX P w) 4 "check_looks" ["sampler", "looks", "first", "last"] (spChkLk K) := by
  refine okd F (F.ok sc_check_looks (fun vs H Q E h => ?_) fun cdv A outer s H vs Q E hr h => ?_) fun _ _ _ _ _ _ us hl => match us, hl with | [_, _, _, _], _ => rfl
  · obtain ⟨p, x, o, n, i, f, first, last, rfl, _⟩ := h
    rfl
  · obtain ⟨p, x, o, n, i, f, first, last, rfl, ⟨dx, hp⟩, n1, n8, hx, kb, k⟩ := h
    refine ⟨_, (pss_cons (ps_set (i := 4) sc_check_looks.nd rfl (Or.inl rfl) (pe_op op_add (pe_op op_fdiv (pv 3) (pe_fld (pv 0) rfl)) pe_int))
  (pss_cons (ps_if (PW.pt (pw_orB (pt_not (pt_val (pe_callB (id := "isinstance") call_isi (by rfl) T.z_isinstance (by decide +kernel) (pa_cons (pv 1) (pa_cons (pe_ty (n := "list") T.z_list (by decide +kernel)) pa_nil))))) (pw_or1 (pt_cmpR op_ne (pe_callB (id := "len") call_len_seq (by rfl) T.z_len (by decide +kernel) (pa_cons (pv 1) pa_nil)) (pv 4) (nomark _))))) (pss_one (c_raise T.x_BadLook O_BadLook_init hr (by decide) T.g_BadLook (takes_of rfl rfl rfl rfl) (pa_cons (pe_un un_neg pe_int) pa_nil)))
  pss_nil)
  (pss_one (ps_for (passes_of rfl) rfl (pi_enum (by rfl) T.z_enumerate (pa_cons (pv 1) pa_nil)) (pg_tup rfl (pgs_cons (pg_name (i := 5) sc_check_looks.nd rfl (Or.inl rfl)) (pgs_cons (pg_name (i := 6) sc_check_looks.nd rfl (Or.inl rfl)) pgs_nil)))
  (pss_cons (ps_set (i := 7) sc_check_looks.nd rfl (Or.inl rfl) (pe_ifExpB (pt_cmpR op_eq (pv 5) pe_int (nomark _)) (pv 2) pe_int))
  (pss_cons (ps_set (i := 8) sc_check_looks.nd rfl (Or.inl rfl) (pe_ifExpB (pt_cmpR op_eq (pv 5) (pe_op op_sub (pv 4) pe_int) (nomark _)) (pe_op op_mod (pv 3) (pe_fld (pv 0) rfl)) (pe_op op_sub (pe_fld (pv 0) rfl) pe_int)))
  (pss_one (ps_if (pt_not (pt_val (c_fn O_is_look hr (by decide) T.g_is_look pass0 (pa_cons (pv 6) (pa_cons (pv 7) (pa_cons (pv 8) (pa_cons (pe_fld (pv 0) rfl) pa_nil))))))) (pss_one (c_raise T.x_BadLook O_BadLook_init hr (by decide) T.g_BadLook (takes_of rfl rfl rfl rfl) (pa_cons (pv 5) pa_nil)))
  pss_nil)))))))), ?_⟩
    refine ⟨_, rfl, _, rfl, p, _, dx, _, _, rfl, hp, T.c_Sampler, T.sP, saf_period .., last, n, rfl, rfl, ⟨by omega, by omega⟩, _, _, rfl, rfl, ?_⟩
    cases o with
    | none =>
      obtain ⟨t, ht, hk⟩ := noLst_ty K hx
      refine ⟨_, rfl, x, .ty "list", t, .type "list", false, rfl, .ty _, ht, hk, false, rfl, true, (· = H), (fun z => nomatch z), fun _ => rfl, fun H1 e => ?_⟩
      subst e
      exact iteT ⟨_, rfl, _, rfl, fun d hd => kb (-1) rfl H1 d (Same.refl _) hd⟩
    | some us =>
      obtain ⟨L, rfl, hL, hany⟩ := hx
      refine ⟨_, rfl, .ref L, .ty "list", .type "list", .type "list", true, rfl, .ty _, .base (.lst hL), kit_ty (by decide +kernel), true, rfl, !decide ((us.length : Int) = last / n + 1), (· = H), fun _ => ⟨_, rfl, L, _, rfl, .inl (SqL.of hL), _, rfl, rfl, _, rfl, ?_, rfl⟩, fun _ => rfl, fun H1 e => ?_⟩
      · exact congrArg (fun b => !b) (decide_eq_decide.mpr ⟨fun e => V.int.inj e, fun e => congrArg V.int e⟩)
      subst e
      by_cases hll : (us.length : Int) = last / n + 1
      case neg =>
        rw [decide_eq_false hll]
        exact iteT ⟨_, rfl, _, rfl, fun d hd => kb (-1) (.inl ⟨hll, rfl⟩) H1 d (Same.refl _) hd⟩
      rw [decide_eq_true hll]
      refine iteF ?_
      refine ⟨_, rfl, L, _, rfl, SqL.of hL, for_it walk_enum (fun j σ H' => Same H1 H' ∧ (∀ (s : Nat) (u : V), s < j → us[s]? = some u → LkFit u (lkLo first s) (lkHi n last s) i) ∧ ∃ v5 v6 v7 v8 : Option V, σ = [some (.ref p), some (.ref L), some (.int first), some (.int last), some (.int (last / n + 1)), v5, v6, v7, v8]) ⟨Same.refl _, fun s u hs => absurd hs (Nat.not_lt_zero s), none, none, none, none, rfl⟩ (fun j σ H' _ h => SqL.of (h.1 _ _ hL)) ?_ ?_⟩
      · rintro j x σ H3 H2 hj ⟨sg, hbf, v5, v6, v7, v8, rfl⟩ hy
        obtain ⟨T', x', y', rfl, nT', rfl, hx', hz'⟩ := hy
        cases (Option.some.inj hx')
        replace hz' : us[j]? = some y' := hz'
        have sT := sg.trans (same_new (o := .tup [.int (j : Nat), y']) nT')
        have ha := (hany y' (List.mem_of_getElem? hz')).ext sT
        refine ⟨T', _, rfl, SqT.of upd_same, rfl, _, _, rfl, _, _, rfl, rfl, ?_⟩
        generalize upd H3 T' (.tup [.int (j : Nat), y']) = H2 at sT ha ⊢
        have hp2 := sT _ _ hp
        refine ⟨_, rfl, rfl, _, rfl, .int (lkLo first j), (· = H2), fun hc => ?_, fun hc => ?_, fun H4 e => ?_⟩
        · have hc := V.int.inj (of_decide_eq_true hc)
          exact ⟨_, rfl, by unfold lkLo; rw [if_pos hc], rfl⟩
        · have hc := of_decide_eq_false hc
          exact ⟨by unfold lkLo; rw [if_neg (fun z => hc (by rw [z]))], rfl⟩
        subst e
        refine ⟨_, rfl, _, rfl, _, _, rfl, rfl, rfl, _, rfl, .int (lkHi n last j), (· = H4), fun hc => ?_, fun hc => ?_, fun H5 e => ?_⟩
        · have hc := V.int.inj (of_decide_eq_true hc)
          exact ⟨_, rfl, _, rfl, p, _, dx, _, _, rfl, hp2, T.c_Sampler, T.sP, saf_period .., last, n, rfl, rfl, (by show (0 : Int) < n; omega), by unfold lkHi; rw [if_pos hc], rfl⟩
        · have hc := of_decide_eq_false hc
          exact ⟨_, rfl, p, _, dx, _, _, rfl, hp2, T.c_Sampler, T.sP, saf_period .., n, 1, rfl, rfl, by unfold lkHi; rw [if_neg (fun z => hc (by rw [z]))], rfl⟩
        subst e
        refine ⟨_, rfl, _, rfl, _, rfl, _, rfl, p, _, dx, _, _, rfl, hp2, T.c_Sampler, T.sJ, saf_jitter .., y', _, _, i, rfl, ha, fun b hb => ⟨b, rfl, ?_⟩⟩
        cases b with
        | true =>
          refine iteF ⟨sT, fun s u hs hu => ?_, _, _, _, _, rfl⟩
          by_cases hsj : s < j
          · exact hbf s u hsj hu
          · obtain rfl : s = j := by omega
            rw [hz'] at hu
            cases hu
            exact hb.mp rfl
        | false =>
          exact iteT ⟨_, rfl, _, rfl, fun d hd => kb (j : Int) (.inr ⟨j, y', hll, rfl, hz', (fun z => Bool.noConfusion (hb.mpr z)), hbf⟩) H5 d sT hd⟩
      · rintro σ H2 ⟨sg, hbf, v5, v6, v7, v8, rfl⟩
        exact k us rfl ⟨hll, fun s u hu => hbf s u (List.getElem?_eq_some_iff.mp hu).1 hu⟩ H2 sg
/-- the ticks' names -/
def namesL (sts : List (Str × Int)) : List Str := sts.flatMap fun p => List.replicate p.2.toNat p.1
def totL (sts : List (Str × Int)) : Int := (sts.map (·.2)).sum
/-- the ticks of a run: their names, and whether a look comes due -/
def runL (sts : List (Str × Int)) (lks : List (Option Int)) (n sh : Nat) : List (Str × Bool) := (namesL sts).zip ((List.range (namesL sts).length).map fun t => dueAt lks n (sh + t))
theorem runL_names (sts : List (Str × Int)) (lks : List (Option Int)) (n sh : Nat) : (runL sts lks n sh).map (·.1) = namesL sts := by
  unfold runL
  exact List.map_fst_zip (by rw [List.length_map, List.length_range]; exact Nat.le_refl _)
theorem runL_dues (sts : List (Str × Int)) (lks : List (Option Int)) (n sh : Nat) : (runL sts lks n sh).map (·.2) = (List.range (namesL sts).length).map fun t => dueAt lks n (sh + t) := by
  unfold runL
  exact List.map_snd_zip (by rw [List.length_map, List.length_range]; exact Nat.le_refl _)
theorem runL_len (sts : List (Str × Int)) (lks : List (Option Int)) (n sh : Nat) : (runL sts lks n sh).length = (namesL sts).length := by
  rw [← runL_names sts lks n sh, List.length_map]
theorem namesL_len : ∀ {sts : List (Str × Int)}, (∀ p ∈ sts, 0 ≤ p.2) → ((namesL sts).length : Int) = totL sts
  | [], _ => rfl
  | p :: sts, h => by
    have ih := namesL_len (sts := sts) fun q hq => h q (List.mem_cons_of_mem _ hq)
    have h0 := h p List.mem_cons_self
    unfold namesL totL at ih ⊢
    rw [List.flatMap_cons, List.length_append, List.length_replicate, List.map_cons, List.sum_cons]
    omega
theorem namesL_mem {sts : List (Str × Int)} {z : Str} (h : z ∈ namesL sts) : ∃ p ∈ sts, p.1 = z := by
  obtain ⟨p, hp, hz⟩ := List.mem_flatMap.mp h
  exact ⟨p, hp, (List.eq_of_mem_replicate hz).symm⟩
end
end K16

set_option Elab.async false
set_option linter.all false
set_option pp.deepTerms.threshold 14
set_option pp.maxSteps 2500
set_option maxRecDepth 100000
set_option maxHeartbeats 2000000
namespace K16
open PySem PySem.Spec PyProof.Rows L2 Vf 
section
variable {P : Program} {w : World} {K : PySem.W.Frag} {mg : Str → Option Value} {base : Heap}
/-- what a callee lets out goes on to the caller -/
theorem passUp {X : Cx} {E : XK} (hs : X.stack = X.env :: X.outer) (hf : X.env.frame = some X.env.locals) (hex : X.ex = []) {E₁ : Value → Shared → Prop}
    (hx : X.xe = fun e s' => wpAny (model X.prog X.w) X.A (leaving X.env e) (fun _ s'' => L2.CX X.prog X.w X.outer X.H_0 X.s_0 E e s'') E₁ s') : Passes (L2.CX X.prog X.w) X E := passes_call (takes_of hs hf hex hx) fun _ _ _ _ h => h
theorem none_of {H H1 : Hp} {a : Addr} (s : Same H H1) (n : H1 a = none) : H a = none := by
  cases e : H a with
  | none => rfl
  | some o =>
    have := s _ _ e
    rw [n] at this
    cases this
theorem sc_observe : FnScope ["program", "sampler", "stays", "looks", "phase", "first", "ticks", "_", "many", "names", "name", "dues", "tick"] ["program", "sampler", "stays", "looks", "phase"] (defScope s_observe) := ⟨rfl, rfl, rfl, by decide +kernel, rfl, by decide +kernel, by decide +kernel⟩
-- slots: 0 program, 1 sampler, 2 stays, 3 looks, 4 phase, 5 first, 6 ticks, 7 _, 8 many, 9 names, 10 name, 11 dues, 12 tick
/-- the phase of the run -/
def PhSh (f ph : V) (n : Int) (sh : Nat) : Prop := (f = .non ∧ ph = .int (sh : Int) ∧ (sh : Int) ≤ n - 1) ∨ (f = .int (sh : Int) ∧ (ph = .non ∨ ph = .int (sh : Int)))
theorem PhSh.fit {f ph : V} {n : Int} {sh : Nat} (h : PhSh f ph n sh) : PhFit f n ph := by
  rcases h with ⟨rfl, rfl, h⟩ | ⟨rfl, h⟩
  · exact .inl ⟨rfl, _, rfl, by omega, h⟩
  · exact .inr ⟨(fun z => nomatch z), h⟩
def dsOf (sts : List (Str × Int)) : List (Option (List V)) := sts.map fun p => some [.str p.1, .int p.2]
def spObs (K : PySem.W.Frag) : Sp := fun vs H Q E => ∃ (g p : Addr) (y : V) (os : Option (List (Option (List V)))) (x : V) (o : Option (List V)) (ph : V) (xs : List PgE) (st : Str) (dx tn dP dN : Addr) (n : Nat) (i : Int) (f : V), vs = [.ref g, .ref p, y, x, ph] ∧
  PgA K H g xs st dx tn dP dN ∧ (∀ x ∈ xs, 1 ≤ x.2.2.l) ∧ SaA (CS K) H p (n : Int) i f ∧ 1 ≤ n ∧ n ≤ 8 ∧ PhOk f (n : Int) ∧ Any H ph ∧ StsX H y os ∧ LksX H x o ∧
  (∀ k, stDue (rwOf xs) st os = some k → ∀ H' d, Same H H' → H' d = none → E (.ref (He.ga K "BadStay")) (some d) (upd H' d (.xd [("index", .int k)]))) ∧
  ∀ sts : List (Str × Int), os = some (dsOf sts) → StsOk xs st sts → stDue (rwOf xs) st os = none → totL sts ≤ 4000 ∧
  (¬ PhFit f (n : Int) ph → ∀ H' d, Same H H' → H' d = none → E (.ref (He.ga K "BadPhase")) (some d) (upd H' d (.xd [("phase", ph)]))) ∧
  ∀ sh : Nat, PhSh f ph (n : Int) sh →
    (∀ k, LkBad (n : Int) i (sh : Int) ((sh : Int) + totL sts - 1) o k → ∀ H' d, Same H H' → H' d = none → E (.ref (He.ga K "BadLook")) (some d) (upd H' d (.xd [("index", .int k)]))) ∧
    ∀ lks : List (Option Int), o = some (lks.map lkV) → LksOk (n : Int) i (sh : Int) ((sh : Int) + totL sts - 1) lks → (2000 < totL sts → ∀ H', Same H H' → E (.ref (He.ga K "NoTicks")) none H') ∧ (totL sts ≤ 2000 → ∀ H' r dr ti no, Same H H' → RecA K H' r xs (runL sts lks n sh) dr ti no → H ti = none → H no = none → Q (.ref r) H')
theorem PhSh.of {f ph : V} {n : Int} (hf : PhOk f n) (h : PhFit f n ph) : ∃ sh : Nat, PhSh f ph n sh := by
  rcases h with ⟨rfl, q, rfl, q0, q1⟩ | ⟨hf0, h⟩
  · exact ⟨q.toNat, .inl ⟨rfl, by rw [Int.toNat_of_nonneg q0], by omega⟩⟩
  · rcases hf with e | ⟨q, rfl, q0, q1⟩
    · exact absurd e hf0
    · refine ⟨q.toNat, .inr ⟨by rw [Int.toNat_of_nonneg q0], ?_⟩⟩
      rcases h with h | h
      · exact .inl h
      · exact .inr (by rw [h, Int.toNat_of_nonneg q0])
theorem ok_observe {fd : FuncData} (F : FunD K "observe" "observe" (defArgs s_observe) (defBody s_observe) (defScope s_observe) [] [("phase", .non)] (He.fAd K ("observe", none)) fd) (T : RTxt K mg) (O_check_stays : OkF P w K mg base (L2.CX P w) 6 "check_stays" ["program", "stays"] (spChkSt K)) (O_check_phase : OkF P w K mg base (L2.CX P w) 3 "check_phase" ["sampler", "phase"] (spChkPh K))
    (O_check_looks : OkF P w K mg base (L2.CX P w) 4 "check_looks" ["sampler", "looks", "first", "last"] (spChkLk K)) (O_is_due : OkF P w K mg base CX0 1 "is_due" ["looks", "spot", "period"] (spDue1 K)) (O_record_of : OkF P w K mg base CX0 6 "record_of" ["program", "names", "dues"] (spRecOf K)) :
    FnOk P w K mg base (L2.CX P w) 7 (He.fAd K ("observe", none)) fd ["program", "sampler", "stays", "looks", "phase"] (spObs K) := by
  refine F.ok sc_observe (fun vs H Q E h => ?_) fun cdv A outer s H vs Q E hr h => ?_
  · obtain ⟨g, p, y, os, x, o, ph, xs, st, dx, tn, dP, dN, n, i, f, rfl, _⟩ := h
    rfl
  · obtain ⟨g, p, y, os, x, o, ph, xs, st, dx, tn, dP, dN, n, i, f, rfl, hg, hl1, hp, n1, n8, hf, hany, hyS, hx, kst, kss⟩ := h
    refine ⟨_, (pss_cons (ps_expr (c_fn O_check_stays hr (by decide) T.g_check_stays (passUp rfl rfl rfl rfl) (pa_cons (pv 0) (pa_cons (pv 2) pa_nil))))
  (pss_cons (ps_expr (c_fn O_check_phase hr (by decide) T.g_check_phase (passUp rfl rfl rfl rfl) (pa_cons (pv 1) (pa_cons (pv 4) pa_nil))))
  (pss_cons (ps_set (i := 5) sc_observe.nd rfl (Or.inr rfl) (pe_ifExpB (pt_cmpR op_isN (pe_fld (pv 1) rfl) pe_non (nomark _)) (pv 4) (pe_fld (pv 1) rfl)))
  (pss_cons (ps_set (i := 6) sc_observe.nd rfl (Or.inl rfl) (pe_callB (id := "sum") (cr_sum rfl) (by rfl) T.z_sum (by decide +kernel) (pa_cons (pe_lc (own := [("_", 7), ("many", 8)])  (tt := tYes) (by rfl) sc_observe.nd (pi_list (pv 2)) (blkOk_by (N := ["program", "sampler", "stays", "looks", "phase", "first", "ticks", "_", "many", "names", "name", "dues", "tick"]) (sc := defScope s_observe) (by decide +kernel)) (fun _ _ _ _ _ => (pg_tupK (K := K) rfl 2 rfl (pgs_cons (pg_name (i := 7) sc_observe.nd rfl (Or.inl rfl)) (pgs_cons (pg_name (i := 8) sc_observe.nd rfl (Or.inl rfl)) pgs_nil)))) (fun _ _ _ _ _ => pts_nil) (fun _ _ _ _ _ => (pv 8))) pa_nil)))
  (pss_cons (ps_expr (c_fn O_check_looks hr (by decide) T.g_check_looks (passUp rfl rfl rfl rfl) (pa_cons (pv 1) (pa_cons (pv 3) (pa_cons (pv 5) (pa_cons (pe_op op_sub (pe_op op_add (pv 5) (pv 6)) pe_int) pa_nil))))))
  (pss_cons (ps_if (pt_cmpR op_gt (pv 6) (c_gint T.i_MOST_RUN_TICKS) (nomark _)) (pss_one (c_raise0 T.e_NoTicks T.g_NoTicks (takes_of rfl rfl rfl rfl)))
  pss_nil)
  (pss_cons (ps_setLc2 (i := 9) (own := [("name", 10), ("many", 8), ("_", 7)]) (vs1 := [7]) (tt1 := tYes)  (tt := tYes) (by rfl) sc_observe.nd rfl rfl (sw_true rfl rfl rfl (by decide +kernel)) (pi_list (pv 2)) (blkOk_by (N := ["program", "sampler", "stays", "looks", "phase", "first", "ticks", "_", "many", "names", "name", "dues", "tick"]) (sc := defScope s_observe) (by decide +kernel)) (by decide) (fun _ _ _ _ _ => (pg_tupK (K := K) rfl 2 rfl (pgs_cons (pg_name (i := 10) sc_observe.nd rfl (Or.inl rfl)) (pgs_cons (pg_name (i := 8) sc_observe.nd rfl (Or.inl rfl)) pgs_nil)))) (fun _ _ _ _ _ => pts_nil) (fun _ _ _ _ _ => (pi_range1 rfl T.z_range (pa_cons (pv 8) pa_nil))) (fun _ _ _ _ _ => (pg_name (i := 7) sc_observe.nd rfl (Or.inl rfl))) (fun _ _ _ _ _ => pts_nil) (fun _ _ _ _ _ => (pv 10)))
  (pss_cons (ps_setLc (i := 11) (own := [("tick", 12)]) (g := gName 12) (tt := tYes) (by rfl) sc_observe.nd rfl rfl (sw_true rfl rfl rfl (by decide +kernel)) (pi_range1 rfl T.z_range (pa_cons (pv 6) pa_nil)) (blkOk_by (N := ["program", "sampler", "stays", "looks", "phase", "first", "ticks", "_", "many", "names", "name", "dues", "tick"]) (sc := defScope s_observe) (by decide +kernel)) (fun _ _ _ _ _ => (pg_name (i := 12) sc_observe.nd rfl (Or.inl rfl))) (fun _ _ _ _ _ => pts_nil) (fun _ _ _ _ _ => (c_fn O_is_due hr (by decide) T.g_is_due pass0 (pa_cons (pv 3) (pa_cons (pe_op op_add (pv 5) (pv 12)) (pa_cons (pe_fldK (K := K) rfl (pv 1) rfl) pa_nil))))))
  (pss_one (ps_ret (c_fn O_record_of hr (by decide) T.g_record_of pass0 (pa_cons (pv 0) (pa_cons (pv 9) (pa_cons (pv 11) pa_nil)))))))))))))), ?_⟩
    obtain ⟨dp, hp'⟩ := id hp
    refine ⟨_, rfl, _, rfl, g, y, os, xs, st, dx, tn, dP, dN, rfl, hg, hyS, fun k hk H' d s hd => kst k hk H' d s hd, fun hdue H1 s1 => ?_⟩
    obtain ⟨sts, hos, hSok⟩ := stDue_ok hg.nd hl1 hdue
    obtain ⟨htot, kp, kk⟩ := kss sts hos hSok hdue
    subst hos
    obtain ⟨S, rfl, hS⟩ := hyS.sts
    clear kst kss hdue
    have hp1 := hp.ext s1
    refine ⟨_, rfl, _, rfl, p, ph, _, i, f, rfl, hp1, by omega, by omega, hf, hany.ext s1, fun hfit => ?_, fun z d hd => kp z H1 d s1 hd⟩
    obtain ⟨sh, hph⟩ := PhSh.of hf hfit
    obtain ⟨kb, k0⟩ := kk sh hph
    clear kk kp
    have hpp := s1 _ _ hp'
    refine ⟨_, rfl, p, _, dp, _, _, rfl, hpp, T.c_Sampler, T.sF, saf_phase .., rfl, _, rfl, .int (sh : Int), (· = H1), fun hc => ?_, fun hc => ?_, fun H2 e => ?_⟩
    · have hc := of_decide_eq_true hc
      rcases hph with ⟨_, rfl, _⟩ | ⟨rfl, _⟩
      · exact ⟨_, rfl, rfl, rfl⟩
      · cases hc
    · have hc := of_decide_eq_false hc
      rcases hph with ⟨z, _⟩ | ⟨rfl, _⟩
      · exact absurd z hc
      · exact ⟨_, rfl, p, _, dp, _, _, rfl, hpp, T.c_Sampler, T.sF, saf_phase .., rfl, rfl⟩
    subst e
    have hS2 := hS.ext s1
    obtain ⟨rs, hrs, hps⟩ := id hS2
    have hrl : rs.length = sts.length := paired_len hps
    have hstl : sts.length ≤ 4000 := by
      have : ∀ (l : List (Str × Int)), (∀ q ∈ l, 1 ≤ q.2) → (l.length : Int) ≤ totL l := fun l => by
        induction l with
        | nil => intro _; exact Int.le_refl _
        | cons a l ih =>
          intro h
          have h1 := h a List.mem_cons_self
          have h2 := ih fun q hq => h q (List.mem_cons_of_mem _ hq)
          unfold totL at h2 ⊢
          rw [List.map_cons, List.sum_cons, List.length_cons]
          omega
      have := this sts fun q hq => by
        obtain ⟨j, hj⟩ := List.mem_iff_getElem?.mp hq
        obtain ⟨_, _, _, _, q1, _⟩ := hSok.hs j q hj
        exact q1
      omega
    -- the number of ticks
    refine ⟨_, rfl, S, rfl, ⟨_, SqL.of hrs⟩, fun D nD => lc_it walk_list (fun j H' => Same H2 H' ∧ H' D = some (.lst (((sts.map (·.2)).take j).map V.int))) ⟨same_new nD, upd_same⟩ (fun j H' _ h => SqL.of (h.1 _ _ hrs)) ?_ ?_⟩
    · rintro j x H3 H' hj ⟨sg, hD⟩ ⟨rfl, hx⟩
      rw [List.length_map] at hj
      have hrj : rs[j]? = some rs[j] := List.getElem?_eq_getElem hj
      generalize rs[j] = r at hrj
      obtain rfl : x = .ref r := by
        rw [List.getElem?_map, hrj] at hx
        exact (Option.some.inj hx).symm
      obtain ⟨⟨z, q⟩, hq, hr'⟩ := paired_at hps hrj
      refine ⟨r, _, rfl, SqT.of (sg _ _ hr'), rfl, _, _, rfl, _, _, rfl, rfl, rfl, _, rfl, _, hD, ?_, same_app sg (Same.refl _) nD, ?_⟩
      · rw [List.length_map, List.length_take, List.length_map]
        exact Nat.lt_of_le_of_lt (Nat.min_le_left _ _) (Nat.lt_of_lt_of_le hj (by rw [hrl]; exact Nat.le_trans hstl (by decide)))
      · rw [upd_same, List.take_add_one, List.map_append, List.getElem?_map, hq]
        rfl
    rintro H3 ⟨s23, hD⟩
    rw [List.length_map, hrl, List.take_of_length_le (by rw [List.length_map]; exact Nat.le_refl _)] at hD
    refine ⟨D, _, rfl, SqL.of hD, ?_⟩
    have etot : (sts.map (·.2)).sum = totL sts := rfl
    rw [etot]
    have hpos : ∀ q ∈ sts, 1 ≤ q.2 := fun q hq => by
      obtain ⟨j, hj⟩ := List.mem_iff_getElem?.mp hq
      obtain ⟨_, _, _, _, q1, _⟩ := hSok.hs j q hj
      exact q1
    have hnl : ((namesL sts).length : Int) = totL sts := namesL_len fun q hq => by have := hpos q hq; omega
    have htk : ∀ j, (namesL (sts.take j)).length ≤ (namesL sts).length := fun j => by
      have e : namesL sts = namesL (sts.take j) ++ namesL (sts.drop j) := by
        unfold namesL
        rw [← List.flatMap_append, List.take_append_drop]
      rw [e, List.length_append]
      exact Nat.le_add_right _ _
    have htot1 : 1 ≤ totL sts := by
      cases hs : sts with
      | nil => exact absurd hs hSok.ne
      | cons a l =>
        have h1 := hpos a (by rw [hs]; exact List.mem_cons_self)
        have h2 : 0 ≤ totL l := by
          have : ∀ (l : List (Str × Int)), (∀ q ∈ l, 1 ≤ q.2) → 0 ≤ totL l := fun l => by
            induction l with
            | nil => intro _; exact Int.le_refl _
            | cons a l ih =>
              intro h
              have h1 := h a List.mem_cons_self
              have h2 := ih fun q hq => h q (List.mem_cons_of_mem _ hq)
              unfold totL at h2 ⊢
              rw [List.map_cons, List.sum_cons]
              omega
          exact this l fun q hq => hpos q (by rw [hs]; exact List.mem_cons_of_mem _ hq)
        unfold totL at h2 ⊢
        rw [List.map_cons, List.sum_cons]
        omega
    have s13 := s1.trans s23
    refine ⟨_, rfl, _, rfl, _, rfl, _, rfl, _, rfl, _, _, rfl, rfl, _, _, rfl, rfl, p, x, o, (n : Int), i, f, (sh : Int), (sh : Int) + totL sts - 1, rfl, hp.ext s13, by omega, by omega, hx.ext s13, fun k hk H' d s hd => kb k hk H' d (s13.trans s) hd, fun us ho hgood H4 s34 => ?_⟩
    obtain ⟨lks, rfl, hLok⟩ := hgood.lks
    obtain ⟨knt, k⟩ := k0 lks ho hLok
    subst ho
    obtain ⟨L, rfl, hL, _⟩ := hx
    clear kb k0
    have s14 := s13.trans s34
    have s24 := s23.trans s34
    by_cases hlong : (2000 : Int) < totL sts
    · exact ⟨_, rfl, _, _, rfl, rfl, true, congrArg V.bl (decide_eq_true hlong), iteT (knt hlong _ s14)⟩
    replace htot : totL sts ≤ 2000 := by omega
    replace k := k htot
    refine ⟨_, rfl, _, _, rfl, rfl, false, congrArg V.bl (decide_eq_false (by show ¬ (2000 : Int) < totL sts; omega)), iteF ?_⟩
    clear hD nD s34 s23 s13 H3 D
    -- the names
    refine ⟨_, rfl, S, rfl, ⟨_, SqL.of (s24 _ _ hrs)⟩, fun N nN => lc2_it walk_list (fun j H' => Same H4 H' ∧ H' N = some (.lst ((namesL (sts.take j)).map V.str))) ⟨same_new nN, upd_same⟩ (fun j H' _ h => SqL.of (h.1 _ _ (s24 _ _ hrs))) ?_ ?_⟩
    · rintro j x H5 H' hj ⟨sg, hN⟩ ⟨rfl, hx⟩
      rw [List.length_map] at hj
      have hrj : rs[j]? = some rs[j] := List.getElem?_eq_getElem hj
      generalize rs[j] = r at hrj
      obtain rfl : x = .ref r := by
        rw [List.getElem?_map, hrj] at hx
        exact (Option.some.inj hx).symm
      obtain ⟨⟨z, q⟩, hq, hr'⟩ := paired_at hps hrj
      have hq1 := hpos _ (List.mem_of_getElem? hq)
      replace hq1 : 1 ≤ q := hq1
      have enx : namesL (sts.take (j + 1)) = namesL (sts.take j) ++ List.replicate q.toNat z := by
        unfold namesL
        rw [List.take_add_one, hq, List.flatMap_append]
        show _ ++ (List.replicate q.toNat z ++ []) = _
        rw [List.append_nil]
      have hle := htk (j + 1)
      rw [enx, List.length_append, List.length_replicate] at hle
      refine ⟨r, _, rfl, SqT.of (sg _ _ (s24 _ _ hr')), rfl, _, _, rfl, _, _, rfl, rfl, rfl, _, rfl, q, rfl, by omega, by omega, ?_⟩
      refine lc2_in (walk_range (lo := 0) (n := q.toNat)) (fun t H' => Same H4 H' ∧ H' N = some (.lst ((namesL (sts.take j) ++ List.replicate t z).map V.str))) ⟨sg, by rw [hN]; simp⟩ (fun _ _ _ _ => trivial) ?_ ?_
      · rintro t x H6 H7 ht ⟨sg6, hN6⟩ ⟨rfl, rfl⟩
        refine ⟨rfl, _, rfl, _, hN6, ?_, same_app sg6 (Same.refl _) nN, ?_⟩
        · rw [List.length_map, List.length_append, List.length_replicate]
          exact Nat.lt_of_lt_of_le (show _ < 2001 by omega) (by decide)
        · rw [upd_same, List.replicate_succ']
          simp
      · rintro H6 ⟨sg6, hN6⟩
        exact ⟨sg6, by rw [enx]; exact hN6⟩
    rintro H5 ⟨s45, hN⟩
    rw [List.length_map, hrl, List.take_length] at hN
    have s15 := s14.trans s45
    clear nN s45 s24
    -- the looks that come due
    refine ⟨_, rfl, totL sts, rfl, by omega, by omega, fun D nD => lc_range (lo := 0) (n := (totL sts).toNat) (fun t H' => Same H5 H' ∧ H' D = some (.lst ((((List.range (namesL sts).length).map fun t => dueAt lks n (sh + t)).take t).map V.bl))) ⟨same_new nD, upd_same⟩ ?_ ?_⟩
    · rintro t H6 ht ⟨sg, hD⟩
      have htl : t < (namesL sts).length := by omega
      have hlt : (sh + t) / n < lks.length := by
        have h1 := hLok.len
        obtain ⟨m, hm⟩ : ∃ m : Nat, (sh : Int) + totL sts - 1 = (m : Int) := ⟨((sh : Int) + totL sts - 1).toNat, by omega⟩
        rw [hm] at h1
        have h2 : (m : Int) / (n : Int) = ((m / n : Nat) : Int) := rfl
        rw [h2] at h1
        have h3 : (sh + t) / n ≤ m / n := Nat.div_le_div_right (by omega)
        omega
      have s16 := s15.trans sg
      refine ⟨rfl, _, rfl, _, rfl, _, rfl, _, _, rfl, rfl, _, rfl, p, _, dp, _, _, rfl, s16 _ _ hp', T.c_Sampler, T.sP, saf_period .., L, lks, sh + t, n, congrArg (fun z => [V.ref L, V.int z, V.int (n : Int)]) (by omega), SqL.of (s16 _ _ hL), n1, n8, hlt, _, hD, ?_, same_app sg (Same.refl _) nD, ?_⟩
      · rw [List.length_map, List.length_take, List.length_map, List.length_range]
        exact Nat.lt_of_le_of_lt (Nat.min_le_left _ _) (Nat.lt_of_lt_of_le (show t < 2001 by omega) (by decide))
      · rw [upd_same, List.take_add_one, List.map_append, List.getElem?_map, List.getElem?_range htl]
        rfl
    rintro H6 ⟨s56, hD⟩
    rw [List.take_of_length_le (by rw [List.length_map, List.length_range]; omega)] at hD
    have s16 := s15.trans s56
    refine ⟨_, rfl, _, rfl, _, rfl, g, N, D, xs, st, dx, tn, dP, dN, runL sts lks n sh, rfl, hg.ext s16, SqL.of (by rw [runL_names]; exact s56 _ _ hN), SqL.of (by rw [runL_dues]; exact hD), by rw [runL_len]; omega, fun q hq => ?_, fun H' r dr ti no s' hrec f1 f2 => k H' r dr ti no (s16.trans s') hrec (none_of s16 f1) (none_of s16 f2)⟩
    have hm : q.1 ∈ (runL sts lks n sh).map (·.1) := List.mem_map_of_mem hq
    rw [runL_names] at hm
    obtain ⟨p', hp', e⟩ := namesL_mem hm
    obtain ⟨j, hj⟩ := List.mem_iff_getElem?.mp hp'
    obtain ⟨iy, y, hy, hyz, _⟩ := hSok.hs j p' hj
    rw [← e, ← hyz]
    exact List.mem_map_of_mem (List.mem_of_getElem? hy)
/-- observe(p, s, stays, looks, phase=q), observe(p, s, stays, looks) -/
theorem O_obs4k {fd : FuncData} (F : FunD K "observe" "observe" (defArgs s_observe) (defBody s_observe) (defScope s_observe) [] [("phase", .non)] (He.fAd K ("observe", none)) fd) (G : FnOk P w K mg base (L2.CX P w) 7 (He.fAd K ("observe", none)) fd ["program", "sampler", "stays", "looks", "phase"] (spObs K)) :
    OkK P w K mg base (L2.CX P w) 7 ("observe", none) ["program", "sampler", "stays", "looks", "phase"] 4 ["phase"] (fun vs zs => vs ++ zs) (spObs K) := by
  obtain ⟨mv, b⟩ := F.kbinds0 (ps := ["program", "sampler", "stays", "looks", "phase"]) 4 ["phase"] [] (fun us _ ws => us ++ ws) (by decide) (fun _ h => nomatch h) (fun r1 _ r3 => r1.append r3)
    fun D doc pm an cdv ct us mv ws h1 h2 h3 => match us, mv, ws, h1, h2, h3 with | [_, _, _, _], [], [_], _, _, _ => rfl
  exact ⟨fd, _, G, b⟩
theorem O_obs4 {fd : FuncData} (F : FunD K "observe" "observe" (defArgs s_observe) (defBody s_observe) (defScope s_observe) [] [("phase", .non)] (He.fAd K ("observe", none)) fd) (G : FnOk P w K mg base (L2.CX P w) 7 (He.fAd K ("observe", none)) fd ["program", "sampler", "stays", "looks", "phase"] (spObs K)) :
    OkK P w K mg base (L2.CX P w) 7 ("observe", none) ["program", "sampler", "stays", "looks", "phase"] 4 [] (fun vs _ => vs ++ [.non]) (spObs K) := by
  obtain ⟨mv, b⟩ := F.kbinds0 (ps := ["program", "sampler", "stays", "looks", "phase"]) 4 [] [("phase", .non)] (fun us mv _ => us ++ mv) (by decide) (fun _ h => h) (fun r1 r2 _ => r1.append r2)
    fun D doc pm an cdv ct us mv ws h1 h2 h3 => match us, mv, ws, h1, h2, h3 with | [_, _, _, _], [_], [], _, _, _ => ⟨_, _, _, _, _, _, rfl, rfl, rfl⟩
  exact ⟨fd, _, G, b⟩
end
end K16

set_option Elab.async false
set_option linter.all false
set_option pp.deepTerms.threshold 14
set_option pp.maxSteps 2500
set_option maxRecDepth 100000
set_option maxHeartbeats 2000000
namespace K16
open PySem PySem.Spec PyProof.Rows L2 Vf 
section
variable {P : Program} {w : World} {K : PySem.W.Frag} {mg : Str → Option Value} {base : Heap}
structure Txt (K : PySem.W.Frag) (mg : Str → Option Value) : Prop extends RTxt K mg where
  g_law_cell : mg "_law_cell" = some (.ref (He.ga K "_law_cell"))
  g_law_take : mg "_law_take" = some (.ref (He.ga K "_law_take"))
  g_law_is_integer : mg "_law_is_integer" = some (.ref (He.ga K "_law_is_integer"))
  g_law_told : mg "_law_told" = some (.ref (He.ga K "_law_told"))
  g_law_called : mg "_law_called" = some (.ref (He.ga K "_law_called"))
  g_law_profile_fits : mg "_law_profile_fits" = some (.ref (He.ga K "_law_profile_fits"))
theorem sc_law_take : FnScope ["_law_draw", "_law_size", "_law_taken"] ["_law_draw", "_law_size"] (defScope s_law_take) := ⟨rfl, rfl, rfl, by decide +kernel, rfl, by decide +kernel, by decide +kernel⟩
-- slots: 0 _law_draw, 1 _law_size, 2 _law_taken
theorem ok_law_take {fd : FuncData} (F : FnD K ("_law_take", none) "_law_take" "_law_take" s_law_take fd) (T : Txt K mg) : OkF P w K mg base CX0 1 "_law_take" ["_law_draw", "_law_size"] spTake := by
  refine okd F (F.ok sc_law_take (fun vs H Q E h => ?_) fun cdv A outer s H vs Q E hr h => ?_) fun _ _ _ _ _ _ us hl => match us, hl with | [_, _], _ => rfl
  · obtain ⟨d, n, s, rfl, _⟩ := h
    rfl
  · obtain ⟨d, n, s, rfl, hd, s0, s1, q⟩ := h
    refine ⟨_, PSs.nox (pss_cons (ps_set (i := 2) sc_law_take.nd rfl (Or.inl rfl) (pe_op op_mod (pe_callTy call_int1 (by rfl) T.z_int (by decide +kernel) (pa_cons (pe_ix ix_list (pv 0) pe_int (fun _ _ => rfl)) pa_nil)) (pv 1)))
  (pss_cons (ps_asg (pe_op op_fdiv (pe_ix ix_list (pv 0) pe_int (fun _ _ => rfl)) (pv 1)) (pg_sub (pv 0) pe_int set_list))
  (pss_one (ps_ret (pv 2))))), ?_⟩
    refine ⟨_, rfl, d, [.int n], 0, .int n, rfl, rfl, SqL.of hd, atI0, .inl ⟨n, rfl, _, rfl, n, s, rfl, rfl, s0, ?_⟩⟩
    refine ⟨_, rfl, d, [.int n], 0, .int n, rfl, rfl, SqL.of hd, atI0, _, rfl, n, s, rfl, rfl, ⟨s0, s1⟩, ?_⟩
    refine ⟨_, rfl, d, [.int n], 0, 0, rfl, rfl, hd, ixN0, _, rfl, ?_⟩
    exact q (n % s) (n / s) (Int.emod_nonneg n (by omega)) (Int.emod_lt_of_pos n s0)
theorem sc_law_cell : FnScope ["_law_script", "_law_k", "_law_cell_here", "_law_number", "_law_total", "_law_step"] ["_law_script", "_law_k"] (defScope s_law_cell) := ⟨rfl, rfl, rfl, by decide +kernel, rfl, by decide +kernel, by decide +kernel⟩
-- slots: 0 _law_script, 1 _law_k, 2 _law_cell_here, 3 _law_number, 4 _law_total, 5 _law_step
theorem ok_law_cell {fd : FuncData} (F : FnD K ("_law_cell", none) "_law_cell" "_law_cell" s_law_cell fd) (T : Txt K mg) : OkF P w K mg base CX0 1 "_law_cell" ["_law_script", "_law_k"] (Vf.spCell K) := by
  refine okd F (F.ok sc_law_cell (fun vs H Q E h => ?_) fun cdv A outer s H vs Q E hr h => ?_) fun _ _ _ _ _ _ us hl => match us, hl with | [_, _], _ => rfl
  · obtain ⟨l, ns, j, rfl, _⟩ := h
    rfl
  · obtain ⟨l, ns, j, rfl, hS, hj, q⟩ := h
    refine ⟨_, PSs.nox (pss_cons (ps_set (i := 2) sc_law_cell.nd rfl (Or.inl rfl) pe_int)
  (C8.pss_cut (ps_if (pt_cmpR op_lt (pv 1) (pe_callB (id := "len") call_len_seq (by rfl) T.z_len (by decide +kernel) (pa_cons (pv 0) pa_nil)) (nomark _)) (pss_one (ps_set (i := 2) sc_law_cell.nd rfl (Or.inl rfl) (pe_ix ix_list (pv 0) (pv 1) (fun _ _ => rfl))))
  pss_nil)
  (pss_cons (ps_if (pt_cmpR op_ge (pv 2) (pe_op op_pow pe_int pe_int) (nomark _)) (pss_one (ps_ret (pv 2)))
  pss_nil)
  (pss_cons (ps_set (i := 3) sc_law_cell.nd rfl (Or.inl rfl) (pe_op op_mod (pe_callTy call_int1 (by rfl) T.z_int (by decide +kernel) (pa_cons (pe_op op_add (pe_op op_add (pe_op op_mul (pv 2) pe_int) (pe_op op_mul (pv 1) pe_int)) pe_int) pa_nil)) pe_int))
  (pss_cons (ps_set (i := 4) sc_law_cell.nd rfl (Or.inl rfl) pe_int)
  (pss_cons (ps_for PassesOwn.never rfl (pi_range1 rfl T.z_range (pa_cons pe_int pa_nil)) (pg_name (i := 5) sc_law_cell.nd rfl (Or.inl rfl))
  (pss_cons (ps_set (i := 3) sc_law_cell.nd rfl (Or.inl rfl) (pe_op op_mod (pe_callTy call_int1 (by rfl) T.z_int (by decide +kernel) (pa_cons (pe_op op_add (pe_op op_add (pe_op op_mul (pv 3) pe_int) (pe_op op_mul (pv 5) pe_int)) pe_int) pa_nil)) pe_int))
  (pss_cons (ps_set (i := 3) sc_law_cell.nd rfl (Or.inl rfl) (pe_op op_mod (pe_callTy call_int1 (by rfl) T.z_int (by decide +kernel) (pa_cons (pe_op op_mul (pv 3) (pe_op op_add (pe_op op_fdiv (pv 3) pe_int) pe_int)) pa_nil)) pe_int))
  (pss_one (ps_set (i := 4) sc_law_cell.nd rfl (Or.inl rfl) (pe_op op_add (pe_op op_mul (pv 4) pe_int) (pv 3)))))))
  (pss_one (ps_ret (pv 4))))))))), ?_⟩
    refine ⟨fun σ' H' => H' = H ∧ ∃ c : Int, σ' = [some (.ref l), some (.int (j : Int)), some (.int c), none, none, none], ?_, ?_⟩
    · refine ⟨_, rfl, _, rfl, l, _, rfl, .inl hS, _, _, rfl, rfl, _, rfl, ite2 (fun hlt => ?_) fun _ => ⟨rfl, 0, rfl⟩⟩
      have hj2 : j < ns.length := by
        have := of_decide_eq_true hlt
        rw [List.length_map] at this
        omega
      refine ⟨_, rfl, _, rfl, l, _, (j : Int), .int ns[j], rfl, rfl, hS, atI_nat ?_, rfl, _, rfl⟩
      rw [List.getElem?_map, List.getElem?_eq_getElem hj2]
      rfl
    rintro σ' H' ⟨rfl, c, rfl⟩
    refine ⟨_, rfl, 10, 18, rfl, rfl, ⟨by decide, by decide, by decide⟩, _, _, rfl, rfl, _, rfl, ite2 (fun _ => ⟨_, rfl, q c⟩) fun _ => ?_⟩
    refine ⟨_, rfl, c, 7, rfl, rfl, .inr ⟨by decide, by decide⟩, _, rfl, (j : Int), 7919, rfl, rfl, .inr ⟨by decide, by decide⟩, _, _, rfl, rfl, _, _, rfl, rfl, .inl ⟨_, rfl, _, 2147483647, rfl, rfl, (by show (0 : Int) < 2147483647; decide), ?_⟩⟩
    refine ⟨8, rfl, by decide, by decide, for_range (lo := 0) (n := 8) (fun i σ H1 => H1 = H' ∧ ∃ (num tot : Int) (v : Option V), 0 ≤ num ∧ num < 2147483647 ∧ σ = [some (.ref l), some (.int (j : Int)), some (.int c), some (.int num), some (.int tot), v]) ?_ ?_ ?_⟩
    · exact ⟨rfl, _, 0, none, Int.emod_nonneg _ (by decide), Int.emod_lt_of_pos _ (by decide), rfl⟩
    · rintro i σ H1 hi ⟨rfl, num, tot, v, h0, h1, rfl⟩
      refine ⟨_, rfl, num, 48271, rfl, rfl, .inr ⟨by decide, by decide⟩, _, rfl, _, 30103, rfl, rfl, .inr ⟨by decide, by decide⟩, _, _, rfl, rfl, _, 11, rfl, rfl, .inl ⟨_, rfl, _, 2147483647, rfl, rfl, (by show (0 : Int) < 2147483647; decide), ?_⟩⟩
      have b0 := Int.emod_nonneg (num * 48271 + (0 + (i : Int)) * 30103 + 11) (b := 2147483647) (by decide)
      have b1 := Int.emod_lt_of_pos (num * 48271 + (0 + (i : Int)) * 30103 + 11) (b := 2147483647) (by decide)
      refine ⟨_, rfl, _, rfl, _, 1009, rfl, rfl, ⟨by decide, by decide⟩, _, 69621, rfl, rfl, _, _, rfl, rfl, .inl ⟨by omega, by omega⟩, .inl ⟨_, rfl, _, 2147483629, rfl, rfl, (by show (0 : Int) < 2147483629; decide), ?_⟩⟩
      refine ⟨_, rfl, tot, 2147483629, rfl, rfl, .inr ⟨by decide, by decide⟩, _, rfl, _, _, rfl, rfl, ?_⟩
      exact ⟨rfl, _, _, _, Int.emod_nonneg _ (by decide), Int.lt_trans (Int.emod_lt_of_pos _ (by decide)) (by decide), rfl⟩
    · rintro σ H1 ⟨rfl, num, tot, v, h0, h1, rfl⟩
      exact ⟨_, rfl, q tot⟩
theorem sc_law_is_integer : FnScope ["_law_value"] ["_law_value"] (defScope s_law_is_integer) := ⟨rfl, rfl, rfl, by decide +kernel, rfl, by decide +kernel, by decide +kernel⟩
-- slots: 0 _law_value
theorem ok_law_is_integer {fd : FuncData} (F : FnD K ("_law_is_integer", none) "_law_is_integer" "_law_is_integer" s_law_is_integer fd) (T : Txt K mg) : OkF P w K mg base CX0 1 "_law_is_integer" ["_law_value"] spIsInt := by
  refine okd F (F.ok sc_law_is_integer (fun vs H Q E h => ?_) fun cdv A outer s H vs Q E hr h => ⟨t_isint K, PSs.nox ?_, run_isint h⟩) fun _ _ _ _ _ _ us hl => match us, hl with | [_], _ => rfl
  · obtain ⟨x, rfl, _⟩ := h
    rfl
  · exact (pss_one (ps_ret (pe_and (pe_callB (id := "isinstance") call_isi (by rfl) T.z_isinstance (by decide +kernel) (pa_cons (pv 0) (pa_cons (pe_ty (n := "int") T.z_int (by decide +kernel)) pa_nil))) (pe_one (pe_not (pe_callB (id := "isinstance") call_isi (by rfl) T.z_isinstance (by decide +kernel) (pa_cons (pv 0) (pa_cons (pe_ty (n := "bool") T.z_bool (by decide +kernel)) pa_nil))))))))
end
end K16

set_option Elab.async false
set_option linter.all false
set_option pp.deepTerms.threshold 14
set_option pp.maxSteps 2500
set_option maxRecDepth 100000
set_option maxHeartbeats 2000000
namespace K16
open PySem PySem.Spec PyProof.Rows L2 Vf 
section
variable {P : Program} {w : World} {K : PySem.W.Frag} {mg : Str → Option Value} {base : Heap}
/-- a tick: its state, and whether it writes a note -/
structure Tk where
  z : Str
  sp : Int
  sl : Int
  dn : Bool
  wt : Bool
  nt : Bool
deriving DecidableEq
def TkA (H : Hp) (p : Addr) (k : Tk) : Prop := ∃ t, H p = some (.tup [.ref t, .bl k.nt]) ∧ H t = some (.tup [.str k.z, .int k.sp, .int k.sl, .bl k.dn, .bl k.wt])
theorem TkA.ext {H H' : Hp} {p : Addr} {k : Tk} (h : TkA H p k) (s : Same H H') : TkA H' p k := by
  obtain ⟨t, h1, h2⟩ := h
  exact ⟨t, s _ _ h1, s _ _ h2⟩
/-- the list of ticks at L -/
def TksA (H : Hp) (L : Addr) (ks : List Tk) : Prop := ∃ rs : List Addr, H L = some (.lst (rs.map V.ref)) ∧ Paired (TkA H) rs ks
theorem TksA.ext {H H' : Hp} {L : Addr} {ks : List Tk} (h : TksA H L ks) (s : Same H H') : TksA H' L ks := by
  obtain ⟨rs, h1, h2⟩ := h
  exact ⟨rs, s _ _ h1, paired_imp (fun _ _ q => q.ext s) h2⟩
theorem TkA.keep {H : Hp} {L p : Addr} {vs us : List V} {k : Tk} (h : TkA H p k) (hL : H L = some (.lst vs)) : TkA (upd H L (.lst us)) p k := by
  obtain ⟨t, h1, h2⟩ := h
  exact ⟨t, by rw [upd_ne (ne_of h1 hL (by intro z; cases z))]; exact h1, by rw [upd_ne (ne_of h2 hL (by intro z; cases z))]; exact h2⟩
theorem TksA.add {H : Hp} {L p : Addr} {ks : List Tk} {k : Tk} {vs : List V} (h : TksA H L ks) (hv : H L = some (.lst vs)) (hp : TkA H p k) : TksA (upd H L (.lst (vs ++ [.ref p]))) L (ks ++ [k]) := by
  obtain ⟨rs, h1, h2⟩ := h
  rw [hv] at h1
  cases h1
  exact ⟨rs ++ [p], by rw [upd_same, List.map_append]; rfl, paired_snoc (hp.keep hv) (paired_imp (fun r k q => q.keep hv) h2)⟩
theorem TksA.len {H : Hp} {L : Addr} {ks : List Tk} (h : TksA H L ks) : ∃ vs, H L = some (.lst vs) ∧ vs.length = ks.length := by
  obtain ⟨rs, h1, h2⟩ := h
  exact ⟨_, h1, by rw [List.length_map, paired_len h2]⟩
theorem paired_app {α β : Type} {R : α → β → Prop} : ∀ {xs xs' : List α} {ys ys' : List β}, Paired R xs ys → Paired R xs' ys' → Paired R (xs ++ xs') (ys ++ ys')
  | _, _, _, _, .nil, q => q
  | _, _, _, _, .cons r p, q => .cons r (paired_app p q)
/-- one list behind another, at a new place -/
theorem TksA.cat {H : Hp} {L M D : Addr} {ks ms : List Tk} {vs us : List V} (h : TksA H L ks) (h' : TksA H M ms) (hv : H L = some (.lst vs)) (hu : H M = some (.lst us)) (nD : H D = none) : TksA (upd H D (.lst (vs ++ us))) D (ks ++ ms) := by
  obtain ⟨rs, h1, h2⟩ := h
  obtain ⟨rs', h1', h2'⟩ := h'
  rw [hv] at h1
  rw [hu] at h1'
  cases h1
  cases h1'
  exact ⟨rs ++ rs', by rw [upd_same, List.map_append], paired_app (paired_imp (fun _ _ q => q.ext (same_new nD)) h2) (paired_imp (fun _ _ q => q.ext (same_new nD)) h2')⟩
/-- the row of this name -/
def rowQ (ys : List PgE) (z : Str) : Rw := match ys.find? (fun y => y.2.2.z == z) with
  | some y => y.2.2
  | none => ⟨"", 0, 0, false, []⟩
theorem rowQ_row {ys : List PgE} (nd : (zsOf ys).Nodup) {i : Nat} {y : PgE} (h : ys[i]? = some y) : rowQ ys y.2.2.z = y.2.2 := by
  unfold rowQ
  rw [find_row nd h]
theorem rowQ_z {ys : List PgE} (nd : (zsOf ys).Nodup) {z : Str} (h : z ∈ zsOf ys) : (rowQ ys z).z = z := by
  obtain ⟨i, y, hy, e⟩ := row_of h
  subst e
  rw [rowQ_row nd hy]
theorem rowQ_mem {ys : List PgE} (nd : (zsOf ys).Nodup) {z : Str} (h : z ∈ zsOf ys) : ∃ y ∈ ys, y.2.2 = rowQ ys z := by
  obtain ⟨i, y, hy, e⟩ := row_of h
  subst e
  exact ⟨y, List.mem_of_getElem? hy, (rowQ_row nd hy).symm⟩
def tkOff (i sl : Int) (bf due : Bool) : Bool := (due && bf) || (!due && (!bf && decide (sl = i)))
def tkOne (r : Rw) (i sp sl : Int) (bf wd due : Bool) : List Tk := if tkOff i sl bf due = true then [] else [⟨r.z, sp, sl, bf || due, (wd || due) && !r.b, (wd || due) && r.b⟩]
def tkL (r : Rw) (i sp sl : Int) (bf wd : Bool) : List Tk := tkOne r i sp sl bf wd false ++ tkOne r i sp sl bf wd true
def tkUp (r : Rw) (i sp sl : Int) (bf wd : Bool) : Nat → List Tk
  | 0 => []
  | 1 => tkOne r i sp sl bf wd false
  | _ => tkL r i sp sl bf wd
theorem tkOne_len (r : Rw) (i sp sl : Int) (bf wd due : Bool) : (tkOne r i sp sl bf wd due).length ≤ 1 := by
  unfold tkOne
  split
  · exact Nat.zero_le _
  · exact Nat.le_refl _
theorem tkL_len (r : Rw) (i sp sl : Int) (bf wd : Bool) : (tkL r i sp sl bf wd).length ≤ 2 := by
  unfold tkL
  rw [List.length_append]
  have h1 := tkOne_len r i sp sl bf wd false
  have h2 := tkOne_len r i sp sl bf wd true
  omega
theorem flat_len {α β : Type} {g : α → List β} {c : Nat} (h : ∀ a, (g a).length ≤ c) : ∀ (l : List α), (l.flatMap g).length ≤ l.length * c
  | [] => by simp
  | a :: l => by
    have h1 := h a
    have h2 := flat_len h l
    rw [List.flatMap_cons, List.length_append, List.length_cons, Nat.succ_mul]
    omega
theorem flat_up {α β : Type} (g : α → List β) {l : List α} {j : Nat} {a : α} (h : l[j]? = some a) : (l.take (j + 1)).flatMap g = (l.take j).flatMap g ++ g a := by
  rw [List.take_add_one, h, List.flatMap_append]
  show _ ++ (g a ++ []) = _
  rw [List.append_nil]
theorem nm_ok {z : Str} (h : nmB z = true) : PyData.strOk z = true := by
  unfold nmB at h
  simp only [Bool.and_eq_true] at h
  have h4 := h.2.2.2
  have hL : ∀ c ∈ LET.cps.toList, c < 0x110000 := by decide +kernel
  unfold PyData.strOk
  rw [Array.all_eq_true]
  intro i hi
  refine decide_eq_true (hL _ (of_decide_eq_true (List.all_eq_true.mp h4 _ ?_)))
  exact Array.getElem_mem_toList hi
theorem set_last {α : Type} (a : α) : ∀ {l : List α}, l ≠ [] → l.set (l.length - 1) a = l.dropLast ++ [a]
  | [], h => absurd rfl h
  | [_], _ => rfl
  | x :: y :: l, _ => by
    have ih := set_last a (l := y :: l) (fun h => by cases h)
    show (x :: y :: l).set (l.length + 1) a = x :: (y :: l).dropLast ++ [a]
    rw [List.set_cons_succ]
    exact congrArg (x :: ·) ih
theorem paired_drop {α β : Type} {R : α → β → Prop} : ∀ {xs : List α} {ys : List β}, Paired R xs ys → Paired R xs.dropLast ys.dropLast
  | _, _, .nil => .nil
  | _, _, .cons r .nil => .nil
  | _, _, .cons r (.cons q p) => .cons r (paired_drop (.cons q p))
theorem ixN_m1 {n : Nat} (h : 1 ≤ n) : ixN n (-1) = some (n - 1) := by
  unfold ixN
  rw [if_neg (by omega), if_pos (by omega)]
  congr 1
  omega
theorem StsA.len {H : Hp} {S : Addr} {sts : List (Str × Int)} (h : StsA H S sts) : ∃ vs, H S = some (.lst vs) ∧ vs.length = sts.length := by
  obtain ⟨rs, h1, h2⟩ := h
  exact ⟨_, h1, by rw [List.length_map, paired_len h2]⟩
theorem StsA.add {H : Hp} {S t : Addr} {sts : List (Str × Int)} {z : Str} {k : Int} {vs : List V} (h : StsA H S sts) (hv : H S = some (.lst vs)) (ht : H t = some (.tup [.str z, .int k])) : StsA (upd H S (.lst (vs ++ [.ref t]))) S (sts ++ [(z, k)]) := by
  obtain ⟨rs, h1, h2⟩ := h
  rw [hv] at h1
  cases h1
  refine ⟨rs ++ [t], by rw [upd_same, List.map_append]; rfl, paired_snoc ?_ (paired_imp (fun r p q => ?_) h2)⟩
  · rw [upd_ne (ne_of ht hv (by intro z; cases z))]
    exact ht
  · rw [upd_ne (ne_of q hv (by intro z; cases z))]
    exact q
theorem StsA.last {H : Hp} {S t : Addr} {sts : List (Str × Int)} {z : Str} {k : Int} {vs : List V} (h : StsA H S sts) (hv : H S = some (.lst vs)) (hne : sts ≠ []) (ht : H t = some (.tup [.str z, .int k])) : StsA (upd H S (.lst (vs.set (vs.length - 1) (.ref t)))) S (sts.dropLast ++ [(z, k)]) := by
  obtain ⟨rs, h1, h2⟩ := h
  rw [hv] at h1
  cases h1
  have hrn : rs.map V.ref ≠ [] := fun e => by
    have h3 := paired_len h2
    have h4 : rs = [] := List.map_eq_nil_iff.mp e
    rw [h4] at h3
    exact hne (List.length_eq_zero_iff.mp h3.symm)
  refine ⟨rs.dropLast ++ [t], by rw [upd_same, set_last _ hrn, List.map_append, List.map_dropLast]; rfl, paired_snoc ?_ (paired_imp (fun r p q => ?_) (paired_drop h2))⟩
  · rw [upd_ne (ne_of ht hv (by intro z; cases z))]
    exact ht
  · rw [upd_ne (ne_of q hv (by intro z; cases z))]
    exact q
theorem lk_last {l : List (Option Int)} (h : l ≠ []) (q : Int) : (l.map lkV).set ((l.map lkV).length - 1) (.int q) = (l.dropLast ++ [some q]).map lkV := by
  rw [set_last _ (fun e => h (List.map_eq_nil_iff.mp e)), List.map_append, List.map_dropLast]
  rfl
end
end K16

set_option Elab.async false
set_option linter.all false
set_option pp.deepTerms.threshold 14
set_option pp.maxSteps 2500
set_option maxRecDepth 100000
set_option maxHeartbeats 2000000
namespace K16
open PySem PySem.Spec PyProof.Rows L2 Vf 
section
variable {P : Program} {w : World} {K : PySem.W.Frag} {mg : Str → Option Value} {base : Heap}
structure LvTxt (K : PySem.W.Frag) (mg : Str → Option Value) : Prop extends RTxt K mg where
  g_look_flags : mg "look_flags" = some (.ref (He.ga K "look_flags"))
  g_pair_at : mg "pair_at" = some (.ref (He.ga K "pair_at"))
  g_is_one_of_choices : mg "is_one_of_choices" = some (.ref (He.ga K "is_one_of_choices"))
  g_stays_made : mg "stays_made" = some (.ref (He.ga K "stays_made"))
  g_looks_made : mg "looks_made" = some (.ref (He.ga K "looks_made"))
  g_Profile : mg "Profile" = some (.ref (He.ga K "Profile"))
  g_BadChoice : mg "BadChoice" = some (.ref (He.ga K "BadChoice"))
  x_BadChoice : ExI K "BadChoice" "index"
  c_Profile : Cls K (He.ga K "Profile")
  m_Profile : Mk K (He.ga K "Profile") (He.fAd K ("Profile", some "__init__"))
  fT : NoAttr K (He.ga K "Profile") "ticks"
  fP : NoAttr K (He.ga K "Profile") "_program"
  fS : NoAttr K (He.ga K "Profile") "_sampler"
  fF : NoAttr K (He.ga K "Profile") "_phase"
  fM : NoAttr K (He.ga K "Profile") "_made"
  fA : NoAttr K (He.ga K "Profile") "_state"
  fK : NoAttr K (He.ga K "Profile") "_mark"
structure PMeth (K : PySem.W.Frag) : Prop where
  m_choices : Meth K (He.ga K "Profile") "choices" (He.fAd K ("Profile", some "choices"))
  m_record : Meth K (He.ga K "Profile") "record" (He.fAd K ("Profile", some "record"))
  m_run : Meth K (He.ga K "Profile") "run" (He.fAd K ("Profile", some "run"))
  m__go_on : Meth K (He.ga K "Profile") "_go_on" (He.fAd K ("Profile", some "_go_on"))
  m__moves : Meth K (He.ga K "Profile") "_moves" (He.fAd K ("Profile", some "_moves"))
  m__spot : Meth K (He.ga K "Profile") "_spot" (He.fAd K ("Profile", some "_spot"))
  m__has_come : Meth K (He.ga K "Profile") "_has_come" (He.fAd K ("Profile", some "_has_come"))
  m__call__ : Meth K (He.ga K "Profile") "__call__" (He.fAd K ("Profile", some "__call__"))
  f_call : PySem.W.fnIn K (He.fAd K ("Profile", some "__call__")) = true
abbrev CPf (K : PySem.W.Frag) : Addr := He.ga K "Profile"
/-! ### a profile's fields -/
theorem lookup_mid {f : Str} {x : V} {r : List (Str × V)} : ∀ {l : List (Str × V)}, f ∉ l.map (·.1) → (l ++ (f, x) :: r).lookup f = some x
  | [], _ => by
    have hb : (f == f) = true := beq_iff_eq.mpr rfl
    simp only [List.nil_append, List.lookup, hb]
  | (g, y) :: l, h => by
    have hn : ¬ f = g := fun e => h (by rw [e]; exact List.mem_cons_self)
    have hb : (f == g) = false := beq_eq_false_iff_ne.mpr hn
    rw [List.cons_append]
    simp only [List.lookup, hb]
    exact lookup_mid fun m => h (List.mem_cons_of_mem _ m)
theorem lookup_out {f : Str} : ∀ {l : List (Str × V)}, f ∉ l.map (·.1) → l.lookup f = none
  | [], _ => rfl
  | (g, y) :: l, h => by
    have hn : ¬ f = g := fun e => h (by rw [e]; exact List.mem_cons_self)
    have hb : (f == g) = false := beq_eq_false_iff_ne.mpr hn
    simp only [List.lookup, hb]
    exact lookup_out fun m => h (List.mem_cons_of_mem _ m)
theorem putF_mid {f : Str} {v x : V} {r : List (Str × V)} : ∀ {l : List (Str × V)}, f ∉ l.map (·.1) → putF f v (l ++ (f, x) :: r) = l ++ (f, v) :: r
  | [], _ => by
    rw [List.nil_append, show putF f v ((f, x) :: r) = (if f = f then (f, v) :: r else (f, x) :: putF f v r) from rfl, if_pos rfl]
    rfl
  | (g, y) :: l, h => by
    have hn : ¬ g = f := fun e => h (by rw [e]; exact List.mem_cons_self)
    rw [List.cons_append, show putF f v ((g, y) :: (l ++ (f, x) :: r)) = (if g = f then (g, v) :: (l ++ (f, x) :: r) else (g, y) :: putF f v (l ++ (f, x) :: r)) from rfl, if_neg hn, putF_mid fun m => h (List.mem_cons_of_mem _ m)]
    rfl
theorem putF_end {f : Str} {v : V} : ∀ {l : List (Str × V)}, f ∉ l.map (·.1) → putF f v l = l ++ [(f, v)]
  | [], _ => rfl
  | (g, y) :: l, h => by
    have hn : ¬ g = f := fun e => h (by rw [e]; exact List.mem_cons_self)
    rw [show putF f v ((g, y) :: l) = (if g = f then (g, v) :: l else (g, y) :: putF f v l) from rfl, if_neg hn, putF_end fun m => h (List.mem_cons_of_mem _ m)]
    rfl
def pff (t : Int) (g p : Addr) (ph : Int) (M : Addr) (sv mk : V) : List (Str × V) := [("ticks", .int t), ("_program", .ref g), ("_sampler", .ref p), ("_phase", .int ph), ("_made", .ref M), ("_state", sv), ("_mark", mk)]
section
variable {t : Int} {g p : Addr} {ph : Int} {M : Addr} {sv mk : V}
theorem pff_ticks : (pff t g p ph M sv mk).lookup ("ticks" : Str) = some (.int t) := lookup_mid (l := []) (f := "ticks") (by decide +kernel)
theorem pff_program : (pff t g p ph M sv mk).lookup ("_program" : Str) = some (.ref g) := lookup_mid (l := [("ticks", .int t)]) (f := "_program") (by show ¬ ("_program" : Str) ∈ (["ticks"] : List Str); decide +kernel)
theorem pff_sampler : (pff t g p ph M sv mk).lookup ("_sampler" : Str) = some (.ref p) := lookup_mid (l := [("ticks", .int t), ("_program", .ref g)]) (f := "_sampler") (by show ¬ ("_sampler" : Str) ∈ (["ticks", "_program"] : List Str); decide +kernel)
theorem pff_phase : (pff t g p ph M sv mk).lookup ("_phase" : Str) = some (.int ph) := lookup_mid (l := [("ticks", .int t), ("_program", .ref g), ("_sampler", .ref p)]) (f := "_phase") (by show ¬ ("_phase" : Str) ∈ (["ticks", "_program", "_sampler"] : List Str); decide +kernel)
theorem pff_made : (pff t g p ph M sv mk).lookup ("_made" : Str) = some (.ref M) := lookup_mid (l := [("ticks", .int t), ("_program", .ref g), ("_sampler", .ref p), ("_phase", .int ph)]) (f := "_made") (by show ¬ ("_made" : Str) ∈ (["ticks", "_program", "_sampler", "_phase"] : List Str); decide +kernel)
theorem pff_state : (pff t g p ph M sv mk).lookup ("_state" : Str) = some sv := lookup_mid (l := [("ticks", .int t), ("_program", .ref g), ("_sampler", .ref p), ("_phase", .int ph), ("_made", .ref M)]) (f := "_state") (by show ¬ ("_state" : Str) ∈ (["ticks", "_program", "_sampler", "_phase", "_made"] : List Str); decide +kernel)
theorem pff_mark : (pff t g p ph M sv mk).lookup ("_mark" : Str) = some mk := lookup_mid (l := [("ticks", .int t), ("_program", .ref g), ("_sampler", .ref p), ("_phase", .int ph), ("_made", .ref M), ("_state", sv)]) (f := "_mark") (by show ¬ ("_mark" : Str) ∈ (["ticks", "_program", "_sampler", "_phase", "_made", "_state"] : List Str); decide +kernel)
theorem pff_out {f : Str} (h : ¬ f ∈ (["ticks", "_program", "_sampler", "_phase", "_made", "_state", "_mark"] : List Str) := by decide +kernel) : (pff t g p ph M sv mk).lookup f = none := lookup_out h
theorem pff_setT {t' : Int} : putF "ticks" (.int t') (pff t g p ph M sv mk) = pff t' g p ph M sv mk := putF_mid (l := []) (f := "ticks") (by decide +kernel)
theorem pff_setM {M' : Addr} : putF "_made" (.ref M') (pff t g p ph M sv mk) = pff t g p ph M' sv mk := putF_mid (l := [("ticks", .int t), ("_program", .ref g), ("_sampler", .ref p), ("_phase", .int ph)]) (f := "_made") (by show ¬ ("_made" : Str) ∈ (["ticks", "_program", "_sampler", "_phase"] : List Str); decide +kernel)
theorem pff_setA {s' : V} : putF "_state" s' (pff t g p ph M sv mk) = pff t g p ph M s' mk := putF_mid (l := [("ticks", .int t), ("_program", .ref g), ("_sampler", .ref p), ("_phase", .int ph), ("_made", .ref M)]) (f := "_state") (by show ¬ ("_state" : Str) ∈ (["ticks", "_program", "_sampler", "_phase", "_made"] : List Str); decide +kernel)
theorem pff_setK {k' : V} : putF "_mark" k' (pff t g p ph M sv mk) = pff t g p ph M sv k' := putF_mid (l := [("ticks", .int t), ("_program", .ref g), ("_sampler", .ref p), ("_phase", .int ph), ("_made", .ref M), ("_state", sv)]) (f := "_mark") (by show ¬ ("_mark" : Str) ∈ (["ticks", "_program", "_sampler", "_phase", "_made", "_state"] : List Str); decide +kernel)
theorem pff_len : (pff t g p ph M sv mk).length < 1000 := by show 7 < 1000; decide
theorem pff_all : putF "_mark" mk (putF "_state" sv (putF "_made" (.ref M) (putF "_phase" (.int ph) (putF "_sampler" (.ref p) (putF "_program" (.ref g) (putF "ticks" (.int t) [])))))) = pff t g p ph M sv mk := by
  rw [putF_end (f := "ticks") (l := []) (by decide +kernel), List.nil_append]
  rw [putF_end (f := "_program") (by show ¬ ("_program" : Str) ∈ (["ticks"] : List Str); decide +kernel)]
  rw [putF_end (f := "_sampler") (by show ¬ ("_sampler" : Str) ∈ (["ticks", "_program"] : List Str); decide +kernel)]
  rw [putF_end (f := "_phase") (by show ¬ ("_phase" : Str) ∈ (["ticks", "_program", "_sampler"] : List Str); decide +kernel)]
  rw [putF_end (f := "_made") (by show ¬ ("_made" : Str) ∈ (["ticks", "_program", "_sampler", "_phase"] : List Str); decide +kernel)]
  rw [putF_end (f := "_state") (by show ¬ ("_state" : Str) ∈ (["ticks", "_program", "_sampler", "_phase", "_made"] : List Str); decide +kernel)]
  rw [putF_end (f := "_mark") (by show ¬ ("_mark" : Str) ∈ (["ticks", "_program", "_sampler", "_phase", "_made", "_state"] : List Str); decide +kernel)]
  rfl
end
/-! ### choices, states, profiles -/
/-- a choice: the name of the place that is gone to, none for going on; whether a look comes due -/
abbrev Ch : Type := Option Str × Bool
def mvV : Option Str → V
  | none => .non
  | some z => .str z
def ChA (H : Hp) (r : Addr) (c : Ch) : Prop := H r = some (.tup [mvV c.1, .bl c.2])
theorem ChA.ext {H H' : Hp} {r : Addr} {c : Ch} (h : ChA H r c) (s : Same H H') : ChA H' r c := s _ _ h
/-- the list of choices at L -/
def ChsA (H : Hp) (L : Addr) (cs : List Ch) : Prop := ∃ rs : List Addr, H L = some (.lst (rs.map V.ref)) ∧ Paired (ChA H) rs cs
theorem ChsA.ext {H H' : Hp} {L : Addr} {cs : List Ch} (h : ChsA H L cs) (s : Same H H') : ChsA H' L cs := by
  obtain ⟨rs, h1, h2⟩ := h
  exact ⟨rs, s _ _ h1, paired_imp (fun _ _ q => q.ext s) h2⟩
/-- the tuple of a tick's state -/
def StA (H : Hp) (t : Addr) (k : Tk) : Prop := H t = some (.tup [.str k.z, .int k.sp, .int k.sl, .bl k.dn, .bl k.wt])
def StO (H : Hp) (v : V) : Option Tk → Prop
  | none => v = .non
  | some k => ∃ t, v = .ref t ∧ StA H t k
theorem StO.ext {H H' : Hp} {v : V} {o : Option Tk} (h : StO H v o) (s : Same H H') : StO H' v o := by
  cases o with
  | none => exact h
  | some k =>
    obtain ⟨t, e, h⟩ := h
    exact ⟨t, e, s _ _ h⟩
/-- at q a profile: its program, its sampler, its phase, the choices made, the state it is in, its mark -/
structure PfA (K : PySem.W.Frag) (H : Hp) (q g p : Addr) (sh : Nat) (cs : List Ch) (o : Option Tk) (mk : V) (dx M : Addr) (sv : V) : Prop where
  hq : H q = some (.ins (CPf K) dx (pff (cs.length : Int) g p (sh : Int) M sv mk))
  hM : ChsA H M cs
  hs : StO H sv o
theorem PfA.ext {K : PySem.W.Frag} {H H' : Hp} {q g p : Addr} {sh : Nat} {cs : List Ch} {o : Option Tk} {mk : V} {dx M : Addr} {sv : V} (h : PfA K H q g p sh cs o mk dx M sv) (s : Same H H') : PfA K H' q g p sh cs o mk dx M sv :=
  ⟨s _ _ h.hq, h.hM.ext s, h.hs.ext s⟩
theorem ChsA.keep {H H' : Hp} {q L : Addr} {cs : List Ch} {C dx : Addr} {fs : List (Str × V)} (h : ChsA H L cs) (hq : H q = some (.ins C dx fs)) (s : SameX q H H') : ChsA H' L cs := by
  obtain ⟨rs, h1, h2⟩ := h
  refine ⟨rs, s _ _ (ne_of h1 hq (by intro z; cases z)) h1, paired_imp (fun r c e => ?_) h2⟩
  have e : H r = some (.tup [mvV c.1, .bl c.2]) := e
  exact s _ _ (ne_of e hq (by intro z; cases z)) e
theorem StO.keep {H H' : Hp} {q : Addr} {v : V} {o : Option Tk} {C dx : Addr} {fs : List (Str × V)} (h : StO H v o) (hq : H q = some (.ins C dx fs)) (s : SameX q H H') : StO H' v o := by
  cases o with
  | none => exact h
  | some k =>
    obtain ⟨t, e, h⟩ := h
    have h : H t = some (.tup [.str k.z, .int k.sp, .int k.sl, .bl k.dn, .bl k.wt]) := h
    exact ⟨t, e, s _ _ (ne_of h hq (by intro z; cases z)) h⟩
/-- another profile moves on -/
theorem PfA.keep {K : PySem.W.Frag} {H H' : Hp} {q q' g p : Addr} {sh : Nat} {cs : List Ch} {o : Option Tk} {mk : V} {dx M : Addr} {sv : V} {C dx' : Addr} {fs : List (Str × V)} (h : PfA K H q g p sh cs o mk dx M sv) (hn : q ≠ q') (hq : H q' = some (.ins C dx' fs)) (s : SameX q' H H') : PfA K H' q g p sh cs o mk dx M sv :=
  ⟨s _ _ hn h.hq, h.hM.keep hq s, h.hs.keep hq s⟩
def flL (i sl : Int) (cm : Bool) : List Bool := if cm = true then [false] else if sl = i then [true] else [false, true]
theorem sc_look_flags : FnScope ["sampler", "spot", "came"] ["sampler", "spot", "came"] (defScope s_look_flags) := ⟨rfl, rfl, rfl, by decide +kernel, rfl, by decide +kernel, by decide +kernel⟩
-- slots: 0 sampler, 1 spot, 2 came
def spLF (K : PySem.W.Frag) : Sp := fun vs H Q _ => ∃ (p : Addr) (n i : Int) (f : V) (sl : Int) (cm : Bool), vs = [.ref p, .int sl, .bl cm] ∧ SaA (CS K) H p n i f ∧ ∀ H' a, Same H H' → H' a = some (.tup ((flL i sl cm).map V.bl)) → Q (.ref a) H'
theorem ok_look_flags {fd : FuncData} (F : FnD K ("look_flags", none) "look_flags" "look_flags" s_look_flags fd) (T : RTxt K mg) : OkF P w K mg base CX0 1 "look_flags" ["sampler", "spot", "came"] (spLF K) := by
  refine okd F (F.ok sc_look_flags (fun vs H Q E h => ?_) fun cdv A outer s H vs Q E hr h => ?_) fun _ _ _ _ _ _ us hl => match us, hl with | [_, _, _], _ => rfl
  · obtain ⟨p, n, i, f, sl, cm, rfl, _⟩ := h
    rfl
  · obtain ⟨p, n, i, f, sl, cm, rfl, hp, k⟩ := h
    obtain ⟨dx, hp⟩ := hp
    refine ⟨_, PSs.nox (pss_cons (ps_if (pt_val (pv 2)) (pss_one (ps_ret (pe_tup (pa_cons pe_bl pa_nil))))
  pss_nil)
  (pss_cons (ps_if (pt_cmpR op_eq (pv 1) (pe_fld (pv 0) rfl) (nomark _)) (pss_one (ps_ret (pe_tup (pa_cons pe_bl pa_nil))))
  pss_nil)
  (pss_one (ps_ret (pe_tup (pa_cons pe_bl (pa_cons pe_bl pa_nil))))))), ?_⟩
    refine ⟨_, rfl, cm, rfl, ite2 (fun hc => ?_) fun hc => ?_⟩
    · have e : flL i sl cm = [false] := if_pos hc
      rw [e] at k
      exact ⟨(by show 1 ≤ sizeLine; decide), fun a na => k _ a (same_new na) upd_same⟩
    · have e : flL i sl cm = if sl = i then [true] else [false, true] := if_neg hc
      rw [e] at k
      refine ⟨_, rfl, _, rfl, p, _, dx, _, _, rfl, hp, T.c_Sampler, T.sJ, saf_jitter .., rfl, _, rfl, ite2 (fun hj => ?_) fun hj => ?_⟩
      · rw [if_pos (V.int.inj (of_decide_eq_true hj))] at k
        exact ⟨(by show 1 ≤ sizeLine; decide), fun a na => k _ a (same_new na) upd_same⟩
      · rw [if_neg (fun z => hj (decide_eq_true (congrArg V.int z)))] at k
        exact ⟨(by show 2 ≤ sizeLine; decide), fun a na => k _ a (same_new na) upd_same⟩
theorem sc_pair_at : FnScope ["place", "spent", "slot", "done", "waits"] ["place", "spent", "slot", "done", "waits"] (defScope s_pair_at) := ⟨rfl, rfl, rfl, by decide +kernel, rfl, by decide +kernel, by decide +kernel⟩
-- slots: 0 place, 1 spent, 2 slot, 3 done, 4 waits
def spPA (K : PySem.W.Frag) : Sp := fun vs H Q _ => ∃ (a : Addr) (z : Str) (l m : Int) (b : Bool) (sp sl : Int) (dn wt : Bool), vs = [.ref a, .int sp, .int sl, .bl dn, .bl wt] ∧ PlA (CP K) H a z l m b ∧
  ∀ H' r t, Same H H' → H' r = some (.tup [.ref t, .bl (wt && b)]) → H' t = some (.tup [.str z, .int sp, .int sl, .bl dn, .bl (wt && !b)]) → Q (.ref r) H'
theorem ok_pair_at {fd : FuncData} (F : FnD K ("pair_at", none) "pair_at" "pair_at" s_pair_at fd) (T : RTxt K mg) : OkF P w K mg base CX0 1 "pair_at" ["place", "spent", "slot", "done", "waits"] (spPA K) := by
  refine okd F (F.ok sc_pair_at (fun vs H Q E h => ?_) fun cdv A outer s H vs Q E hr h => ?_) fun _ _ _ _ _ _ us hl => match us, hl with | [_, _, _, _, _], _ => rfl
  · obtain ⟨a, z, l, m, b, sp, sl, dn, wt, rfl, _⟩ := h
    rfl
  · obtain ⟨a, z, l, m, b, sp, sl, dn, wt, rfl, hp, k⟩ := h
    obtain ⟨dx, hp⟩ := hp
    refine ⟨_, PSs.nox (pss_one (ps_ret (pe_tup (pa_cons (pe_tup (pa_cons (pe_fld (pv 0) rfl) (pa_cons (pv 1) (pa_cons (pv 2) (pa_cons (pv 3) (pa_cons (pe_andB (pv 4) (pe_one (pe_not (pe_fld (pv 0) rfl)))) pa_nil)))))) (pa_cons (pe_andB (pv 4) (pe_one (pe_fld (pv 0) rfl))) pa_nil))))), ?_⟩
    refine ⟨_, rfl, a, _, dx, _, _, rfl, hp, T.c_Place, T.nN, plf_name .., _, rfl, _, rfl, _, rfl, _, rfl, wt, !b, (· = H), rfl, fun _ => ?_, fun _ => rfl, fun H1 e => ?_⟩
    · exact ⟨_, rfl, a, _, dx, _, _, rfl, hp, T.c_Place, T.nT, plf_let .., b, rfl, rfl, rfl⟩
    subst e
    refine ⟨(by show 5 ≤ sizeLine; decide), fun t nt => ?_⟩
    have s1 := same_new (o := .tup [.str z, .int sp, .int sl, .bl dn, .bl (wt && !b)]) nt
    refine ⟨_, rfl, wt, b, (· = upd H1 t (.tup [.str z, .int sp, .int sl, .bl dn, .bl (wt && !b)])), rfl, fun _ => ?_, fun _ => rfl, fun H2 e => ?_⟩
    · exact ⟨_, rfl, a, _, dx, _, _, rfl, s1 _ _ hp, T.c_Place, T.nT, plf_let .., rfl, rfl⟩
    subst e
    refine ⟨(by show 2 ≤ sizeLine; decide), fun r nr => ?_⟩
    exact k _ r t (s1.trans (same_new nr)) upd_same (same_new nr _ _ upd_same)
end
end K16

set_option Elab.async false
set_option linter.all false
set_option pp.deepTerms.threshold 14
set_option pp.maxSteps 2500
set_option maxRecDepth 100000
set_option maxHeartbeats 2000000
namespace K16
open PySem PySem.Spec PyProof.Rows L2 Vf 
section
variable {P : Program} {w : World} {K : PySem.W.Frag} {mg : Str → Option Value} {base : Heap}
theorem room65 {k : Nat} {A : Around} (r : Room k A) : A.units + 65 < cLine := by have := r.un; omega
/-- the moves that are possible behind the state o -/
def mvs (ys : List PgE) (bg : Str) : Option Tk → List (Option Str)
  | none => [some bg]
  | some k => (if k.sp < (rowQ ys k.z).m then [none] else []) ++ (if (rowQ ys k.z).l ≤ k.sp then ((zsOf ys).filter fun z => decide (z ∈ (rowQ ys k.z).ns)).map some else [])
/-- did the look of the slot come due ahead of the tick at place sl -/
def hcB (i : Int) (sh : Nat) (sl : Int) : Option Tk → Bool
  | none => decide ((sh : Int) > i)
  | some k => decide (sl ≠ 0) && k.dn
/-- the choices of the tick at place sl -/
def chL (ys : List PgE) (bg : Str) (i : Int) (sh : Nat) (sl : Int) (o : Option Tk) : List Ch := (mvs ys bg o).flatMap fun mv => (flL i sl (hcB i sh sl o)).map fun d => (mv, d)
/-- the tick that a choice makes -/
def nxT (ys : List PgE) (bg : Str) (i : Int) (sh : Nat) (sl : Int) (o : Option Tk) (c : Ch) : Tk :=
  let z := match c.1, o with | some z, _ => z | none, some k => k.z | none, none => bg
  let sp : Int := match c.1, o with | none, some k => k.sp + 1 | _, _ => 1
  let wd := (match o with | some k => k.wt | none => false) || c.2
  ⟨z, sp, sl, hcB i sh sl o || c.2, wd && !(rowQ ys z).b, wd && (rowQ ys z).b⟩
theorem flL_len (i sl : Int) (cm : Bool) : (flL i sl cm).length ≤ 2 := by
  unfold flL
  split
  · decide
  · split <;> decide
theorem filter_le {α : Type} (f : α → Bool) (l : List α) : (l.filter f).length ≤ l.length := List.length_filter_le f l
theorem mvs_len {ys : List PgE} (h6 : ys.length ≤ 6) (bg : Str) (o : Option Tk) : (mvs ys bg o).length ≤ 7 := by
  cases o with
  | none => exact (by decide : 1 ≤ 7)
  | some k =>
    have hz : (zsOf ys).length = ys.length := List.length_map ..
    have hf := filter_le (fun z => decide (z ∈ (rowQ ys k.z).ns)) (zsOf ys)
    show List.length ((if k.sp < (rowQ ys k.z).m then [(none : Option Str)] else []) ++ (if (rowQ ys k.z).l ≤ k.sp then ((zsOf ys).filter fun z => decide (z ∈ (rowQ ys k.z).ns)).map some else [])) ≤ 7
    rw [List.length_append]
    have h1 : (if k.sp < (rowQ ys k.z).m then [(none : Option Str)] else []).length ≤ 1 := by split <;> decide
    have h2 : (if (rowQ ys k.z).l ≤ k.sp then ((zsOf ys).filter fun z => decide (z ∈ (rowQ ys k.z).ns)).map some else []).length ≤ 6 := by
      split
      · rw [List.length_map]
        omega
      · decide
    omega
def chD (c : Ch) : PyData := .tuple [match c.1 with | none => .none | some z => .str z, .bool c.2]
theorem ch_dp {K : PySem.W.Frag} {H : Hp} {r : Addr} {c : Ch} (h : ChA H r c) : Dp K H (.ref r) (chD c) := by
  obtain ⟨o, d⟩ := c
  have h : H r = some (.tup [mvV o, .bl d]) := h
  cases o with
  | none => exact .tup (SqT.of h) (.cons .non (.cons (.bl _) .nil))
  | some z => exact .tup (SqT.of h) (.cons (.str _) (.cons (.bl _) .nil))
theorem chs_dp {K : PySem.W.Frag} {H : Hp} : ∀ {rs : List Addr} {cs : List Ch}, Paired (ChA H) rs cs → DpAll K H (rs.map V.ref) (cs.map chD)
  | _, _, .nil => .nil
  | _, _, .cons r p => .cons (ch_dp r) (chs_dp p)
def ChS (c : Ch) : Prop := ∀ z, c.1 = some z → PyData.strOk z = true
theorem ch_lay (c : Ch) (h : ChS c) : PyData.canLay0 (chD c) = true ∧ PyData.depth (chD c) = 1 := by
  obtain ⟨o, d⟩ := c
  cases o with
  | none => exact ⟨by simp [chD, PyData.canLay0, PyData.canLayAll0], rfl⟩
  | some z => exact ⟨by simp [chD, PyData.canLay0, PyData.canLayAll0, h z rfl], rfl⟩
theorem chs_lay : ∀ cs : List Ch, (∀ c ∈ cs, ChS c) → PyData.canLayAll0 (cs.map chD) = true ∧ PyData.depthAll (cs.map chD) ≤ 1
  | [], _ => ⟨rfl, Nat.zero_le _⟩
  | c :: cs, h => by
    obtain ⟨h1, h2⟩ := chs_lay cs fun y hy => h y (List.mem_cons_of_mem _ hy)
    obtain ⟨h3, h4⟩ := ch_lay c (h c List.mem_cons_self)
    refine ⟨?_, ?_⟩
    · show (PyData.canLay0 (chD c) && PyData.canLayAll0 (cs.map chD)) = true
      rw [h3, h1]
      rfl
    · show max (PyData.depth (chD c)) (PyData.depthAll (cs.map chD)) ≤ 1
      rw [h4]
      omega
theorem ch_sh (c : Ch) (h : ChS c) : SeqAt.shaped (chD c) = true := by
  obtain ⟨h1, h2⟩ := ch_lay c h
  unfold SeqAt.shaped
  simp [h1, h2]
theorem chs_sh {cs : List Ch} (h : ∀ c ∈ cs, ChS c) : SeqAt.shaped (.list (cs.map chD)) = true := by
  obtain ⟨h1, h2⟩ := chs_lay cs h
  unfold SeqAt.shaped
  have e : PyData.depth (.list (cs.map chD)) = PyData.depthAll (cs.map chD) + 1 := rfl
  rw [e]
  simp [PyData.canLay0, h1]
  omega
theorem ch_eqv (a b : Ch) : PyData.eqv (chD a) (chD b) = decide (a = b) := by
  obtain ⟨o, d⟩ := a
  obtain ⟨o', d'⟩ := b
  rw [Bool.eq_iff_iff, decide_eq_true_iff]
  cases o <;> cases o' <;> cases d <;> cases d' <;> simp [chD, PyData.eqv, PyData.eqvAll]
theorem ch_any (cs : List Ch) (c : Ch) : ((cs.map chD).any fun z => PyData.eqv z (chD c)) = decide (c ∈ cs) := by
  induction cs with
  | nil => exact (decide_eq_false (by simp)).symm
  | cons a cs ih =>
    rw [List.map_cons, List.any_cons, ih, ch_eqv, Bool.eq_iff_iff, Bool.or_eq_true, decide_eq_true_iff, decide_eq_true_iff, decide_eq_true_iff, List.mem_cons]
    exact or_congr eq_comm Iff.rfl
theorem sc_BadChoice_init : FnScope ["self", "index"] ["self", "index"] (defScope s_BadChoice_init) := ⟨rfl, rfl, rfl, by decide +kernel, rfl, by decide +kernel, by decide +kernel⟩
-- slots: 0 self, 1 index
theorem ok_BadChoice_init {fd : FuncData} (F : FnD K ("BadChoice", some "__init__") "__init__" "BadChoice.__init__" s_BadChoice_init fd) : OkD P w K mg base CX0 1 ("BadChoice", some "__init__") ["self", "index"] [] (spExI K (He.ga K "BadChoice") "index") := by
  refine okd F (F.ok sc_BadChoice_init (fun vs H Q E h => ?_) fun cdv A outer s H vs Q E hr h => ⟨tOst K "index" (tVar 0) (tVar 1), PSs.nox ?_, run_exI h⟩) fun _ _ _ _ _ _ us hl => match us, hl with | [_, _], _ => rfl
  · obtain ⟨a, v, rfl, _⟩ := h
    rfl
  · exact pss_one (ps_ost (pv 0) (pv 1))
theorem sc_Profile_init : FnScope ["self", "program", "sampler", "phase"] ["self", "program", "sampler", "phase"] (defScope s_Profile_init) := ⟨rfl, rfl, rfl, by decide +kernel, rfl, by decide +kernel, by decide +kernel⟩
-- slots: 0 self, 1 program, 2 sampler, 3 phase
def spPfI (K : PySem.W.Frag) : Sp := fun vs H Q E => ∃ (q dx g p : Addr) (ph : V) (n i : Int) (f : V), vs = [.ref q, .ref g, .ref p, ph] ∧ H q = some (.ins (CPf K) dx []) ∧ SaA (CS K) H p n i f ∧ 1 ≤ n ∧ n ≤ 8 ∧ PhOk f n ∧ Any H ph ∧
  ((∃ sh : Nat, PhSh f ph n sh ∧ ∀ H' M, SameX q H H' → H M = none → PfA K H' q g p sh [] none .non dx M .non → Q .non H') ∨
   (¬ PhFit f n ph ∧ ∀ d, H d = none → E (.ref (He.ga K "BadPhase")) (some d) (upd H d (.xd [("phase", ph)]))))
theorem ok_Profile_init {fd : FuncData} (F : FunD K "__init__" "Profile.__init__" (defArgs s_Profile_init) (defBody s_Profile_init) (defScope s_Profile_init) [] [("phase", .non)] (He.fAd K ("Profile", some "__init__")) fd) (T : LvTxt K mg) (O_check_phase : OkF P w K mg base (L2.CX P w) 3 "check_phase" ["sampler", "phase"] (spChkPh K)) :
    FnOk P w K mg base (L2.CX P w) 4 (He.fAd K ("Profile", some "__init__")) fd ["self", "program", "sampler", "phase"] (spPfI K) := by
  refine F.ok sc_Profile_init (fun vs H Q E h => ?_) fun cdv A outer s H vs Q E hr h => ?_
  · obtain ⟨q, dx, g, p, ph, n, i, f, rfl, _⟩ := h
    rfl
  · obtain ⟨q, dx, g, p, ph, n, i, f, rfl, hq, hp, n1, n8, hf, ha, k⟩ := h
    refine ⟨_, (pss_cons (ps_expr (c_fn O_check_phase hr (by decide) T.g_check_phase (passUp rfl rfl rfl rfl) (pa_cons (pv 2) (pa_cons (pv 3) pa_nil))))
  (pss_cons (ps_fld (pv 0) pe_int rfl)
  (pss_cons (ps_fld (pv 0) (pv 1) rfl)
  (pss_cons (ps_fld (pv 0) (pv 2) rfl)
  (pss_cons (ps_fld (pv 0) (pe_ifExpB (pt_cmpR op_isN (pe_fld (pv 2) rfl) pe_non (nomark _)) (pv 3) (pe_fld (pv 2) rfl)) rfl)
  (pss_cons (ps_fld (pv 0) (pe_lst pa_nil) rfl)
  (pss_cons (ps_fld (pv 0) pe_non rfl)
  (pss_one (ps_fld (pv 0) pe_non rfl))))))))), ?_⟩
    obtain ⟨dp, hp'⟩ := id hp
    refine ⟨_, rfl, _, rfl, p, ph, n, i, f, rfl, hp, n1, n8, hf, ha, fun hfit => ?_, fun hno => ?_⟩
    rotate_left
    · rcases k with ⟨sh, hsh, _⟩ | ⟨_, k⟩
      · exact absurd hsh.fit hno
      · exact k
    rcases k with ⟨sh, hsh, k⟩ | ⟨hno, _⟩
    rotate_left
    · exact absurd hfit hno
    have npq : p ≠ q := ne_of hp' hq (by
      intro z
      have z2 := (HO.ins.inj z).2.2
      have := saf_phase n i f
      rw [z2] at this
      cases this)
    refine ⟨_, rfl, q, _, dx, [], rfl, hq, T.c_Profile, T.fT, (by show 0 < 1000; decide), ?_⟩
    refine ⟨_, rfl, _, rfl, q, _, dx, _, rfl, upd_same, T.c_Profile, T.fP, (by show 1 < 1000; decide), ?_⟩
    rw [upd_upd]
    refine ⟨_, rfl, _, rfl, q, _, dx, _, rfl, upd_same, T.c_Profile, T.fS, (by show 2 < 1000; decide), ?_⟩
    rw [upd_upd]
    have hp2 : ∀ o, (upd H q o) p = some (.ins (CS K) dp (saf n i f)) := fun o => by rw [upd_ne npq]; exact hp'
    refine ⟨_, rfl, p, _, dp, _, _, rfl, hp2 _, T.c_Sampler, T.sF, saf_phase .., rfl, _, rfl, .int (sh : Int), (· = upd H q (.ins (CPf K) dx (putF "_sampler" (.ref p) (putF "_program" (.ref g) (putF "ticks" (.int 0) []))))), fun hc => ?_, fun hc => ?_, fun H2 e => ?_⟩
    · have hc := of_decide_eq_true hc
      rcases hsh with ⟨_, rfl, _⟩ | ⟨rfl, _⟩
      · exact ⟨_, rfl, rfl, rfl⟩
      · cases hc
    · have hc := of_decide_eq_false hc
      rcases hsh with ⟨z, _⟩ | ⟨rfl, _⟩
      · exact absurd z hc
      · exact ⟨_, rfl, p, _, dp, _, _, rfl, hp2 _, T.c_Sampler, T.sF, saf_phase .., rfl, rfl⟩
    subst e
    refine ⟨_, rfl, q, _, dx, _, rfl, upd_same, T.c_Profile, T.fF, (by show 3 < 1000; decide), ?_⟩
    rw [upd_upd]
    refine ⟨(by show 0 ≤ sizeLine; decide), fun M nM => ?_⟩
    have nMq : M ≠ q := fun z => by rw [z, upd_same] at nM; cases nM
    have nM0 : H M = none := by rw [upd_ne nMq] at nM; exact nM
    refine ⟨_, rfl, q, _, dx, _, rfl, (by rw [upd_ne nMq.symm]; exact upd_same), T.c_Profile, T.fM, (by show 4 < 1000; decide), ?_⟩
    refine ⟨_, rfl, q, _, dx, _, rfl, upd_same, T.c_Profile, T.fA, (by show 5 < 1000; decide), ?_⟩
    rw [upd_upd]
    refine ⟨_, rfl, q, _, dx, _, rfl, upd_same, T.c_Profile, T.fK, (by show 6 < 1000; decide), ?_⟩
    rw [upd_upd, pff_all]
    refine k _ M (fun b o nb e => ?_) nM0 ⟨upd_same, ⟨[], ?_, .nil⟩, rfl⟩
    · rw [upd_ne nb, upd_ne (ne_of_none e nM0), upd_ne nb]
      exact e
    · rw [upd_ne nMq]
      exact upd_same
theorem O_Profile2k {fd : FuncData} (F : FunD K "__init__" "Profile.__init__" (defArgs s_Profile_init) (defBody s_Profile_init) (defScope s_Profile_init) [] [("phase", .non)] (He.fAd K ("Profile", some "__init__")) fd) (G : FnOk P w K mg base (L2.CX P w) 4 (He.fAd K ("Profile", some "__init__")) fd ["self", "program", "sampler", "phase"] (spPfI K)) :
    OkK P w K mg base (L2.CX P w) 4 ("Profile", some "__init__") ["self", "program", "sampler", "phase"] 3 ["phase"] (fun vs zs => vs ++ zs) (spPfI K) := by
  obtain ⟨mv, b⟩ := F.kbinds0 (ps := ["self", "program", "sampler", "phase"]) 3 ["phase"] [] (fun us _ ws => us ++ ws) (by decide) (fun _ h => nomatch h) (fun r1 _ r3 => r1.append r3)
    fun D doc pm an cdv ct us mv ws h1 h2 h3 => match us, mv, ws, h1, h2, h3 with | [_, _, _], [], [_], _, _, _ => rfl
  exact ⟨fd, _, G, b⟩
theorem O_Profile2 {fd : FuncData} (F : FunD K "__init__" "Profile.__init__" (defArgs s_Profile_init) (defBody s_Profile_init) (defScope s_Profile_init) [] [("phase", .non)] (He.fAd K ("Profile", some "__init__")) fd) (G : FnOk P w K mg base (L2.CX P w) 4 (He.fAd K ("Profile", some "__init__")) fd ["self", "program", "sampler", "phase"] (spPfI K)) :
    OkK P w K mg base (L2.CX P w) 4 ("Profile", some "__init__") ["self", "program", "sampler", "phase"] 3 [] (fun vs _ => vs ++ [.non]) (spPfI K) := by
  obtain ⟨mv, b⟩ := F.kbinds0 (ps := ["self", "program", "sampler", "phase"]) 3 [] [("phase", .non)] (fun us mv _ => us ++ mv) (by decide) (fun _ h => h) (fun r1 r2 _ => r1.append r2)
    fun D doc pm an cdv ct us mv ws h1 h2 h3 => match us, mv, ws, h1, h2, h3 with | [_, _, _], [_], [], _, _, _ => ⟨_, _, _, _, _, _, rfl, rfl, rfl⟩
  exact ⟨fd, _, G, b⟩
theorem sc_Profilespot : FnScope ["self"] ["self"] (defScope s_Profilespot) := ⟨rfl, rfl, rfl, by decide +kernel, rfl, by decide +kernel, by decide +kernel⟩
-- slots: 0 self
def spSpt (K : PySem.W.Frag) : Sp := fun vs H Q _ => ∃ (q g p : Addr) (sh : Nat) (cs : List Ch) (o : Option Tk) (mk : V) (dx M : Addr) (sv : V) (n : Nat) (i : Int) (f : V), vs = [.ref q] ∧ PfA K H q g p sh cs o mk dx M sv ∧ SaA (CS K) H p (n : Int) i f ∧ 1 ≤ n ∧ n ≤ 8 ∧ Q (.int (((sh + cs.length) % n : Nat) : Int)) H
theorem ok_Profile_spot {fd : FuncData} (F : FnD K ("Profile", some "_spot") "_spot" "Profile._spot" s_Profilespot fd) (T : LvTxt K mg) : OkM P w K mg base CX0 1 "Profile" "_spot" ["self"] (spSpt K) := by
  refine okd F (F.ok sc_Profilespot (fun vs H Q E h => ?_) fun cdv A outer s H vs Q E hr h => ?_) fun _ _ _ _ _ _ us hl => match us, hl with | [_], _ => rfl
  · obtain ⟨q, g, p, sh, cs, o, mk, dx, M, sv, n, i, f, rfl, _⟩ := h
    rfl
  · obtain ⟨q, g, p, sh, cs, o, mk, dx, M, sv, n, i, f, rfl, hq, ⟨dp, hp⟩, n1, n8, k⟩ := h
    refine ⟨_, PSs.nox (pss_one (ps_ret (pe_op op_mod (pe_op op_add (pe_fld (pv 0) rfl) (pe_fld (pv 0) rfl)) (pe_fld (pe_fld (pv 0) rfl) rfl)))), ?_⟩
    refine ⟨_, rfl, q, _, dx, _, _, rfl, hq.hq, T.c_Profile, T.fF, pff_phase, _, rfl, q, _, dx, _, _, rfl, hq.hq, T.c_Profile, T.fT, pff_ticks, _, _, rfl, rfl, _, rfl, q, _, dx, _, _, rfl, hq.hq, T.c_Profile, T.fS, pff_sampler, p, _, dp, _, _, rfl, hp, T.c_Sampler, T.sP, saf_period .., _, _, rfl, rfl, (by show (0 : Int) < n; omega), ?_⟩
    have e : ((sh : Int) + (cs.length : Int)) % (n : Int) = (((sh + cs.length) % n : Nat) : Int) := by rw [← Int.natCast_add, ← Int.natCast_emod]
    show Q (.int (((sh : Int) + (cs.length : Int)) % (n : Int))) H
    rw [e]
    exact k
theorem sc_Profilehas_come : FnScope ["self"] ["self"] (defScope s_Profilehas_come) := ⟨rfl, rfl, rfl, by decide +kernel, rfl, by decide +kernel, by decide +kernel⟩
-- slots: 0 self
def spHc (K : PySem.W.Frag) : Sp := fun vs H Q _ => ∃ (q g p : Addr) (sh : Nat) (cs : List Ch) (o : Option Tk) (mk : V) (dx M : Addr) (sv : V) (n : Nat) (i : Int) (f : V), vs = [.ref q] ∧ PfA K H q g p sh cs o mk dx M sv ∧ SaA (CS K) H p (n : Int) i f ∧ 1 ≤ n ∧ n ≤ 8 ∧ Q (.bl (hcB i sh (((sh + cs.length) % n : Nat) : Int) o)) H
theorem ok_Profile_has_come {fd : FuncData} (F : FnD K ("Profile", some "_has_come") "_has_come" "Profile._has_come" s_Profilehas_come fd) (T : LvTxt K mg) (PM : PMeth K) (O_Profile__spot : OkM P w K mg base CX0 1 "Profile" "_spot" ["self"] (spSpt K)) : OkM P w K mg base CX0 2 "Profile" "_has_come" ["self"] (spHc K) := by
  refine okd F (F.ok sc_Profilehas_come (fun vs H Q E h => ?_) fun cdv A outer s H vs Q E hr h => ?_) fun _ _ _ _ _ _ us hl => match us, hl with | [_], _ => rfl
  · obtain ⟨q, g, p, sh, cs, o, mk, dx, M, sv, n, i, f, rfl, _⟩ := h
    rfl
  · obtain ⟨q, g, p, sh, cs, o, mk, dx, M, sv, n, i, f, rfl, hq, hp, n1, n8, k⟩ := h
    refine ⟨_, PSs.nox (pss_cons (ps_if (pt_cmpR op_isN (pe_fld (pv 0) rfl) pe_non (nomark _)) (pss_one (ps_ret (pe_cmpR op_gt (pe_fld (pv 0) rfl) (pe_fld (pe_fld (pv 0) rfl) rfl) (nomark _))))
  pss_nil)
  (pss_one (ps_ret (pe_andB (pe_cmpR op_ne (c_me0 rfl (pv 0) T.c_Profile PM.m__spot O_Profile__spot hr (by decide) pass0) pe_int (nomark _)) (pe_one (pe_ix ix_tup (pe_fld (pv 0) rfl) pe_int (fun _ _ => rfl))))))), ?_⟩
    obtain ⟨dp, hp'⟩ := id hp
    refine ⟨_, rfl, q, _, dx, _, _, rfl, hq.hq, T.c_Profile, T.fA, pff_state, rfl, _, rfl, ?_⟩
    have hs := hq.hs
    cases o with
    | none =>
      obtain rfl := hs
      exact iteT ⟨_, rfl, q, _, dx, _, _, rfl, hq.hq, T.c_Profile, T.fF, pff_phase, _, rfl, q, _, dx, _, _, rfl, hq.hq, T.c_Profile, T.fS, pff_sampler, p, _, dp, _, _, rfl, hp', T.c_Sampler, T.sJ, saf_jitter .., _, _, rfl, rfl, k⟩
    | some kk =>
      obtain ⟨t, rfl, hst⟩ := hs
      refine iteF ⟨_, rfl, q, dx, _, rfl, hq.hq, pff_out, q, g, p, sh, cs, some kk, mk, dx, M, _, n, i, f, rfl, hq, hp, n1, n8, ?_⟩
      refine ⟨rfl, _, kk.dn, (· = H), rfl, fun _ => ?_, fun _ => rfl, fun H2 e => ?_⟩
      · exact ⟨_, rfl, q, _, dx, _, _, rfl, hq.hq, T.c_Profile, T.fA, pff_state, t, _, 3, _, rfl, rfl, SqT.of hst, atI_nat (j := 3) rfl, rfl, rfl⟩
      · subst e
        have e2 : (!decide (V.int (((sh + cs.length) % n : Nat) : Int) = V.int 0)) = decide ((((sh + cs.length) % n : Nat) : Int) ≠ 0) := by
          rw [Bool.eq_iff_iff]
          simp
        rw [e2]
        exact k
end
end K16

set_option Elab.async false
set_option linter.all false
set_option pp.deepTerms.threshold 14
set_option pp.maxSteps 2500
set_option maxRecDepth 100000
set_option maxHeartbeats 2000000
namespace K16
open PySem PySem.Spec PyProof.Rows L2 Vf 
section
variable {P : Program} {w : World} {K : PySem.W.Frag} {mg : Str → Option Value} {base : Heap}
theorem op_in_seqP {X : Cx} {K : PySem.W.Frag} (hK : X.K = K) : OpR X (compareOp .In) (rIn K false) := hK ▸ op_in_seq
theorem nw2 : ¬ (HT.sIx 5 0 (none : Option Int) = 0 ∧ HT.sIx 5 5 (some 2) = 5) := by decide
theorem sc_Profilemoves : FnScope ["self", "name", "spent", "place", "moves", "ways", "after"] ["self"] (defScope s_Profilemoves) := ⟨rfl, rfl, rfl, by decide +kernel, rfl, by decide +kernel, by decide +kernel⟩
-- slots: 0 self, 1 name, 2 spent, 3 place, 4 moves, 5 ways, 6 after
def spMv (K : PySem.W.Frag) : Sp := fun vs H Q _ => ∃ (q g p : Addr) (sh : Nat) (cs : List Ch) (o : Option Tk) (mk : V) (dx M : Addr) (sv : V) (xs : List PgE) (st : Str) (dg tn dP dN : Addr), vs = [.ref q] ∧ PfA K H q g p sh cs o mk dx M sv ∧ PgA K H g xs st dg tn dP dN ∧ (∀ k, o = some k → k.z ∈ zsOf xs) ∧
  ∀ H' L, Same H H' → H L = none → H' L = some (.lst ((mvs xs st o).map mvV)) → Q (.ref L) H'
theorem ok_Profile_moves {fd : FuncData} (F : FnD K ("Profile", some "_moves") "_moves" "Profile._moves" s_Profilemoves fd) (T : LvTxt K mg) (MG : GMeth K) (O_getitem : OkM P w K mg base (L2.CX P w) 4 "Program" "__getitem__" ["self", "at"] (spGet K)) (O_nexts : OkG P w K mg base CX0 1 "Program" "nexts" (spNxT K)) : OkM P w K mg base CX0 6 "Profile" "_moves" ["self"] (spMv K) := by
  refine okd F (F.ok sc_Profilemoves (fun vs H Q E h => ?_) fun cdv A outer s H vs Q E hr h => ?_) fun _ _ _ _ _ _ us hl => match us, hl with | [_], _ => rfl
  · obtain ⟨q, g, p, sh, cs, o, mk, dx, M, sv, xs, st, dg, tn, dP, dN, rfl, _⟩ := h
    rfl
  · obtain ⟨q, g, p, sh, cs, o, mk, dx, M, sv, xs, st, dg, tn, dP, dN, rfl, hq, hg, hz, k⟩ := h
    refine ⟨_, PSs.nox (pss_cons (ps_if (pt_cmpR op_isN (pe_fld (pv 0) rfl) pe_non (nomark _)) (pss_one (ps_ret (pe_lst (pa_cons (pe_fld (pe_fld (pv 0) rfl) rfl) pa_nil))))
  pss_nil)
  (pss_cons (ps_asg (pe_slice sl_tup (pe_fld (pv 0) rfl) po_none (po_some pe_int)) (pg_tup rfl (pgs_cons (pg_name (i := 1) sc_Profilemoves.nd rfl (Or.inl rfl)) (pgs_cons (pg_name (i := 2) sc_Profilemoves.nd rfl (Or.inl rfl)) pgs_nil))))
  (pss_cons (ps_set (i := 3) sc_Profilemoves.nd rfl (Or.inl rfl) (pe_subO (pe_fld (pv 0) rfl) (pv 1) MG.m_getitem MG.f_getitem O_getitem hr (by decide) passL))
  (pss_cons (ps_set (i := 4) sc_Profilemoves.nd rfl (Or.inl rfl) (pe_weak (pe_ifExp (pt_cmpR op_lt (pv 2) (pe_fld (pv 3) rfl) (nomark _)) (pe_lst (pa_cons pe_non pa_nil)) (pe_lst pa_nil))))
  (C8.pss_cut (ps_if (pt_cmpR op_ge (pv 2) (pe_fld (pv 3) rfl) (nomark _)) (pss_cons (ps_set (i := 5) sc_Profilemoves.nd rfl (Or.inr rfl) (pe_dget (hu_of hr) (pe_propG (pe_fld (pv 0) rfl) T.c_Program O_nexts hr (by decide) rfl) (pv 1) (fun _ _ => rfl)))
  (pss_one (ps_expr (pe_bm PySem.F.plainAttrs_list PySem.F.slot_list_extend PySem.F.type_list_extend mt_extend (pv 4) (pa_cons (pe_lc (own := [("after", 6)]) (g := gName 6)  (by rfl) sc_Profilemoves.nd (pi_tup (pe_fld (pe_fld (pv 0) rfl) rfl)) (blkOk_by (N := ["self", "name", "spent", "place", "moves", "ways", "after"]) (sc := defScope s_Profilemoves) (by decide +kernel)) (fun _ _ _ _ _ => (pg_name (i := 6) sc_Profilemoves.nd rfl (Or.inl rfl))) (fun _ _ _ _ _ => (pts_one (pt_cmpR (op_in_seqP (K := K) rfl) (pv 6) (pv 5) rfl))) (fun _ _ _ _ _ => (pv 6))) pa_nil)))))
  pss_nil)
  (pss_one (ps_ret (pv 4)))))))), ?_⟩
    have hlz : (zsOf xs).length = xs.length := List.length_map ..
    refine ⟨_, rfl, q, _, dx, _, _, rfl, hq.hq, T.c_Profile, T.fA, pff_state, rfl, _, rfl, ?_⟩
    have hs := hq.hs
    cases o with
    | none =>
      obtain rfl := hs
      refine iteT ⟨_, rfl, q, _, dx, _, _, rfl, hq.hq, T.c_Profile, T.fP, pff_program, g, _, dg, _, _, rfl, hg.hg, T.c_Program, T.nB, pgf_start .., (by show 1 ≤ sizeLine; decide), fun L nL => ?_⟩
      exact k _ L (same_new nL) nL upd_same
    | some kk =>
      obtain ⟨t, rfl, hst⟩ := hs
      obtain ⟨iy, y, hy, hyz⟩ := row_of (hz kk rfl)
      have hrq : rowQ xs kk.z = y.2.2 := by rw [← hyz]; exact rowQ_row hg.nd hy
      refine iteF ⟨_, rfl, q, _, dx, _, _, rfl, hq.hq, T.c_Profile, T.fA, pff_state, 2, rfl, t, _, rfl, SqT.of hst, nw2, fun a na => ?_⟩
      have ecut : cutV [.str kk.z, .int kk.sp, .int kk.sl, .bl kk.dn, .bl kk.wt] none (some 2) = [.str kk.z, .int kk.sp] := rfl
      rw [ecut]
      have s1 := same_new (o := .tup [.str kk.z, .int kk.sp]) na
      refine ⟨a, _, rfl, SqT.of upd_same, rfl, _, _, rfl, _, _, rfl, rfl, ?_⟩
      have hq1 := hq.ext s1
      have hg1 := hg.ext s1
      generalize upd H a (.tup [.str kk.z, .int kk.sp]) = H1 at s1 hq1 hg1 ⊢
      obtain ⟨d1, e1⟩ := hg1.pl y (List.mem_of_getElem? hy)
      refine ⟨_, rfl, q, _, dx, _, _, rfl, hq1.hq, T.c_Profile, T.fP, pff_program, _, rfl, g, dg, _, rfl, hg1.hg, g, _, xs, st, dg, tn, dP, dN, rfl, hg1, .inl ⟨iy, y, hy, by rw [hyz], ?_⟩⟩
      refine ⟨fun v H' => ∃ L, v = .ref L ∧ Same H1 H' ∧ H1 L = none ∧ H' L = some (.lst ((if kk.sp < y.2.2.m then [(none : Option Str)] else []).map mvV)), ?_, ?_⟩
      · refine ⟨_, rfl, _, rfl, y.1, _, d1, _, _, rfl, e1, T.c_Place, T.nM, plf_most .., _, _, rfl, rfl, _, rfl, ite2 (fun hc => ?_) fun hc => ?_⟩
        · refine ⟨(by show 1 ≤ sizeLine; decide), fun L nL => ⟨L, rfl, same_new nL, nL, ?_⟩⟩
          rw [upd_same, if_pos (of_decide_eq_true hc)]
          rfl
        · refine ⟨(by show 0 ≤ sizeLine; decide), fun L nL => ⟨L, rfl, same_new nL, nL, ?_⟩⟩
          rw [upd_same, if_neg (of_decide_eq_false (Bool.eq_false_iff.mpr hc))]
          rfl
      rintro v H2 ⟨L, rfl, s12, nL, hL⟩
      have hq2 := hq1.ext s12
      have hg2 := hg1.ext s12
      have sg2 := s1.trans s12
      have nL0 := none_of s1 nL
      have e2 := s12 _ _ e1
      refine ⟨fun σ' H' => (∃ v5 v6 : Option V, σ' = [some (.ref q), some (.str kk.z), some (.int kk.sp), some (.ref y.1), some (.ref L), v5, v6]) ∧ Same H H' ∧ H' L = some (.lst ((mvs xs st (some kk)).map mvV)), ?_, ?_⟩
      rotate_left
      · rintro σ' H' ⟨⟨v5, v6, rfl⟩, s, hL⟩
        exact ⟨_, rfl, k _ L s nL0 hL⟩
      have em : mvs xs st (some kk) = (if kk.sp < y.2.2.m then [(none : Option Str)] else []) ++ (if y.2.2.l ≤ kk.sp then ((zsOf xs).filter fun z => decide (z ∈ y.2.2.ns)).map some else []) := by rw [← hrq]; rfl
      refine ⟨_, rfl, _, rfl, y.1, _, d1, _, _, rfl, e2, T.c_Place, T.nL, plf_least .., _, _, rfl, rfl, _, rfl, ite2 (fun hc => ?_) fun hc => ?_⟩
      rotate_left
      · refine ⟨⟨none, none, rfl⟩, sg2, ?_⟩
        rw [em, if_neg (of_decide_eq_false (Bool.eq_false_iff.mpr hc)), List.append_nil]
        exact hL
      have hc := of_decide_eq_true hc
      refine ⟨_, rfl, q, _, dx, _, _, rfl, hq2.hq, T.c_Profile, T.fP, pff_program, g, dg, _, rfl, hg2.hg, g, xs, st, dg, tn, dP, dN, rfl, hg2, fun H3 ND s23 nND hND => ?_⟩
      have sg3 := sg2.trans s23
      have hq3 := hq2.ext s23
      have hg3 := hg2.ext s23
      have hL3 := s23 _ _ hL
      have hw3 := (hg3.ns y (List.mem_of_getElem? hy)).1
      refine ⟨_, rfl, ND, _, rfl, dget_of hND (by rw [← hyz]; exact val_row (f := fun y => V.ref y.2.1) hg.nd hy), ?_⟩
      have flat : (y.2.2.ns.map V.str).all flatV = true := List.all_eq_true.mpr fun v hv => by
        obtain ⟨z, _, rfl⟩ := List.mem_map.mp hv
        rfl
      refine ⟨_, rfl, .inl ⟨rfl, _, SqL.of hL3⟩, _, rfl, q, _, dx, _, _, rfl, hq3.hq, T.c_Profile, T.fP, pff_program, g, _, dg, _, _, rfl, hg3.hg, T.c_Program, T.nA, pgf_names .., tn, rfl, ⟨_, SqT.of hg3.hn⟩, fun D nD => lc_it walk_tup (fun i H' => Same H3 H' ∧ H' D = some (.lst ((((zsOf xs).take i).filter fun z => decide (z ∈ y.2.2.ns)).map V.str))) ⟨same_new nD, upd_same⟩ (fun i H' _ h => SqT.ext (SqT.of hg3.hn) h.1) ?_ ?_⟩
      · rintro i x H4 H' hi ⟨s4, hD4⟩ ⟨rfl, hx⟩
        obtain ⟨u, hu, rfl⟩ := zsAt hx
        have huz : (zsOf xs)[i]? = some u.2.2.z := by
          unfold zsOf
          rw [List.getElem?_map, hu]
          rfl
        have htk : ((zsOf xs).take (i + 1)).filter (fun z => decide (z ∈ y.2.2.ns)) = ((zsOf xs).take i).filter (fun z => decide (z ∈ y.2.2.ns)) ++ if u.2.2.z ∈ y.2.2.ns then [u.2.2.z] else [] := by
          rw [List.take_add_one, huz, List.filter_append]
          congr 1
          show List.filter _ [u.2.2.z] = _
          rw [List.filter_cons]
          by_cases e : u.2.2.z ∈ y.2.2.ns
          · rw [if_pos e, if_pos (decide_eq_true e)]
            rfl
          · rw [if_neg e, if_neg (fun z => e (of_decide_eq_true z))]
            rfl
        refine ⟨rfl, _, rfl, _, rfl, y.2.1, _, rfl, .inr (SqT.of (s4 _ _ hw3)), rfl, flat, decide (u.2.2.z ∈ y.2.2.ns), ?_, ite2 (fun hc => ?_) fun hc => ?_⟩
        · rw [inV_str]
          rfl
        · have hc := of_decide_eq_true hc
          rw [if_pos hc] at htk
          refine ⟨_, rfl, _, hD4, ?_, same_app s4 (Same.refl _) nD, ?_⟩
          · rw [List.length_map]
            have h1 := filter_le (fun z => decide (z ∈ y.2.2.ns)) ((zsOf xs).take i)
            have h2 : ((zsOf xs).take i).length ≤ (zsOf xs).length := List.length_take_le' ..
            have h3 := hg.l6
            exact Nat.lt_of_le_of_lt (show _ ≤ 6 by omega) (by decide)
          · rw [upd_same, htk, List.map_append]
            rfl
        · have hc := of_decide_eq_false (Bool.eq_false_iff.mpr hc)
          rw [if_neg hc, List.append_nil] at htk
          rw [htk]
          exact ⟨s4, hD4⟩
      rintro H4 ⟨s34, hD⟩
      rw [List.length_map, List.take_length] at hD
      have hL4 := s34 _ _ hL3
      have nLD : L ≠ D := ne_of_none hL3 nD
      refine ⟨L, D, _, _, rfl, rfl, hL4, hD, ?_, ⟨_, _, rfl⟩, ?_, ?_⟩
      · have h1 := filter_le (fun z => decide (z ∈ y.2.2.ns)) (zsOf xs)
        have h3 := hg.l6
        have h4 : (if kk.sp < y.2.2.m then [(none : Option Str)] else []).length ≤ 1 := by split <;> decide
        rw [List.length_map, List.length_map]
        exact Nat.le_trans (show _ ≤ 7 by omega) (by decide)
      · exact same_app (sg3.trans s34) (Same.refl _) nL0
      · rw [upd_same, em, if_pos hc, List.map_append, List.map_map]
        rfl
end
end K16

set_option Elab.async false
set_option linter.all false
set_option pp.deepTerms.threshold 14
set_option pp.maxSteps 2500
set_option maxRecDepth 100000
set_option maxHeartbeats 2000000
namespace K16
open PySem PySem.Spec PyProof.Rows L2 Vf 
section
variable {P : Program} {w : World} {K : PySem.W.Frag} {mg : Str → Option Value} {base : Heap}
theorem pi_listK {X : Cx} {K : PySem.W.Frag} {tg l : Expr} {tl : TE} (hK : X.K = K) (h : PE X l tl) : PI X tg l (iList K tl) := hK ▸ pi_list h
theorem pi_tupK {X : Cx} {K : PySem.W.Frag} {tg l : Expr} {tl : TE} (hK : X.K = K) (h : PE X l tl) : PI X tg l (iTup K tl) := hK ▸ pi_tup h
/-- the choices of a profile -/
def chA (xs : List PgE) (st : Str) (i : Int) (n sh : Nat) (cs : List Ch) (o : Option Tk) : List Ch := if cs.length = 2000 then [] else chL xs st i sh (((sh + cs.length) % n : Nat) : Int) o
theorem ChsA.len {H : Hp} {L : Addr} {cs : List Ch} (h : ChsA H L cs) : ∃ vs, H L = some (.lst vs) ∧ vs.length = cs.length := by
  obtain ⟨rs, h1, h2⟩ := h
  exact ⟨_, h1, by rw [List.length_map, paired_len h2]⟩
theorem ChsA.add {H H' : Hp} {L p : Addr} {cs : List Ch} {c : Ch} {vs : List V} (h : ChsA H L cs) (hv : H L = some (.lst vs)) (hp : ChA H p c) (e : H' = upd H L (.lst (vs ++ [.ref p]))) : ChsA H' L (cs ++ [c]) := by
  subst e
  obtain ⟨rs, h1, h2⟩ := h
  rw [hv] at h1
  cases h1
  have kp : ∀ {r : Addr} {c : Ch}, ChA H r c → ChA (upd H L (.lst (rs.map V.ref ++ [.ref p]))) r c := fun {r c} e => by
    have e : H r = some (.tup [mvV c.1, .bl c.2]) := e
    show upd H L _ r = _
    rw [upd_ne (ne_of e hv (by intro z; cases z))]
    exact e
  exact ⟨rs ++ [p], by rw [upd_same, List.map_append]; rfl, paired_snoc (kp hp) (paired_imp (fun r c q => kp q) h2)⟩
theorem flat_len2 {α β : Type} (f : α → List β) (b : Nat) (hf : ∀ a, (f a).length ≤ b) : ∀ l : List α, (l.flatMap f).length ≤ l.length * b
  | [] => Nat.zero_le _
  | a :: l => by
    rw [List.flatMap_cons, List.length_append, List.length_cons, Nat.succ_mul]
    have := flat_len2 f b hf l
    have := hf a
    omega
theorem chL_len {ys : List PgE} (h6 : ys.length ≤ 6) (bg : Str) (i : Int) (sh : Nat) (sl : Int) (o : Option Tk) : (chL ys bg i sh sl o).length ≤ 14 := by
  have h1 := mvs_len h6 bg o
  have h2 := flat_len2 (fun mv => (flL i sl (hcB i sh sl o)).map fun d => ((mv, d) : Ch)) 2 (fun a => by rw [List.length_map]; exact flL_len ..) (mvs ys bg o)
  unfold chL
  omega
theorem sc_Profile_choices : FnScope ["self", "flags", "move", "due"] ["self"] (defScope s_Profile_choices) := ⟨rfl, rfl, rfl, by decide +kernel, rfl, by decide +kernel, by decide +kernel⟩
-- slots: 0 self, 1 flags, 2 move, 3 due
def spChs (K : PySem.W.Frag) : Sp := fun vs H Q _ => ∃ (q g p : Addr) (sh : Nat) (cs : List Ch) (o : Option Tk) (mk : V) (dx M : Addr) (sv : V) (xs : List PgE) (st : Str) (dg tn dP dN : Addr) (n : Nat) (i : Int) (f : V), vs = [.ref q] ∧ PfA K H q g p sh cs o mk dx M sv ∧ PgA K H g xs st dg tn dP dN ∧ SaA (CS K) H p (n : Int) i f ∧ 1 ≤ n ∧ n ≤ 8 ∧ (∀ k, o = some k → k.z ∈ zsOf xs) ∧
  ∀ H' L, Same H H' → H L = none → ChsA H' L (chA xs st i n sh cs o) → Q (.ref L) H'
theorem ok_Profile_choices {fd : FuncData} (F : FnD K ("Profile", some "choices") "choices" "Profile.choices" s_Profile_choices fd) (T : LvTxt K mg) (PM : PMeth K) (O_look_flags : OkF P w K mg base CX0 1 "look_flags" ["sampler", "spot", "came"] (spLF K)) (O_Profile__spot : OkM P w K mg base CX0 1 "Profile" "_spot" ["self"] (spSpt K))
    (O_Profile__has_come : OkM P w K mg base CX0 2 "Profile" "_has_come" ["self"] (spHc K)) (O_Profile__moves : OkM P w K mg base CX0 6 "Profile" "_moves" ["self"] (spMv K)) : OkM P w K mg base CX0 7 "Profile" "choices" ["self"] (spChs K) := by
  refine okd F (F.ok sc_Profile_choices (fun vs H Q E h => ?_) fun cdv A outer s H vs Q E hr h => ?_) fun _ _ _ _ _ _ us hl => match us, hl with | [_], _ => rfl
  · obtain ⟨q, g, p, sh, cs, o, mk, dx, M, sv, xs, st, dg, tn, dP, dN, n, i, f, rfl, _⟩ := h
    rfl
  · obtain ⟨q, g, p, sh, cs, o, mk, dx, M, sv, xs, st, dg, tn, dP, dN, n, i, f, rfl, hq, hg, hp, n1, n8, hz, k⟩ := h
    refine ⟨_, PSs.nox (pss_cons (ps_if (pt_cmpR op_eq (pe_fld (pv 0) rfl) (c_gint T.i_MOST_RUN_TICKS) (nomark _)) (pss_one (ps_ret (pe_lst pa_nil)))
  pss_nil)
  (pss_cons (ps_set (i := 1) sc_Profile_choices.nd rfl (Or.inr rfl) (c_fn O_look_flags hr (by decide) T.g_look_flags pass0 (pa_cons (pe_fld (pv 0) rfl) (pa_cons (c_me0 rfl (pv 0) T.c_Profile PM.m__spot O_Profile__spot hr (by decide) pass0) (pa_cons (c_me0 rfl (pv 0) T.c_Profile PM.m__has_come O_Profile__has_come hr (by decide) pass0) pa_nil)))))
  (pss_one (ps_ret (pe_lc2 (own := [("move", 2), ("due", 3)]) (vs1 := [3]) (tt1 := tYes) (g := gName 2) (tt := tYes) (by rfl) sc_Profile_choices.nd (pi_list (c_me0 rfl (pv 0) T.c_Profile PM.m__moves O_Profile__moves hr (by decide) pass0)) (blkOk_by (N := ["self", "flags", "move", "due"]) (sc := defScope s_Profile_choices) (by decide +kernel)) (by decide) (fun _ _ _ _ _ => (pg_name (i := 2) sc_Profile_choices.nd rfl (Or.inl rfl))) (fun _ _ _ _ _ => pts_nil) (fun _ _ _ _ _ => (pi_tupK (K := K) rfl (pv 1))) (fun _ _ _ _ _ => (pg_name (i := 3) sc_Profile_choices.nd rfl (Or.inl rfl))) (fun _ _ _ _ _ => pts_nil) (fun _ _ _ _ _ => (pe_tup (pa_cons (pv 2) (pa_cons (pv 3) pa_nil))))))))), ?_⟩
    refine ⟨_, rfl, q, _, dx, _, _, rfl, hq.hq, T.c_Profile, T.fT, pff_ticks, rfl, _, rfl, ite2 (fun hc => ?_) fun hc => ?_⟩
    · have e : cs.length = 2000 := by
        have := V.int.inj (of_decide_eq_true hc)
        omega
      refine ⟨(by show 0 ≤ sizeLine; decide), fun L nL => k _ L (same_new nL) nL ?_⟩
      have e2 : chA xs st i n sh cs o = [] := if_pos e
      rw [e2]
      exact ⟨[], upd_same, .nil⟩
    have hne : ¬ cs.length = 2000 := fun e => hc (decide_eq_true (by rw [e]; rfl))
    have ea : chA xs st i n sh cs o = chL xs st i sh (((sh + cs.length) % n : Nat) : Int) o := if_neg hne
    rw [ea] at k
    generalize hsl : (((sh + cs.length) % n : Nat) : Int) = sl at k
    refine ⟨_, rfl, q, _, dx, _, _, rfl, hq.hq, T.c_Profile, T.fS, pff_sampler, _, rfl, q, dx, _, rfl, hq.hq, pff_out, q, g, p, sh, cs, o, mk, dx, M, sv, n, i, f, rfl, hq, hp, n1, n8, ?_⟩
    rw [hsl]
    refine ⟨_, rfl, q, dx, _, rfl, hq.hq, pff_out, q, g, p, sh, cs, o, mk, dx, M, sv, n, i, f, rfl, hq, hp, n1, n8, ?_⟩
    rw [hsl]
    refine ⟨p, _, i, f, sl, hcB i sh sl o, rfl, hp, fun H1 a s1 ha => ?_⟩
    have hq1 := hq.ext s1
    have hg1 := hg.ext s1
    refine ⟨_, rfl, q, dx, _, rfl, hq1.hq, pff_out, q, g, p, sh, cs, o, mk, dx, M, sv, xs, st, dg, tn, dP, dN, rfl, hq1, hg1, hz, fun H2 Lm s12 nLm hLm => ?_⟩
    have ha2 := s12 _ _ ha
    have s2 := s1.trans s12
    have hm7 := mvs_len hg.l6 st o
    generalize hms : mvs xs st o = ms at hLm hm7
    generalize hfl : flL i sl (hcB i sh sl o) = fs at ha2
    have hf2 : fs.length ≤ 2 := by rw [← hfl]; exact flL_len ..
    have ec : chL xs st i sh sl o = ms.flatMap fun mv => fs.map fun d => ((mv, d) : Ch) := by rw [← hms, ← hfl]; rfl
    rw [ec] at k
    refine ⟨Lm, rfl, ⟨_, SqL.of hLm⟩, fun D nD => lc2_it walk_list (fun j H' => Same H2 H' ∧ ChsA H' D ((ms.take j).flatMap fun mv => fs.map fun d => ((mv, d) : Ch))) ⟨same_new nD, [], upd_same, .nil⟩ (fun j H' _ h => SqL.of (h.1 _ _ hLm)) ?_ ?_⟩
    · rintro j x H5 H' hj ⟨s25, hD⟩ ⟨rfl, hx⟩
      rw [List.length_map] at hj
      have hmj : ms[j]? = some ms[j] := List.getElem?_eq_getElem hj
      generalize ms[j] = mv at hmj
      obtain rfl : x = mvV mv := by
        rw [List.getElem?_map, hmj] at hx
        exact (Option.some.inj hx).symm
      have enx : (ms.take (j + 1)).flatMap (fun mv => fs.map fun d => ((mv, d) : Ch)) = (ms.take j).flatMap (fun mv => fs.map fun d => ((mv, d) : Ch)) ++ fs.map fun d => ((mv, d) : Ch) := by
        rw [List.take_add_one, hmj, List.flatMap_append]
        show _ ++ ((fs.map fun d => ((mv, d) : Ch)) ++ []) = _
        rw [List.append_nil]
      have hle : ((ms.take j).flatMap fun mv => fs.map fun d => ((mv, d) : Ch)).length ≤ 14 := by
        have h2 := flat_len2 (fun mv => fs.map fun d => ((mv, d) : Ch)) 2 (fun a => by rw [List.length_map]; exact hf2) (ms.take j)
        have h3 : (ms.take j).length ≤ ms.length := List.length_take_le' ..
        omega
      refine ⟨rfl, _, rfl, a, rfl, ⟨_, SqT.of (s25 _ _ ha2)⟩, ?_⟩
      refine lc2_in walk_tup (fun t H' => Same H2 H' ∧ ChsA H' D ((ms.take j).flatMap (fun mv => fs.map fun d => ((mv, d) : Ch)) ++ (fs.take t).map fun d => ((mv, d) : Ch))) ⟨s25, by simpa using hD⟩ (fun t H' _ h => SqT.of (h.1 _ _ ha2)) ?_ ?_
      · rintro t x H6 H7 ht ⟨sg6, hD6⟩ ⟨rfl, hx⟩
        rw [List.length_map] at ht
        have hft : fs[t]? = some fs[t] := List.getElem?_eq_getElem ht
        generalize fs[t] = d at hft
        obtain rfl : x = .bl d := by
          rw [List.getElem?_map, hft] at hx
          exact (Option.some.inj hx).symm
        refine ⟨rfl, _, rfl, _, rfl, (by show 2 ≤ sizeLine; decide), fun r nr => ?_⟩
        have sr := same_new (o := .tup [mvV mv, .bl d]) nr
        have hD7 := hD6.ext sr
        obtain ⟨acc, hacc, hl⟩ := hD7.len
        refine ⟨acc, hacc, ?_, same_app (sg6.trans sr) (Same.refl _) nD, ?_⟩
        · rw [hl, List.length_append, List.length_map, List.length_take]
          exact Nat.lt_of_le_of_lt (show _ ≤ 16 by omega) (by decide)
        · rw [List.take_add_one, hft, List.map_append, ← List.append_assoc]
          exact hD7.add hacc upd_same rfl
      · rintro H6 ⟨sg6, hD6⟩
        rw [List.length_map, List.take_length] at hD6
        exact ⟨sg6, by rw [enx]; exact hD6⟩
    rintro H6 ⟨s26, hD⟩
    rw [List.length_map, List.take_length] at hD
    exact k _ D (s2.trans s26) (none_of s2 nD) hD
end
end K16

set_option Elab.async false
set_option linter.all false
set_option pp.deepTerms.threshold 14
set_option pp.maxSteps 2500
set_option maxRecDepth 100000
set_option maxHeartbeats 2000000
namespace K16
open PySem PySem.Spec PyProof.Rows L2 Vf 
section
variable {P : Program} {w : World} {K : PySem.W.Frag} {mg : Str → Option Value} {base : Heap}
/-- x is no tuple -/
inductive NoTp (H : Hp) : V → Prop where
  | int (i : Int) : NoTp H (.int i)
  | str (z : Str) : NoTp H (.str z)
  | bl (b : Bool) : NoTp H (.bl b)
  | non : NoTp H .non
  | lst {a : Addr} {xs : List V} (h : H a = some (.lst xs)) : NoTp H (.ref a)
  | dic {a : Addr} {kvs : List (Key × V)} (h : H a = some (.dK kvs)) : NoTp H (.ref a)
theorem noTp_ty (K : PySem.W.Frag) {H : Hp} {x : V} (o : NoTp H x) : ∃ t, TyX K H x t ∧ PySem.W.kitOne K t (.type "tuple") = some false := by
  cases o with
  | int i => exact ⟨_, .base (.int _), kit_ty (by decide +kernel)⟩
  | str i => exact ⟨_, .base (.str _), kit_ty (by decide +kernel)⟩
  | bl i => exact ⟨_, .base (.bl _), kit_ty (by decide +kernel)⟩
  | non => exact ⟨_, .base .non, kit_ty (by decide +kernel)⟩
  | lst h => exact ⟨_, .base (.lst h), kit_ty (by decide +kernel)⟩
  | dic h => exact ⟨_, .base (.dK h), kit_ty (by decide +kernel)⟩
theorem NoTp.ext {H H' : Hp} {x : V} (o : NoTp H x) (s : Same H H') : NoTp H' x := by
  cases o with
  | int i => exact .int i
  | str i => exact .str i
  | bl i => exact .bl i
  | non => exact .non
  | lst h => exact .lst (s _ _ h)
  | dic h => exact .dic (s _ _ h)
/-- x is none of the choices cs -/
def NotCh (H : Hp) (x : V) (cs : List Ch) : Prop := NoTp H x ∨ ∃ r, x = .ref r ∧ ((∃ ts, H r = some (.tup ts) ∧ ts.length ≠ 2) ∨ (∃ a b, H r = some (.tup [a, b]) ∧ OddB H b) ∨ ∃ c, ChA H r c ∧ ChS c ∧ c ∉ cs)
theorem NotCh.ext {H H' : Hp} {x : V} {cs : List Ch} (o : NotCh H x cs) (s : Same H H') : NotCh H' x cs := by
  rcases o with o | ⟨r, e, ⟨ts, h, hl⟩ | ⟨a, b, h, o⟩ | ⟨c, h, hs, hn⟩⟩
  · exact .inl (o.ext s)
  · exact .inr ⟨r, e, .inl ⟨ts, s _ _ h, hl⟩⟩
  · exact .inr ⟨r, e, .inr (.inl ⟨a, b, s _ _ h, oddB_ext o s⟩)⟩
  · exact .inr ⟨r, e, .inr (.inr ⟨c, h.ext s, hs, hn⟩)⟩
theorem sc_is_one_of_choices : FnScope ["choice", "choices"] ["choice", "choices"] (defScope s_is_one_of_choices) := ⟨rfl, rfl, rfl, by decide +kernel, rfl, by decide +kernel, by decide +kernel⟩
-- slots: 0 choice, 1 choices
def spOneCh (K : PySem.W.Frag) : Sp := fun vs H Q _ => ∃ (x : V) (L : Addr) (cs : List Ch), vs = [x, .ref L] ∧ ChsA H L cs ∧ (∀ c ∈ cs, ChS c) ∧
  ((∃ r c, x = .ref r ∧ ChA H r c ∧ ChS c ∧ c ∈ cs ∧ Q (.bl true) H) ∨ (NotCh H x cs ∧ Q (.bl false) H))
theorem ok_is_one_of_choices {fd : FuncData} (F : FnD K ("is_one_of_choices", none) "is_one_of_choices" "is_one_of_choices" s_is_one_of_choices fd) (T : LvTxt K mg) (O_is_flag : OkF P w K mg base CX0 1 "is_flag" ["x"] spFlag) : OkF P w K mg base CX0 2 "is_one_of_choices" ["choice", "choices"] (spOneCh K) := by
  refine okd F (F.ok sc_is_one_of_choices (fun vs H Q E h => ?_) fun cdv A outer s H vs Q E hr h => ?_) fun _ _ _ _ _ _ us hl => match us, hl with | [_, _], _ => rfl
  · obtain ⟨x, L, cs, rfl, _⟩ := h
    rfl
  · obtain ⟨x, L, cs, rfl, hL, hcs, h⟩ := h
    refine ⟨_, PSs.nox (pss_one (ps_ret (pe_and (pe_callB (id := "isinstance") call_isi (by rfl) T.z_isinstance (by decide +kernel) (pa_cons (pv 0) (pa_cons (pe_ty (n := "tuple") T.z_tuple (by decide +kernel)) pa_nil))) (pe_and (pe_cmpR op_eq (pe_callB (id := "len") call_len_seq (by rfl) T.z_len (by decide +kernel) (pa_cons (pv 0) pa_nil)) pe_int (nomark _)) (pe_and (c_fn O_is_flag hr (by decide) T.g_is_flag pass0 (pa_cons (pe_ix ix_tup (pv 0) pe_int (fun _ _ => rfl)) pa_nil)) (pe_one (pe_cmpR (op_inD (room65 hr)) (pv 0) (pv 1) rfl))))))), ?_⟩
    rcases h with ⟨r, c, rfl, hr, hs, hc, k⟩ | ⟨o | ⟨r, rfl, ⟨ts, hr, hl⟩ | ⟨a, b, hr, o⟩ | ⟨c, hr, hs, hn⟩⟩, k⟩
    · have hr' : H r = some (.tup [mvV c.1, .bl c.2]) := hr
      refine ⟨_, rfl, .ref r, .ty "tuple", .type "tuple", .type "tuple", true, rfl, .ty _, .base (.tup hr'), kit_ty (by decide +kernel), true, rfl, iteT ⟨_, rfl, r, _, rfl, .inr (SqT.of hr'), rfl, true, rfl, iteT ?_⟩⟩
      refine ⟨_, rfl, r, _, 1, .bl c.2, rfl, rfl, SqT.of hr', atI1, _, rfl, .inl ⟨c.2, rfl, true, rfl, iteT ?_⟩⟩
      obtain ⟨rs, h1, h2⟩ := hL
      refine ⟨_, rfl, _, rfl, chD c, cs.map chD, ch_dp hr, .lst (SqL.of h1) (chs_dp h2), ch_sh c hs, chs_sh hcs, ?_⟩
      rw [ch_any, decide_eq_true hc]
      exact k
    · obtain ⟨t, ht, hk⟩ := noTp_ty K o
      exact ⟨_, rfl, x, .ty "tuple", t, .type "tuple", false, rfl, .ty _, ht, hk, false, rfl, iteF k⟩
    · exact ⟨_, rfl, .ref r, .ty "tuple", .type "tuple", .type "tuple", true, rfl, .ty _, .base (.tup hr), kit_ty (by decide +kernel), true, rfl, iteT ⟨_, rfl, r, _, rfl, .inr (SqT.of hr), rfl, false, congrArg V.bl (decide_eq_false fun z => hl (by have := V.int.inj z; omega)), iteF k⟩⟩
    · refine ⟨_, rfl, .ref r, .ty "tuple", .type "tuple", .type "tuple", true, rfl, .ty _, .base (.tup hr), kit_ty (by decide +kernel), true, rfl, iteT ⟨_, rfl, r, _, rfl, .inr (SqT.of hr), rfl, true, rfl, iteT ?_⟩⟩
      exact ⟨_, rfl, r, _, 1, b, rfl, rfl, SqT.of hr, atI1, _, rfl, .inr ⟨o, false, rfl, iteF k⟩⟩
    · have hr' : H r = some (.tup [mvV c.1, .bl c.2]) := hr
      refine ⟨_, rfl, .ref r, .ty "tuple", .type "tuple", .type "tuple", true, rfl, .ty _, .base (.tup hr'), kit_ty (by decide +kernel), true, rfl, iteT ⟨_, rfl, r, _, rfl, .inr (SqT.of hr'), rfl, true, rfl, iteT ?_⟩⟩
      refine ⟨_, rfl, r, _, 1, .bl c.2, rfl, rfl, SqT.of hr', atI1, _, rfl, .inl ⟨c.2, rfl, true, rfl, iteT ?_⟩⟩
      obtain ⟨rs, h1, h2⟩ := hL
      refine ⟨_, rfl, _, rfl, chD c, cs.map chD, ch_dp hr, .lst (SqL.of h1) (chs_dp h2), ch_sh c hs, chs_sh hcs, ?_⟩
      rw [ch_any, decide_eq_false hn]
      exact k
end
end K16

set_option Elab.async false
set_option linter.all false
set_option pp.deepTerms.threshold 14
set_option pp.maxSteps 2500
set_option maxRecDepth 100000
set_option maxHeartbeats 2000000
namespace K16
open PySem PySem.Spec PyProof.Rows L2 Vf 
section
variable {P : Program} {w : World} {K : PySem.W.Frag} {mg : Str → Option Value} {base : Heap}
theorem mv_z {xs : List PgE} {st : Str} {o : Option Tk} (hst : st ∈ zsOf xs) {mv : Option Str} (h : mv ∈ mvs xs st o) : (∀ z, mv = some z → z ∈ zsOf xs) ∧ (mv = none → ∃ k, o = some k) := by
  cases o with
  | none =>
    obtain rfl : mv = some st := List.mem_singleton.mp h
    exact ⟨fun z e => Option.some.inj e ▸ hst, fun e => nomatch e⟩
  | some k =>
    refine ⟨fun z e => ?_, fun _ => ⟨k, rfl⟩⟩
    subst e
    rcases List.mem_append.mp h with h | h
    · split at h
      · have := List.mem_singleton.mp h
        cases this
      · cases h
    · split at h
      · obtain ⟨u, hu, e⟩ := List.mem_map.mp h
        cases e
        exact (List.mem_filter.mp hu).1
      · cases h
theorem chL_mem {xs : List PgE} {st : Str} {i : Int} {sh : Nat} {sl : Int} {o : Option Tk} {c : Ch} (h : c ∈ chL xs st i sh sl o) : c.1 ∈ mvs xs st o ∧ c.2 ∈ flL i sl (hcB i sh sl o) := by
  obtain ⟨mv, hm, h⟩ := List.mem_flatMap.mp h
  obtain ⟨d, hd, rfl⟩ := List.mem_map.mp h
  exact ⟨hm, hd⟩
theorem chA_mem {xs : List PgE} {st : Str} {i : Int} {n sh : Nat} {cs : List Ch} {o : Option Tk} {c : Ch} (h : c ∈ chA xs st i n sh cs o) : cs.length ≠ 2000 ∧ c ∈ chL xs st i sh (((sh + cs.length) % n : Nat) : Int) o := by
  unfold chA at h
  split at h
  · cases h
  · rename_i e
    exact ⟨e, h⟩
theorem chA_S {xs : List PgE} {st : Str} {i : Int} {n sh : Nat} {cs : List Ch} {o : Option Tk} (hst : st ∈ zsOf xs) (nm : ∀ z ∈ zsOf xs, nmB z = true) : ∀ c ∈ chA xs st i n sh cs o, ChS c := fun c h z e => nm_ok (nm z ((mv_z hst (chL_mem (chA_mem h).2).1).1 z e))
def wtO : Option Tk → Bool
  | some k => k.wt
  | none => false
theorem nxT_eq (ys : List PgE) (bg : Str) (i : Int) (sh : Nat) (sl : Int) (o : Option Tk) (c : Ch) : (nxT ys bg i sh sl o c).sl = sl ∧ (nxT ys bg i sh sl o c).dn = (hcB i sh sl o || c.2) ∧ (nxT ys bg i sh sl o c).wt = ((wtO o || c.2) && !(rowQ ys (nxT ys bg i sh sl o c).z).b) ∧ (nxT ys bg i sh sl o c).nt = ((wtO o || c.2) && (rowQ ys (nxT ys bg i sh sl o c).z).b) := by
  cases o <;> exact ⟨rfl, rfl, rfl, rfl⟩
theorem ChsA.snoc {H H' : Hp} {q C dx M M' r : Addr} {fs : List (Str × V)} {cs : List Ch} {c : Ch} {vs : List V} (h : ChsA H M cs) (hv : H M = some (.lst vs)) (hq : H q = some (.ins C dx fs)) (x : SameX q H H') (hr : ChA H r c) (hM : H' M' = some (.lst (vs ++ [.ref r]))) : ChsA H' M' (cs ++ [c]) := by
  obtain ⟨rs, h1, h2⟩ := h
  rw [hv] at h1
  cases h1
  have kp : ∀ {r : Addr} {c : Ch}, ChA H r c → ChA H' r c := fun {r c} e => by
    have e : H r = some (.tup [mvV c.1, .bl c.2]) := e
    exact x _ _ (ne_of e hq (by intro z; cases z)) e
  exact ⟨rs ++ [r], by rw [hM, List.map_append]; rfl, paired_snoc (kp hr) (paired_imp (fun r c e => kp e) h2)⟩
theorem sc_Profilego_on : FnScope ["self", "choice", "move", "due", "waits", "name", "spent", "place", "state", "noted"] ["self", "choice"] (defScope s_Profilego_on) := ⟨rfl, rfl, rfl, by decide +kernel, rfl, by decide +kernel, by decide +kernel⟩
-- slots: 0 self, 1 choice, 2 move, 3 due, 4 waits, 5 name, 6 spent, 7 place, 8 state, 9 noted
/-- what a choice does to the profile at q -/
def spGo (K : PySem.W.Frag) : Sp := fun vs H Q E => ∃ (q g p : Addr) (sh : Nat) (cs : List Ch) (o : Option Tk) (mk : V) (dx M : Addr) (sv : V) (xs : List PgE) (st : Str) (dg tn dP dN : Addr) (n : Nat) (i : Int) (f : V) (x : V), vs = [.ref q, x] ∧ PfA K H q g p sh cs o mk dx M sv ∧ PgA K H g xs st dg tn dP dN ∧ SaA (CS K) H p (n : Int) i f ∧ 1 ≤ n ∧ n ≤ 8 ∧ (∀ k, o = some k → k.z ∈ zsOf xs) ∧ st ∈ zsOf xs ∧ cs.length ≤ 2000 ∧
  ((∃ r c, x = .ref r ∧ ChA H r c ∧ c ∈ chA xs st i n sh cs o ∧ ∀ H' M' sv', SameX q H H' → H M' = none → PfA K H' q g p sh (cs ++ [c]) (some (nxT xs st i sh (((sh + cs.length) % n : Nat) : Int) o c)) mk dx M' sv' → Q (if (nxT xs st i sh (((sh + cs.length) % n : Nat) : Int) o c).nt = true then .str (nxT xs st i sh (((sh + cs.length) % n : Nat) : Int) o c).z else .non) H') ∨
   (NotCh H x (chA xs st i n sh cs o) ∧ ∀ H1 d, Same H H1 → H1 d = none → E (.ref (He.ga K "BadChoice")) (some d) (upd H1 d (.xd [("index", .int (cs.length : Int))]))))
theorem ok_Profile_go_on {fd : FuncData} (F : FnD K ("Profile", some "_go_on") "_go_on" "Profile._go_on" s_Profilego_on fd) (T : LvTxt K mg) (PM : PMeth K) (MG : GMeth K) (O_getitem : OkM P w K mg base (L2.CX P w) 4 "Program" "__getitem__" ["self", "at"] (spGet K)) (O_is_one_of_choices : OkF P w K mg base CX0 2 "is_one_of_choices" ["choice", "choices"] (spOneCh K)) (O_pair_at : OkF P w K mg base CX0 1 "pair_at" ["place", "spent", "slot", "done", "waits"] (spPA K))
    (O_Profile__spot : OkM P w K mg base CX0 1 "Profile" "_spot" ["self"] (spSpt K)) (O_Profile__has_come : OkM P w K mg base CX0 2 "Profile" "_has_come" ["self"] (spHc K)) (O_Profile_choices : OkM P w K mg base CX0 7 "Profile" "choices" ["self"] (spChs K)) (O_BadChoice_init : OkD P w K mg base CX0 1 ("BadChoice", some "__init__") ["self", "index"] [] (spExI K (He.ga K "BadChoice") "index")) : OkM P w K mg base (L2.CX P w) 8 "Profile" "_go_on" ["self", "choice"] (spGo K) := by
  refine okd F (F.ok sc_Profilego_on (fun vs H Q E h => ?_) fun cdv A outer s H vs Q E hr h => ?_) fun _ _ _ _ _ _ us hl => match us, hl with | [_, _], _ => rfl
  · obtain ⟨q, g, p, sh, cs, o, mk, dx, M, sv, xs, st, dg, tn, dP, dN, n, i, f, x, rfl, _⟩ := h
    rfl
  · obtain ⟨q, g, p, sh, cs, o, mk, dx, M, sv, xs, st, dg, tn, dP, dN, n, i, f, x, rfl, hq, hg, hp, n1, n8, hz, hst, hcs, k⟩ := h
    refine ⟨_, (pss_cons (ps_if (pt_not (pt_val (c_fn O_is_one_of_choices hr (by decide) T.g_is_one_of_choices pass0 (pa_cons (pv 1) (pa_cons (c_me0 rfl (pv 0) T.c_Profile PM.m_choices O_Profile_choices hr (by decide) pass0) pa_nil))))) (pss_one (c_raise T.x_BadChoice O_BadChoice_init hr (by decide) T.g_BadChoice (takes_of rfl rfl rfl rfl) (pa_cons (pe_fld (pv 0) rfl) pa_nil)))
  pss_nil)
  (pss_cons (ps_asg (pv 1) (pg_tup rfl (pgs_cons (pg_name (i := 2) sc_Profilego_on.nd rfl (Or.inl rfl)) (pgs_cons (pg_name (i := 3) sc_Profilego_on.nd rfl (Or.inl rfl)) pgs_nil))))
  (pss_cons (ps_set (i := 4) sc_Profilego_on.nd rfl (Or.inl rfl) (pe_andB (pe_cmpR op_notN (pe_fld (pv 0) rfl) pe_non (nomark _)) (pe_one (pe_ix ix_tup (pe_fld (pv 0) rfl) pe_int (fun _ _ => rfl)))))
  (pss_cons (ps_asg (pe_weak (pe_ifExp (pt_cmpR op_notN (pv 2) pe_non (nomark _)) (pe_tup (pa_cons (pv 2) (pa_cons pe_int pa_nil))) (pe_tup (pa_cons (pe_ix ix_tup (pe_fld (pv 0) rfl) pe_int (fun _ _ => rfl)) (pa_cons (pe_op op_add (pe_ix ix_tup (pe_fld (pv 0) rfl) pe_int (fun _ _ => rfl)) pe_int) pa_nil))))) (pg_tup rfl (pgs_cons (pg_name (i := 5) sc_Profilego_on.nd rfl (Or.inl rfl)) (pgs_cons (pg_name (i := 6) sc_Profilego_on.nd rfl (Or.inl rfl)) pgs_nil))))
  (pss_cons (ps_set (i := 7) sc_Profilego_on.nd rfl (Or.inl rfl) (pe_subO (pe_fld (pv 0) rfl) (pv 5) MG.m_getitem MG.f_getitem O_getitem hr (by decide) passL))
  (pss_cons (ps_asg (c_fn O_pair_at hr (by decide) T.g_pair_at pass0 (pa_cons (pv 7) (pa_cons (pv 6) (pa_cons (c_me0 rfl (pv 0) T.c_Profile PM.m__spot O_Profile__spot hr (by decide) pass0) (pa_cons (pe_orB (c_me0 rfl (pv 0) T.c_Profile PM.m__has_come O_Profile__has_come hr (by decide) pass0) (pe_one (pv 3))) (pa_cons (pe_orB (pv 4) (pe_one (pv 3))) pa_nil)))))) (pg_tup rfl (pgs_cons (pg_name (i := 8) sc_Profilego_on.nd rfl (Or.inl rfl)) (pgs_cons (pg_name (i := 9) sc_Profilego_on.nd rfl (Or.inl rfl)) pgs_nil))))
  (pss_cons (ps_fld (pv 0) (pv 8) rfl)
  (pss_cons (ps_fld (pv 0) (pe_op op_cat (pe_fld (pv 0) rfl) (pe_lst (pa_cons (pv 1) pa_nil))) rfl)
  (pss_cons (ps_fld (pv 0) (pe_op op_add (pe_fld (pv 0) rfl) pe_int) rfl)
  (pss_one (ps_ret (pe_weak (pe_ifExp (pt_val (pv 9)) (pv 5) pe_non))))))))))))), ?_⟩
    refine ⟨_, rfl, _, rfl, q, dx, _, rfl, hq.hq, pff_out, q, g, p, sh, cs, o, mk, dx, M, sv, xs, st, dg, tn, dP, dN, n, i, f, rfl, hq, hg, hp, n1, n8, hz, fun H1 L s1 nL hL => ?_⟩
    have hq1 := hq.ext s1
    have hS : ∀ c ∈ chA xs st i n sh cs o, ChS c := chA_S hst hg.nm
    refine ⟨x, L, _, rfl, hL, hS, ?_⟩
    rcases k with ⟨r, c, rfl, hr, hc, k⟩ | ⟨hno, k⟩
    rotate_left
    · refine .inr ⟨hno.ext s1, false, rfl, iteT ?_⟩
      exact ⟨_, rfl, q, _, dx, _, _, rfl, hq1.hq, T.c_Profile, T.fT, pff_ticks, _, rfl, fun d hd => k H1 d s1 hd⟩
    refine .inl ⟨r, c, rfl, hr.ext s1, hS c hc, hc, true, rfl, iteF ?_⟩
    obtain ⟨hne, hcl⟩ := chA_mem hc
    obtain ⟨hmv, hfl⟩ := chL_mem hcl
    obtain ⟨hmz, hmn⟩ := mv_z hst hmv
    generalize hsl : (((sh + cs.length) % n : Nat) : Int) = sl at k
    have hr1 : H1 r = some (.tup [mvV c.1, .bl c.2]) := hr.ext s1
    refine ⟨_, rfl, r, _, rfl, SqT.of hr1, rfl, _, _, rfl, _, _, rfl, rfl, ?_⟩
    -- does one wait
    have hs1 := hq1.hs
    refine ⟨_, rfl, q, _, dx, _, _, rfl, hq1.hq, T.c_Profile, T.fA, pff_state, rfl, _, wtO o, (· = H1), rfl, fun hc => ?_, fun hc => ?_, fun H2 e => ?_⟩
    · cases o with
      | none =>
        obtain rfl := hs1
        cases hc
      | some kk =>
        obtain ⟨t, rfl, ht⟩ := hs1
        exact ⟨_, rfl, q, _, dx, _, _, rfl, hq1.hq, T.c_Profile, T.fA, pff_state, t, _, 4, _, rfl, rfl, SqT.of ht, atI_nat (j := 4) rfl, rfl, rfl⟩
    · rfl
    subst e
    have ew : (!decide (sv = V.non) && wtO o) = wtO o := by
      cases o with
      | none => exact Bool.and_false _
      | some kk =>
        obtain ⟨t, rfl, _⟩ := hs1
        rfl
    rw [ew]
    generalize hk : nxT xs st i sh sl o c = kn at k
    obtain ⟨ek1, ek2, ek3, ek4⟩ := nxT_eq xs st i sh sl o c
    rw [hk] at ek1 ek2 ek3 ek4
    have hknz : kn.z ∈ zsOf xs := by
      rw [← hk]
      obtain ⟨mv, d⟩ := c
      cases mv with
      | some z => cases o <;> exact hmz z rfl
      | none =>
        obtain ⟨kk, rfl⟩ := hmn rfl
        exact hz kk rfl
    refine ⟨fun v H' => ∃ t, v = .ref t ∧ Same H2 H' ∧ H' t = some (.tup [.str kn.z, .int kn.sp]), ?_, ?_⟩
    · obtain ⟨mv, d⟩ := c
      cases mv with
      | some z =>
        have e1 : kn.z = z ∧ kn.sp = 1 := by rw [← hk]; cases o <;> exact ⟨rfl, rfl⟩
        rw [e1.1, e1.2]
        exact ⟨_, rfl, rfl, _, rfl, iteT ⟨_, rfl, (by show 2 ≤ sizeLine; decide), fun t nt => ⟨t, rfl, same_new nt, upd_same⟩⟩⟩
      | none =>
        obtain ⟨kk, rfl⟩ := hmn rfl
        obtain ⟨t, rfl, ht⟩ := hs1
        have e1 : kn.z = kk.z ∧ kn.sp = kk.sp + 1 := by rw [← hk]; exact ⟨rfl, rfl⟩
        rw [e1.1, e1.2]
        exact ⟨_, rfl, rfl, _, rfl, iteF ⟨_, rfl, q, _, dx, _, _, rfl, hq1.hq, T.c_Profile, T.fA, pff_state, t, _, 0, _, rfl, rfl, SqT.of ht, atI0, _, rfl, q, _, dx, _, _, rfl, hq1.hq, T.c_Profile, T.fA, pff_state, t, _, 1, _, rfl, rfl, SqT.of ht, atI1, _, _, rfl, rfl, (by show 2 ≤ sizeLine; decide), fun t nt => ⟨t, rfl, same_new nt, upd_same⟩⟩⟩
    rintro v H3 ⟨t, rfl, s23, ht3⟩
    have sg3 := s1.trans s23
    have hq3 := hq.ext sg3
    have hg3 := hg.ext sg3
    have hp3 := hp.ext sg3
    obtain ⟨iy, y, hy, hyz⟩ := row_of hknz
    have hrq : rowQ xs kn.z = y.2.2 := by rw [← hyz]; exact rowQ_row hg.nd hy
    rw [hrq] at ek3 ek4
    refine ⟨t, _, rfl, SqT.of ht3, rfl, _, _, rfl, _, _, rfl, rfl, ?_⟩
    refine ⟨_, rfl, q, _, dx, _, _, rfl, hq3.hq, T.c_Profile, T.fP, pff_program, _, rfl, g, dg, _, rfl, hg3.hg, g, _, xs, st, dg, tn, dP, dN, rfl, hg3, .inl ⟨iy, y, hy, by rw [hyz], ?_⟩⟩
    refine ⟨_, rfl, _, rfl, _, rfl, q, dx, _, rfl, hq3.hq, pff_out, q, g, p, sh, cs, o, mk, dx, M, sv, n, i, f, rfl, hq3, hp3, n1, n8, ?_⟩
    rw [hsl]
    refine ⟨_, rfl, q, dx, _, rfl, hq3.hq, pff_out, q, g, p, sh, cs, o, mk, dx, M, sv, n, i, f, rfl, hq3, hp3, n1, n8, ?_⟩
    rw [hsl]
    refine ⟨hcB i sh sl o, c.2, (· = H3), rfl, fun _ => ⟨_, rfl, rfl, rfl⟩, fun _ => rfl, fun H4 e => ?_⟩
    subst e
    refine ⟨_, rfl, wtO o, c.2, (· = H4), rfl, fun _ => ⟨_, rfl, rfl, rfl⟩, fun _ => rfl, fun H5 e => ?_⟩
    subst e
    refine ⟨y.1, y.2.2.z, y.2.2.l, y.2.2.m, y.2.2.b, kn.sp, sl, _, _, rfl, hg3.pl y (List.mem_of_getElem? hy), fun H6 r2 t2 s56 hr2 ht2 => ?_⟩
    rw [hyz, ← ek3, ← ek2, ← ek1] at ht2
    rw [← ek4] at hr2
    refine ⟨r2, _, rfl, SqT.of hr2, rfl, _, _, rfl, _, _, rfl, rfl, ?_⟩
    have sg6 := sg3.trans s56
    have hq6 := hq.ext sg6
    have hr6 := hr.ext sg6
    have hM6 := hq6.hM
    obtain ⟨vs, hvs, hvl⟩ := hM6.len
    have nMq : M ≠ q := ne_of hvs hq6.hq (by intro z; cases z)
    refine ⟨_, rfl, _, rfl, q, _, dx, _, rfl, hq6.hq, T.c_Profile, T.fA, pff_len, ?_⟩
    rw [pff_setA]
    have x67 : SameX q H6 (upd H6 q (.ins (CPf K) dx (pff (cs.length : Int) g p (sh : Int) M (.ref t2) mk))) := SameX.upd
    have hq7 : (upd H6 q (.ins (CPf K) dx (pff (cs.length : Int) g p (sh : Int) M (.ref t2) mk))) q = some (.ins (CPf K) dx (pff (cs.length : Int) g p (sh : Int) M (.ref t2) mk)) := upd_same
    generalize upd H6 q (.ins (CPf K) dx (pff (cs.length : Int) g p (sh : Int) M (.ref t2) mk)) = H7 at x67 hq7 ⊢
    refine ⟨_, rfl, q, _, dx, _, _, rfl, hq7, T.c_Profile, T.fM, pff_made, _, rfl, (by show 1 ≤ sizeLine; decide), fun D nD => ?_⟩
    have sD := same_new (o := .lst [V.ref r]) nD
    refine ⟨M, D, vs, _, rfl, rfl, sD _ _ (x67 _ _ nMq hvs), upd_same, ?_, fun M' nM' => ?_⟩
    · rw [hvl]
      exact Nat.le_trans (show _ ≤ 2001 by show cs.length + 1 ≤ 2001; omega) (by decide)
    have nM7 : H7 M' = none := none_of sD nM'
    have nMq0 : M' ≠ q := fun z => by rw [z, hq7] at nM7; cases nM7
    have nM0 : H M' = none := none_of sg6 (by
      cases e : H6 M' with
      | none => rfl
      | some o =>
        have := x67 _ _ nMq0 e
        rw [nM7] at this
        cases this)
    have sM := sD.trans (same_new (o := .lst (vs ++ [.ref r])) nM')
    have hM' : (upd (upd H7 D (.lst [V.ref r])) M' (.lst (vs ++ [.ref r]))) M' = some (.lst (vs ++ [.ref r])) := upd_same
    have hq8 := sM _ _ hq7
    generalize upd (upd H7 D (.lst [V.ref r])) M' (.lst (vs ++ [.ref r])) = H8 at sM hM' hq8 ⊢
    have nMq' : M' ≠ q := ne_of hM' hq8 (by intro z; cases z)
    refine ⟨_, rfl, q, _, dx, _, rfl, hq8, T.c_Profile, T.fM, pff_len, ?_⟩
    rw [pff_setM]
    refine ⟨_, rfl, q, _, dx, _, _, rfl, upd_same, T.c_Profile, T.fT, pff_ticks, _, _, rfl, rfl, _, rfl, q, _, dx, _, rfl, upd_same, T.c_Profile, T.fT, pff_len, ?_⟩
    rw [upd_upd, pff_setT]
    have x69 : SameX q H6 (upd H8 q (.ins (CPf K) dx (pff ((cs.length : Int) + 1) g p (sh : Int) M' (.ref t2) mk))) := (x67.trans (same_x sM)).trans SameX.upd
    have hq9 : (upd H8 q (.ins (CPf K) dx (pff ((cs.length : Int) + 1) g p (sh : Int) M' (.ref t2) mk))) q = some (.ins (CPf K) dx (pff ((cs ++ [c]).length : Int) g p (sh : Int) M' (.ref t2) mk)) := by
      rw [upd_same, List.length_append]
      rfl
    have hM9 : (upd H8 q (.ins (CPf K) dx (pff ((cs.length : Int) + 1) g p (sh : Int) M' (.ref t2) mk))) M' = some (.lst (vs ++ [.ref r])) := by rw [upd_ne nMq']; exact hM'
    generalize upd H8 q (.ins (CPf K) dx (pff ((cs.length : Int) + 1) g p (sh : Int) M' (.ref t2) mk)) = H9 at x69 hq9 hM9 ⊢
    have ht9 : H9 t2 = some (.tup [.str kn.z, .int kn.sp, .int kn.sl, .bl kn.dn, .bl kn.wt]) := x69 _ _ (ne_of ht2 hq6.hq (by intro z; cases z)) ht2
    have fin := k H9 M' (.ref t2) ((same_x sg6).trans x69) nM0 ⟨hq9, hM6.snoc hvs hq6.hq x69 hr6 hM9, t2, rfl, ht9⟩
    refine ⟨fun v H' => v = (if kn.nt = true then .str kn.z else .non) ∧ H' = H9, ?_, ?_⟩
    · refine ⟨_, rfl, _, rfl, ite2 (fun hc => ?_) fun hc => ?_⟩
      · rw [if_pos hc]
        exact ⟨_, rfl, rfl, rfl⟩
      · rw [if_neg hc]
        exact ⟨rfl, rfl⟩
    · rintro v H' ⟨rfl, rfl⟩
      exact fin
end
end K16

set_option Elab.async false
set_option linter.all false
set_option pp.deepTerms.threshold 14
set_option pp.maxSteps 2500
set_option maxRecDepth 100000
set_option maxHeartbeats 2000000
namespace K16
open PySem PySem.Spec PyProof.Rows L2 Vf 
section
variable {P : Program} {w : World} {K : PySem.W.Frag} {mg : Str → Option Value} {base : Heap}
theorem sc_Profile_call : FnScope ["self", "choice"] ["self", "choice"] (defScope s_Profile_call) := ⟨rfl, rfl, rfl, by decide +kernel, rfl, by decide +kernel, by decide +kernel⟩
-- slots: 0 self, 1 choice
theorem ok_Profile_call {fd : FuncData} (F : FnD K ("Profile", some "__call__") "__call__" "Profile.__call__" s_Profile_call fd) (T : LvTxt K mg) (PM : PMeth K) (O_Profile__go_on : OkM P w K mg base (L2.CX P w) 8 "Profile" "_go_on" ["self", "choice"] (spGo K)) : OkM P w K mg base (L2.CX P w) 9 "Profile" "__call__" ["self", "choice"] (spGo K) := by
  refine okd F (F.ok sc_Profile_call (fun vs H Q E h => ?_) fun cdv A outer s H vs Q E hr h => ?_) fun _ _ _ _ _ _ us hl => match us, hl with | [_, _], _ => rfl
  · obtain ⟨q, g, p, sh, cs, o, mk, dx, M, sv, xs, st, dg, tn, dP, dN, n, i, f, x, rfl, _⟩ := h
    rfl
  · have h' := h
    obtain ⟨q, g, p, sh, cs, o, mk, dx, M, sv, xs, st, dg, tn, dP, dN, n, i, f, x, rfl, hq, _⟩ := h'
    refine ⟨_, (pss_one (ps_ret (c_me rfl (pv 0) T.c_Profile PM.m__go_on O_Profile__go_on hr (by decide) (passUp rfl rfl rfl rfl) (pa_cons (pv 1) pa_nil)))), ?_⟩
    exact ⟨_, rfl, q, dx, _, rfl, hq.hq, pff_out, _, rfl, h⟩
/-! ### stays and looks of the choices made -/
def smStep (S : List (Str × Int)) (c : Ch) : List (Str × Int) := match c.1 with
  | some z => S ++ [(z, 1)]
  | none => match S.getLast? with
    | some l => S.dropLast ++ [(l.1, l.2 + 1)]
    | none => S
def smL (cs : List Ch) : List (Str × Int) := cs.foldl smStep []
theorem smL_snoc (cs : List Ch) (c : Ch) : smL (cs ++ [c]) = smStep (smL cs) c := by
  unfold smL
  rw [List.foldl_append]
  rfl
theorem smL_take {cs : List Ch} {j : Nat} {c : Ch} (h : cs[j]? = some c) : smL (cs.take (j + 1)) = smStep (smL (cs.take j)) c := by
  rw [List.take_add_one, h]
  exact smL_snoc _ _
theorem smStep_ne {S : List (Str × Int)} {c : Ch} (h : S ≠ [] ∨ c.1 ≠ none) : smStep S c ≠ [] := by
  unfold smStep
  split
  · exact fun e => by simp at e
  · split
    · exact fun e => by simp at e
    · rcases h with h | h
      · exact h
      · exact absurd (by assumption) h
theorem smStep_len (S : List (Str × Int)) (c : Ch) : (smStep S c).length ≤ S.length + 1 := by
  unfold smStep
  split
  · rw [List.length_append]
    exact Nat.le_refl _
  · split
    · rw [List.length_append, List.length_dropLast]
      show S.length - 1 + 1 ≤ _
      omega
    · exact Nat.le_succ _
theorem smL_inv {cs : List Ch} (h0 : ∀ c, cs[0]? = some c → c.1 ≠ none) : ∀ j, j ≤ cs.length → (smL (cs.take j)).length ≤ j ∧ (j = 0 ∨ smL (cs.take j) ≠ []) := by
  intro j
  induction j with
  | zero => intro _; exact ⟨Nat.le_refl _, .inl rfl⟩
  | succ j ih =>
    intro h
    obtain ⟨h1, h2⟩ := ih (by omega)
    have hc : cs[j]? = some cs[j] := List.getElem?_eq_getElem (by omega)
    rw [smL_take hc]
    refine ⟨Nat.le_trans (smStep_len _ _) (by omega), .inr (smStep_ne ?_)⟩
    rcases h2 with rfl | h2
    · exact .inr (h0 _ hc)
    · exact .inl h2
theorem paired_last {α β : Type} {R : α → β → Prop} : ∀ {xs : List α} {ys : List β} {y : β}, Paired R xs (ys ++ [y]) → ∃ xs' x, xs = xs' ++ [x] ∧ R x y
  | _, [], _, .cons r .nil => ⟨[], _, rfl, r⟩
  | _, _ :: ys, _, .cons r p => by
    obtain ⟨xs', x, e, h⟩ := paired_last p
    exact ⟨_ :: xs', x, by rw [e]; rfl, h⟩
theorem atI_m1 {α : Type} {x : α} {xs : List α} : atI (xs ++ [x]) (-1) = some x := by
  unfold atI
  rw [ixN_m1 (by rw [List.length_append]; exact Nat.le_add_left _ _)]
  show (xs ++ [x])[(xs ++ [x]).length - 1]? = some x
  rw [List.length_append]
  simp
theorem sc_stays_made : FnScope ["made", "stays", "move", "_", "name", "many"] ["made"] (defScope s_stays_made) := ⟨rfl, rfl, rfl, by decide +kernel, rfl, by decide +kernel, by decide +kernel⟩
-- slots: 0 made, 1 stays, 2 move, 3 _, 4 name, 5 many
def spSM : Sp := fun vs H Q _ => ∃ (M : Addr) (cs : List Ch), vs = [.ref M] ∧ ChsA H M cs ∧ cs.length ≤ 2000 ∧ (∀ c, cs[0]? = some c → c.1 ≠ none) ∧ ∀ H' S, Same H H' → H S = none → StsA H' S (smL cs) → Q (.ref S) H'
theorem ok_stays_made {fd : FuncData} (F : FnD K ("stays_made", none) "stays_made" "stays_made" s_stays_made fd) (T : LvTxt K mg) : OkF P w K mg base CX0 1 "stays_made" ["made"] spSM := by
  refine okd F (F.ok sc_stays_made (fun vs H Q E h => ?_) fun cdv A outer s H vs Q E hr h => ?_) fun _ _ _ _ _ _ us hl => match us, hl with | [_], _ => rfl
  · obtain ⟨M, cs, rfl, _⟩ := h
    rfl
  · obtain ⟨M, cs, rfl, hM, hl, h0, k⟩ := h
    refine ⟨_, PSs.nox (pss_cons (ps_set (i := 1) sc_stays_made.nd rfl (Or.inl rfl) (pe_lst pa_nil))
  (pss_cons (ps_for PassesOwn.never rfl (pi_list (pv 0)) (pg_tup rfl (pgs_cons (pg_name (i := 2) sc_stays_made.nd rfl (Or.inl rfl)) (pgs_cons (pg_name (i := 3) sc_stays_made.nd rfl (Or.inl rfl)) pgs_nil)))
  (pss_one (ps_if (pt_cmpR op_isN (pv 2) pe_non (nomark _)) (pss_cons (ps_asg (pe_ix ix_list (pv 1) (pe_un un_neg pe_int) (fun _ _ => rfl)) (pg_tup rfl (pgs_cons (pg_name (i := 4) sc_stays_made.nd rfl (Or.inl rfl)) (pgs_cons (pg_name (i := 5) sc_stays_made.nd rfl (Or.inl rfl)) pgs_nil))))
  (pss_one (ps_asg (pe_tup (pa_cons (pv 4) (pa_cons (pe_op op_add (pv 5) pe_int) pa_nil))) (pg_sub (pv 1) (pe_un un_neg pe_int) set_list))))
  (pss_one (ps_expr (pe_bm PySem.F.plainAttrs_list PySem.F.slot_list_append PySem.F.type_list_append mt_append (pv 1) (pa_cons (pe_tup (pa_cons (pv 2) (pa_cons pe_int pa_nil))) pa_nil)))))))
  (pss_one (ps_ret (pv 1))))), ?_⟩
    refine ⟨(by show 0 ≤ sizeLine; decide), fun S nS => ?_⟩
    have s1 := same_new (o := .lst []) nS
    have hS1 : StsA (upd H S (.lst [])) S (smL (cs.take 0)) := ⟨[], upd_same, .nil⟩
    generalize upd H S (.lst []) = H1 at s1 hS1 ⊢
    obtain ⟨rs, hrs, hps⟩ := id hM
    have hrl : rs.length = cs.length := paired_len hps
    refine ⟨_, rfl, M, rfl, ⟨_, SqL.of (s1 _ _ hrs)⟩, for_it walk_list (fun j σ H' => Same H H' ∧ StsA H' S (smL (cs.take j)) ∧ ∃ v2 v3 v4 v5 : Option V, σ = [some (.ref M), some (.ref S), v2, v3, v4, v5]) ⟨s1, hS1, none, none, none, none, rfl⟩ (fun j σ H' _ h => SqL.of (h.1 _ _ hrs)) ?_ ?_⟩
    · clear hS1 s1 H1
      rintro j x σ H3 H' hj ⟨sg, hS, v2, v3, v4, v5, rfl⟩ ⟨rfl, hx⟩
      rw [List.length_map] at hj
      have hrj : rs[j]? = some rs[j] := List.getElem?_eq_getElem hj
      generalize rs[j] = r at hrj
      obtain rfl : x = .ref r := by
        rw [List.getElem?_map, hrj] at hx
        exact (Option.some.inj hx).symm
      obtain ⟨⟨mv, d⟩, hc, hr0⟩ := paired_at hps hrj
      have hr2 : _ = some (HO.tup [mvV mv, .bl d]) := sg _ _ hr0
      obtain ⟨hln, hne⟩ := smL_inv h0 j (by omega)
      obtain ⟨vs, hv, hvl⟩ := hS.len
      have hvs : vs.length ≤ 2000 := by omega
      rw [smL_take hc]
      refine ⟨r, _, rfl, SqT.of hr2, rfl, _, _, rfl, _, _, rfl, rfl, ?_⟩
      cases mv with
      | some z =>
        refine ⟨_, rfl, rfl, _, rfl, iteF ?_⟩
        refine ⟨_, rfl, .inl ⟨rfl, _, SqL.of hv⟩, _, rfl, (by show 2 ≤ sizeLine; decide), fun a na => ?_⟩
        have sa := same_new (o := .tup [.str z, .int 1]) na
        refine ⟨S, vs, _, rfl, rfl, sa _ _ hv, Nat.lt_of_le_of_lt hvs (by decide), same_app (sg.trans sa) (Same.refl _) nS, ?_, _, _, _, _, rfl⟩
        exact (hS.ext sa).add (sa _ _ hv) upd_same
      | none =>
        have hne : smL (cs.take j) ≠ [] := by
          rcases hne with rfl | h
          · exact absurd rfl (h0 _ hc)
          · exact h
        obtain ⟨S', l, hSl⟩ : ∃ S' l, smL (cs.take j) = S' ++ [l] := ⟨_, _, (List.dropLast_concat_getLast hne).symm⟩
        rw [hSl] at hS hvl ⊢
        have hS' := hS
        obtain ⟨us, hu, hp⟩ := hS'
        obtain ⟨us', u, rfl, hu2⟩ := paired_last hp
        rw [hv] at hu
        cases hu
        have hu2 : _ = some (HO.tup [.str l.1, .int l.2]) := hu2
        have hv0 := hv
        rw [List.map_append] at hv
        refine ⟨_, rfl, rfl, _, rfl, iteT ?_⟩
        refine ⟨_, rfl, 1, rfl, S, _, -1, .ref u, rfl, rfl, SqL.of hv, atI_m1, u, _, rfl, SqT.of hu2, rfl, _, _, rfl, _, _, rfl, rfl, ?_⟩
        refine ⟨_, rfl, _, rfl, _, _, rfl, rfl, (by show 2 ≤ sizeLine; decide), fun a na => ?_⟩
        have sa := same_new (o := .tup [.str l.1, .int (l.2 + 1)]) na
        have hvn : 1 ≤ ((us' ++ [u]).map V.ref).length := by
          rw [hvl, List.length_append]
          exact Nat.le_add_left _ _
        refine ⟨_, rfl, 1, rfl, S, _, -1, _, rfl, rfl, sa _ _ hv0, ixN_m1 hvn, same_app (sg.trans sa) (Same.refl _) nS, ?_, _, _, _, _, rfl⟩
        have e : smStep (S' ++ [l]) (none, d) = (S' ++ [l]).dropLast ++ [(l.1, l.2 + 1)] := by
          unfold smStep
          simp only [List.getLast?_concat]
        rw [e]
        exact (hS.ext sa).last (sa _ _ hv0) (fun z => by simp at z) upd_same
    · rintro σ H' ⟨sg, hS, v2, v3, v4, v5, rfl⟩
      rw [List.length_map, hrl, List.take_length] at hS
      exact ⟨_, rfl, k H' S sg nS hS⟩
def lmStep (n sh : Nat) (S : List (Option Int) × Nat) (c : Ch) : List (Option Int) × Nat :=
  let l1 := if (decide (S.2 = 0) || decide ((sh + S.2) % n = 0)) = true then S.1 ++ [none] else S.1
  (if c.2 = true then l1.dropLast ++ [some (((sh + S.2) % n : Nat) : Int)] else l1, S.2 + 1)
def lmR (n sh : Nat) (cs : List Ch) : List (Option Int) × Nat := cs.foldl (lmStep n sh) ([], 0)
def lmL (n sh : Nat) (cs : List Ch) : List (Option Int) := (lmR n sh cs).1
theorem lmR_take (n sh : Nat) {cs : List Ch} {j : Nat} {c : Ch} (h : cs[j]? = some c) : lmR n sh (cs.take (j + 1)) = lmStep n sh (lmR n sh (cs.take j)) c := by
  rw [List.take_add_one, h]
  unfold lmR
  rw [List.foldl_append]
  rfl
theorem lmR_inv (n sh : Nat) (cs : List Ch) : ∀ j, j ≤ cs.length → (lmR n sh (cs.take j)).2 = j ∧ (lmR n sh (cs.take j)).1.length ≤ j ∧ (j = 0 ∨ (lmR n sh (cs.take j)).1 ≠ []) := by
  intro j
  induction j with
  | zero => intro _; exact ⟨rfl, Nat.le_refl _, .inl rfl⟩
  | succ j ih =>
    intro h
    obtain ⟨h1, h2, h3⟩ := ih (by omega)
    obtain ⟨c, hc⟩ : ∃ c, cs[j]? = some c := ⟨_, List.getElem?_eq_getElem (show j < cs.length by omega)⟩
    rw [lmR_take n sh hc]
    clear hc ih h
    generalize lmR n sh (cs.take j) = S at h1 h2 h3 ⊢
    obtain ⟨l, j'⟩ := S
    replace h1 : j' = j := h1
    subst h1
    replace h2 : l.length ≤ j' := h2
    replace h3 : j' = 0 ∨ l ≠ [] := h3
    have h4 : (if (decide (j' = 0) || decide ((sh + j') % n = 0)) = true then l ++ [none] else l).length ≤ j' + 1 ∧ (if (decide (j' = 0) || decide ((sh + j') % n = 0)) = true then l ++ [none] else l) ≠ [] := by
      split
      · rw [List.length_append]
        exact ⟨by show l.length + 1 ≤ _; omega, fun e => by simp at e⟩
      · rename_i hc
        refine ⟨by omega, ?_⟩
        rcases h3 with h3 | h3
        · rw [decide_eq_true h3, Bool.true_or] at hc
          exact absurd rfl hc
        · exact h3
    unfold lmStep
    simp only
    generalize (if (decide (j' = 0) || decide ((sh + j') % n = 0)) = true then l ++ [none] else l) = l1 at h4 ⊢
    refine ⟨trivial, ?_, .inr ?_⟩
    · split
      · rw [List.length_append, List.length_dropLast]
        have : l1.length ≠ 0 := fun e => h4.2 (List.length_eq_zero_iff.mp e)
        show l1.length - 1 + 1 ≤ _
        omega
      · exact h4.1
    · split
      · exact fun e => by simp at e
      · exact h4.2
theorem sc_looks_made : FnScope ["made", "phase", "period", "looks", "tick", "_", "due", "spot"] ["made", "phase", "period"] (defScope s_looks_made) := ⟨rfl, rfl, rfl, by decide +kernel, rfl, by decide +kernel, by decide +kernel⟩
-- slots: 0 made, 1 phase, 2 period, 3 looks, 4 tick, 5 _, 6 due, 7 spot
def spLM : Sp := fun vs H Q _ => ∃ (M : Addr) (cs : List Ch) (sh n : Nat), vs = [.ref M, .int (sh : Int), .int (n : Int)] ∧ ChsA H M cs ∧ cs.length ≤ 2000 ∧ 1 ≤ n ∧ n ≤ 8 ∧ ∀ H' L, Same H H' → H L = none → H' L = some (.lst ((lmL n sh cs).map lkV)) → Q (.ref L) H'
theorem ok_looks_made {fd : FuncData} (F : FnD K ("looks_made", none) "looks_made" "looks_made" s_looks_made fd) (T : LvTxt K mg) : OkF P w K mg base CX0 1 "looks_made" ["made", "phase", "period"] spLM := by
  refine okd F (F.ok sc_looks_made (fun vs H Q E h => ?_) fun cdv A outer s H vs Q E hr h => ?_) fun _ _ _ _ _ _ us hl => match us, hl with | [_, _, _], _ => rfl
  · obtain ⟨M, cs, sh, n, rfl, _⟩ := h
    rfl
  · obtain ⟨M, cs, sh, n, rfl, hM, hl, n1, n8, k⟩ := h
    refine ⟨_, PSs.nox (pss_cons (ps_set (i := 3) sc_looks_made.nd rfl (Or.inl rfl) (pe_lst pa_nil))
  (pss_cons (ps_for PassesOwn.never rfl (pi_enum (by rfl) T.z_enumerate (pa_cons (pv 0) pa_nil)) (pg_tup rfl (pgs_cons (pg_name (i := 4) sc_looks_made.nd rfl (Or.inl rfl)) (pgs_cons (pg_tup rfl (pgs_cons (pg_name (i := 5) sc_looks_made.nd rfl (Or.inl rfl)) (pgs_cons (pg_name (i := 6) sc_looks_made.nd rfl (Or.inl rfl)) pgs_nil))) pgs_nil)))
  (pss_cons (ps_set (i := 7) sc_looks_made.nd rfl (Or.inl rfl) (pe_op op_mod (pe_op op_add (pv 1) (pv 4)) (pv 2)))
  (C8.pss_cut (ps_if (PW.pt (pw_orB (pt_cmpR op_eq (pv 4) pe_int (nomark _)) (pw_or1 (pt_cmpR op_eq (pv 7) pe_int (nomark _))))) (pss_one (ps_expr (pe_bm PySem.F.plainAttrs_list PySem.F.slot_list_append PySem.F.type_list_append mt_append (pv 3) (pa_cons pe_non pa_nil))))
  pss_nil)
  (pss_one (ps_if (pt_val (pv 6)) (pss_one (ps_asg (pv 7) (pg_sub (pv 3) (pe_un un_neg pe_int) set_list)))
  pss_nil)))))
  (pss_one (ps_ret (pv 3))))), ?_⟩
    refine ⟨(by show 0 ≤ sizeLine; decide), fun L nL => ?_⟩
    have s1 := same_new (o := .lst []) nL
    have hL1 : (upd H L (.lst [])) L = some (.lst ((lmR n sh (cs.take 0)).1.map lkV)) := upd_same
    generalize upd H L (.lst []) = H1 at s1 hL1 ⊢
    obtain ⟨rs, hrs, hps⟩ := id hM
    have hrl : rs.length = cs.length := paired_len hps
    refine ⟨_, rfl, M, _, rfl, SqL.of (s1 _ _ hrs), for_it walk_enum (fun j σ H' => Same H H' ∧ H' L = some (.lst ((lmR n sh (cs.take j)).1.map lkV)) ∧ ∃ v4 v5 v6 v7 : Option V, σ = [some (.ref M), some (.int (sh : Int)), some (.int (n : Int)), some (.ref L), v4, v5, v6, v7]) ⟨s1, hL1, none, none, none, none, rfl⟩ (fun j σ H' _ h => SqL.of (h.1 _ _ hrs)) ?_ ?_⟩
    · clear hL1 s1 H1
      rintro j x σ H3 H2 hj ⟨sg, hL, v4, v5, v6, v7, rfl⟩ hy
      obtain ⟨T', x', y', rfl, nT', rfl, hx', hz'⟩ := hy
      cases (Option.some.inj hx')
      replace hz' : (rs.map V.ref)[j]? = some y' := hz'
      rw [List.length_map] at hj
      have hrj : rs[j]? = some rs[j] := List.getElem?_eq_getElem hj
      generalize rs[j] = r at hrj
      obtain rfl : y' = .ref r := by
        rw [List.getElem?_map, hrj] at hz'
        exact (Option.some.inj hz').symm
      have sT0 := same_new (o := .tup [.int (j : Nat), .ref r]) nT'
      have sT := sg.trans sT0
      have hLT := sT0 _ _ hL
      obtain ⟨⟨mv, d⟩, hc, hr0⟩ := paired_at hps hrj
      have hr2 : _ = some (HO.tup [mvV mv, .bl d]) := sT _ _ hr0
      refine ⟨T', _, rfl, SqT.of upd_same, rfl, _, _, rfl, _, _, rfl, r, _, rfl, SqT.of hr2, rfl, _, _, rfl, _, _, rfl, rfl, rfl, ?_⟩
      generalize upd H3 T' (.tup [.int (j : Nat), .ref r]) = H4 at sT hLT hr2 ⊢
      clear hL sg sT0 nT' hr0 hx' hz'
      have ea : ((sh : Int) + (j : Int)) % (n : Int) = (((sh + j) % n : Nat) : Int) := by rw [← Int.natCast_add, ← Int.natCast_emod]
      refine ⟨_, rfl, _, rfl, _, _, rfl, rfl, _, rfl, _, _, rfl, rfl, (by show (0 : Int) < n; omega), ?_⟩
      show C8.tCut _ _ _ [some (.ref M), some (.int (sh : Int)), some (.int (n : Int)), some (.ref L), some (.int (j : Int)), some (mvV mv), some (.bl d), some (.int (((sh : Int) + (j : Int)) % (n : Int)))] H4
      rw [ea]
      have hup := lmR_take n sh hc
      obtain ⟨hjj, hll, hln⟩ := lmR_inv n sh cs j (by omega)
      rw [hup]
      generalize lmR n sh (cs.take j) = S at hLT hjj hll hln ⊢
      obtain ⟨l, j'⟩ := S
      replace hjj : j' = j := hjj
      subst hjj
      replace hLT : H4 L = some (.lst (l.map lkV)) := hLT
      replace hll : l.length ≤ j' := hll
      replace hln : j' = 0 ∨ l ≠ [] := hln
      refine ⟨fun σ' H'' => Same H H'' ∧ H'' L = some (.lst ((if (decide (j' = 0) || decide ((sh + j') % n = 0)) = true then l ++ [none] else l).map lkV)) ∧ σ' = [some (.ref M), some (.int (sh : Int)), some (.int (n : Int)), some (.ref L), some (.int (j' : Int)), some (mvV mv), some (.bl d), some (.int (((sh + j') % n : Nat) : Int))], ?_, ?_⟩
      · refine ⟨_, rfl, rfl, _, rfl, decide ((sh + j') % n = 0), (· = H4), fun _ => ⟨_, rfl, rfl, _, rfl, ?_, rfl⟩, fun _ => rfl, fun H5 e => ?_⟩
        · exact decide_eq_decide.mpr ⟨fun e => by have := V.int.inj e; omega, fun e => by rw [e]; rfl⟩
        subst e
        have ed : decide (V.int (j' : Int) = V.int 0) = decide (j' = 0) := decide_eq_decide.mpr ⟨fun e => by have := V.int.inj e; omega, fun e => by rw [e]; rfl⟩
        rw [ed]
        refine ite_one (fun hc => ?_) fun hc => ?_
        · rw [if_pos hc]
          refine ⟨_, rfl, .inl ⟨rfl, _, SqL.of hLT⟩, L, _, _, rfl, rfl, hLT, ?_, same_app sT (Same.refl _) nL, ?_, rfl⟩
          · rw [List.length_map]
            exact Nat.lt_of_le_of_lt (show l.length ≤ 2000 by omega) (by decide)
          · rw [upd_same, List.map_append]
            rfl
        · rw [if_neg (by rw [hc]; decide)]
          exact ⟨sT, hLT, rfl⟩
      have hn1 : (if (decide (j' = 0) || decide ((sh + j') % n = 0)) = true then l ++ [none] else l) ≠ [] := by
        split
        · exact fun e => by simp at e
        · rename_i hc
          rcases hln with h | h
          · rw [decide_eq_true h, Bool.true_or] at hc
            exact absurd rfl hc
          · exact h
      rintro σ' H5 ⟨sg5, hL5, rfl⟩
      have e1 : (lmStep n sh (l, j') (mv, d)).1 = if d = true then (if (decide (j' = 0) || decide ((sh + j') % n = 0)) = true then l ++ [none] else l).dropLast ++ [some (((sh + j') % n : Nat) : Int)] else (if (decide (j' = 0) || decide ((sh + j') % n = 0)) = true then l ++ [none] else l) := rfl
      rw [e1]
      generalize (if (decide (j' = 0) || decide ((sh + j') % n = 0)) = true then l ++ [none] else l) = l1 at hL5 hn1 ⊢
      refine ⟨_, rfl, d, rfl, ite_one (fun hc => ?_) fun hc => ?_⟩
      · rw [if_pos hc]
        refine ⟨_, rfl, _, rfl, 1, rfl, L, _, -1, _, rfl, rfl, hL5, ixN_m1 ?_, same_app sg5 (Same.refl _) nL, ?_, _, _, _, _, rfl⟩
        · rw [List.length_map]
          exact Nat.one_le_iff_ne_zero.mpr fun e => hn1 (List.length_eq_zero_iff.mp e)
        · rw [upd_same, lk_last hn1]
      · rw [if_neg (by rw [hc]; decide)]
        exact ⟨sg5, hL5, _, _, _, _, rfl⟩
    · rintro σ H' ⟨sg, hL, v4, v5, v6, v7, rfl⟩
      rw [List.length_map, hrl, List.take_length] at hL
      exact ⟨_, rfl, k H' L sg nL hL⟩
end
end K16

set_option Elab.async false
set_option linter.all false
set_option pp.deepTerms.threshold 14
set_option pp.maxSteps 2500
set_option maxRecDepth 100000
set_option maxHeartbeats 2000000
namespace K16
open PySem PySem.Spec PyProof.Rows L2 Vf 
section
variable {P : Program} {w : World} {K : PySem.W.Frag} {mg : Str → Option Value} {base : Heap}
theorem sc_Profile_record : FnScope ["self", "names", "name", "many", "_", "due"] ["self"] (defScope s_Profile_record) := ⟨rfl, rfl, rfl, by decide +kernel, rfl, by decide +kernel, by decide +kernel⟩
-- slots: 0 self, 1 names, 2 name, 3 many, 4 _, 5 due
def spRecd (K : PySem.W.Frag) : Sp := fun vs H Q _ => ∃ (q g p : Addr) (sh : Nat) (cs : List Ch) (o : Option Tk) (mk : V) (dx M : Addr) (sv : V) (xs : List PgE) (st : Str) (dg tn dP dN : Addr), vs = [.ref q] ∧ PfA K H q g p sh cs o mk dx M sv ∧ PgA K H g xs st dg tn dP dN ∧ cs.length ≤ 2000 ∧ (∀ c, cs[0]? = some c → c.1 ≠ none) ∧ (∀ p ∈ smL cs, p.1 ∈ zsOf xs ∧ 1 ≤ p.2) ∧ (namesL (smL cs)).length = cs.length ∧
  ∀ H' r dr ti no, Same H H' → RecA K H' r xs ((namesL (smL cs)).zip (cs.map (·.2))) dr ti no → H ti = none → H no = none → Q (.ref r) H'
theorem ok_Profile_record {fd : FuncData} (F : FnD K ("Profile", some "record") "record" "Profile.record" s_Profile_record fd) (T : LvTxt K mg) (O_stays_made : OkF P w K mg base CX0 1 "stays_made" ["made"] spSM) (O_record_of : OkF P w K mg base CX0 6 "record_of" ["program", "names", "dues"] (spRecOf K)) : OkM P w K mg base CX0 7 "Profile" "record" ["self"] (spRecd K) := by
  refine okd F (F.ok sc_Profile_record (fun vs H Q E h => ?_) fun cdv A outer s H vs Q E hr h => ?_) fun _ _ _ _ _ _ us hl => match us, hl with | [_], _ => rfl
  · obtain ⟨q, g, p, sh, cs, o, mk, dx, M, sv, xs, st, dg, tn, dP, dN, rfl, _⟩ := h
    rfl
  · obtain ⟨q, g, p, sh, cs, o, mk, dx, M, sv, xs, st, dg, tn, dP, dN, rfl, hq, hg, hcs, h0, hsz, hnl, k⟩ := h
    refine ⟨_, PSs.nox (pss_cons (ps_setLc2 (i := 1) (own := [("name", 2), ("many", 3), ("_", 4)]) (vs1 := [4]) (tt1 := tYes)  (tt := tYes) (by rfl) sc_Profile_record.nd rfl rfl (sw_true rfl rfl rfl (by decide +kernel)) (pi_list (c_fn O_stays_made hr (by decide) T.g_stays_made pass0 (pa_cons (pe_fld (pv 0) rfl) pa_nil))) (blkOk_by (N := ["self", "names", "name", "many", "_", "due"]) (sc := defScope s_Profile_record) (by decide +kernel)) (by decide) (fun _ _ _ _ _ => (pg_tupK (K := K) rfl 2 rfl (pgs_cons (pg_name (i := 2) sc_Profile_record.nd rfl (Or.inl rfl)) (pgs_cons (pg_name (i := 3) sc_Profile_record.nd rfl (Or.inl rfl)) pgs_nil)))) (fun _ _ _ _ _ => pts_nil) (fun _ _ _ _ _ => (pi_range1 rfl T.z_range (pa_cons (pv 3) pa_nil))) (fun _ _ _ _ _ => (pg_name (i := 4) sc_Profile_record.nd rfl (Or.inl rfl))) (fun _ _ _ _ _ => pts_nil) (fun _ _ _ _ _ => (pv 2)))
  (pss_one (ps_ret (c_fn O_record_of hr (by decide) T.g_record_of pass0 (pa_cons (pe_fld (pv 0) rfl) (pa_cons (pv 1) (pa_cons (pe_lc (own := [("_", 4), ("due", 5)])  (tt := tYes) (by rfl) sc_Profile_record.nd (pi_list (pe_fld (pv 0) rfl)) (blkOk_by (N := ["self", "names", "name", "many", "_", "due"]) (sc := defScope s_Profile_record) (by decide +kernel)) (fun _ _ _ _ _ => (pg_tupK (K := K) rfl 2 rfl (pgs_cons (pg_name (i := 4) sc_Profile_record.nd rfl (Or.inl rfl)) (pgs_cons (pg_name (i := 5) sc_Profile_record.nd rfl (Or.inl rfl)) pgs_nil)))) (fun _ _ _ _ _ => pts_nil) (fun _ _ _ _ _ => (pv 5))) pa_nil))))))), ?_⟩
    refine ⟨_, rfl, q, _, dx, _, _, rfl, hq.hq, T.c_Profile, T.fM, pff_made, M, cs, rfl, hq.hM, hcs, h0, fun H4 S s4 nS hS => ?_⟩
    generalize hsts : smL cs = sts at hsz hnl hS k
    obtain ⟨rs, hrs, hps⟩ := id hS
    have hrl : rs.length = sts.length := paired_len hps
    have htk : ∀ j, (namesL (sts.take j)).length ≤ (namesL sts).length := fun j => by
      have e : namesL sts = namesL (sts.take j) ++ namesL (sts.drop j) := by
        unfold namesL
        rw [← List.flatMap_append, List.take_append_drop]
      rw [e, List.length_append]
      exact Nat.le_add_right _ _
    have hq1000 : ∀ q ∈ sts, q.2 ≤ 2000 := fun p hp => by
      have h1 := namesL_len (sts := sts) fun p hp => by have := (hsz p hp).2; omega
      have h2 : p.2 ≤ totL sts := by
        have : ∀ (l : List (Str × Int)), (∀ q ∈ l, 0 ≤ q.2) → 0 ≤ totL l ∧ ∀ q ∈ l, q.2 ≤ totL l := fun l => by
          induction l with
          | nil => intro _; exact ⟨Int.le_refl _, fun _ h => nomatch h⟩
          | cons a l ih =>
            intro h
            have h1 := h a List.mem_cons_self
            obtain ⟨h2, h3⟩ := ih fun q hq => h q (List.mem_cons_of_mem _ hq)
            have e : totL (a :: l) = a.2 + totL l := by
              unfold totL
              rw [List.map_cons, List.sum_cons]
            rw [e]
            refine ⟨by omega, fun q hq => ?_⟩
            rcases List.mem_cons.mp hq with rfl | hq
            · omega
            · have := h3 q hq
              omega
        exact (this sts fun q hq => by have := (hsz q hq).2; omega).2 p hp
      omega
    refine ⟨S, rfl, ⟨_, SqL.of hrs⟩, fun N nN => lc2_it walk_list (fun j H' => Same H4 H' ∧ H' N = some (.lst ((namesL (sts.take j)).map V.str))) ⟨same_new nN, upd_same⟩ (fun j H' _ h => SqL.of (h.1 _ _ hrs)) ?_ ?_⟩
    · rintro j x H5 H' hj ⟨sg, hN⟩ ⟨rfl, hx⟩
      rw [List.length_map] at hj
      have hrj : rs[j]? = some rs[j] := List.getElem?_eq_getElem hj
      generalize rs[j] = r at hrj
      obtain rfl : x = .ref r := by
        rw [List.getElem?_map, hrj] at hx
        exact (Option.some.inj hx).symm
      obtain ⟨⟨z, q⟩, hqq, hr'⟩ := paired_at hps hrj
      have hq1 := (hsz _ (List.mem_of_getElem? hqq)).2
      have hq2 := hq1000 _ (List.mem_of_getElem? hqq)
      replace hq1 : 1 ≤ q := hq1
      replace hq2 : q ≤ 2000 := hq2
      have enx : namesL (sts.take (j + 1)) = namesL (sts.take j) ++ List.replicate q.toNat z := by
        unfold namesL
        rw [List.take_add_one, hqq, List.flatMap_append]
        show _ ++ (List.replicate q.toNat z ++ []) = _
        rw [List.append_nil]
      have hle := htk (j + 1)
      rw [enx, List.length_append, List.length_replicate] at hle
      refine ⟨r, _, rfl, SqT.of (sg _ _ hr'), rfl, _, _, rfl, _, _, rfl, rfl, rfl, _, rfl, q, rfl, by omega, by omega, ?_⟩
      refine lc2_in (walk_range (lo := 0) (n := q.toNat)) (fun t H' => Same H4 H' ∧ H' N = some (.lst ((namesL (sts.take j) ++ List.replicate t z).map V.str))) ⟨sg, by rw [hN]; simp⟩ (fun _ _ _ _ => trivial) ?_ ?_
      · rintro t x H6 H7 ht ⟨sg6, hN6⟩ ⟨rfl, rfl⟩
        refine ⟨rfl, _, rfl, _, hN6, ?_, same_app sg6 (Same.refl _) nN, ?_⟩
        · rw [List.length_map, List.length_append, List.length_replicate]
          exact Nat.lt_of_lt_of_le (show _ < 2001 by omega) (by decide)
        · rw [upd_same, List.replicate_succ']
          simp
      · rintro H6 ⟨sg6, hN6⟩
        exact ⟨sg6, by rw [enx]; exact hN6⟩
    rintro H5 ⟨s45, hN⟩
    rw [List.length_map, hrl, List.take_length] at hN
    have s5 := s4.trans s45
    have hq5 := hq.ext s5
    have hg5 := hg.ext s5
    obtain ⟨us, hus, hup⟩ := hq5.hM
    have hul : us.length = cs.length := paired_len hup
    refine ⟨_, rfl, q, _, dx, _, _, rfl, hq5.hq, T.c_Profile, T.fP, pff_program, _, rfl, _, rfl, q, _, dx, _, _, rfl, hq5.hq, T.c_Profile, T.fM, pff_made, M, rfl, ⟨_, SqL.of hus⟩, fun D nD => lc_it walk_list (fun j H' => Same H5 H' ∧ H' D = some (.lst (((cs.map (·.2)).take j).map V.bl))) ⟨same_new nD, upd_same⟩ (fun j H' _ h => SqL.of (h.1 _ _ hus)) ?_ ?_⟩
    · rintro j x H6 H' hj ⟨sg, hD⟩ ⟨rfl, hx⟩
      rw [List.length_map] at hj
      have hrj : us[j]? = some us[j] := List.getElem?_eq_getElem hj
      generalize us[j] = r at hrj
      obtain rfl : x = .ref r := by
        rw [List.getElem?_map, hrj] at hx
        exact (Option.some.inj hx).symm
      obtain ⟨⟨mv, d⟩, hc, hr0⟩ := paired_at hup hrj
      have hr2 : _ = some (HO.tup [mvV mv, .bl d]) := sg _ _ hr0
      refine ⟨r, _, rfl, SqT.of hr2, rfl, _, _, rfl, _, _, rfl, rfl, rfl, _, rfl, _, hD, ?_, same_app sg (Same.refl _) nD, ?_⟩
      · rw [List.length_map, List.length_take, List.length_map]
        exact Nat.lt_of_le_of_lt (show _ ≤ 2000 by omega) (by decide)
      · rw [upd_same, List.take_add_one, List.map_append, List.getElem?_map, hc]
        rfl
    rintro H6 ⟨s56, hD⟩
    rw [List.length_map, hul, List.take_of_length_le (by rw [List.length_map]; exact Nat.le_refl _)] at hD
    have s6 := s5.trans s56
    have hl1 : ((namesL sts).zip (cs.map (·.2))).map (·.1) = namesL sts := List.map_fst_zip (by rw [List.length_map, hnl]; exact Nat.le_refl _)
    have hl2 : ((namesL sts).zip (cs.map (·.2))).map (·.2) = cs.map (·.2) := List.map_snd_zip (by rw [List.length_map, hnl]; exact Nat.le_refl _)
    refine ⟨g, N, D, xs, st, dg, tn, dP, dN, (namesL sts).zip (cs.map (·.2)), rfl, hg.ext s6, SqL.of (by rw [hl1]; exact s56 _ _ hN), SqL.of (by rw [hl2]; exact hD), ?_, fun p hp => ?_, fun H' r dr ti no s' hrec f1 f2 => k H' r dr ti no (s6.trans s') hrec (none_of s6 f1) (none_of s6 f2)⟩
    · rw [List.length_zip, List.length_map]
      omega
    · have hm : p.1 ∈ ((namesL sts).zip (cs.map (·.2))).map (·.1) := List.mem_map_of_mem hp
      rw [hl1] at hm
      obtain ⟨p', hp', e⟩ := namesL_mem hm
      rw [← e]
      exact (hsz p' hp').1
theorem sc_Profile_run : FnScope ["self"] ["self"] (defScope s_Profile_run) := ⟨rfl, rfl, rfl, by decide +kernel, rfl, by decide +kernel, by decide +kernel⟩
-- slots: 0 self
def spRun (K : PySem.W.Frag) : Sp := fun vs H Q E => ∃ (q g p : Addr) (sh : Nat) (cs : List Ch) (o : Option Tk) (mk : V) (dx M : Addr) (sv : V) (n : Nat) (i : Int) (f : V), vs = [.ref q] ∧ PfA K H q g p sh cs o mk dx M sv ∧ SaA (CS K) H p (n : Int) i f ∧ 1 ≤ n ∧ n ≤ 8 ∧ cs.length ≤ 2000 ∧ (∀ c, cs[0]? = some c → c.1 ≠ none) ∧
  ((cs ≠ [] ∧ ∀ H' r S L, Same H H' → H' r = some (.tup [.int (sh : Int), .ref S, .ref L]) → StsA H' S (smL cs) → H' L = some (.lst ((lmL n sh cs).map lkV)) → H S = none → H L = none → Q (.ref r) H') ∨ (cs = [] ∧ E (.ref (He.ga K "NoTicks")) none H))
theorem ok_Profile_run {fd : FuncData} (F : FnD K ("Profile", some "run") "run" "Profile.run" s_Profile_run fd) (T : LvTxt K mg) (O_stays_made : OkF P w K mg base CX0 1 "stays_made" ["made"] spSM) (O_looks_made : OkF P w K mg base CX0 1 "looks_made" ["made", "phase", "period"] spLM) : OkM P w K mg base (L2.CX P w) 2 "Profile" "run" ["self"] (spRun K) := by
  refine okd F (F.ok sc_Profile_run (fun vs H Q E h => ?_) fun cdv A outer s H vs Q E hr h => ?_) fun _ _ _ _ _ _ us hl => match us, hl with | [_], _ => rfl
  · obtain ⟨q, g, p, sh, cs, o, mk, dx, M, sv, n, i, f, rfl, _⟩ := h
    rfl
  · obtain ⟨q, g, p, sh, cs, o, mk, dx, M, sv, n, i, f, rfl, hq, hp, n1, n8, hcs, h0, k⟩ := h
    refine ⟨_, (pss_cons (ps_if (pt_cmpR op_eq (pe_fld (pv 0) rfl) pe_int (nomark _)) (pss_one (c_raise0 T.e_NoTicks T.g_NoTicks (takes_of rfl rfl rfl rfl)))
  pss_nil)
  (pss_one (ps_ret (pe_tup (pa_cons (pe_fld (pv 0) rfl) (pa_cons (c_fn O_stays_made hr (by decide) T.g_stays_made pass0 (pa_cons (pe_fld (pv 0) rfl) pa_nil)) (pa_cons (c_fn O_looks_made hr (by decide) T.g_looks_made pass0 (pa_cons (pe_fld (pv 0) rfl) (pa_cons (pe_fld (pv 0) rfl) (pa_cons (pe_fld (pe_fld (pv 0) rfl) rfl) pa_nil)))) pa_nil))))))), ?_⟩
    refine ⟨_, rfl, q, _, dx, _, _, rfl, hq.hq, T.c_Profile, T.fT, pff_ticks, rfl, _, rfl, ite2 (fun hc => ?_) fun hc => ?_⟩
    · rcases k with ⟨hne, _⟩ | ⟨rfl, k⟩
      · exact absurd (List.length_eq_zero_iff.mp (by have := V.int.inj (of_decide_eq_true hc); omega)) hne
      · exact k
    · rcases k with ⟨hne, k⟩ | ⟨rfl, _⟩
      rotate_left
      · exact absurd rfl hc
      obtain ⟨dp, hp'⟩ := hp
      refine ⟨_, rfl, q, _, dx, _, _, rfl, hq.hq, T.c_Profile, T.fF, pff_phase, _, rfl, q, _, dx, _, _, rfl, hq.hq, T.c_Profile, T.fM, pff_made, M, cs, rfl, hq.hM, hcs, h0, fun H1 S s1 nS hS => ?_⟩
      have hq1 := hq.ext s1
      refine ⟨_, rfl, q, _, dx, _, _, rfl, hq1.hq, T.c_Profile, T.fM, pff_made, _, rfl, q, _, dx, _, _, rfl, hq1.hq, T.c_Profile, T.fF, pff_phase, _, rfl, q, _, dx, _, _, rfl, hq1.hq, T.c_Profile, T.fS, pff_sampler, p, _, dp, _, _, rfl, s1 _ _ hp', T.c_Sampler, T.sP, saf_period .., M, cs, sh, n, rfl, hq1.hM, hcs, n1, n8, fun H2 L s2 nL hL => ?_⟩
      refine ⟨(by show 3 ≤ sizeLine; decide), fun r nr => ?_⟩
      have sr := same_new (o := .tup [.int (sh : Int), .ref S, .ref L]) nr
      exact k _ r S L (s1.trans (s2.trans sr)) upd_same ((hS.ext s2).ext sr) (sr _ _ hL) nS (none_of s1 nL)
end
end K16

set_option Elab.async false
set_option linter.all false
set_option pp.deepTerms.threshold 14
set_option pp.maxSteps 2500
set_option maxRecDepth 100000
set_option maxHeartbeats 2000000
namespace K16
open PySem PySem.Spec PyProof.Rows L2 Vf 
section
variable {P : Program} {w : World} {K : PySem.W.Frag} {mg : Str → Option Value} {base : Heap}
/-! ### the walk: a place that follows itself -/
def AA : Str := "aa"
def rA (s : Nat) (op : Bool) : Rw := ⟨"aa", (s : Int), 6, op, [("aa" : Str), "b"]⟩
def rB : Rw := ⟨"b", 1, 6, true, [("b" : Str)]⟩
structure Two (xs : List PgE) (s : Nat) (op : Bool) : Prop where
  e : xs.map (·.2.2) = [rA s op, rB]
theorem Two.zs {xs : List PgE} {s : Nat} {op : Bool} (h : Two xs s op) : zsOf xs = [("aa" : Str), "b"] := by
  have : zsOf xs = (xs.map (·.2.2)).map (·.z) := by rw [List.map_map]; rfl
  rw [this, h.e]
  rfl
theorem Two.two {xs : List PgE} {s : Nat} {op : Bool} (h : Two xs s op) : ∃ a b, xs = [a, b] ∧ a.2.2 = rA s op ∧ b.2.2 = rB := by
  have e := h.e
  have hl := congrArg List.length e
  rw [List.length_map] at hl
  match xs, hl with
  | [a, b], _ =>
    have e : [a.2.2, b.2.2] = [rA s op, rB] := e
    injection e with e1 e2
    injection e2 with e2 _
    exact ⟨a, b, rfl, e1, e2⟩
theorem Two.rowA {xs : List PgE} {s : Nat} {op : Bool} (h : Two xs s op) : rowQ xs "aa" = rA s op := by
  obtain ⟨a, b, rfl, ea, eb⟩ := h.two
  unfold rowQ
  rw [List.find?_cons, show (a.2.2.z == ("aa" : Str)) = true by rw [ea]; exact beq_iff_eq.mpr rfl]
  exact ea
theorem Two.letA {xs : List PgE} {s : Nat} {op : Bool} (h : Two xs s op) : letQ xs "aa" = op := by
  obtain ⟨a, b, rfl, ea, eb⟩ := h.two
  unfold letQ
  rw [List.find?_cons, show (a.2.2.z == ("aa" : Str)) = true by rw [ea]; exact beq_iff_eq.mpr rfl]
  show a.2.2.b = op
  rw [ea]
  rfl
def chW (s n k : Nat) : Ch := (if k % s = 0 then some "aa" else none, decide (k % n = 0))
def csW (s n k : Nat) : List Ch := (List.range k).map (chW s n)
theorem csW_len (s n k : Nat) : (csW s n k).length = k := by unfold csW; rw [List.length_map, List.length_range]
theorem csW_succ (s n k : Nat) : csW s n (k + 1) = csW s n k ++ [chW s n k] := by
  unfold csW
  rw [List.range_succ, List.map_append]
  rfl
def stW (s n : Nat) (op : Bool) : Nat → Option Tk
  | 0 => none
  | k + 1 => some ⟨"aa", ((k % s : Nat) : Int) + 1, ((k % n : Nat) : Int), true, !op, op && decide (k % n = 0)⟩
theorem mod_succ {k s : Nat} (hs : 1 ≤ s) (h : (k + 1) % s ≠ 0) : (k + 1) % s = k % s + 1 := by
  have h1 := Nat.div_add_mod k s
  have h2 := Nat.mod_lt k hs
  by_cases e : k % s + 1 = s
  · have : k + 1 = s * (k / s + 1) := by rw [Nat.mul_add, Nat.mul_one]; omega
    rw [this, Nat.mul_mod_right] at h
    exact absurd rfl h
  · have : k + 1 = (k % s + 1) + s * (k / s) := by omega
    rw [this, Nat.add_mul_mod_self_left, Nat.mod_eq_of_lt (by omega)]
theorem mod_last {k s : Nat} (hs : 1 ≤ s) (h : (k + 1) % s = 0) : k % s + 1 = s := by
  have h1 := Nat.div_add_mod k s
  have h2 := Nat.mod_lt k hs
  by_cases e : k % s + 1 = s
  · exact e
  · have : k + 1 = (k % s + 1) + s * (k / s) := by omega
    rw [this, Nat.add_mul_mod_self_left, Nat.mod_eq_of_lt (by omega)] at h
    omega
theorem nxT_W {xs : List PgE} {s n : Nat} {op : Bool} (h : Two xs s op) (hs : 1 ≤ s) (hn : 1 ≤ n) (k : Nat) : some (nxT xs "aa" 0 0 ((k % n : Nat) : Int) (stW s n op k) (chW s n k)) = stW s n op (k + 1) := by
  cases k with
  | zero =>
    have e1 : chW s n 0 = (some ("aa" : Str), true) := by unfold chW; simp
    rw [e1]
    show some (⟨"aa", 1, ((0 % n : Nat) : Int), decide (((0 : Nat) : Int) > 0) || true, (false || true) && !(rowQ xs "aa").b, (false || true) && (rowQ xs "aa").b⟩ : Tk) = some ⟨"aa", ((0 % s : Nat) : Int) + 1, ((0 % n : Nat) : Int), true, !op, op && decide (0 % n = 0)⟩
    rw [h.rowA, Nat.zero_mod, Nat.zero_mod]
    cases op <;> rfl
  | succ k =>
    have e2 : (stW s n op (k + 1)) = some ⟨"aa", ((k % s : Nat) : Int) + 1, ((k % n : Nat) : Int), true, !op, op && decide (k % n = 0)⟩ := rfl
    rw [e2]
    have hcm : (decide ((((k + 1) % n : Nat) : Int) ≠ 0) && true || decide ((k + 1) % n = 0)) = true := by
      by_cases e : (k + 1) % n = 0
      · rw [e]; rfl
      · rw [decide_eq_true (show (((k + 1) % n : Nat) : Int) ≠ 0 by omega)]; rfl
    by_cases hk : (k + 1) % s = 0
    · have e1 : chW s n (k + 1) = (some ("aa" : Str), decide ((k + 1) % n = 0)) := by unfold chW; rw [if_pos hk]
      rw [e1]
      show some (⟨"aa", 1, (((k + 1) % n : Nat) : Int), decide ((((k + 1) % n : Nat) : Int) ≠ 0) && true || decide ((k + 1) % n = 0), (!op || decide ((k + 1) % n = 0)) && !(rowQ xs "aa").b, (!op || decide ((k + 1) % n = 0)) && (rowQ xs "aa").b⟩ : Tk) = some ⟨"aa", (((k + 1) % s : Nat) : Int) + 1, (((k + 1) % n : Nat) : Int), true, !op, op && decide ((k + 1) % n = 0)⟩
      rw [h.rowA, hcm, hk]
      cases op <;> simp [rA]
    · have e1 : chW s n (k + 1) = (none, decide ((k + 1) % n = 0)) := by unfold chW; rw [if_neg hk]
      rw [e1]
      show some (⟨"aa", ((k % s : Nat) : Int) + 1 + 1, (((k + 1) % n : Nat) : Int), decide ((((k + 1) % n : Nat) : Int) ≠ 0) && true || decide ((k + 1) % n = 0), (!op || decide ((k + 1) % n = 0)) && !(rowQ xs "aa").b, (!op || decide ((k + 1) % n = 0)) && (rowQ xs "aa").b⟩ : Tk) = some ⟨"aa", (((k + 1) % s : Nat) : Int) + 1, (((k + 1) % n : Nat) : Int), true, !op, op && decide ((k + 1) % n = 0)⟩
      rw [h.rowA, hcm, mod_succ hs hk]
      cases op <;> simp [rA]
theorem chW_in {xs : List PgE} {s n : Nat} {op : Bool} (h : Two xs s op) (hs : 1 ≤ s) (h6 : s ≤ 6) (hn : 1 ≤ n) (k : Nat) (hk2 : k ≠ 2000) : chW s n k ∈ chA xs "aa" 0 n 0 (csW s n k) (stW s n op k) := by
  unfold chA
  rw [if_neg (by rw [csW_len]; exact hk2), csW_len, Nat.zero_add]
  unfold chL
  refine List.mem_flatMap.mpr ⟨(chW s n k).1, ?_, List.mem_map.mpr ⟨(chW s n k).2, ?_, rfl⟩⟩
  · cases k with
    | zero =>
      unfold chW stW mvs
      rw [Nat.zero_mod]
      simp
    | succ k =>
      unfold stW mvs
      show (chW s n (k + 1)).1 ∈ (if ((k % s : Nat) : Int) + 1 < (rowQ xs "aa").m then [none] else []) ++ (if (rowQ xs "aa").l ≤ ((k % s : Nat) : Int) + 1 then ((zsOf xs).filter fun z => decide (z ∈ (rowQ xs "aa").ns)).map some else [])
      rw [h.rowA, h.zs]
      unfold chW
      have hlt := Nat.mod_lt k hs
      by_cases hk : (k + 1) % s = 0
      · rw [if_pos hk]
        have hl := mod_last hs hk
        refine List.mem_append_right _ ?_
        rw [if_pos (show (rA s op).l ≤ ((k % s : Nat) : Int) + 1 by show (s : Int) ≤ ((k % s : Nat) : Int) + 1; omega)]
        refine List.mem_map.mpr ⟨"aa", List.mem_filter.mpr ⟨by simp, ?_⟩, rfl⟩
        exact decide_eq_true (by show ("aa" : Str) ∈ [("aa" : Str), "b"]; simp)
      · rw [if_neg hk]
        have hm := mod_succ hs hk
        have hlt2 := Nat.mod_lt (k + 1) hs
        refine List.mem_append_left _ ?_
        rw [if_pos (show ((k % s : Nat) : Int) + 1 < (rA s op).m by show ((k % s : Nat) : Int) + 1 < 6; omega)]
        simp
  · show decide (k % n = 0) ∈ flL 0 ((k % n : Nat) : Int) (hcB 0 0 ((k % n : Nat) : Int) (stW s n op k))
    by_cases hk : k % n = 0
    · have hc : hcB 0 0 ((k % n : Nat) : Int) (stW s n op k) = false := by
        rw [hk]
        cases k <;> rfl
      rw [hc, hk]
      unfold flL
      simp
    · cases k with
      | zero => exact absurd (Nat.zero_mod n) hk
      | succ k =>
        have hc : hcB 0 0 (((k + 1) % n : Nat) : Int) (stW s n op (k + 1)) = true := by
          show (decide ((((k + 1) % n : Nat) : Int) ≠ 0) && true) = true
          rw [decide_eq_true (show (((k + 1) % n : Nat) : Int) ≠ 0 by omega)]
          rfl
        rw [hc]
        unfold flL
        simp [hk]
/-- how many looks come due in k ticks -/
def czW (n : Nat) : Nat → Nat
  | 0 => 0
  | k + 1 => czW n k + (if k % n = 0 then 1 else 0)
theorem czW_eq {n : Nat} (hn : 1 ≤ n) : ∀ k, czW n (k + 1) = k / n + 1
  | 0 => by
    show 0 + (if 0 % n = 0 then 1 else 0) = 0 / n + 1
    rw [Nat.zero_mod, Nat.zero_div, if_pos rfl]
  | k + 1 => by
    have ih := czW_eq hn k
    show czW n (k + 1) + (if (k + 1) % n = 0 then 1 else 0) = (k + 1) / n + 1
    rw [ih]
    have h1 := Nat.div_add_mod k n
    have h2 := Nat.mod_lt k hn
    by_cases e : (k + 1) % n = 0
    · rw [if_pos e]
      have := mod_last hn e
      have e3 : k + 1 = n * (k / n + 1) := by rw [Nat.mul_add, Nat.mul_one]; omega
      rw [e3, Nat.mul_div_cancel_left _ hn]
    · rw [if_neg e]
      have := mod_succ hn e
      have h4 := Nat.mod_lt (k + 1) hn
      rw [this] at h4
      have e3 : k + 1 = (k % n + 1) + n * (k / n) := by omega
      have e4 : (k + 1) / n = k / n := by
        rw [e3, Nat.add_mul_div_left _ _ hn, Nat.div_eq_of_lt h4, Nat.zero_add]
      rw [e4]
/-- the ticks -/
def rlW (n k : Nat) : List (Str × Bool) := (List.range k).map fun t => (("aa" : Str), decide (t % n = 0))
theorem rlW_succ (n k : Nat) : rlW n (k + 1) = rlW n k ++ [(("aa" : Str), decide (k % n = 0))] := by
  unfold rlW
  rw [List.range_succ, List.map_append]
  rfl
theorem rlW_len (n k : Nat) : (rlW n k).length = k := by unfold rlW; rw [List.length_map, List.length_range]
theorem rlW_run {lt : Str → Bool} {n : Nat} (hn : 1 ≤ n) (op : Bool) (h : lt "aa" = op) : ∀ k, (nRun lt (rlW n k)).1.length = (if op = true then czW n k else 0) ∧ (nRun lt (rlW n k)).2.1 = (!op && decide (0 < k))
  | 0 => by
    cases op <;> exact ⟨rfl, rfl⟩
  | k + 1 => by
    obtain ⟨i1, i2⟩ := rlW_run hn op h k
    rw [rlW_succ, nRun_snoc]
    unfold nStep
    rw [i2, h]
    cases op with
    | false =>
      rw [if_neg (by simp)]
      refine ⟨?_, ?_⟩
      · exact i1
      · show (!false && decide (0 < k) || decide (k % n = 0)) = (!false && decide (0 < k + 1))
        cases k with
        | zero => rw [Nat.zero_mod]; rfl
        | succ k => rw [decide_eq_true (show 0 < k + 1 by omega), decide_eq_true (show 0 < k + 1 + 1 by omega)]; simp
    | true =>
      by_cases hk : k % n = 0
      · rw [if_pos (by simp [hk])]
        refine ⟨?_, rfl⟩
        show ((nRun lt (rlW n k)).1 ++ [_]).length = _
        rw [List.length_append, i1]
        show czW n k + 1 = czW n k + (if k % n = 0 then 1 else 0)
        rw [if_pos hk]
      · rw [if_neg (by simp [hk])]
        refine ⟨?_, ?_⟩
        · show (nRun lt (rlW n k)).1.length = _
          rw [i1]
          show czW n k = czW n k + (if k % n = 0 then 1 else 0)
          rw [if_neg hk]
          rfl
        · show (!true && decide (0 < k) || decide (k % n = 0)) = _
          rw [decide_eq_false hk]
          rfl
theorem rlW_dues (n k : Nat) : (rlW n k).map (·.2) = (List.range k).map fun t => decide (t % n = 0) := by unfold rlW; rw [List.map_map]; rfl
theorem rlW_names (n k : Nat) : (rlW n k).map (·.1) = List.replicate k ("aa" : Str) := by
  unfold rlW
  rw [List.map_map]
  show (List.range k).map (fun _ => ("aa" : Str)) = _
  rw [List.map_const', List.length_range]
theorem rlW_cnt (n : Nat) : ∀ k, cntT ((rlW n k).map (·.2)) = czW n k
  | 0 => rfl
  | k + 1 => by
    have ih := rlW_cnt n k
    rw [rlW_succ]
    unfold cntT at ih ⊢
    rw [List.map_append, List.map_append, List.countP_append, ih]
    show czW n k + _ = czW n k + _
    by_cases hk : k % n = 0
    · rw [if_pos hk, decide_eq_true hk]
      rfl
    · rw [if_neg hk, decide_eq_false hk]
      rfl
theorem rlW_lost {lt : Str → Bool} {n k : Nat} (hn : 1 ≤ n) (op : Bool) (h : lt "aa" = op) (k1 : 1 ≤ k) : recLost lt (rlW n k) = (if op = true then 0 else ((czW n k : Nat) : Int) - 1) := by
  obtain ⟨i1, i2⟩ := rlW_run hn op h k
  unfold recLost
  rw [rlW_cnt, i1, i2, decide_eq_true (show 0 < k by omega)]
  cases op <;> simp
end
end K16

set_option Elab.async false
set_option linter.all false
set_option pp.deepTerms.threshold 14
set_option pp.maxSteps 2500
set_option maxRecDepth 100000
set_option maxHeartbeats 2000000
namespace K16
open PySem PySem.Spec PyProof.Rows L2 Vf 
section
variable {P : Program} {w : World} {K : PySem.W.Frag} {mg : Str → Option Value} {base : Heap}
theorem namesL_app (a b : List (Str × Int)) : namesL (a ++ b) = namesL a ++ namesL b := by
  unfold namesL
  rw [List.flatMap_append]
theorem namesL_one (p : Str × Int) : namesL [p] = List.replicate p.2.toNat p.1 := by
  unfold namesL
  simp
theorem smW (s n : Nat) : ∀ k, (∀ p ∈ smL (csW s n k), p.1 = "aa" ∧ 1 ≤ p.2) ∧ (namesL (smL (csW s n k))).length = k ∧ (1 ≤ k → smL (csW s n k) ≠ [])
  | 0 => ⟨(fun _ h => nomatch h), rfl, fun h => by omega⟩
  | k + 1 => by
    obtain ⟨i1, i2, i3⟩ := smW s n k
    rw [csW_succ, smL_snoc]
    by_cases hk : k % s = 0
    · have e1 : smStep (smL (csW s n k)) (chW s n k) = smL (csW s n k) ++ [(("aa" : Str), 1)] := by
        unfold smStep chW
        rw [if_pos hk]
      rw [e1]
      refine ⟨fun p hp => ?_, ?_, fun _ => by simp⟩
      · rcases List.mem_append.mp hp with hp | hp
        · exact i1 p hp
        · rw [List.mem_singleton.mp hp]
          exact ⟨rfl, Int.le_refl _⟩
      · rw [namesL_app, List.length_append, i2, namesL_one]
        rfl
    · have hk1 : 1 ≤ k := by
        cases k with
        | zero => exact absurd (Nat.zero_mod s) hk
        | succ k => omega
      have hne := i3 hk1
      obtain ⟨S, l, eS⟩ : ∃ S l, smL (csW s n k) = S ++ [l] := ⟨_, _, (List.dropLast_concat_getLast hne).symm⟩
      have e1 : smStep (smL (csW s n k)) (chW s n k) = S ++ [(l.1, l.2 + 1)] := by
        unfold smStep chW
        rw [if_neg hk, eS]
        simp
      rw [eS] at i1 i2
      have hl := i1 l (by simp)
      rw [e1]
      refine ⟨fun p hp => ?_, ?_, fun _ => by simp⟩
      · rcases List.mem_append.mp hp with hp | hp
        · exact i1 p (List.mem_append_left _ hp)
        · rw [List.mem_singleton.mp hp]
          exact ⟨hl.1, by show 1 ≤ l.2 + 1; omega⟩
      · rw [namesL_app, List.length_append, namesL_one, List.length_replicate] at i2 ⊢
        show (namesL S).length + (l.2 + 1).toNat = k + 1
        have := hl.2
        omega
def stsW (s m : Nat) : List (Str × Int) := List.replicate (m / s) (("aa" : Str), (s : Int)) ++ (if 0 < m % s then [(("aa" : Str), ((m % s : Nat) : Int))] else [])
theorem stsW_tot {s m : Nat} : totL (stsW s m) = (m : Int) := by
  have h := Nat.div_add_mod m s
  unfold totL stsW
  have e : ∀ c : Nat, ((List.replicate c (("aa" : Str), (s : Int))).map (·.2)).sum = (c * s : Nat) := fun c => by
    induction c with
    | zero => simp
    | succ c ih =>
      rw [List.replicate_succ, List.map_cons, List.sum_cons, ih, Nat.succ_mul]
      show (s : Int) + _ = _
      omega
  rw [List.map_append, List.sum_append, e, Nat.mul_comm]
  by_cases h0 : 0 < m % s
  · rw [if_pos h0]
    show ((s * (m / s) : Nat) : Int) + (((m % s : Nat) : Int) + 0) = _
    omega
  · rw [if_neg h0]
    show ((s * (m / s) : Nat) : Int) + 0 = _
    omega
theorem stsW_names {s m : Nat} : namesL (stsW s m) = List.replicate m ("aa" : Str) := by
  have h := Nat.div_add_mod m s
  unfold stsW
  have e : ∀ c : Nat, namesL (List.replicate c (("aa" : Str), (s : Int))) = List.replicate (c * s) ("aa" : Str) := fun c => by
    induction c with
    | zero => simp [namesL]
    | succ c ih =>
      rw [List.replicate_succ, show (("aa" : Str), (s : Int)) :: List.replicate c (("aa" : Str), (s : Int)) = [(("aa" : Str), (s : Int))] ++ List.replicate c (("aa" : Str), (s : Int)) from rfl, namesL_app, namesL_one, ih]
      show List.replicate (s : Int).toNat _ ++ _ = _
      rw [Int.toNat_natCast, List.replicate_append_replicate, Nat.succ_mul, Nat.add_comm]
  rw [namesL_app, e, Nat.mul_comm]
  by_cases h0 : 0 < m % s
  · rw [if_pos h0, namesL_one]
    show _ ++ List.replicate ((m % s : Nat) : Int).toNat _ = _
    rw [Int.toNat_natCast, List.replicate_append_replicate, h]
  · rw [if_neg h0]
    have e0 : m % s = 0 := by omega
    rw [e0, Nat.add_zero] at h
    rw [h]
    show _ ++ namesL [] = _
    unfold namesL
    simp
theorem Two.rw {xs : List PgE} {s : Nat} {op : Bool} (h : Two xs s op) : rwOf xs = [rA s op, rB] := h.e
theorem Two.find {xs : List PgE} {s : Nat} {op : Bool} (h : Two xs s op) : (rwOf xs).find? (fun r => r.z == ("aa" : Str)) = some (rA s op) := by
  rw [h.rw, List.find?_cons, show ((rA s op).z == ("aa" : Str)) = true from beq_iff_eq.mpr rfl]
theorem stBad_W {xs : List PgE} {s : Nat} {op : Bool} (h : Two xs s op) (h1 : 1 ≤ s) (h6 : s ≤ 6) (t : List (Option (List V))) (ht : t = [] ∨ ∃ r : Nat, 1 ≤ r ∧ r ≤ s ∧ t = [some [.str "aa", .int (r : Int)]]) : ∀ (c : Nat) (al : List Str), ("aa" : Str) ∈ al → stBad (rwOf xs) al (List.replicate c (some [.str "aa", .int (s : Int)]) ++ t) = none
  | 0, al, ha => by
    rcases ht with rfl | ⟨r, r1, r2, rfl⟩
    · rfl
    · show stBad (rwOf xs) al [some [.str "aa", .int (r : Int)]] = none
      have e : stFit (rwOf xs) al ([] : List (Option (List V))).isEmpty (some [.str "aa", .int (r : Int)]) = some (rA s op) := by
        show (match (rwOf xs).find? (fun r => r.z == ("aa" : Str)) with
          | some r' => if ("aa" : Str) ∈ al ∧ (if true = true then 1 else r'.l) ≤ (r : Int) ∧ (r : Int) ≤ r'.m then some r' else none
          | none => none) = _
        rw [h.find]
        exact if_pos ⟨ha, by show (1 : Int) ≤ r; omega, by show (r : Int) ≤ 6; omega⟩
      rw [stBad, e]
      rfl
  | c + 1, al, ha => by
    have ih := stBad_W h h1 h6 t ht c (rA s op).ns (by show ("aa" : Str) ∈ [("aa" : Str), "b"]; simp)
    rw [List.replicate_succ, List.cons_append]
    have e : ∀ b, stFit (rwOf xs) al b (some [.str "aa", .int (s : Int)]) = some (rA s op) := fun b => by
      show (match (rwOf xs).find? (fun r => r.z == ("aa" : Str)) with
        | some r' => if ("aa" : Str) ∈ al ∧ (if b = true then 1 else r'.l) ≤ (s : Int) ∧ (s : Int) ≤ r'.m then some r' else none
        | none => none) = _
      rw [h.find]
      refine if_pos ⟨ha, ?_, by show (s : Int) ≤ 6; omega⟩
      cases b
      · show (s : Int) ≤ s; omega
      · show (1 : Int) ≤ s; omega
    rw [stBad, e]
    show (stBad (rwOf xs) (rA s op).ns _).map (· + 1) = none
    rw [ih]
    rfl
theorem stsW_ne {s m : Nat} (h1 : 1 ≤ s) (hm : 1 ≤ m) : stsW s m ≠ [] := fun e => by
  have := stsW_tot (s := s) (m := m)
  rw [e] at this
  have : (0 : Int) = m := this
  omega
theorem stsW_due {xs : List PgE} {s m : Nat} {op : Bool} (h : Two xs s op) (h1 : 1 ≤ s) (h6 : s ≤ 6) (hm : 1 ≤ m) : stDue (rwOf xs) "aa" (some (dsOf (stsW s m))) = none := by
  have hne := stsW_ne h1 hm
  unfold stDue
  simp only []
  have he : (dsOf (stsW s m)).isEmpty = false := by
    unfold dsOf
    cases e : stsW s m with
    | nil => exact absurd e hne
    | cons a b => rfl
  rw [he, if_neg (by decide)]
  have e2 : dsOf (stsW s m) = List.replicate (m / s) (some [.str "aa", .int (s : Int)]) ++ dsOf (if 0 < m % s then [(("aa" : Str), ((m % s : Nat) : Int))] else []) := by
    unfold dsOf stsW
    rw [List.map_append, List.map_replicate]
  rw [e2, stBad_W h h1 h6 _ ?_ _ _ List.mem_cons_self]
  · rfl
  · by_cases h0 : 0 < m % s
    · rw [if_pos h0]
      exact .inr ⟨m % s, h0, Nat.le_of_lt (Nat.mod_lt m h1), rfl⟩
    · rw [if_neg h0]
      exact .inl rfl
theorem dsOf_inj : ∀ {a b : List (Str × Int)}, dsOf a = dsOf b → a = b
  | [], [], _ => rfl
  | [], _ :: _, h => nomatch h
  | _ :: _, [], h => nomatch h
  | p :: a, q :: b, h => by
    have h : some [V.str p.1, V.int p.2] :: dsOf a = some [V.str q.1, V.int q.2] :: dsOf b := h
    injection h with h1 h2
    injection h1 with h1
    injection h1 with e1 h1
    injection h1 with e2 _
    rw [dsOf_inj h2, show p = q from Prod.ext (V.str.inj e1) (V.int.inj e2)]
def lksW (n m : Nat) : List (Option Int) := List.replicate ((m - 1) / n + 1) (some 0)
theorem lksW_ok {n m : Nat} (hn : 1 ≤ n) (hm : 1 ≤ m) : LksOk (n : Int) 0 0 (0 + (m : Int) - 1) (lksW n m) := by
  have em : (0 + (m : Int) - 1) = ((m - 1 : Nat) : Int) := by omega
  rw [em]
  have ed : ((m - 1 : Nat) : Int) / (n : Int) = (((m - 1) / n : Nat) : Int) := rfl
  have er : ((m - 1 : Nat) : Int) % (n : Int) = (((m - 1) % n : Nat) : Int) := rfl
  refine ⟨?_, fun s o ho => ?_⟩
  · unfold lksW
    rw [List.length_replicate, ed]
    omega
  · have ho : o = some 0 := (List.mem_replicate.mp (List.mem_of_getElem? ho)).2
    subst ho
    refine .inr ⟨0, rfl, ?_, ?_, Int.le_refl _⟩
    · by_cases h : (s : Int) = 0
      · rw [if_pos h]; exact Int.le_refl _
      · rw [if_neg h]; exact Int.le_refl _
    · by_cases h : (s : Int) = ((m - 1 : Nat) : Int) / (n : Int) + 1 - 1
      · rw [if_pos h, er]; omega
      · rw [if_neg h]; omega
theorem lksW_due {n m t : Nat} (hn : 1 ≤ n) (ht : t < m) : dueAt (lksW n m) n (0 + t) = decide (t % n = 0) := by
  rw [Nat.zero_add]
  unfold dueAt lksW
  have h1 : t / n ≤ (m - 1) / n := Nat.div_le_div_right (by omega)
  rw [List.getD_eq_getElem?_getD, List.getElem?_replicate, if_pos (by omega)]
  refine decide_eq_decide.mpr ?_
  show some (0 : Int) = some ((t % n : Nat) : Int) ↔ _
  rw [Option.some_inj]
  omega
theorem runW {s n m : Nat} (hn : 1 ≤ n) : runL (stsW s m) (lksW n m) n 0 = rlW n m := by
  unfold runL
  rw [stsW_names, List.length_replicate]
  refine List.ext_getElem? fun t => ?_
  unfold rlW
  rw [List.getElem?_map, List.zip_eq_zipWith, List.getElem?_zipWith, List.getElem?_replicate, List.getElem?_map]
  by_cases ht : t < m
  · rw [if_pos ht, List.getElem?_range ht]
    show some (("aa" : Str), dueAt (lksW n m) n (0 + t)) = some (("aa" : Str), decide (t % n = 0))
    rw [lksW_due hn ht]
  · rw [if_neg ht, List.getElem?_eq_none (by rw [List.length_range]; omega)]
    rfl
end
end K16

set_option Elab.async false
set_option linter.all false
set_option pp.deepTerms.threshold 14
set_option pp.maxSteps 2500
set_option maxRecDepth 100000
set_option maxHeartbeats 2000000
namespace K16
open PySem PySem.Spec PyProof.Rows L2 Vf 
section
variable {P : Program} {w : World} {K : PySem.W.Frag} {mg : Str → Option Value} {base : Heap}
theorem call_len_seqK {X : Cx} {K : PySem.W.Frag} (hK : X.K = K) : CallR X (.builtin "len") (fun xs H Q => ∃ p ys, xs = [V.ref p] ∧ (SqL K H p ys ∨ SqT K H p ys) ∧ Q (V.int (ys.length : Int)) H) := hK ▸ call_len_seq
structure VTxt (K : PySem.W.Frag) (mg : Str → Option Value) : Prop extends Txt K mg, LvTxt K mg where
  g_SeenError : mg "SeenError" = some (.ref (He.ga K "SeenError"))
  z_min : mg "min" = none
  n_NoTicks : ExcC K (He.ga K "NoTicks")
  x1 : PySem.W.exmOne K (.ref (He.ga K "NoTicks")) (.ref (He.ga K "NoTicks")) = some true
  x2 : PySem.W.exmOne K (.ref (He.ga K "BadLook")) (.ref (He.ga K "NoTicks")) = some false
  x3 : PySem.W.exmOne K (.ref (He.ga K "BadLook")) (.ref (He.ga K "BadLook")) = some true
  x4 : PySem.W.exmOne K (.ref (He.ga K "BadChoice")) (.ref (He.ga K "BadChoice")) = some true
  p1 : PySem.W.kitOne K (.ref (He.ga K "NoTicks")) (.ref (He.ga K "SeenError")) = some true
  p2 : PySem.W.kitOne K (.ref (He.ga K "NoTicks")) (.ref (He.ga K "BadLook")) = some false
theorem VTxt.xf_BadLook {K : PySem.W.Frag} {mg : Str → Option Value} (T : VTxt K mg) : XfC K (He.ga K "BadLook") := ⟨T.x_BadLook.d.ga, T.x_BadLook.d.gg, T.x_BadLook.d.o.exC, T.x_BadLook.d.hd⟩
theorem call_isiN {X : Cx} {a D : Addr} {d : Option Addr} {oe : Obj} {pn : List (Addr × Obj)} {x : Str} (hD : D = He.ga X.K x) (C : ExcC X.K (He.ga X.K x)) {cls : Value} (hz : Zc cls d oe) (hf : ∃ vs, oe.data = .fields vs) : CallR (X.suite a ((a, oe) :: pn)) (.builtin "isinstance")
      (fun xs H Q => ∃ (c : V) (cv : Value) (b : Bool), xs = [.ref a, c] ∧ cls = .ref D ∧ d = none ∧ ClsV c cv ∧ PySem.W.kitOne X.K (.ref D) cv = some b ∧ Q (.bl b) H) := by
  subst hD
  intro pins s σ H xs us Q I r h
  obtain ⟨c, cv, b, rfl, ec, ed, hcv, e, q⟩ := h
  subst ec ed
  exact call_isE C hz hf pins s σ H _ us Q I r ⟨c, cv, b, rfl, fun u hu => hcv.eq hu, e, q⟩
/-- looks that are taken break no rule -/
theorem LksOk.no_bad {n i first last : Int} {lks : List (Option Int)} (h : LksOk n i first last lks) (k : Int) : ¬ LkBad n i first last (some (lks.map lkV)) k := by
  rintro (⟨hl, _⟩ | ⟨j, v, _, _, hj, hno, _⟩)
  · exact hl (by rw [List.length_map]; exact h.len)
  · rw [List.getElem?_map] at hj
    obtain ⟨o, ho, rfl⟩ := Option.map_eq_some_iff.mp hj
    exact hno (h.ok j o ho)
theorem sc_law_told : FnScope ["_law_program", "_law_sampler", "_law_stays", "_law_looks", "_law_record", "_law_outcome", "e"] ["_law_program", "_law_sampler", "_law_stays", "_law_looks"] (defScope s_law_told) := ⟨rfl, rfl, rfl, by decide +kernel, rfl, by decide +kernel, by decide +kernel⟩
-- slots: 0 _law_program, 1 _law_sampler, 2 _law_stays, 3 _law_looks, 4 _law_record, 5 _law_outcome, 6 e
/-- what the law is told of a run -/
def spTold (K : PySem.W.Frag) : Sp := fun vs H Q _ => ∃ (g p : Addr) (y x : V) (us : List V) (xs : List PgE) (dx tn dP dN : Addr) (s n m : Nat) (op : Bool), vs = [.ref g, .ref p, y, x] ∧ PgA K H g xs "aa" dx tn dP dN ∧ Two xs s op ∧ 1 ≤ s ∧ s ≤ 6 ∧ SaA (CS K) H p (n : Int) 0 (.int 0) ∧ 1 ≤ n ∧ n ≤ 8 ∧ 1 ≤ m ∧ m ≤ 2100 ∧ StsX H y (some (dsOf (stsW s m))) ∧ LksX H x (some us) ∧
  (((∀ lks : List (Option Int), us ≠ lks.map lkV) ∧ ∃ k : Int, (∀ j, LkBad (n : Int) 0 ((0 : Nat) : Int) (((0 : Nat) : Int) + (m : Int) - 1) (some us) j → j = k) ∧ ∀ H' q, Same H H' → H q = none → H' q = some (.tup [.str "look", .int k]) → Q (.ref q) H') ∨
   (us = (lksW n m).map lkV ∧ (2000 < m → ∀ H' q, Same H H' → H q = none → H' q = some (.tup [.str "long", .bl true, .bl false]) → Q (.ref q) H') ∧
    (m ≤ 2000 → ∀ H' q ti, Same H H' → H q = none → H' q = some (.tup [.str "told", .int (m : Int), .ref ti, .int (((nRun (letQ xs) (rlW n m)).1.length : Nat) : Int), .int (recLost (letQ xs) (rlW n m)), .bl (nRun (letQ xs) (rlW n m)).2.1]) → H' ti = some (.dK (kvT xs (List.replicate m ("aa" : Str)))) → Q (.ref q) H')))
theorem ok_law_told {fd : FuncData} (F : FnD K ("_law_told", none) "_law_told" "_law_told" s_law_told fd) (T : VTxt K mg) (kp_observe : PySem.W.keepIn K (.ref (He.fAd K ("observe", none))) = true) (O_observe4 : OkK P w K mg base (L2.CX P w) 7 ("observe", none) ["program", "sampler", "stays", "looks", "phase"] 4 [] (fun vs _ => vs ++ [.non]) (spObs K)) :
    OkF P w K mg base CX0 8 "_law_told" ["_law_program", "_law_sampler", "_law_stays", "_law_looks"] (spTold K) := by
  refine okd F (F.ok sc_law_told (fun vs H Q E h => ?_) fun cdv A outer s H vs Q E hr h => ?_) fun _ _ _ _ _ _ us hl => match us, hl with | [_, _, _, _], _ => rfl
  · obtain ⟨g, p, y, x, us, xs, dx, tn, dP, dN, s, n, m, op, rfl, _⟩ := h
    rfl
  · obtain ⟨g, p, y, x, us, xs, dx, tn, dP, dN, s', n, m, op, rfl, hg, h2, s1, s6, hp, n1, n8, m1, m2, hy, hx, k⟩ := h
    refine ⟨_, PSs.nox (pss_cons (ps_try_clauses (Wout := fun _ _ _ _ => False) rfl rfl sc_law_told.nd takes0 (fun W pn xe tk _ => (pss_cons (ps_set (i := 4) sc_law_told.nd rfl (Or.inl rfl) (c_fnK O_observe4 hr (by decide) kp_observe T.g_observe (passAny 7 tk) (pa_cons (pv 0) (pa_cons (pv 1) (pa_cons (pv 2) (pa_cons (pv 3) pa_nil)))) pk_nil))
  (pss_one (ps_set (i := 5) sc_law_told.nd rfl (Or.inl rfl) (pe_tup (pa_cons pe_str (pa_cons (pe_fldK (K := K) rfl (pv 4) rfl) (pa_cons (pe_fldK (K := K) rfl (pv 4) rfl) (pa_cons (pe_callB (id := "len") (call_len_seqK (K := K) rfl) (by rfl) T.z_len (by decide +kernel) (pa_cons (pe_fldK (K := K) rfl (pv 4) rfl) pa_nil)) (pa_cons (pe_fldK (K := K) rfl (pv 4) rfl) (pa_cons (pe_fldK (K := K) rfl (pv 4) rfl) pa_nil))))))))))) (.cons (i := 6) rfl rfl ⟨rfl, by decide, Or.inl T.g_NoTicks⟩ (fun a oe cls d pn hz hf => (pss_one (ps_set (i := 5) sc_law_told.nd rfl (Or.inl rfl) (pe_tup (pa_cons pe_str (pa_cons (pe_callB (call_isiN rfl T.n_NoTicks hz hf) (by rfl) T.z_isinstance (by decide +kernel) (pa_cons (pv 6) (pa_cons (pe_cl T.g_SeenError) pa_nil))) (pa_cons (pe_callB (call_isiN rfl T.n_NoTicks hz hf) (by rfl) T.z_isinstance (by decide +kernel) (pa_cons (pv 6) (pa_cons (pe_cl T.g_BadLook) pa_nil))) pa_nil))))))) (.cons (i := 6) rfl rfl ⟨rfl, by decide, Or.inl T.g_BadLook⟩ (fun a oe cls d pn hz hf => (pss_one (ps_set (i := 5) sc_law_told.nd rfl (Or.inl rfl) (pe_tup (pa_cons pe_str (pa_cons (pe_xf T.xf_BadLook T.x_BadLook.n hz hf (pv 6)) pa_nil)))))) .nil)))
  (pss_one (ps_ret (pv 5)))), ?_⟩
    have hl1 : ∀ x ∈ xs, 1 ≤ x.2.2.l := by
      obtain ⟨a, b, rfl, ea, eb⟩ := h2.two
      intro x hx
      rcases List.mem_cons.mp hx with rfl | hx
      · rw [ea]; show (1 : Int) ≤ s'; omega
      · rw [List.mem_singleton.mp hx, eb]; exact Int.le_refl _
    have etot := stsW_tot (s := s') (m := m)
    have obs : ∀ (Q' : VK) (E' : XK), (∀ H', Same H H' → us = (lksW n m).map lkV → 2000 < m → E' (.ref (He.ga K "NoTicks")) none H') →
        (∀ kk, LkBad (n : Int) 0 ((0 : Nat) : Int) (((0 : Nat) : Int) + (m : Int) - 1) (some us) kk → ∀ H' d, Same H H' → H' d = none → E' (.ref (He.ga K "BadLook")) (some d) (upd H' d (.xd [("index", .int kk)]))) →
        (us = (lksW n m).map lkV → m ≤ 2000 → ∀ H' r dr ti no, Same H H' → RecA K H' r xs (rlW n m) dr ti no → Q' (.ref r) H') → spObs K [.ref g, .ref p, y, x, .non] H Q' E' := fun Q' E' h1 h2' h3 =>
      ⟨g, p, y, _, x, some us, .non, xs, "aa", dx, tn, dP, dN, n, 0, .int 0, rfl, hg, hl1, hp, n1, n8, .inr ⟨0, rfl, by omega, by omega⟩, .inr .non, hy, hx, (fun kk hk => by rw [stsW_due h2 s1 s6 m1] at hk; cases hk), fun sts hos hok hdue => by
        obtain rfl : stsW s' m = sts := dsOf_inj (Option.some.inj hos)
        rw [etot]
        refine ⟨by omega, fun z => absurd (.inr ⟨(fun z => nomatch z), .inl rfl⟩) z, fun sh hsh => ?_⟩
        obtain rfl : sh = 0 := by
          rcases hsh with ⟨z, _⟩ | ⟨e, _⟩
          · cases z
          · have := V.int.inj e
            omega
        refine ⟨fun kk hk => h2' kk hk, fun lks ho hok' => ?_⟩
        have ho : us = lks.map lkV := Option.some.inj ho
        rcases k with ⟨hno, _⟩ | ⟨hus, _⟩
        · exact absurd ho (hno lks)
        · have el : lks = lksW n m := by
            rw [hus] at ho
            have : ∀ {a b : List (Option Int)}, a.map lkV = b.map lkV → a = b := fun {a} => by
              induction a with
              | nil => intro b h; cases b with
                | nil => rfl
                | cons _ _ => cases h
              | cons u a ih =>
                intro b h
                cases b with
                | nil => cases h
                | cons v b =>
                  injection h with e1 e2
                  rw [ih e2]
                  congr 1
                  cases u <;> cases v <;> first | rfl | (cases e1; done) | (cases e1; rfl)
            exact (this ho).symm
          subst el
          refine ⟨fun hlong H' s => h1 H' s hus (by omega), fun hsh2 H' r dr ti no s hrec _ _ => h3 hus (by omega) H' r dr ti no s ?_⟩
          rw [runW n1] at hrec
          exact hrec⟩
    have li : ∀ v : V, List.lookup ("index" : Str) [(("index" : Str), v)] = some v := fun v => by simp [List.lookup]
    refine ⟨_, rfl, _, rfl, _, rfl, _, rfl, rfl, rfl, obs _ _ (fun H1 s1 hus hlong => ?_) (fun kk hk H' d s1 nd => ?_) (fun hus hsh H' r dr ti no s1 hrec => ?_)⟩
    · rcases k with ⟨hno, _⟩ | ⟨_, k1, _⟩
      · exact absurd hus (hno _)
      intro σ hσ
      have s8 : ∀ a : Addr, (σ.set 6 (some (V.ref a)))[6]? = some (some (V.ref a)) := fun a => List.getElem?_set_self (by omega)
      refine ⟨true, T.x1, fun _ a na => ?_, fun z => Bool.noConfusion z⟩
      refine ⟨_, s8 a, _, _, true, rfl, rfl, rfl, .own _, T.p1, _, s8 a, _, _, false, rfl, rfl, rfl, .own _, T.p2, (by show 3 ≤ sizeLine; decide), fun q nq => ⟨_, ?_, k1 hlong _ q (s1.trans (same_new nq)) (none_of s1 nq) upd_same⟩⟩
      rw [List.getElem?_set_ne (by decide), List.getElem?_set_self (by rw [List.length_set]; omega)]
    · rcases k with ⟨_, k', hk', k⟩ | ⟨hus, _⟩
      · obtain rfl := hk' kk hk
        intro σ hσ
        have s8 : ∀ a : Addr, (σ.set 6 (some (V.ref a)))[6]? = some (some (V.ref a)) := fun a => List.getElem?_set_self (by omega)
        have sm := s1.trans (same_new (o := .xd [("index", .int kk)]) nd)
        refine ⟨false, T.x2, fun z => Bool.noConfusion z, fun _ => ⟨true, T.x3, fun _ a na => ?_, fun z => Bool.noConfusion z⟩⟩
        refine ⟨_, s8 a, rfl, rfl, d, _, _, rfl, upd_same, li _, (by show 2 ≤ sizeLine; decide), fun q nq => ⟨_, ?_, k _ q (sm.trans (same_new nq)) (none_of sm nq) upd_same⟩⟩
        rw [List.getElem?_set_ne (by decide), List.getElem?_set_self (by rw [List.length_set]; omega)]
      · subst hus
        exact absurd hk (LksOk.no_bad (lksW_ok n1 m1) _)
    · rcases k with ⟨hno, _⟩ | ⟨_, _, k2⟩
      · exact absurd hus (hno _)
      obtain ⟨ns, hns, hnl⟩ := hrec.hn.len
      have hr := hrec.hr
      rw [rlW_len] at hr
      have ht := hrec.ht
      rw [rlW_names] at ht
      refine ⟨_, rfl, r, _, dr, _, _, rfl, hr, T.c_Record, T.rA, rcf_ticks .., _, rfl, r, _, dr, _, _, rfl, hr, T.c_Record, T.rB, rcf_times .., _, rfl, r, _, dr, _, _, rfl, hr, T.c_Record, T.rC, rcf_notes .., no, ns, rfl, .inl (SqL.of hns), _, rfl, r, _, dr, _, _, rfl, hr, T.c_Record, T.rE, rcf_lost .., _, rfl, r, _, dr, _, _, rfl, hr, T.c_Record, T.rD, rcf_waiting .., (by show 6 ≤ sizeLine; decide), fun q nq => ⟨_, rfl, ?_⟩⟩
      have sq := same_new (o := .tup [.str "told", .int (m : Int), .ref ti, .int ((ns.length : Nat) : Int), .int (recLost (letQ xs) (rlW n m)), .bl (nRun (letQ xs) (rlW n m)).2.1]) nq
      exact k2 hsh _ q ti (s1.trans sq) (none_of s1 nq) (by rw [← hnl]; exact upd_same) (sq _ _ ht)
end
end K16

set_option Elab.async false
set_option linter.all false
set_option pp.deepTerms.threshold 14
set_option pp.maxSteps 2500
set_option maxRecDepth 100000
set_option maxHeartbeats 2000000
namespace K16
open PySem PySem.Spec PyProof.Rows L2 Vf 
section
variable {P : Program} {w : World} {K : PySem.W.Frag} {mg : Str → Option Value} {base : Heap}
def tCallI (C : Addr) (sp : Sp) (E : XK) (tf : TE) (t : TA) : TE := fun σ H Q => tf σ H fun y H1 => ∃ a, y = V.ref a ∧ t σ H1 fun vs H2 => ((∃ dx vs, SlX.Slt H2 a C dx vs) ∨ ∃ dx fs, H2 a = some (.ins C dx fs)) ∧ sp (V.ref a :: vs) H2 Q E
/-- q(e): the call of an instance that has __call__ -/
theorem c_callO {X : Cx} {CX : CXT} {k j : Nat} {ps : List Str} {sp : Sp} {cn : Str} {C : Addr} {E : XK} {fe e : Expr} {es : List Expr} {tf : TE} {t : TA} {pos : Pos} (hC : C = He.ga X.K cn) (hf : PE X fe tf) (m : Meth X.K C "__call__" (He.fAd X.K (cn, some "__call__"))) (fi : PySem.W.fnIn X.K (He.fAd X.K (cn, some "__call__")) = true) (O : OkD X.prog X.w X.K X.mg X.base CX k (cn, some "__call__") ps [] sp) (hr : Room j X.A) (hj : k ≤ j) (hx : Passes CX X E) (ha : PA X (e :: es) t)
    (ht : eval (Expr.Call fe (e :: es) [] pos) X.env = (do
      let ov ← eval fe X.env
      callWith pos ov [] (backTo pos (starEach (e :: es) X.env)) (backToKw pos (keywordEach [] X.env))) := by rfl) (he : starEach (e :: es) X.env = (false, eval e X.env) :: starEach es X.env := by rfl) (hpl : (backTo pos (starEach es X.env)).any (·.1) = false := by rfl) :
    PE X (.Call fe (e :: es) [] pos) (tCallI C (fun vs H Q E => sp (vs ++ []) H Q E) E tf t) := by
  obtain ⟨fd, ds, F, b, v⟩ := O.ex
  exact StX.pe_callO hf ⟨m.1, m.2, fi⟩ (F.raw b v) (hr.mono hj) hx ha ht he hpl
structure QMeth (K : PySem.W.Frag) : Prop where
  m_path : Meth K (He.ga K "Profile") "path" (He.fAd K ("Profile", some "path"))
  m_choices : Meth K (He.ga K "Profile") "choices" (He.fAd K ("Profile", some "choices"))
  m_record : Meth K (He.ga K "Profile") "record" (He.fAd K ("Profile", some "record"))
  m__call__ : Meth K (He.ga K "Profile") "__call__" (He.fAd K ("Profile", some "__call__"))
theorem VTxt.xfC {K : PySem.W.Frag} {mg : Str → Option Value} (T : VTxt K mg) : XfC K (He.ga K "BadChoice") := ⟨T.x_BadChoice.d.ga, T.x_BadChoice.d.gg, T.x_BadChoice.d.o.exC, T.x_BadChoice.d.hd⟩
theorem sc_Profile_path : FnScope ["self"] ["self"] (defScope s_Profile_path) := ⟨rfl, rfl, rfl, by decide +kernel, rfl, by decide +kernel, by decide +kernel⟩
-- slots: 0 self
def spPath (K : PySem.W.Frag) : Sp := fun vs H Q _ => ∃ (q g p : Addr) (sh : Nat) (cs : List Ch) (o : Option Tk) (mk : V) (dx M : Addr) (sv : V), vs = [.ref q] ∧ PfA K H q g p sh cs o mk dx M sv ∧ ∀ H' L, Same H H' → H L = none → ChsA H' L cs → Q (.ref L) H'
theorem ok_Profile_path {fd : FuncData} (F : FnD K ("Profile", some "path") "path" "Profile.path" s_Profile_path fd) (T : LvTxt K mg) : OkM P w K mg base CX0 1 "Profile" "path" ["self"] (spPath K) := by
  refine okd F (F.ok sc_Profile_path (fun vs H Q E h => ?_) fun cdv A outer s H vs Q E hr h => ?_) fun _ _ _ _ _ _ us hl => match us, hl with | [_], _ => rfl
  · obtain ⟨q, g, p, sh, cs, o, mk, dx, M, sv, rfl, _⟩ := h
    rfl
  · obtain ⟨q, g, p, sh, cs, o, mk, dx, M, sv, rfl, hq, k⟩ := h
    refine ⟨_, PSs.nox (pss_one (ps_ret (pe_callTy call_list_of (by rfl) T.z_list (by decide +kernel) (pa_cons (pe_fld (pv 0) rfl) pa_nil)))), ?_⟩
    obtain ⟨rs, h1, h2⟩ := hq.hM
    refine ⟨_, rfl, q, _, dx, _, _, rfl, hq.hq, T.c_Profile, T.fM, pff_made, M, _, rfl, .inl (SqL.of h1), fun L nL => ?_⟩
    exact k _ L (same_new nL) nL ⟨rs, upd_same, paired_imp (fun a b e => ChA.ext e (same_new nL)) h2⟩
theorem chW_S (s n k : Nat) : ChS (chW s n k) := by
  intro z e
  unfold chW at e
  by_cases h : k % s = 0
  · rw [if_pos h] at e
    have e : ("aa" : Str) = z := Option.some.inj e
    rw [← e]
    decide +kernel
  · rw [if_neg h] at e
    cases e
def ntV (op : Bool) (n k : Nat) : V := if (op && decide (k % n = 0)) = true then .str "aa" else .non
theorem sc_law_called : FnScope ["_law_live", "_law_choice", "_law_outcome", "e"] ["_law_live", "_law_choice"] (defScope s_law_called) := ⟨rfl, rfl, rfl, by decide +kernel, rfl, by decide +kernel, by decide +kernel⟩
-- slots: 0 _law_live, 1 _law_choice, 2 _law_outcome, 3 e
/-- what came of a choice -/
def spCld (K : PySem.W.Frag) : Sp := fun vs H Q _ => ∃ (q r g p : Addr) (k s n : Nat) (op : Bool) (c : Ch) (mk : V) (dx M : Addr) (sv : V) (xs : List PgE) (dg tn dP dN : Addr), vs = [.ref q, .ref r] ∧ PfA K H q g p 0 (csW s n k) (stW s n op k) mk dx M sv ∧ PgA K H g xs "aa" dg tn dP dN ∧ SaA (CS K) H p (n : Int) 0 (.int 0) ∧ 1 ≤ n ∧ n ≤ 8 ∧ Two xs s op ∧ 1 ≤ s ∧ s ≤ 6 ∧ k ≤ 2000 ∧ ChA H r c ∧
  ((k < 2000 ∧ c = chW s n k ∧ ∀ H' M' sv' t, SameX q H H' → PfA K H' q g p 0 (csW s n (k + 1)) (stW s n op (k + 1)) mk dx M' sv' → H' t = some (.tup [.str "told", ntV op n k]) → Q (.ref t) H') ∨
   (k = 2000 ∧ ChS c ∧ ∀ H' t, Same H H' → H' t = some (.tup [.str "bad", .int 2000]) → Q (.ref t) H'))
theorem stW_z {xs : List PgE} {s : Nat} {op : Bool} (h : Two xs s op) (n k : Nat) : ∀ t, stW s n op k = some t → t.z ∈ zsOf xs := fun t e => by
  cases k with
  | zero => cases e
  | succ k =>
    have e : some (⟨"aa", ((k % s : Nat) : Int) + 1, ((k % n : Nat) : Int), true, !op, op && decide (k % n = 0)⟩ : Tk) = some t := e
    rw [← Option.some.inj e, h.zs]
    exact List.mem_cons_self
theorem ok_law_called {fd : FuncData} (F : FnD K ("_law_called", none) "_law_called" "_law_called" s_law_called fd) (T : VTxt K mg) (PM : PMeth K) (QM : QMeth K) (O_Profile_call : OkM P w K mg base (L2.CX P w) 9 "Profile" "__call__" ["self", "choice"] (spGo K)) : OkF P w K mg base CX0 10 "_law_called" ["_law_live", "_law_choice"] (spCld K) := by
  refine okd F (F.ok sc_law_called (fun vs H Q E h => ?_) fun cdv A outer s H vs Q E hr h => ?_) fun _ _ _ _ _ _ us hl => match us, hl with | [_, _], _ => rfl
  · obtain ⟨q, r, g, p, k, s, n, op, c, mk, dx, M, sv, xs, dg, tn, dP, dN, rfl, _⟩ := h
    rfl
  · obtain ⟨q, r, g, p, k, s', n, op, c, mk, dx, M, sv, xs, dg, tn, dP, dN, rfl, hq, hg, hp, n1, n8, h2, s1, s6, k2, hcr, hk⟩ := h
    refine ⟨_, PSs.nox (pss_cons (ps_try_as (i := 3) (Wout := fun _ _ _ _ => False) rfl rfl sc_law_called.nd rfl rfl ⟨rfl, by decide, Or.inl T.g_BadChoice⟩ takes0 (fun W pn xe tk _ => (pss_one (ps_set (i := 2) sc_law_called.nd rfl (Or.inl rfl) (pe_tup (pa_cons pe_str (pa_cons (c_callO (cn := "Profile") rfl (pv 0) QM.m__call__ PM.f_call O_Profile_call hr (by decide) (passAny 4 tk) (pa_cons (pv 1) pa_nil)) pa_nil)))))) (fun a oe cls d pn hz hf => (pss_one (ps_set (i := 2) sc_law_called.nd rfl (Or.inl rfl) (pe_tup (pa_cons pe_str (pa_cons (pe_xf T.xfC T.x_BadChoice.n hz hf (pv 3)) pa_nil)))))))
  (pss_one (ps_ret (pv 2)))), ?_⟩
    have li : ∀ v : V, List.lookup ("index" : Str) [(("index" : Str), v)] = some v := fun v => by simp [List.lookup]
    refine ⟨_, rfl, q, rfl, _, rfl, .inr ⟨_, _, hq.hq⟩, ?_⟩
    refine ⟨q, g, p, 0, csW s' n k, stW s' n op k, mk, dx, M, sv, xs, "aa", dg, tn, dP, dN, n, 0, .int 0, .ref r, rfl, hq, hg, hp, n1, n8, stW_z h2 n k, by rw [h2.zs]; exact List.mem_cons_self, by rw [csW_len]; exact k2, ?_⟩
    rcases hk with ⟨hlt, rfl, hk⟩ | ⟨rfl, hc, hk⟩
    · have hnx := nxT_W h2 s1 n1 k
      have e0 : ((0 + (csW s' n k).length) % n : Nat) = k % n := by rw [csW_len, Nat.zero_add]
      refine .inl ⟨r, _, rfl, hcr, chW_in h2 s1 s6 n1 k (by omega), fun H' M' sv' x5 _ hpf => ?_⟩
      rw [e0] at hpf ⊢
      have hnt := Option.some.inj (hnx.trans (show stW s' n op (k + 1) = some ⟨"aa", ((k % s' : Nat) : Int) + 1, ((k % n : Nat) : Int), true, !op, op && decide (k % n = 0)⟩ from rfl))
      rw [hnx, ← csW_succ] at hpf
      rw [hnt]
      refine ⟨(by show 2 ≤ sizeLine; decide), fun t nt => ⟨_, rfl, ?_⟩⟩
      exact hk _ M' sv' t (x5.trans (same_x (same_new nt))) (hpf.ext (same_new nt)) upd_same
    · refine .inr ⟨.inr ⟨r, rfl, .inr (.inr ⟨c, hcr, hc, ?_⟩)⟩, fun H1 d s1 nd => ?_⟩
      · unfold chA
        rw [if_pos (csW_len ..)]
        exact fun h => nomatch h
      intro σ hσ
      have s8 : ∀ a : Addr, (σ.set 3 (some (V.ref a)))[3]? = some (some (V.ref a)) := fun a => List.getElem?_set_self (by omega)
      have sm := s1.trans (same_new (o := .xd [("index", .int ((csW s' n 2000).length : Int))]) nd)
      refine ⟨true, T.x4, fun _ a na => ?_, fun z => Bool.noConfusion z⟩
      refine ⟨_, s8 a, rfl, rfl, d, _, _, rfl, upd_same, li _, (by show 2 ≤ sizeLine; decide), fun q nq => ⟨_, ?_, hk _ q (sm.trans (same_new nq)) (by rw [upd_same, csW_len]; rfl)⟩⟩
      rw [List.getElem?_set_ne (by decide), List.getElem?_set_self (by rw [List.length_set]; omega)]
end
end K16

set_option Elab.async false
set_option linter.all false
set_option pp.deepTerms.threshold 14
set_option pp.maxSteps 2500
set_option maxRecDepth 100000
set_option maxHeartbeats 2000000
namespace K16
open PySem PySem.Spec PyProof.Rows L2 Vf 
section
variable {P : Program} {w : World} {K : PySem.W.Frag} {mg : Str → Option Value} {base : Heap}
theorem same_x2 {d : Addr} {H H1 H2 : Hp} (s : Same H H1) (x : SameX d H1 H2) (n : H d = none) : Same H H2 := fun b o h => x b o (ne_of_none h n) (s b o h)
theorem sc_law_profile_fits : FnScope ["_law_program", "_law_size", "_law_spec", "_law_many", "_law_opened", "_law_live", "_law_k", "_law_look", "_law_noted", "_law_move", "_law_record"] ["_law_program", "_law_size", "_law_spec", "_law_many", "_law_opened"] (defScope s_law_profile_fits) := ⟨rfl, rfl, rfl, by decide +kernel, rfl, by decide +kernel, by decide +kernel⟩
-- slots: 0 _law_program, 1 _law_size, 2 _law_spec, 3 _law_many, 4 _law_opened, 5 _law_live, 6 _law_k, 7 _law_look, 8 _law_noted, 9 _law_move, 10 _law_record
def spFit (K : PySem.W.Frag) : Sp := fun vs H Q _ => ∃ (g : Addr) (s n m : Nat) (op : Bool) (xs : List PgE) (dg tn dP dN : Addr), vs = [.ref g, .int (s : Int), .int (n : Int), .int (m : Int), .bl op] ∧ PgA K H g xs "aa" dg tn dP dN ∧ 1 ≤ n ∧ n ≤ 8 ∧ Two xs s op ∧ 1 ≤ s ∧ s ≤ 6 ∧ 1 ≤ m ∧ m ≤ 2100 ∧ ∀ H', Same H H' → Q (.bl true) H'
theorem ok_law_profile_fits {fd : FuncData} (F : FnD K ("_law_profile_fits", none) "_law_profile_fits" "_law_profile_fits" s_law_profile_fits fd) (T : VTxt K mg) (PM : PMeth K) (QM : QMeth K) (O_law_called : OkF P w K mg base CX0 10 "_law_called" ["_law_live", "_law_choice"] (spCld K))
    (O_Sampler_init1 : OkK P w K mg base (L2.CX P w) 4 ("Sampler", some "__init__") ["self", "period", "jitter", "phase"] 2 [] (fun vs _ => vs ++ [.int 0, .int 0]) (spSaI K)) (O_Profile_init2 : OkK P w K mg base (L2.CX P w) 4 ("Profile", some "__init__") ["self", "program", "sampler", "phase"] 3 [] (fun vs _ => vs ++ [.non]) (spPfI K))
    (O_Profile_choices : OkM P w K mg base CX0 7 "Profile" "choices" ["self"] (spChs K)) (O_Profile_record : OkM P w K mg base CX0 7 "Profile" "record" ["self"] (spRecd K)) (O_Profile_path : OkM P w K mg base CX0 1 "Profile" "path" ["self"] (spPath K)) : OkF P w K mg base CX0 11 "_law_profile_fits" ["_law_program", "_law_size", "_law_spec", "_law_many", "_law_opened"] (spFit K) := by
  refine okd F (F.ok sc_law_profile_fits (fun vs H Q E h => ?_) fun cdv A outer s H vs Q E hr h => ?_) fun _ _ _ _ _ _ us hl => match us, hl with | [_, _, _, _, _], _ => rfl
  · obtain ⟨g, s, n, m, op, xs, dg, tn, dP, dN, rfl, _⟩ := h
    rfl
  · obtain ⟨g, s', n, m, op, xs, dg, tn, dP, dN, rfl, hg, n1, n8, h2, s1, s6, m1, m2, k⟩ := h
    refine ⟨_, PSs.nox (pss_cons (ps_set (i := 5) sc_law_profile_fits.nd rfl (Or.inl rfl) (c_mkK T.m_Profile O_Profile_init2 hr (by decide) T.g_Profile passL (pa_cons (pv 0) (pa_cons (c_mkK T.m_Sampler O_Sampler_init1 hr (by decide) T.g_Sampler passL (pa_cons (pv 2) pa_nil) pk_nil) pa_nil)) pk_nil))
  (pss_cons (ps_for PassesOwn.never rfl (pi_range1 rfl T.z_range (pa_cons (pv 3) pa_nil)) (pg_name (i := 6) sc_law_profile_fits.nd rfl (Or.inl rfl))
  (pss_cons (ps_set (i := 7) sc_law_profile_fits.nd rfl (Or.inl rfl) (pe_cmpR op_eq (pe_op op_mod (pe_callTy call_int1 (by rfl) T.z_int (by decide +kernel) (pa_cons (pv 6) pa_nil)) (pv 2)) pe_int (nomark _)))
  (pss_cons (ps_set (i := 8) sc_law_profile_fits.nd rfl (Or.inl rfl) pe_non)
  (C8.pss_cut (ps_if (PW.pt (pw_andB (pt_val (pv 7)) (pw_and1 (pt_val (pv 4))))) (pss_one (ps_set (i := 8) sc_law_profile_fits.nd rfl (Or.inl rfl) pe_str))
  pss_nil)
  (pss_cons (ps_set (i := 9) sc_law_profile_fits.nd rfl (Or.inl rfl) pe_non)
  (C8.pss_cut (ps_if (pt_cmpR op_eq (pe_op op_mod (pe_callTy call_int1 (by rfl) T.z_int (by decide +kernel) (pa_cons (pv 6) pa_nil)) (pv 1)) pe_int (nomark _)) (pss_one (ps_set (i := 9) sc_law_profile_fits.nd rfl (Or.inl rfl) pe_str))
  pss_nil)
  (pss_cons (ps_if (PW.pt (pw_andB (pt_cmpR op_lt (pv 6) pe_int (nomark _)) (pw_and1 (pt_cmpR (op_neD hr.units) (c_fn O_law_called hr (by decide) T.g_law_called pass0 (pa_cons (pv 5) (pa_cons (pe_tup (pa_cons (pv 9) (pa_cons (pv 7) pa_nil))) pa_nil))) (pe_tup (pa_cons pe_str (pa_cons (pv 8) pa_nil))) (nomark _))))) (pss_one (ps_ret pe_bl))
  pss_nil)
  (pss_one (ps_if (PW.pt (pw_andB (pt_cmpR op_ge (pv 6) pe_int (nomark _)) (pw_and1 (PW.pt (pw_orB (pt_cmpR (op_neD hr.units) (c_me0 rfl (pv 5) T.c_Profile QM.m_choices O_Profile_choices hr (by decide) pass0) (pe_lst pa_nil) (nomark _)) (pw_or1 (pt_cmpR (op_neD hr.units) (c_fn O_law_called hr (by decide) T.g_law_called pass0 (pa_cons (pv 5) (pa_cons (pe_tup (pa_cons (pv 9) (pa_cons (pv 7) pa_nil))) pa_nil))) (pe_tup (pa_cons pe_str (pa_cons pe_int pa_nil))) (nomark _)))))))) (pss_one (ps_ret pe_bl))
  pss_nil)))))))))
  (pss_cons (ps_set (i := 10) sc_law_profile_fits.nd rfl (Or.inl rfl) (c_me0 rfl (pv 5) T.c_Profile QM.m_record O_Profile_record hr (by decide) pass0))
  (pss_one (ps_ret (pe_andB (pe_cmpR op_eq (pe_fld (pv 5) rfl) (pe_callB (id := "min") (cr_min rfl) (by rfl) T.z_min (by decide +kernel) (pa_cons (pe_lst (pa_cons pe_int (pa_cons (pe_callTy call_int1 (by rfl) T.z_int (by decide +kernel) (pa_cons (pv 3) pa_nil)) pa_nil))) pa_nil)) (nomark _)) (pe_andB (pe_cmpR op_eq (pe_fld (pv 10) rfl) (pe_fld (pv 5) rfl) (nomark _)) (pe_one (pe_cmpR op_eq (pe_callB (id := "len") call_len_seq (by rfl) T.z_len (by decide +kernel) (pa_cons (c_me0 rfl (pv 5) T.c_Profile QM.m_path O_Profile_path hr (by decide) pass0) pa_nil)) (pe_fld (pv 5) rfl) (nomark _)))))))))), ?_⟩
    have big : 100000 ≤ sizeLine := by decide
    have hPh : PhOk (.int 0) (n : Int) := .inr ⟨0, rfl, Int.le_refl _, by omega⟩
    refine ⟨_, rfl, _, rfl, rfl, rfl, fun p dxp np ndp ne => ?_⟩
    have sM := same_make2 (o1 := .own p) (o2 := .ins (CS K) dxp []) (o3 := .ins (CS K) dxp (saf (n : Int) 0 (.int 0))) np ndp
    have hSa : SaA (CS K) (upd (upd (upd H dxp (.own p)) p (.ins (CS K) dxp [])) p (.ins (CS K) dxp (saf (n : Int) 0 (.int 0)))) p (n : Int) 0 (.int 0) := ⟨dxp, upd_same⟩
    refine ⟨p, dxp, .int (n : Int), .int 0, .int 0, rfl, upd_same, .inr ⟨(n : Int), 0, ⟨rfl, by omega, by omega, rfl, Int.le_refl _, by omega, hPh⟩, rfl, ?_⟩⟩
    generalize upd (upd (upd H dxp (.own p)) p (.ins (CS K) dxp [])) p (.ins (CS K) dxp (saf (n : Int) 0 (.int 0))) = H1 at sM hSa ⊢
    refine ⟨rfl, rfl, fun q dxq nq ndq nqe => ?_⟩
    have sQ := same_make (o1 := .own q) (o2 := .ins (CPf K) dxq []) nq ndq
    have nq0 := none_of sM nq
    refine ⟨q, dxq, g, p, .non, (n : Int), 0, .int 0, rfl, upd_same, hSa.ext sQ, by omega, by omega, hPh, .inr .non, .inl ⟨0, .inr ⟨rfl, .inl rfl⟩, fun H2 M xQ nM hpf => ⟨rfl, ?_⟩⟩⟩
    have sX : SameX q H1 H2 := fun b o hb e => xQ b o hb (sQ b o e)
    have hpq : p ≠ q := by
      obtain ⟨d0, e⟩ := hSa
      exact ne_of_none e nq
    have hSa2 : SaA (CS K) H2 p (n : Int) 0 (.int 0) := by
      obtain ⟨d0, e⟩ := hSa
      exact ⟨d0, sX _ _ (ne_of_none e nq) e⟩
    have s2 : Same H H2 := fun b o e => sX b o (ne_of_none e nq0) (sM b o e)
    clear sQ xQ sX hSa sM nM np ndp nq ndq ne nqe
    have hg2 := hg.ext s2
    refine ⟨_, rfl, (m : Int), rfl, by omega, by omega, for_range (lo := 0) (n := ((m : Int)).toNat) (fun i σ H' => Same H H' ∧ SaA (CS K) H' p (n : Int) 0 (.int 0) ∧ ∃ (M : Addr) (sv : V) (v6 v7 v8 v9 : Option V), PfA K H' q g p 0 (csW s' n (min i 2000)) (stW s' n op (min i 2000)) .non dxq M sv ∧ σ = [some (.ref g), some (.int (s' : Int)), some (.int (n : Int)), some (.int (m : Int)), some (.bl op), some (.ref q), v6, v7, v8, v9, none]) ⟨s2, hSa2, M, .non, none, none, none, none, hpf, rfl⟩ ?_ ?_⟩
    · rintro i σ H3 hi ⟨s3, hSa3, M, sv, v6, v7, v8, v9, hpf3, rfl⟩
      show tSeq _ _ _ [some (.ref g), some (.int (s' : Int)), some (.int (n : Int)), some (.int (m : Int)), some (.bl op), some (.ref q), some (.int (0 + (i : Int))), v7, v8, v9, none] H3
      have elk : ∀ d : Nat, decide (V.int ((0 + (i : Int)) % (d : Int)) = .int 0) = decide (i % d = 0) := fun d => by
        have e : (0 + (i : Int)) % (d : Int) = ((i % d : Nat) : Int) := by rw [Int.zero_add]; rfl
        rw [e]
        exact decide_eq_decide.mpr ⟨fun e => by have := V.int.inj e; omega, fun e => congrArg V.int (by omega)⟩
      refine ⟨_, rfl, .inl ⟨_, rfl, _, rfl, 0 + (i : Int), (n : Int), rfl, rfl, by omega, rfl, ?_⟩⟩
      rw [elk]
      show C8.tCut _ _ _ [some (.ref g), some (.int (s' : Int)), some (.int (n : Int)), some (.int (m : Int)), some (.bl op), some (.ref q), some (.int (0 + (i : Int))), some (.bl (decide (i % n = 0))), some .non, v9, none] H3
      refine ⟨fun σ' H' => H' = H3 ∧ σ' = [some (.ref g), some (.int (s' : Int)), some (.int (n : Int)), some (.int (m : Int)), some (.bl op), some (.ref q), some (.int (0 + (i : Int))), some (.bl (decide (i % n = 0))), some (ntV op n i), v9, none], ?_, ?_⟩
      · refine ⟨_, rfl, decide (i % n = 0), rfl, op, (· = H3), fun _ => ⟨_, rfl, op, rfl, rfl, rfl⟩, fun _ => rfl, fun H4 e => ?_⟩
        subst e
        unfold ntV
        rw [Bool.and_comm]
        cases hb : (op && decide (i % n = 0)) with
        | true => exact iteT ⟨rfl, rfl⟩
        | false => exact iteF ⟨rfl, rfl⟩
      rintro σ' H' ⟨rfl, rfl⟩
      show C8.tCut _ _ _ [some (.ref g), some (.int (s' : Int)), some (.int (n : Int)), some (.int (m : Int)), some (.bl op), some (.ref q), some (.int (0 + (i : Int))), some (.bl (decide (i % n = 0))), some (ntV op n i), some .non, none] H'
      refine ⟨fun σ' Hx => Hx = H' ∧ σ' = [some (.ref g), some (.int (s' : Int)), some (.int (n : Int)), some (.int (m : Int)), some (.bl op), some (.ref q), some (.int (0 + (i : Int))), some (.bl (decide (i % n = 0))), some (ntV op n i), some (mvV (chW s' n i).1), none], ?_, ?_⟩
      · refine ⟨_, rfl, .inl ⟨_, rfl, _, rfl, 0 + (i : Int), (s' : Int), rfl, rfl, by omega, rfl, _, rfl, ?_⟩⟩
        rw [elk]
        unfold chW
        by_cases hb : i % s' = 0
        · rw [decide_eq_true hb, if_pos hb]
          exact iteT ⟨rfl, rfl⟩
        · rw [decide_eq_false hb, if_neg hb]
          exact iteF ⟨rfl, rfl⟩
      rintro σ' Hx ⟨rfl, rfl⟩
      have sh0 : SeqAt.shaped (.list []) = true := by decide +kernel
      by_cases hk : i < 2000
      · have emin : min i 2000 = i := Nat.min_eq_left (by omega)
        have emin2 : min (i + 1) 2000 = i + 1 := Nat.min_eq_left (by omega)
        rw [emin] at hpf3
        rw [emin2]
        refine ⟨_, rfl, 0 + (i : Int), 2000, rfl, rfl, _, rfl, false, fun H' => Same H H' ∧ SaA (CS K) H' p (n : Int) 0 (.int 0) ∧ ∃ M sv, PfA K H' q g p 0 (csW s' n (i + 1)) (stW s' n op (i + 1)) .non dxq M sv, fun _ => ?_, fun c => absurd (of_decide_eq_false c) (by omega), fun H4 h4 => ?_⟩
        · refine ⟨_, rfl, _, rfl, _, rfl, (by show 2 ≤ sizeLine; decide), fun r nr => ?_⟩
          have sr := same_new (o := .tup [mvV (chW s' n i).1, .bl (decide (i % n = 0))]) nr
          refine ⟨q, r, g, p, i, s', n, op, chW s' n i, .non, dxq, M, sv, xs, dg, tn, dP, dN, rfl, hpf3.ext sr, (hg.ext s3).ext sr, hSa3.ext sr, n1, n8, h2, s1, s6, by omega, upd_same, .inl ⟨hk, rfl, fun H5 M' sv' t x5 hpf5 ht => ?_⟩⟩
          have s5 : Same H H5 := same_x2 (s3.trans sr) x5 nq0
          have hSa5 : SaA (CS K) H5 p (n : Int) 0 (.int 0) := by
            obtain ⟨d0, e⟩ := hSa3
            exact ⟨d0, x5 _ _ hpq (sr _ _ e)⟩
          have shp : ∀ v : PyData, (v = .none ∨ v = .str "aa") → SeqAt.shaped (.tuple [.str "told", v]) = true := fun v hv => by
            rcases hv with rfl | rfl <;> decide +kernel
          obtain ⟨v, hv, hdp⟩ : ∃ v : PyData, (v = .none ∨ v = .str "aa") ∧ ∀ X : Hp, Dp K X (ntV op n i) v := by
            unfold ntV
            cases (op && decide (i % n = 0)) with
            | true => exact ⟨.str "aa", .inr rfl, fun _ => .str _⟩
            | false => exact ⟨.none, .inl rfl, fun _ => .non⟩
          refine ⟨_, rfl, (by show 2 ≤ sizeLine; decide), fun u nu => ?_⟩
          have su := same_new (o := .tup [.str "told", ntV op n i]) nu
          refine ⟨.tuple [.str "told", v], .tuple [.str "told", v], .tup (SqT.of (su _ _ ht)) (.cons (.str _) (.cons (hdp _) .nil)), .tup (SqT.of upd_same) (.cons (.str _) (.cons (hdp _) .nil)), shp v hv, shp v hv, _, rfl, ?_, s5.trans su, hSa5.ext su, M', sv', hpf5.ext su⟩
          rw [SeqAt.eqv_refl _ (SeqAt.canLay_of_shaped (shp v hv))]
          rfl
        · obtain ⟨s4, hSa4, M4, sv4, hpf4⟩ := h4
          rw [show decide (0 + (i : Int) < 2000) = true from decide_eq_true (by omega)]
          refine iteF ⟨_, rfl, 0 + (i : Int), 2000, rfl, rfl, _, rfl, false, (· = H4), fun c => absurd (of_decide_eq_true c) (by omega), fun _ => rfl, fun H5 e => ?_⟩
          subst e
          rw [show decide ((2000 : Int) ≤ 0 + (i : Int)) = false from decide_eq_false (by omega)]
          exact iteF ⟨s4, hSa4, M4, sv4, _, _, _, _, hpf4, rfl⟩
      · have emin : min i 2000 = 2000 := Nat.min_eq_right (by omega)
        have emin2 : min (i + 1) 2000 = 2000 := Nat.min_eq_right (by omega)
        rw [emin] at hpf3
        rw [emin2]
        refine ⟨_, rfl, 0 + (i : Int), 2000, rfl, rfl, _, rfl, false, (· = Hx), fun c => absurd (of_decide_eq_true c) (by omega), fun _ => rfl, fun H4 e => ?_⟩
        subst e
        rw [show decide (0 + (i : Int) < 2000) = false from decide_eq_false (by omega)]
        refine iteF ⟨_, rfl, 0 + (i : Int), 2000, rfl, rfl, _, rfl, false, fun H' => Same H4 H', fun _ => ?_, fun c => absurd (of_decide_eq_false c) (by omega), fun H5 s5 => ?_⟩
        · refine ⟨_, rfl, q, dxq, _, rfl, hpf3.hq, pff_out, q, g, p, 0, csW s' n 2000, stW s' n op 2000, .non, dxq, M, sv, xs, "aa", dg, tn, dP, dN, n, 0, .int 0, rfl, hpf3, hg.ext s3, hSa3, n1, n8, stW_z h2 n 2000, fun H5 L s5 nL hL => ?_⟩
          have hL5 : H5 L = some (.lst []) := by
            have e : chA xs "aa" 0 n 0 (csW s' n 2000) (stW s' n op 2000) = [] := by
              unfold chA
              rw [if_pos (csW_len ..)]
            rw [e] at hL
            obtain ⟨rs, h1, h2⟩ := hL
            cases h2
            exact h1
          refine ⟨(by show 0 ≤ sizeLine; decide), fun O nO => ?_⟩
          have sO := same_new (o := .lst []) nO
          refine ⟨.list [], .list [], .lst (SqL.of (sO _ _ hL5)) .nil, .lst (SqL.of upd_same) .nil, sh0, sh0, _, rfl, false, fun H' => Same H4 H', fun _ => ?_, (fun c => Bool.noConfusion c), fun H6 s6 => ⟨rfl, s6⟩⟩
          have s6' := s5.trans sO
          refine ⟨_, rfl, _, rfl, _, rfl, (by show 2 ≤ sizeLine; decide), fun r nr => ?_⟩
          have sr := same_new (o := .tup [mvV (chW s' n i).1, .bl (decide (i % n = 0))]) nr
          have s7 := s6'.trans sr
          refine ⟨q, r, g, p, 2000, s', n, op, chW s' n i, .non, dxq, M, sv, xs, dg, tn, dP, dN, rfl, hpf3.ext s7, (hg.ext s3).ext s7, hSa3.ext s7, n1, n8, h2, s1, s6, by omega, upd_same,   .inr ⟨rfl, chW_S s' n i, fun H8 t s8 ht => ?_⟩⟩
          refine ⟨(by show 2 ≤ sizeLine; decide), fun u nu => ?_⟩
          have su := same_new (o := .tup [.str "bad", .int 2000]) nu
          have shb : SeqAt.shaped (.tuple [.str "bad", .int 2000]) = true := by decide +kernel
          refine ⟨.tuple [.str "bad", .int 2000], .tuple [.str "bad", .int 2000], .tup (SqT.of (su _ _ ht)) (.cons (.str _) (.cons (.int _) .nil)), .tup (SqT.of upd_same) (.cons (.str _) (.cons (.int _) .nil)), shb, shb, _, rfl, ?_, s7.trans (s8.trans su)⟩
          rw [SeqAt.eqv_refl _ (SeqAt.canLay_of_shaped shb)]
          rfl
        · rw [show decide ((2000 : Int) ≤ 0 + (i : Int)) = true from decide_eq_true (by omega)]
          exact iteF ⟨s3.trans s5, hSa3.ext s5, M, sv, _, _, _, _, hpf3.ext s5, rfl⟩
    · rintro σ H3 ⟨s3, hSa3, M, sv, v6, v7, v8, v9, hpf3, rfl⟩
      rw [Int.toNat_natCast] at hpf3
      have hm2 : min m 2000 ≤ 2000 := Nat.min_le_right ..
      generalize hM0 : min m 2000 = k0 at hpf3 hm2
      obtain ⟨w1, w2, w3⟩ := smW s' n k0
      refine ⟨_, rfl, q, dxq, _, rfl, hpf3.hq, pff_out, q, g, p, 0, csW s' n k0, stW s' n op k0, .non, dxq, M, sv, xs, "aa", dg, tn, dP, dN, rfl, hpf3, hg.ext s3, by rw [csW_len]; exact hm2, fun c hc => ?_, fun z hz => ⟨by rw [(w1 z hz).1, h2.zs]; exact List.mem_cons_self, (w1 z hz).2⟩, by rw [w2, csW_len], fun H4 r dr ti no s4 hrec _ _ => ?_⟩
      · unfold csW at hc
        rw [List.getElem?_map] at hc
        obtain ⟨j, hj, rfl⟩ := Option.map_eq_some_iff.mp hc
        have hj0 : j = 0 := by
          cases k0 with
          | zero => cases hj
          | succ k0 =>
            rw [List.getElem?_range (by omega)] at hj
            exact (Option.some.inj hj).symm
        subst hj0
        unfold chW
        rw [Nat.zero_mod, if_pos rfl]
        exact fun e => nomatch e
      have hpf4 := hpf3.ext s4
      have hq4 := hpf4.hq
      rw [csW_len] at hq4
      have hr4 := hrec.hr
      have el : ((namesL (smL (csW s' n k0))).zip ((csW s' n k0).map (·.2))).length = k0 := by
        rw [List.length_zip, w2, List.length_map, csW_len, Nat.min_self]
      rw [el] at hr4
      refine ⟨_, rfl, q, _, dxq, _, _, rfl, hq4, T.c_Profile, T.fT, pff_ticks, _, rfl, .inl ⟨_, rfl, (by show 2 ≤ sizeLine; decide), fun L nL => ?_⟩⟩
      have sL := same_new (o := .lst [.int 2000, .int (m : Int)]) nL
      refine ⟨L, [2000, (m : Int)], rfl, SqL.of upd_same, Nat.succ_pos _, fun mm hmm hle => ?_⟩
      have emm : mm = (k0 : Int) := by
        have h1 := hle 2000 (by simp)
        have h3 := hle (m : Int) (by simp)
        simp only [List.mem_cons, List.not_mem_nil, or_false] at hmm
        omega
      subst emm
      refine ⟨rfl, decide (V.int (k0 : Int) = .int (k0 : Int)), true, fun H' => Same H4 H', rfl, fun _ => ?_, (fun c => absurd rfl (of_decide_eq_false c)), fun H5 s5 => ?_⟩
      · refine ⟨_, rfl, r, _, dr, _, _, rfl, sL _ _ hr4, T.c_Record, T.rA, rcf_ticks .., _, rfl, q, _, dxq, _, _, rfl, sL _ _ hq4, T.c_Profile, T.fT, pff_ticks, rfl, decide (V.int (k0 : Int) = .int (k0 : Int)), true, fun H' => Same H4 H', rfl, fun _ => ?_, (fun c => absurd rfl (of_decide_eq_false c)), fun H6 s6 => ⟨by rw [decide_eq_true rfl]; rfl, s6⟩⟩
        refine ⟨_, rfl, q, dxq, _, rfl, (hpf4.ext sL).hq, pff_out, q, g, p, 0, csW s' n k0, stW s' n op k0, .non, dxq, M, sv, rfl, hpf4.ext sL, fun H6 W s6 nW hW => ?_⟩
        obtain ⟨vs, hvs, hvl⟩ := hW.len
        rw [csW_len] at hvl
        refine ⟨W, vs, rfl, .inl (SqL.of hvs), _, rfl, q, _, dxq, _, _, rfl, s6 _ _ (sL _ _ hq4), T.c_Profile, T.fT, pff_ticks, rfl, ?_, sL.trans s6⟩
        rw [hvl, decide_eq_true rfl]
      · rw [decide_eq_true rfl]
        exact k _ (s3.trans (s4.trans s5))
end
end K16

set_option Elab.async false
set_option linter.all false
set_option pp.deepTerms.threshold 14
set_option pp.maxSteps 2500
set_option maxRecDepth 100000
set_option maxHeartbeats 2000000
namespace K16
open PySem PySem.Spec PyProof.Rows L2 Vf 
section
variable {P : Program} {w : World} {K : PySem.W.Frag} {mg : Str → Option Value} {base : Heap}
theorem rep_one {α : Type} {x : α} : ∀ {n : Nat}, (List.replicate n [x]).flatten = List.replicate n x
  | 0 => rfl
  | n + 1 => by
    rw [List.replicate_succ, List.flatten_cons, rep_one, List.replicate_succ]
    rfl
theorem paired_rep {α β : Type} {R : α → β → Prop} {a : α} {b : β} (r : R a b) : ∀ {n : Nat}, Paired R (List.replicate n a) (List.replicate n b)
  | 0 => .nil
  | n + 1 => by
    rw [List.replicate_succ, List.replicate_succ]
    exact .cons r (paired_rep r)
def spLaw (K : PySem.W.Frag) : Sp := fun vs H Q _ => ∃ (a : Addr) (ns : List Int), vs = [.ref a] ∧ SqL K H a (ns.map V.int) ∧ ns.length ≤ 63 ∧ ∀ H', Q (.bl true) H'
def ToldA (xs : List PgE) (n m : Nat) (H : Hp) (q : Addr) : Prop := (2000 < m ∧ H q = some (.tup [.str "long", .bl true, .bl false])) ∨ (m ≤ 2000 ∧ ∃ ti, H q = some (.tup [.str "told", .int (m : Int), .ref ti, .int (((nRun (letQ xs) (rlW n m)).1.length : Nat) : Int), .int (recLost (letQ xs) (rlW n m)), .bl (nRun (letQ xs) (rlW n m)).2.1]) ∧ H ti = some (.dK (kvT xs (List.replicate m ("aa" : Str)))))
theorem ToldA.ext {xs : List PgE} {n m : Nat} {H H' : Hp} {q : Addr} (h : ToldA xs n m H q) (s : Same H H') : ToldA xs n m H' q := by
  rcases h with ⟨h1, h2⟩ | ⟨h1, ti, h2, h3⟩
  · exact .inl ⟨h1, s _ _ h2⟩
  · exact .inr ⟨h1, ti, s _ _ h2, s _ _ h3⟩
theorem lkV_any (H : Hp) (n m : Nat) : ∀ u ∈ (lksW n m).map lkV, Any H u := fun u hu => by
  obtain ⟨o, _, rfl⟩ := List.mem_map.mp hu
  exact lk_any H o
theorem told_good {K : PySem.W.Frag} {H : Hp} {Q : VK} {E : XK} {g p ST LK : Addr} {us : List V} {xs : List PgE} {dx tn dP dN : Addr} {s n m : Nat} {op : Bool} (hg : PgA K H g xs "aa" dx tn dP dN) (h2 : Two xs s op) (s1 : 1 ≤ s) (s6 : s ≤ 6) (hp : SaA (CS K) H p (n : Int) 0 (.int 0)) (n1 : 1 ≤ n) (n8 : n ≤ 8) (m1 : 1 ≤ m) (m2 : m ≤ 2100)
    (hST : H ST = some (.lst us)) (hsts : Paired (StV H) us (dsOf (stsW s m))) (hLK : H LK = some (.lst ((lksW n m).map lkV))) (k : ∀ H' q, Same H H' → H q = none → ToldA xs n m H' q → Q (.ref q) H') : spTold K [.ref g, .ref p, .ref ST, .ref LK] H Q E :=
  ⟨g, p, .ref ST, .ref LK, _, xs, dx, tn, dP, dN, s, n, m, op, rfl, hg, h2, s1, s6, hp, n1, n8, m1, m2, ⟨ST, us, rfl, hST, hsts⟩, ⟨LK, rfl, hLK, lkV_any H n m⟩, .inr ⟨rfl, fun hlong H' q s nq hq => k H' q s nq (.inl ⟨hlong, hq⟩), fun hsh H' q ti s nq hq hti => k H' q s nq (.inr ⟨hsh, ti, hq, hti⟩)⟩⟩
/-- all looks at place 0 but the last, which is True -/
def badW (n m : Nat) : List V := List.replicate ((m - 1) / n) (.int 0) ++ [.bl true]
theorem told_bad {K : PySem.W.Frag} {H : Hp} {Q : VK} {E : XK} {g p ST LK : Addr} {us : List V} {xs : List PgE} {dx tn dP dN : Addr} {s n m : Nat} {op : Bool} (hg : PgA K H g xs "aa" dx tn dP dN) (h2 : Two xs s op) (s1 : 1 ≤ s) (s6 : s ≤ 6) (hp : SaA (CS K) H p (n : Int) 0 (.int 0)) (n1 : 1 ≤ n) (n8 : n ≤ 8) (m1 : 1 ≤ m) (m2 : m ≤ 2100)
    (hST : H ST = some (.lst us)) (hsts : Paired (StV H) us (dsOf (stsW s m))) (hLK : H LK = some (.lst (badW n m))) (k : ∀ H' q, Same H H' → H' q = some (.tup [.str "look", .int (((m - 1) / n : Nat) : Int)]) → Q (.ref q) H') : spTold K [.ref g, .ref p, .ref ST, .ref LK] H Q E := by
  have hany : ∀ u ∈ badW n m, Any H u := fun u hu => by
    rcases List.mem_append.mp hu with hu | hu
    · rw [(List.mem_replicate.mp hu).2]
      exact .inl ⟨0, rfl⟩
    · rw [List.mem_singleton.mp hu]
      exact .inr (.bl true)
  have hlast : (badW n m)[(m - 1) / n]? = some (.bl true) := by
    unfold badW
    rw [List.getElem?_append_right (by rw [List.length_replicate]; exact Nat.le_refl _), List.length_replicate, Nat.sub_self]
    rfl
  refine ⟨g, p, .ref ST, .ref LK, badW n m, xs, dx, tn, dP, dN, s, n, m, op, rfl, hg, h2, s1, s6, hp, n1, n8, m1, m2, ⟨ST, us, rfl, hST, hsts⟩, ⟨LK, rfl, hLK, hany⟩, .inl ⟨fun lks e => ?_, (((m - 1) / n : Nat) : Int), fun j hj => ?_, fun H' q s _ hq => k H' q s hq⟩⟩
  · rw [e, List.getElem?_map] at hlast
    obtain ⟨o, _, ho⟩ := Option.map_eq_some_iff.mp hlast
    cases o <;> cases ho
  · have eM : (((0 : Nat) : Int) + (m : Int) - 1) / (n : Int) + 1 = (((m - 1) / n : Nat) : Int) + 1 := by
      have e1 : (((0 : Nat) : Int) + (m : Int) - 1) = ((m - 1 : Nat) : Int) := by omega
      rw [e1]
      rfl
    have hlen : ((badW n m).length : Int) = (((m - 1) / n : Nat) : Int) + 1 := by
      unfold badW
      rw [List.length_append, List.length_replicate, List.length_singleton]
      omega
    rcases hj with ⟨hl, _⟩ | ⟨i, v, _, rfl, hi, hno, _⟩
    · exact absurd (hlen.trans eM.symm) hl
    · by_cases hlt : i < (m - 1) / n
      · exfalso
        have hv : (badW n m)[i]? = some (.int 0) := by
          unfold badW
          rw [List.getElem?_append_left (by rw [List.length_replicate]; exact hlt), List.getElem?_replicate, if_pos hlt]
        rw [hv] at hi
        cases hi
        refine hno (.inr ⟨0, rfl, ?_, ?_, Int.le_refl _⟩)
        · unfold lkLo
          by_cases h : (i : Int) = 0
          · rw [if_pos h]; exact Int.le_refl _
          · rw [if_neg h]; exact Int.le_refl _
        · unfold lkHi
          have hm0 : 0 ≤ (((0 : Nat) : Int) + (m : Int) - 1) % (n : Int) := Int.emod_nonneg _ (by omega)
          by_cases h : (i : Int) = (((0 : Nat) : Int) + (m : Int) - 1) / (n : Int) + 1 - 1
          · rw [if_pos h]; exact hm0
          · rw [if_neg h]; omega
      · have : i < (badW n m).length := (List.getElem?_eq_some_iff.mp hi).1
        have h3 : ((badW n m).length : Int) = (((m - 1) / n : Nat) : Int) + 1 := hlen
        have h4 : (badW n m).length = (m - 1) / n + 1 := by omega
        have : i = (m - 1) / n := by omega
        rw [this]
theorem eqI (x : Int) : eqV (.int x) (.int x) = true := by
  unfold eqV
  simp
theorem kvT_W {xs : List PgE} {s : Nat} {op : Bool} (h : Two xs s op) (m : Nat) : kvT xs (List.replicate m ("aa" : Str)) = [((Sum.inr ("aa" : Str) : Key), V.int (m : Int)), (Sum.inr ("b" : Str), V.int 0)] := by
  obtain ⟨a, b, rfl, ea, eb⟩ := h.two
  have c1 : cntN (List.replicate m ("aa" : Str)) "aa" = m := by
    unfold cntN
    rw [List.map_replicate, List.countP_replicate, if_pos (by decide +kernel)]
  have c2 : cntN (List.replicate m ("aa" : Str)) "b" = 0 := by
    unfold cntN
    rw [List.map_replicate, List.countP_replicate, if_neg (by decide +kernel)]
  show [((Sum.inr a.2.2.z : Key), V.int ((cntN (List.replicate m ("aa" : Str)) a.2.2.z : Nat) : Int)), (Sum.inr b.2.2.z, V.int ((cntN (List.replicate m ("aa" : Str)) b.2.2.z : Nat) : Int))] = _
  rw [ea, eb]
  show [((Sum.inr ("aa" : Str) : Key), V.int ((cntN (List.replicate m ("aa" : Str)) "aa" : Nat) : Int)), (Sum.inr ("b" : Str), V.int ((cntN (List.replicate m ("aa" : Str)) "b" : Nat) : Int))] = _
  rw [c1, c2]
  rfl
theorem sc_law : FnScope ["_law_script", "_law_draw", "_law_size", "_law_spec", "_law_many", "_law_opened", "_law_rest", "_law_places", "_law_program", "_law_stays", "_law_slots", "_law_looks", "_law_outcome", "_law_bad"] ["_law_script"] (defScope s_law) := ⟨rfl, rfl, rfl, by decide +kernel, rfl, by decide +kernel, by decide +kernel⟩
-- slots: 0 _law_script, 1 _law_draw, 2 _law_size, 3 _law_spec, 4 _law_many, 5 _law_opened, 6 _law_rest, 7 _law_places, 8 _law_program, 9 _law_stays, 10 _law_slots, 11 _law_looks, 12 _law_outcome, 13 _law_bad
theorem ok_law {fd : FuncData} (F : FnD K ("law", none) "law" "law" s_law fd) (T : VTxt K mg) (O_law_cell : OkF P w K mg base CX0 1 "_law_cell" ["_law_script", "_law_k"] (Vf.spCell K)) (O_law_take : OkF P w K mg base CX0 1 "_law_take" ["_law_draw", "_law_size"] spTake) (O_law_is_integer : OkF P w K mg base CX0 1 "_law_is_integer" ["_law_value"] spIsInt)
    (O_law_told : OkF P w K mg base CX0 8 "_law_told" ["_law_program", "_law_sampler", "_law_stays", "_law_looks"] (spTold K)) (O_law_profile_fits : OkF P w K mg base CX0 11 "_law_profile_fits" ["_law_program", "_law_size", "_law_spec", "_law_many", "_law_opened"] (spFit K))
    (O_Place_init3k : OkK P w K mg base (L2.CX P w) 4 ("Place", some "__init__") ["self", "name", "least", "most", "let"] 4 ["let"] (fun vs zs => vs ++ zs) (spPlI K)) (O_Program_init2k : OkK P w K mg base (L2.CX P w) 5 ("Program", some "__init__") ["self", "places", "nexts", "start"] 3 ["start"] (fun vs zs => vs ++ zs) (spPgI K))
    (O_Sampler_init1 : OkK P w K mg base (L2.CX P w) 4 ("Sampler", some "__init__") ["self", "period", "jitter", "phase"] 2 [] (fun vs _ => vs ++ [.int 0, .int 0]) (spSaI K)) : FnOk P w K mg base CX0 12 (He.ga K "law") fd ["_law_script"] (spLaw K) := by
  refine F.ok sc_law (fun vs H Q E h => ?_) fun cdv A outer s H vs Q E hr h => ?_
  · obtain ⟨a, ns, rfl, _⟩ := h
    rfl
  · obtain ⟨a0, ns, rfl, hS, hlen, k⟩ := h
    refine ⟨_, PSs.nox (pss_cons (ps_set (i := 1) sc_law.nd rfl (Or.inl rfl) (pe_lst (pa_cons (c_fn O_law_cell hr (by decide) T.g_law_cell pass0 (pa_cons (pv 0) (pa_cons pe_int pa_nil))) pa_nil)))
  (pss_cons (ps_set (i := 2) sc_law.nd rfl (Or.inl rfl) (pe_op op_add pe_int (c_fn O_law_take hr (by decide) T.g_law_take pass0 (pa_cons (pv 1) (pa_cons pe_int pa_nil)))))
  (pss_cons (ps_set (i := 3) sc_law.nd rfl (Or.inl rfl) (pe_op op_add pe_int (c_fn O_law_take hr (by decide) T.g_law_take pass0 (pa_cons (pv 1) (pa_cons pe_int pa_nil)))))
  (pss_cons (ps_set (i := 4) sc_law.nd rfl (Or.inl rfl) (pe_op op_add pe_int (c_fn O_law_take hr (by decide) T.g_law_take pass0 (pa_cons (pv 1) (pa_cons pe_int pa_nil)))))
  (pss_cons (ps_set (i := 5) sc_law.nd rfl (Or.inl rfl) (pe_cmpR op_eq (c_fn O_law_take hr (by decide) T.g_law_take pass0 (pa_cons (pv 1) (pa_cons pe_int pa_nil))) pe_int (nomark _)))
  (pss_cons (ps_set (i := 6) sc_law.nd rfl (Or.inl rfl) (pe_op op_mod (pe_callTy call_int1 (by rfl) T.z_int (by decide +kernel) (pa_cons (pv 4) pa_nil)) (pv 2)))
  (pss_cons (ps_set (i := 7) sc_law.nd rfl (Or.inl rfl) (pe_lst (pa_cons (c_mkK T.m_Place O_Place_init3k hr (by decide) T.g_Place passL (pa_cons pe_str (pa_cons (pv 2) (pa_cons pe_int pa_nil))) (pk_cons (pv 5) pk_nil)) (pa_cons (c_mkK T.m_Place O_Place_init3k hr (by decide) T.g_Place passL (pa_cons pe_str (pa_cons pe_int (pa_cons pe_int pa_nil))) (pk_cons pe_bl pk_nil)) pa_nil))))
  (pss_cons (ps_set (i := 8) sc_law.nd rfl (Or.inl rfl) (c_mkK T.m_Program O_Program_init2k hr (by decide) T.g_Program passL (pa_cons (pv 7) (pa_cons (pe_disp (pps_cons pe_str (pe_tup (pa_cons pe_str (pa_cons pe_str pa_nil))) (pps_cons pe_str (pe_tup (pa_cons pe_str pa_nil)) pps_nil)) rfl rfl (List.cons_ne_nil _ _) (by decide)) pa_nil)) (pk_cons pe_str pk_nil)))
  (pss_cons (ps_set (i := 9) sc_law.nd rfl (Or.inl rfl) (pe_op op_rep (pe_lst (pa_cons (pe_tup (pa_cons pe_str (pa_cons (pv 2) pa_nil))) pa_nil)) (pe_op op_fdiv (pv 4) (pv 2))))
  (C8.pss_cut (ps_if (pt_cmpR op_gt (pv 6) pe_int (nomark _)) (pss_one (ps_expr (pe_bm PySem.F.plainAttrs_list PySem.F.slot_list_append PySem.F.type_list_append mt_append (pv 9) (pa_cons (pe_tup (pa_cons pe_str (pa_cons (pv 6) pa_nil))) pa_nil))))
  pss_nil)
  (pss_cons (ps_set (i := 10) sc_law.nd rfl (Or.inl rfl) (pe_op op_add (pe_op op_fdiv (pe_op op_sub (pv 4) pe_int) (pv 3)) pe_int))
  (pss_cons (ps_set (i := 11) sc_law.nd rfl (Or.inl rfl) (pe_op op_rep (pe_lst (pa_cons pe_int pa_nil)) (pv 10)))
  (pss_cons (ps_set (i := 12) sc_law.nd rfl (Or.inl rfl) (c_fn O_law_told hr (by decide) T.g_law_told pass0 (pa_cons (pv 8) (pa_cons (c_mkK T.m_Sampler O_Sampler_init1 hr (by decide) T.g_Sampler passL (pa_cons (pv 3) pa_nil) pk_nil) (pa_cons (pv 9) (pa_cons (pv 11) pa_nil))))))
  (pss_cons (ps_set (i := 13) sc_law.nd rfl (Or.inl rfl) (pe_op op_cat (pe_op op_rep (pe_lst (pa_cons pe_int pa_nil)) (pe_op op_sub (pv 10) pe_int)) (pe_lst (pa_cons pe_bl pa_nil))))
  (pss_cons (ps_if (pt_cmpR (op_neD hr.units) (c_fn O_law_told hr (by decide) T.g_law_told pass0 (pa_cons (pv 8) (pa_cons (c_mkK T.m_Sampler O_Sampler_init1 hr (by decide) T.g_Sampler passL (pa_cons (pv 3) pa_nil) pk_nil) (pa_cons (pv 9) (pa_cons (pv 13) pa_nil))))) (pe_tup (pa_cons pe_str (pa_cons (pe_op op_sub (pv 10) pe_int) pa_nil))) (nomark _)) (pss_one (ps_ret pe_bl))
  pss_nil)
  (pss_cons (ps_if (pt_not (pt_val (c_fn O_law_profile_fits hr (by decide) T.g_law_profile_fits pass0 (pa_cons (pv 8) (pa_cons (pv 2) (pa_cons (pv 3) (pa_cons (pv 4) (pa_cons (pv 5) pa_nil)))))))) (pss_one (ps_ret pe_bl))
  pss_nil)
  (pss_cons (ps_if (pt_cmpR op_gt (pv 4) pe_int (nomark _)) (pss_one (ps_ret (pe_cmpR (op_eqTD hr) (pv 12) (pe_tup (pa_cons pe_str (pa_cons pe_bl (pa_cons pe_bl pa_nil)))) (nomark _))))
  pss_nil)
  (pss_cons (ps_if (PW.pt (pw_orB (pt_cmpR op_ne (pe_ix ix_tup (pv 12) pe_int (fun _ _ => rfl)) pe_str (nomark _)) (pw_orB (pt_not (pt_val (c_fn O_law_is_integer hr (by decide) T.g_law_is_integer pass0 (pa_cons (pe_ix ix_tup (pv 12) pe_int (fun _ _ => rfl)) pa_nil)))) (pw_or1 (pt_not (pt_val (pe_callB (id := "isinstance") call_isi (by rfl) T.z_isinstance (by decide +kernel) (pa_cons (pe_ix ix_tup (pv 12) pe_int (fun _ _ => rfl)) (pa_cons (pe_ty (n := "bool") T.z_bool (by decide +kernel)) pa_nil))))))))) (pss_one (ps_ret pe_bl))
  pss_nil)
  (pss_cons (ps_if (pt_val (pv 5)) (pss_one (ps_ret (pe_cmpR (op_eqTD hr) (pv 12) (pe_tup (pa_cons pe_str (pa_cons (pv 4) (pa_cons (pe_disp (pps_cons pe_str (pv 4) (pps_cons pe_str pe_int pps_nil)) rfl rfl (List.cons_ne_nil _ _) (by decide)) (pa_cons (pv 10) (pa_cons pe_int (pa_cons pe_bl pa_nil))))))) (nomark _))))
  pss_nil)
  (pss_one (ps_ret (pe_cmpR (op_eqTD hr) (pv 12) (pe_tup (pa_cons pe_str (pa_cons (pv 4) (pa_cons (pe_disp (pps_cons pe_str (pv 4) (pps_cons pe_str pe_int pps_nil)) rfl rfl (List.cons_ne_nil _ _) (by decide)) (pa_cons pe_int (pa_cons (pe_op op_sub (pv 10) pe_int) (pa_cons pe_bl pa_nil))))))) (nomark _))))))))))))))))))))))), ?_⟩
    have big : 10000000 ≤ sizeLine := by decide
    refine ⟨_, rfl, a0, ns, 0, rfl, hS, by decide, fun n0 => ⟨(by show 1 ≤ sizeLine; decide), fun d nd => ?_⟩⟩
    have s1 := same_new (o := .lst [.int n0]) nd
    have hd1 := upd_same (H := H) (a := d) (o := .lst [.int n0])
    generalize upd H d (.lst [.int n0]) = H1 at s1 hd1 ⊢
    refine ⟨_, rfl, d, n0, 6, rfl, hd1, by decide, by decide, fun v1 m2 v10 v11 => ⟨1, v1, rfl, rfl, ?_⟩⟩
    have s2 : Same H (upd H1 d (.lst [.int m2])) := same_x2 s1 SameX.upd nd
    have hd2 := upd_same (H := H1) (a := d) (o := .lst [.int m2])
    generalize upd H1 d (.lst [.int m2]) = H2 at s2 hd2 ⊢
    refine ⟨_, rfl, d, m2, 8, rfl, hd2, by decide, by decide, fun v2 m3 v20 v21 => ⟨1, v2, rfl, rfl, ?_⟩⟩
    have s3 : Same H (upd H2 d (.lst [.int m3])) := same_x2 s2 SameX.upd nd
    have hd3 := upd_same (H := H2) (a := d) (o := .lst [.int m3])
    generalize upd H2 d (.lst [.int m3]) = H3 at s3 hd3 ⊢
    refine ⟨_, rfl, d, m3, 31, rfl, hd3, by decide, by decide, fun v3 m4 v30 v31 => ⟨1985, v3, rfl, rfl, ?_⟩⟩
    have s4 : Same H (upd H3 d (.lst [.int m4])) := same_x2 s3 SameX.upd nd
    have hd4 := upd_same (H := H3) (a := d) (o := .lst [.int m4])
    generalize upd H3 d (.lst [.int m4]) = H4 at s4 hd4 ⊢
    refine ⟨_, rfl, d, m4, 2, rfl, hd4, by decide, by decide, fun v4 m5 v40 v41 => ⟨rfl, ?_⟩⟩
    have s5 : Same H (upd H4 d (.lst [.int m5])) := same_x2 s4 SameX.upd nd
    generalize upd H4 d (.lst [.int m5]) = H5 at s5 ⊢
    clear s1 s2 s3 s4 hd1 hd2 hd3 hd4 H1 H2 H3 H4 m2 m3 m4 m5 n0
    show tSeq _ _ _ [some (.ref a0), some (.ref d), some (.int (1 + v1)), some (.int (1 + v2)), some (.int (1985 + v3)), some (.bl (decide (V.int v4 = .int 1))), none, none, none, none, none, none, none, none] H5
    obtain ⟨sz, esz⟩ : ∃ z : Nat, 1 + v1 = (z : Int) := ⟨(1 + v1).toNat, by omega⟩
    obtain ⟨n, en⟩ : ∃ z : Nat, 1 + v2 = (z : Int) := ⟨(1 + v2).toNat, by omega⟩
    obtain ⟨m, em⟩ : ∃ z : Nat, 1985 + v3 = (z : Int) := ⟨(1985 + v3).toNat, by omega⟩
    obtain ⟨op, eop⟩ : ∃ b : Bool, decide (V.int v4 = .int 1) = b := ⟨_, rfl⟩
    rw [esz, en, em, eop]
    have z1 : 1 ≤ sz := by omega
    have z6 : sz ≤ 6 := by omega
    have n1 : 1 ≤ n := by omega
    have n8 : n ≤ 8 := by omega
    have m1 : 1985 ≤ m := by omega
    have m2 : m ≤ 2015 := by omega
    clear esz en em eop v10 v11 v20 v21 v30 v31 v40 v41 v1 v2 v3 v4
    refine ⟨_, rfl, .inl ⟨_, rfl, _, rfl, (m : Int), (sz : Int), rfl, rfl, by omega, ?_⟩⟩
    show tSeq _ _ _ [some (.ref a0), some (.ref d), some (.int (sz : Int)), some (.int (n : Int)), some (.int (m : Int)), some (.bl op), some (.int ((m % sz : Nat) : Int)), none, none, none, none, none, none, none] H5
    -- the places
    refine ⟨_, rfl, _, rfl, rfl, rfl, fun q1 dx1 nq1 nd1 ne1 => ?_⟩
    have sM1 := same_make (o1 := .own q1) (o2 := .ins (CP K) dx1 []) nq1 nd1
    refine ⟨q1, dx1, .str "aa", .int (sz : Int), .int 6, _, rfl, upd_same, .inr ⟨"aa", (sz : Int), 6, op, ⟨rfl, by decide +kernel, by decide +kernel, rfl, by omega, by omega, by omega, .inl rfl, rfl⟩, fun H6 s6 => ⟨rfl, ?_⟩⟩⟩
    have sP1 := same_app (o := .ins (CP K) dx1 (plf "aa" (sz : Int) 6 op)) sM1 s6 nq1
    have hP1 : PlA (CP K) (upd H6 q1 (.ins (CP K) dx1 (plf "aa" (sz : Int) 6 op))) q1 "aa" (sz : Int) 6 op := ⟨dx1, upd_same⟩
    generalize upd H6 q1 (.ins (CP K) dx1 (plf "aa" (sz : Int) 6 op)) = H7 at sP1 hP1 ⊢
    replace sP1 := s5.trans sP1
    refine ⟨rfl, rfl, fun q2 dx2 nq2 nd2 ne2 => ?_⟩
    have sM2 := same_make (o1 := .own q2) (o2 := .ins (CP K) dx2 []) nq2 nd2
    refine ⟨q2, dx2, .str "b", .int 1, .int 6, _, rfl, upd_same, .inr ⟨"b", 1, 6, true, ⟨rfl, by decide +kernel, by decide +kernel, rfl, by decide, by decide, by decide, .inl rfl, rfl⟩, fun H8 s8 => ⟨rfl, ?_⟩⟩⟩
    have sP2 := same_app (o := .ins (CP K) dx2 (plf "b" 1 6 true)) sM2 s8 nq2
    have hP2 : PlA (CP K) (upd H8 q2 (.ins (CP K) dx2 (plf "b" 1 6 true))) q2 "b" 1 6 true := ⟨dx2, upd_same⟩
    have hP1b := hP1.ext sP2
    generalize upd H8 q2 (.ins (CP K) dx2 (plf "b" 1 6 true)) = H9 at sP2 hP2 hP1b ⊢
    replace sP2 := sP1.trans sP2
    refine ⟨(by show 2 ≤ sizeLine; decide), fun PL nPL => ?_⟩
    have sL := same_new (o := .lst [.ref q1, .ref q2]) nPL
    have hPL := upd_same (H := H9) (a := PL) (o := .lst [.ref q1, .ref q2])
    have hP1c := hP1b.ext sL
    have hP2c := hP2.ext sL
    replace sL := sP2.trans sL
    generalize upd H9 PL (.lst [.ref q1, .ref q2]) = HL at sL hPL hP1c hP2c ⊢
    clear sP1 sP2 sM1 sM2 hP1 hP2 hP1b nq1 nd1 ne1 nq2 nd2 ne2 s6 s8 nPL
    -- the program
    refine ⟨_, rfl, fun N nN => ⟨(by show 2 ≤ sizeLine; decide), fun t1 nt1 => ⟨(by show 1 ≤ sizeLine; decide), fun t2 nt2 => ?_⟩⟩⟩
    have nN0 := none_of sL nN
    have sN := same_new (o := .dK []) nN
    have hN := upd_same (H := HL) (a := N) (o := .dK [])
    have hPLn := sN _ _ hPL
    have hP1n := hP1c.ext sN
    have hP2n := hP2c.ext sN
    replace sN := sL.trans sN
    generalize upd HL N (.dK []) = HN at sN hN hPLn hP1n hP2n nt1 nt2 ⊢
    have st1 := same_new (o := .tup [.str "aa", .str "b"]) nt1
    have ht1 := upd_same (H := HN) (a := t1) (o := .tup [.str "aa", .str "b"])
    have sN1 := st1 _ _ hN
    have hPL1 := st1 _ _ hPLn
    have hP11 := hP1n.ext st1
    have hP21 := hP2n.ext st1
    replace st1 := sN.trans st1
    generalize upd HN t1 (.tup [.str "aa", .str "b"]) = HT at st1 ht1 sN1 hPL1 hP11 hP21 nt2 ⊢
    have st2 := same_new (o := .tup [.str "b"]) nt2
    have ht2 := upd_same (H := HT) (a := t2) (o := .tup [.str "b"])
    have ht12 := st2 _ _ ht1
    have sN2 := st2 _ _ sN1
    have hPL2 := st2 _ _ hPL1
    have hP12 := hP11.ext st2
    have hP22 := hP21.ext st2
    replace st2 := st1.trans st2
    generalize upd HT t2 (.tup [.str "b"]) = HU at st2 ht2 ht12 sN2 hPL2 hP12 hP22 ⊢
    clear sN hN hPLn hP1n hP2n nt1 nt2 st1 ht1 sN1 hPL1 hP11 hP21 sL hPL hP1c hP2c HT HN HL nN
    refine ⟨sN2, [((Sum.inr ("aa" : Str) : Key), V.ref t1), (Sum.inr ("b" : Str), V.ref t2)], rfl, by show 2 ≤ 15; decide, ?_⟩
    have emg : mergeK [] [((Sum.inr ("aa" : Str) : Key), V.ref t1), (Sum.inr ("b" : Str), V.ref t2)] = [((Sum.inr ("aa" : Str) : Key), V.ref t1), (Sum.inr ("b" : Str), V.ref t2)] := by
      have hab : ¬ ((Sum.inr ("aa" : Str) : Key) = Sum.inr ("b" : Str)) := by decide +kernel
      have e1 : valV [] (Sum.inr ("aa" : Str) : Key) = none := rfl
      have e2 : valV [((Sum.inr ("aa" : Str) : Key), V.ref t1)] (Sum.inr ("b" : Str) : Key) = none := by
        rw [valV_neg hab]
        rfl
      show putK (putK [] (Sum.inr ("aa" : Str) : Key) (.ref t1)) (Sum.inr ("b" : Str) : Key) (.ref t2) = _
      rw [putK_new _ e1, List.nil_append, putK_new _ e2]
      rfl
    rw [emg]
    have ne : ∀ {b : Addr} {o : HO}, HU b = some o → o ≠ .dK [] → b ≠ N := fun hb ho => ne_of hb sN2 ho
    have hNV := upd_same (H := HU) (a := N) (o := .dK [((Sum.inr ("aa" : Str) : Key), V.ref t1), (Sum.inr ("b" : Str), V.ref t2)])
    have keep : ∀ {b : Addr} {o : HO}, HU b = some o → o ≠ .dK [] → (upd HU N (.dK [((Sum.inr ("aa" : Str) : Key), V.ref t1), (Sum.inr ("b" : Str), V.ref t2)])) b = some o := fun {b o} hb ho => by rw [upd_ne (ne hb ho)]; exact hb
    have kT1 := keep ht12 (fun z => nomatch z)
    have kT2 := keep ht2 (fun z => nomatch z)
    have kPL := keep hPL2 (fun z => nomatch z)
    have kP1 : PlA (CP K) (upd HU N (.dK [((Sum.inr ("aa" : Str) : Key), V.ref t1), (Sum.inr ("b" : Str), V.ref t2)])) q1 "aa" (sz : Int) 6 op := by
      obtain ⟨d0, e⟩ := hP12
      exact ⟨d0, keep e (fun z => nomatch z)⟩
    have kP2 : PlA (CP K) (upd HU N (.dK [((Sum.inr ("aa" : Str) : Key), V.ref t1), (Sum.inr ("b" : Str), V.ref t2)])) q2 "b" 1 6 true := by
      obtain ⟨d0, e⟩ := hP22
      exact ⟨d0, keep e (fun z => nomatch z)⟩
    have sV : Same H (upd HU N (.dK [((Sum.inr ("aa" : Str) : Key), V.ref t1), (Sum.inr ("b" : Str), V.ref t2)])) := same_x2 st2 SameX.upd nN0
    generalize upd HU N (.dK [((Sum.inr ("aa" : Str) : Key), V.ref t1), (Sum.inr ("b" : Str), V.ref t2)]) = HV at hNV kT1 kT2 kPL kP1 kP2 sV ⊢
    clear keep ne emg nN0 hP12 hP22 hPL2 ht12 ht2 sN2 st2 HU
    have hzs : zsOf [(q1, t1, rA sz op), (q2, t2, rB)] = [("aa" : Str), "b"] := rfl
    have hPO : PartsOk K HV .lst PL N [(q1, t1, rA sz op), (q2, t2, rB)] := by
      have mem : ∀ {P : PgE → Prop}, P (q1, t1, rA sz op) → P (q2, t2, rB) → ∀ x ∈ [(q1, t1, rA sz op), (q2, t2, rB)], P x := fun {P} a b x hx => by
        rcases List.mem_cons.mp hx with rfl | hx
        · exact a
        · rw [List.mem_singleton.mp hx]
          exact b
      have ndab : ([("aa" : Str), "b"] : List Str).Nodup := by decide +kernel
      have hab : ¬ ((Sum.inr ("aa" : Str) : Key) = Sum.inr ("b" : Str)) := by decide +kernel
      refine ⟨kPL, mem kP1 kP2, ⟨_, hNV, rfl, mem (valV_pos rfl) ?_⟩, mem ⟨kT1, ?_, ndab, by show 2 ≤ 1000; decide⟩ ⟨kT2, ?_, by show ([("b" : Str)] : List Str).Nodup; simp, by show 1 ≤ 1000; decide⟩, ndab, by show 1 ≤ 2; decide, by show 2 ≤ 6; decide, ?_, .inl rfl⟩
      · show valV [((Sum.inr ("aa" : Str) : Key), V.ref t1), (Sum.inr ("b" : Str), V.ref t2)] (Sum.inr ("b" : Str)) = some (.ref t2)
        rw [valV_neg hab]
        exact valV_pos rfl
      · rw [hzs]
        exact fun y hy => hy
      · rw [hzs]
        intro y hy
        have : y = "b" := List.mem_singleton.mp hy
        rw [this]
        simp
      · rw [hzs]
        decide +kernel
    have h2 : Two [(q1, t1, rA sz op), (q2, t2, rB)] sz op := ⟨rfl⟩
    generalize [(q1, t1, rA sz op), (q2, t2, rB)] = xs at hPO h2 hzs
    refine ⟨rfl, rfl, fun g dxg ng ndg nge => ?_⟩
    have sG := same_make (o1 := .own g) (o2 := .ins (CG K) dxg []) ng ndg
    have ng0 := none_of sV ng
    refine ⟨g, dxg, PL, N, .lst, xs, .str "aa", "aa", rfl, upd_same, hPO.ext sG, by rw [hzs]; exact List.mem_cons_self, .inl rfl, fun HG dx9 tn dP dN x9 hpg _ _ => ⟨rfl, ?_⟩⟩
    have sHG : Same H HG := fun b o e => x9 b o (ne_of_none e ng0) (sG b o (sV b o e))
    clear x9 sG hPO hNV kT1 kT2 kPL kP1 kP2 sV ng ndg nge ng0 nd s5
    -- the stays
    refine ⟨_, rfl, (by show 2 ≤ sizeLine; decide), fun ta nta => ?_⟩
    have s1 := same_new (o := .tup [.str "aa", .int (sz : Int)]) nta
    have hta := upd_same (H := HG) (a := ta) (o := .tup [.str "aa", .int (sz : Int)])
    generalize upd HG ta (.tup [.str "aa", .int (sz : Int)]) = H1 at s1 hta ⊢
    refine ⟨(by show 1 ≤ sizeLine; decide), fun l nl => ?_⟩
    have s2 := same_new (o := .lst [.ref ta]) nl
    have hl := upd_same (H := H1) (a := l) (o := .lst [.ref ta])
    have hta2 := s2 _ _ hta
    replace s2 := s1.trans s2
    generalize upd H1 l (.lst [.ref ta]) = H2 at s2 hl hta2 ⊢
    have hdl := Nat.div_le_self m sz
    refine ⟨_, rfl, _, rfl, (m : Int), (sz : Int), rfl, rfl, ⟨by omega, by omega⟩, ?_⟩
    refine ⟨l, ((m / sz : Nat) : Int), [.ref ta], rfl, rfl, hl, by have h0 : (0 : Int) ≤ ((m / sz : Nat) : Int) := Int.natCast_nonneg _; omega, by have h0 : ((m / sz : Nat) : Int) ≤ (m : Int) := Int.ofNat_le.mpr hdl; omega, by rw [Int.toNat_natCast, List.length_singleton]; omega, fun ST nST => ?_⟩
    have erep : (List.replicate (((m / sz : Nat) : Int)).toNat [V.ref ta]).flatten = List.replicate (m / sz) (V.ref ta) := by rw [Int.toNat_natCast, rep_one]
    rw [erep]
    have s3 := same_new (o := .lst (List.replicate (m / sz) (V.ref ta))) nST
    have hST := upd_same (H := H2) (a := ST) (o := .lst (List.replicate (m / sz) (V.ref ta)))
    have nST0 := none_of s2 nST
    have hta3 := s3 _ _ hta2
    replace s3 := s2.trans s3
    generalize upd H2 ST (.lst (List.replicate (m / sz) (V.ref ta))) = H3 at s3 hST hta3 ⊢
    clear erep s2 hl hta2 s1 hta nST nl nta
    show C8.tCut _ _ _ [some (.ref a0), some (.ref d), some (.int (sz : Int)), some (.int (n : Int)), some (.int (m : Int)), some (.bl op), some (.int ((m % sz : Nat) : Int)), some (.ref PL), some (.ref g), some (.ref ST), none, none, none, none] H3
    refine ⟨fun σ' H' => Same HG H' ∧ (∃ us, H' ST = some (.lst us) ∧ Paired (StV H') us (dsOf (stsW sz m))) ∧ σ' = [some (.ref a0), some (.ref d), some (.int (sz : Int)), some (.int (n : Int)), some (.int (m : Int)), some (.bl op), some (.int ((m % sz : Nat) : Int)), some (.ref PL), some (.ref g), some (.ref ST), none, none, none, none], ?_, ?_⟩
    · have stv : ∀ {X : Hp} {t : Addr} {q : Nat}, X t = some (.tup [.str "aa", .int (q : Int)]) → StV X (.ref t) (some [.str "aa", .int (q : Int)]) := fun {X t q} h => ⟨t, rfl, h, fun v hv => by
        rcases List.mem_cons.mp hv with rfl | hv
        · exact .str _
        · rw [List.mem_singleton.mp hv]
          exact .int _⟩
      have eds : dsOf (stsW sz m) = List.replicate (m / sz) (some [.str "aa", .int (sz : Int)]) ++ dsOf (if 0 < m % sz then [(("aa" : Str), ((m % sz : Nat) : Int))] else []) := by
        unfold dsOf stsW
        rw [List.map_append, List.map_replicate]
      refine ⟨_, rfl, _, 0, rfl, rfl, _, rfl, ite2 (fun c => ?_) fun c => ?_⟩
      · have hc : 0 < m % sz := by
          have := of_decide_eq_true c
          omega
        rw [if_pos hc] at eds
        refine ⟨_, rfl, .inl ⟨rfl, _, SqL.of hST⟩, _, rfl, (by show 2 ≤ sizeLine; decide), fun tb ntb => ?_⟩
        have s4 := same_new (o := .tup [.str "aa", .int ((m % sz : Nat) : Int)]) ntb
        have htb := upd_same (H := H3) (a := tb) (o := .tup [.str "aa", .int ((m % sz : Nat) : Int)])
        have hST4 := s4 _ _ hST
        have hta4 := s4 _ _ hta3
        replace s4 := s3.trans s4
        generalize upd H3 tb (.tup [.str "aa", .int ((m % sz : Nat) : Int)]) = H4 at s4 htb hST4 hta4 ⊢
        refine ⟨ST, _, _, rfl, rfl, hST4, by rw [List.length_replicate]; omega, same_x2 s4 SameX.upd nST0, ⟨_, upd_same, ?_⟩, rfl⟩
        rw [eds]
        have nta : ta ≠ ST := ne_of hta4 hST4 (fun z => nomatch z)
        have ntb : tb ≠ ST := ne_of htb hST4 (fun z => nomatch z)
        exact paired_app (paired_rep (stv (by rw [upd_ne nta]; exact hta4))) (.cons (stv (by rw [upd_ne ntb]; exact htb)) .nil)
      · have hc : ¬ 0 < m % sz := fun h => c (decide_eq_true (by omega))
        rw [if_neg hc] at eds
        refine ⟨s3, ⟨_, hST, ?_⟩, rfl⟩
        rw [eds]
        have e : dsOf [] = [] := rfl
        rw [e, List.append_nil]
        exact paired_rep (stv hta3)
    clear hST hta3 s3 hdl H3
    rintro σ' H3 ⟨s3, ⟨us, hST, hsts⟩, rfl⟩
    have hpg3 := hpg.ext s3
    have sH3 := sHG.trans s3
    clear s3 hpg sHG
    have hdn := Nat.div_le_self (m - 1) n
    refine ⟨_, rfl, (m : Int), 1, rfl, rfl, _, rfl, (m : Int) - 1, (n : Int), rfl, rfl, ⟨by omega, by omega⟩, _, 1, rfl, rfl, ?_⟩
    have esl : ((m : Int) - 1) / (n : Int) + 1 = (((m - 1) / n + 1 : Nat) : Int) := by
      have e1 : ((m : Int) - 1) = ((m - 1 : Nat) : Int) := by omega
      rw [e1]
      rfl
    show tSeq _ _ _ [some (.ref a0), some (.ref d), some (.int (sz : Int)), some (.int (n : Int)), some (.int (m : Int)), some (.bl op), some (.int ((m % sz : Nat) : Int)), some (.ref PL), some (.ref g), some (.ref ST), some (.int (((m : Int) - 1) / (n : Int) + 1)), none, none, none] H3
    rw [esl]
    refine ⟨(by show 1 ≤ sizeLine; decide), fun l2 nl2 => ?_⟩
    have s4 := same_new (o := .lst [.int 0]) nl2
    have hl2 := upd_same (H := H3) (a := l2) (o := .lst [.int 0])
    generalize upd H3 l2 (.lst [.int 0]) = H4 at s4 hl2 ⊢
    have hc0 : (0 : Int) ≤ (((m - 1) / n + 1 : Nat) : Int) := Int.natCast_nonneg _
    have hc1 : (((m - 1) / n + 1 : Nat) : Int) ≤ 2016 := by
      have hd2 : (m - 1) / n + 1 ≤ 2016 := by omega
      generalize (m - 1) / n + 1 = c at hd2 ⊢
      omega
    refine ⟨_, rfl, l2, (((m - 1) / n + 1 : Nat) : Int), [.int 0], rfl, rfl, hl2, Int.le_trans (by decide) hc0, Int.lt_of_le_of_lt hc1 (by decide), by rw [Int.toNat_natCast, List.length_singleton]; omega, fun LK nLK => ?_⟩
    have erep2 : (List.replicate ((((m - 1) / n + 1 : Nat) : Int)).toNat [V.int 0]).flatten = (lksW n m).map lkV := by
      rw [Int.toNat_natCast, rep_one]
      unfold lksW
      rw [List.map_replicate]
      rfl
    rw [erep2]
    have s5 := same_new (o := .lst ((lksW n m).map lkV)) nLK
    have hLK := upd_same (H := H4) (a := LK) (o := .lst ((lksW n m).map lkV))
    replace s5 := s4.trans s5
    generalize upd H4 LK (.lst ((lksW n m).map lkV)) = H5 at s5 hLK ⊢
    clear erep2 s4 hl2 nl2 nLK
    have hPh : PhOk (.int 0) (n : Int) := .inr ⟨0, rfl, Int.le_refl _, by omega⟩
    refine ⟨_, rfl, _, rfl, rfl, rfl, fun p dxp np ndp npe => ?_⟩
    have sM := same_make2 (o1 := .own p) (o2 := .ins (CS K) dxp []) (o3 := .ins (CS K) dxp (saf (n : Int) 0 (.int 0))) np ndp
    have hSa : SaA (CS K) (upd (upd (upd H5 dxp (.own p)) p (.ins (CS K) dxp [])) p (.ins (CS K) dxp (saf (n : Int) 0 (.int 0)))) p (n : Int) 0 (.int 0) := ⟨dxp, upd_same⟩
    refine ⟨p, dxp, .int (n : Int), .int 0, .int 0, rfl, upd_same, .inr ⟨(n : Int), 0, ⟨rfl, by omega, by omega, rfl, Int.le_refl _, by omega, hPh⟩, rfl, ?_⟩⟩
    generalize upd (upd (upd H5 dxp (.own p)) p (.ins (CS K) dxp [])) p (.ins (CS K) dxp (saf (n : Int) 0 (.int 0))) = H6 at sM hSa ⊢
    refine ⟨_, rfl, _, rfl, ?_⟩
    unfold tNil
    dsimp only [List.nil_append, List.cons_append]
    have s6 := s5.trans sM
    refine told_good (hpg3.ext s6) h2 z1 z6 hSa n1 n8 (by omega) (by omega) (s6 _ _ hST) (paired_imp (fun _ _ q => StV.ext q s6) hsts) (sM _ _ hLK) fun H7 o s7 _ ho => ?_
    have s37 := s6.trans s7
    clear s5 sM hSa s6 s7 np ndp npe hLK
    refine ⟨(by show 1 ≤ sizeLine; decide), fun l3 nl3 => ?_⟩
    have s8 := same_new (o := .lst [.int 0]) nl3
    have hl3 := upd_same (H := H7) (a := l3) (o := .lst [.int 0])
    have s8' := s37.trans s8
    have ho8 := ho.ext s8
    generalize upd H7 l3 (.lst [.int 0]) = H8 at s8' hl3 ho8 ⊢
    have ec1 : ((((m - 1) / n + 1 : Nat) : Int) - 1) = (((m - 1) / n : Nat) : Int) := by
      generalize (m - 1) / n = c
      omega
    have hc2 : (0 : Int) ≤ (((m - 1) / n : Nat) : Int) := Int.natCast_nonneg _
    have hc3 : (((m - 1) / n : Nat) : Int) ≤ 2016 := by
      have hd2 : (m - 1) / n ≤ 2016 := by omega
      generalize (m - 1) / n = c at hd2 ⊢
      omega
    refine ⟨_, rfl, (((m - 1) / n + 1 : Nat) : Int), 1, rfl, rfl, l3, (((m - 1) / n : Nat) : Int), [.int 0], rfl, congrArg V.int ec1, hl3, Int.le_trans (by decide) hc2, Int.lt_of_le_of_lt hc3 (by decide), by rw [Int.toNat_natCast, List.length_singleton]; omega, fun r3 nr3 => ?_⟩
    have erep3 : (List.replicate ((((m - 1) / n : Nat) : Int)).toNat [V.int 0]).flatten = List.replicate ((m - 1) / n) (V.int 0) := by rw [Int.toNat_natCast, rep_one]
    rw [erep3]
    have s9 := same_new (o := .lst (List.replicate ((m - 1) / n) (V.int 0))) nr3
    have hr3 := upd_same (H := H8) (a := r3) (o := .lst (List.replicate ((m - 1) / n) (V.int 0)))
    have s9' := s8'.trans s9
    have ho9 := ho8.ext s9
    generalize upd H8 r3 (.lst (List.replicate ((m - 1) / n) (V.int 0))) = H9 at s9' hr3 ho9 ⊢
    refine ⟨(by show 1 ≤ sizeLine; decide), fun l4 nl4 => ?_⟩
    have sA := same_new (o := .lst [.bl true]) nl4
    have hl4 := upd_same (H := H9) (a := l4) (o := .lst [.bl true])
    have hr3A := sA _ _ hr3
    have sA' := s9'.trans sA
    have hoA := ho9.ext sA
    generalize upd H9 l4 (.lst [.bl true]) = HA at sA' hl4 hr3A hoA ⊢
    refine ⟨r3, l4, _, _, rfl, rfl, hr3A, hl4, by rw [List.length_replicate]; show _ + 1 ≤ _; omega, fun BD nBD => ?_⟩
    have sB := same_new (o := .lst (badW n m)) nBD
    have hBD := upd_same (H := HA) (a := BD) (o := .lst (badW n m))
    have sB' := sA'.trans sB
    have hoB := hoA.ext sB
    show gName _ _ _ (upd HA BD (.lst (badW n m))) _
    generalize upd HA BD (.lst (badW n m)) = HB at sB' hBD hoB ⊢
    clear sB sA hr3A hl4 nBD nl4 s9' hr3 ho9 hoA sA' s9 erep3 nr3 s8' s8 hl3 ho8 nl3 ho s37
    show tSeq _ _ _ [some (.ref a0), some (.ref d), some (.int (sz : Int)), some (.int (n : Int)), some (.int (m : Int)), some (.bl op), some (.int ((m % sz : Nat) : Int)), some (.ref PL), some (.ref g), some (.ref ST), some (.int (((m - 1) / n + 1 : Nat) : Int)), some (.ref LK), some (.ref o), some (.ref BD)] HB
    have hpgB := hpg3.ext sB'
    have sHB := sH3.trans sB'
    have hSTB := sB' _ _ hST
    have hstsB := paired_imp (fun _ _ q => StV.ext q sB') hsts
    clear hpg3 sB' hST hsts H9 HA H8 l4 r3 l3
    refine ⟨_, rfl, _, rfl, rfl, rfl, fun p2 dxp2 np2 ndp2 npe2 => ?_⟩
    have sM2 := same_make2 (o1 := .own p2) (o2 := .ins (CS K) dxp2 []) (o3 := .ins (CS K) dxp2 (saf (n : Int) 0 (.int 0))) np2 ndp2
    have hSa2 : SaA (CS K) (upd (upd (upd HB dxp2 (.own p2)) p2 (.ins (CS K) dxp2 [])) p2 (.ins (CS K) dxp2 (saf (n : Int) 0 (.int 0)))) p2 (n : Int) 0 (.int 0) := ⟨dxp2, upd_same⟩
    refine ⟨p2, dxp2, .int (n : Int), .int 0, .int 0, rfl, upd_same, .inr ⟨(n : Int), 0, ⟨rfl, by omega, by omega, rfl, Int.le_refl _, by omega, hPh⟩, rfl, ?_⟩⟩
    generalize upd (upd (upd HB dxp2 (.own p2)) p2 (.ins (CS K) dxp2 [])) p2 (.ins (CS K) dxp2 (saf (n : Int) 0 (.int 0))) = HC at sM2 hSa2 ⊢
    refine ⟨_, rfl, _, rfl, ?_⟩
    dsimp only [List.nil_append, List.cons_append]
    refine told_bad (hpgB.ext sM2) h2 z1 z6 hSa2 n1 n8 (by omega) (by omega) (sM2 _ _ hSTB) (paired_imp (fun _ _ q => StV.ext q sM2) hstsB) (sM2 _ _ hBD) fun HD b sD hb => ?_
    have sBD := sM2.trans sD
    rw [← ec1] at hb
    refine ⟨_, rfl, (((m - 1) / n + 1 : Nat) : Int), 1, rfl, rfl, (by show 2 ≤ sizeLine; decide), fun u nu => ?_⟩
    have su := same_new (o := .tup [.str "look", .int ((((m - 1) / n + 1 : Nat) : Int) - 1)]) nu
    have shl : ∀ x : Int, SeqAt.shaped (.tuple [.str "look", .int x]) = true := fun x => by
      have h2 : PyData.strOk "look" = true := by decide +kernel
      unfold SeqAt.shaped
      rw [Bool.and_eq_true]
      refine ⟨by simp [PyData.canLay0, PyData.canLayAll0, h2], decide_eq_true ?_⟩
      simp only [PyData.depth, PyData.depthAll]
      omega
    refine ⟨_, _, .tup (SqT.of (su _ _ hb)) (.cons (.str _) (.cons (.int _) .nil)), .tup (SqT.of upd_same) (.cons (.str _) (.cons (.int _) .nil)), shl _, shl _, _, rfl, ?_⟩
    rw [SeqAt.eqv_refl _ (SeqAt.canLay_of_shaped (shl _))]
    have sE := sBD.trans su
    have hoE := hoB.ext sE
    have hpgE := hpgB.ext sE
    generalize upd HD u (.tup [.str "look", .int ((((m - 1) / n + 1 : Nat) : Int) - 1)]) = HE at sE hoE hpgE ⊢
    clear su sBD sD hb sM2 hSa2 np2 ndp2 npe2 hBD hoB hpgB hSTB hstsB nu
    refine iteF ⟨_, rfl, _, rfl, _, rfl, _, rfl, _, rfl, g, sz, n, m, op, xs, dx9, tn, dP, dN, rfl, hpgE, n1, n8, h2, z1, z6, by omega, by omega, fun HF sF => ⟨_, rfl, ?_⟩⟩
    have hoF := hoE.ext sF
    clear hoE hpgE sE sF
    refine iteF ⟨_, rfl, (m : Int), 2000, rfl, rfl, _, rfl, ?_⟩
    rcases hoF with ⟨hlong, ho⟩ | ⟨hsh, ti, ho, hti⟩
    · rw [decide_eq_true (show (2000 : Int) < (m : Int) by omega)]
      refine iteT ⟨_, rfl, (by show 3 ≤ sizeLine; decide), fun u nu => ⟨⟨o, u, _, _, rfl, rfl, SqT.of (same_new nu _ _ ho), SqT.of upd_same, ?_⟩, fun H' _ => k _⟩⟩
      exact .cons (.inl ⟨rfl, rfl, by decide +kernel⟩) (.cons (.inl ⟨rfl, rfl, rfl⟩) (.cons (.inl ⟨rfl, rfl, rfl⟩) .nil))
    · rw [decide_eq_false (show ¬ (2000 : Int) < (m : Int) by omega)]
      have hL := rlW_lost (lt := letQ xs) n1 op h2.letA (show 1 ≤ m by omega)
      obtain ⟨hN, hW⟩ := rlW_run (lt := letQ xs) n1 op h2.letA m
      have hcz : czW n m = (m - 1) / n + 1 := by
        have := czW_eq n1 (m - 1)
        rw [show m - 1 + 1 = m by omega] at this
        exact this
      rw [hN, hL, hW, hcz] at ho
      generalize (nRun (letQ xs) (rlW n m)) = nr at *
      refine iteF ⟨_, rfl, o, _, 0, .str "told", rfl, rfl, SqT.of ho, atI0, rfl, _, rfl, false, (· = HF), fun _ => ?_, (fun c => by cases c), fun HG2 e => ?_⟩
      · refine ⟨_, rfl, o, _, 4, .int (if op = true then 0 else (((m - 1) / n + 1 : Nat) : Int) - 1), rfl, rfl, SqT.of ho, atI_nat (j := 4) rfl, .int _, rfl, .inl ⟨⟨_, rfl⟩, _, rfl, false, (· = HF), fun _ => ?_, (fun c => by cases c), fun H2 e => ⟨rfl, e⟩⟩⟩
        exact ⟨_, rfl, o, _, 5, .bl (!op && decide (0 < m)), rfl, rfl, SqT.of ho, atI_nat (j := 5) rfl, .bl (!op && decide (0 < m)), .ty "bool", .type "bool", .type "bool", true, rfl, .ty _, .base (.bl _), kit_ty (by decide +kernel), true, rfl, rfl, rfl⟩
      · subst e
        refine iteF ⟨_, rfl, op, rfl, ?_⟩
        have hkv := kvT_W h2 m
        rw [hkv] at hti
        have emk : mergeK [] [((Sum.inr ("aa" : Str) : Key), V.int (m : Int)), (Sum.inr ("b" : Str), V.int 0)] = [((Sum.inr ("aa" : Str) : Key), V.int (m : Int)), (Sum.inr ("b" : Str), V.int 0)] := by
          have hab : ¬ ((Sum.inr ("aa" : Str) : Key) = Sum.inr ("b" : Str)) := by decide +kernel
          have e1 : valV [] (Sum.inr ("aa" : Str) : Key) = none := rfl
          have e2 : valV [((Sum.inr ("aa" : Str) : Key), V.int (m : Int))] (Sum.inr ("b" : Str) : Key) = none := by
            rw [valV_neg hab]
            rfl
          show putK (putK [] (Sum.inr ("aa" : Str) : Key) (.int (m : Int))) (Sum.inr ("b" : Str) : Key) (.int 0) = _
          rw [putK_new _ e1, List.nil_append, putK_new _ e2]
          rfl
        have dic : ∀ {X : Hp} {N : Addr}, X ti = some (.dK [((Sum.inr ("aa" : Str) : Key), V.int (m : Int)), (Sum.inr ("b" : Str), V.int 0)]) → X N = some (.dK [((Sum.inr ("aa" : Str) : Key), V.int (m : Int)), (Sum.inr ("b" : Str), V.int 0)]) → DFD (.ref ti) (.ref N) X := fun {X N} h h' => .inr ⟨ti, N, _, _, rfl, rfl, h, h', rfl, fun z hz => by
          have hab : ¬ ((Sum.inr ("aa" : Str) : Key) = Sum.inr ("b" : Str)) := by decide +kernel
          rcases List.mem_cons.mp hz with rfl | hz
          · exact ⟨_, valV_pos rfl, rfl, rfl, eqI _⟩
          · rw [List.mem_singleton.mp hz]
            exact ⟨.int 0, by rw [valV_neg hab]; exact valV_pos rfl, rfl, rfl, eqI _⟩⟩
        have told : DFD (.str "told") (.str "told") HG2 := .inl ⟨rfl, rfl, by decide +kernel⟩
        cases op with
        | true =>
          have ho : HG2 o = some (.tup [.str "told", .int (m : Int), .ref ti, .int (((m - 1) / n + 1 : Nat) : Int), .int 0, .bl false]) := ho
          refine iteT ⟨_, rfl, _, rfl, fun N nN => ⟨_, rfl, upd_same, [((Sum.inr ("aa" : Str) : Key), V.int (m : Int)), (Sum.inr ("b" : Str), V.int 0)], rfl, by show 2 ≤ 15; decide, ?_⟩⟩
          rw [emk, upd_upd]
          have sN := same_new (o := .dK [((Sum.inr ("aa" : Str) : Key), V.int (m : Int)), (Sum.inr ("b" : Str), V.int 0)]) nN
          refine ⟨_, rfl, (by show 6 ≤ sizeLine; decide), fun u nu => ⟨⟨o, u, _, _, rfl, rfl, SqT.of (same_new nu _ _ (sN _ _ ho)), SqT.of upd_same, ?_⟩, fun H' _ => k _⟩⟩
          exact .cons (.inl ⟨rfl, rfl, by decide +kernel⟩) (.cons (.inl ⟨rfl, rfl, eqI _⟩) (.cons (dic (same_new nu _ _ (sN _ _ hti)) (same_new nu _ _ upd_same)) (.cons (.inl ⟨rfl, rfl, eqI _⟩) (.cons (.inl ⟨rfl, rfl, eqI _⟩) (.cons (.inl ⟨rfl, rfl, rfl⟩) .nil)))))
        | false =>
          have ho : HG2 o = some (.tup [.str "told", .int (m : Int), .ref ti, .int 0, .int ((((m - 1) / n + 1 : Nat) : Int) - 1), .bl (true && decide (0 < m))]) := ho
          rw [decide_eq_true (show 0 < m by omega)] at ho
          refine iteF ⟨_, rfl, _, rfl, fun N nN => ⟨_, rfl, upd_same, [((Sum.inr ("aa" : Str) : Key), V.int (m : Int)), (Sum.inr ("b" : Str), V.int 0)], rfl, by show 2 ≤ 15; decide, ?_⟩⟩
          rw [emk, upd_upd]
          have sN := same_new (o := .dK [((Sum.inr ("aa" : Str) : Key), V.int (m : Int)), (Sum.inr ("b" : Str), V.int 0)]) nN
          refine ⟨_, rfl, (((m - 1) / n + 1 : Nat) : Int), 1, rfl, rfl, (by show 6 ≤ sizeLine; decide), fun u nu => ⟨⟨o, u, _, _, rfl, rfl, SqT.of (same_new nu _ _ (sN _ _ ho)), SqT.of upd_same, ?_⟩, fun H' _ => k _⟩⟩
          exact .cons (.inl ⟨rfl, rfl, by decide +kernel⟩) (.cons (.inl ⟨rfl, rfl, eqI _⟩) (.cons (dic (same_new nu _ _ (sN _ _ hti)) (same_new nu _ _ upd_same)) (.cons (.inl ⟨rfl, rfl, eqI _⟩) (.cons (.inl ⟨rfl, rfl, eqI _⟩) (.cons (.inl ⟨rfl, rfl, rfl⟩) .nil)))))
end
end K16

set_option Elab.async false
set_option linter.all false
set_option pp.deepTerms.threshold 14
set_option pp.maxSteps 2500
set_option maxRecDepth 100000
set_option maxHeartbeats 2000000
namespace K16
open PySem PySem.Spec PyProof.Rows L2 Vf 
section
variable {P : Program} {w : World} {K : PySem.W.Frag} {mg : Str → Option Value} {base : Heap}
theorem sc_Program_eq : FnScope ["self", "other"] ["self", "other"] (defScope s_Program_eq) := ⟨rfl, rfl, rfl, by decide +kernel, rfl, by decide +kernel, by decide +kernel⟩
-- slots: 0 self, 1 other
theorem sc_BadStay_init : FnScope ["self", "index"] ["self", "index"] (defScope s_BadStay_init) := ⟨rfl, rfl, rfl, by decide +kernel, rfl, by decide +kernel, by decide +kernel⟩
-- slots: 0 self, 1 index
theorem ok_BadStay_init {fd : FuncData} (F : FnD K ("BadStay", some "__init__") "__init__" "BadStay.__init__" s_BadStay_init fd) : OkD P w K mg base CX0 1 ("BadStay", some "__init__") ["self", "index"] [] (spExI K (He.ga K "BadStay") "index") := by
  refine okd F (F.ok sc_BadStay_init (fun vs H Q E h => ?_) fun cdv A outer s H vs Q E hr h => ⟨tOst K "index" (tVar 0) (tVar 1), PSs.nox ?_, run_exI h⟩) fun _ _ _ _ _ _ us hl => match us, hl with | [_, _], _ => rfl
  · obtain ⟨a, v, rfl, _⟩ := h
    rfl
  · exact pss_one (ps_ost (pv 0) (pv 1))
theorem sc_BadPhase_init : FnScope ["self", "phase"] ["self", "phase"] (defScope s_BadPhase_init) := ⟨rfl, rfl, rfl, by decide +kernel, rfl, by decide +kernel, by decide +kernel⟩
-- slots: 0 self, 1 phase
theorem ok_BadPhase_init {fd : FuncData} (F : FnD K ("BadPhase", some "__init__") "__init__" "BadPhase.__init__" s_BadPhase_init fd) : OkD P w K mg base CX0 1 ("BadPhase", some "__init__") ["self", "phase"] [] (spExI K (He.ga K "BadPhase") "phase") := by
  refine okd F (F.ok sc_BadPhase_init (fun vs H Q E h => ?_) fun cdv A outer s H vs Q E hr h => ⟨tOst K "phase" (tVar 0) (tVar 1), PSs.nox ?_, run_exI h⟩) fun _ _ _ _ _ _ us hl => match us, hl with | [_, _], _ => rfl
  · obtain ⟨a, v, rfl, _⟩ := h
    rfl
  · exact pss_one (ps_ost (pv 0) (pv 1))
theorem sc_BadLook_init : FnScope ["self", "index"] ["self", "index"] (defScope s_BadLook_init) := ⟨rfl, rfl, rfl, by decide +kernel, rfl, by decide +kernel, by decide +kernel⟩
-- slots: 0 self, 1 index
theorem ok_BadLook_init {fd : FuncData} (F : FnD K ("BadLook", some "__init__") "__init__" "BadLook.__init__" s_BadLook_init fd) : OkD P w K mg base CX0 1 ("BadLook", some "__init__") ["self", "index"] [] (spExI K (He.ga K "BadLook") "index") := by
  refine okd F (F.ok sc_BadLook_init (fun vs H Q E h => ?_) fun cdv A outer s H vs Q E hr h => ⟨tOst K "index" (tVar 0) (tVar 1), PSs.nox ?_, run_exI h⟩) fun _ _ _ _ _ _ us hl => match us, hl with | [_, _], _ => rfl
  · obtain ⟨a, v, rfl, _⟩ := h
    rfl
  · exact pss_one (ps_ost (pv 0) (pv 1))
end
end K16

set_option Elab.async false
set_option linter.all false
set_option maxRecDepth 100000
set_option maxHeartbeats 4000000
namespace K16
open PySem PySem.Spec PyProof.Rows L2 Vf
section
variable {K : PySem.W.Frag} {h : Heap} {mg : Str → Option Value}
theorem mk_GMeth (X : K.In h) (G : h.Ns mainGlobals mg) (c : ex K = true) : GMeth K := by
  obtain ⟨a, c⟩ := He.ba c
  have fact : ∀ (i : Nat) {f : He.Fa}, fa[i]? = some f → f.ok K = true := fun i f e => List.all_eq_true.mp a f (List.mem_of_getElem? e)
  obtain ⟨c0, c⟩ := He.ba c
  obtain ⟨c1, c⟩ := He.ba c
  obtain ⟨c2, c⟩ := He.ba c
  obtain ⟨c3, c⟩ := He.ba c
  obtain ⟨c4, c⟩ := He.ba c
  obtain ⟨c5, c⟩ := He.ba c
  obtain ⟨c6, c⟩ := He.ba c
  obtain ⟨c7, c⟩ := He.ba c
  obtain ⟨c8, c⟩ := He.ba c
  obtain ⟨c9, c⟩ := He.ba c
  obtain ⟨c10, c⟩ := He.ba c
  obtain ⟨c11, c⟩ := He.ba c
  obtain ⟨c12, c⟩ := He.ba c
  obtain ⟨c13, c⟩ := He.ba c
  obtain ⟨c14, c⟩ := He.ba c
  obtain ⟨c15, c⟩ := He.ba c
  obtain ⟨c16, c⟩ := He.ba c
  obtain ⟨c17, c⟩ := He.ba c
  obtain ⟨c18, c⟩ := He.ba c
  obtain ⟨c19, c⟩ := He.ba c
  obtain ⟨c20, c⟩ := He.ba c
  obtain ⟨c21, c⟩ := He.ba c
  obtain ⟨c22, c⟩ := He.ba c
  obtain ⟨c23, c⟩ := He.ba c
  obtain ⟨c24, c⟩ := He.ba c
  obtain ⟨c25, c⟩ := He.ba c
  obtain ⟨c26, c⟩ := He.ba c
  obtain ⟨c27, c⟩ := He.ba c
  exact
  { p_eq := meth_of (fact 0 (f := .meth "Place" "__eq__") rfl)
    p_ne := He.eqO_ok c0
    m_eq := meth_of (fact 1 (f := .meth "Program" "__eq__") rfl)
    m_ne := He.eqO_ok c1
    m_contains := meth_of (fact 2 (f := .meth "Program" "__contains__") rfl)
    m_getitem := meth_of (fact 3 (f := .meth "Program" "__getitem__") rfl)
    f_getitem := c2 }
theorem mk_VTxt (X : K.In h) (G : h.Ns mainGlobals mg) (c : ex K = true) : VTxt K mg := by
  obtain ⟨a, c⟩ := He.ba c
  have fact : ∀ (i : Nat) {f : He.Fa}, fa[i]? = some f → f.ok K = true := fun i f e => List.all_eq_true.mp a f (List.mem_of_getElem? e)
  obtain ⟨c0, c⟩ := He.ba c
  obtain ⟨c1, c⟩ := He.ba c
  obtain ⟨c2, c⟩ := He.ba c
  obtain ⟨c3, c⟩ := He.ba c
  obtain ⟨c4, c⟩ := He.ba c
  obtain ⟨c5, c⟩ := He.ba c
  obtain ⟨c6, c⟩ := He.ba c
  obtain ⟨c7, c⟩ := He.ba c
  obtain ⟨c8, c⟩ := He.ba c
  obtain ⟨c9, c⟩ := He.ba c
  obtain ⟨c10, c⟩ := He.ba c
  obtain ⟨c11, c⟩ := He.ba c
  obtain ⟨c12, c⟩ := He.ba c
  obtain ⟨c13, c⟩ := He.ba c
  obtain ⟨c14, c⟩ := He.ba c
  obtain ⟨c15, c⟩ := He.ba c
  obtain ⟨c16, c⟩ := He.ba c
  obtain ⟨c17, c⟩ := He.ba c
  obtain ⟨c18, c⟩ := He.ba c
  obtain ⟨c19, c⟩ := He.ba c
  obtain ⟨c20, c⟩ := He.ba c
  obtain ⟨c21, c⟩ := He.ba c
  obtain ⟨c22, c⟩ := He.ba c
  obtain ⟨c23, c⟩ := He.ba c
  obtain ⟨c24, c⟩ := He.ba c
  obtain ⟨c25, c⟩ := He.ba c
  obtain ⟨c26, c⟩ := He.ba c
  obtain ⟨c27, c⟩ := He.ba c
  exact
  { z_int := He.free_ok X G (fact 4 (f := .free "int") rfl)
    z_bool := He.free_ok X G (fact 5 (f := .free "bool") rfl)
    z_str := He.free_ok X G (fact 6 (f := .free "str") rfl)
    z_len := He.free_ok X G (fact 7 (f := .free "len") rfl)
    z_all := He.free_ok X G (fact 8 (f := .free "all") rfl)
    z_isinstance := He.free_ok X G (fact 9 (f := .free "isinstance") rfl)
    i_LONGEST_NAME := He.int_ok X G (fact 10 (f := .int "LONGEST_NAME" 8) rfl)
    i_MOST_TICKS := He.int_ok X G (fact 11 (f := .int "MOST_TICKS" 6) rfl)
    i_LETTERS := He.str_ok X G (fact 12 (f := .str "LETTERS" "abcdefghijklmnopqrstuvwxyz") rfl)
    g_KEPT_WORDS := He.glo_ok X G (fact 13 (f := .glo "KEPT_WORDS") rfl)
    t_KEPT := c3
    g_is_integer := He.glo_ok X G (fact 14 (f := .glo "is_integer") rfl)
    g_is_integer_from := He.glo_ok X G (fact 15 (f := .glo "is_integer_from") rfl)
    g_is_flag := He.glo_ok X G (fact 16 (f := .glo "is_flag") rfl)
    g_is_name := He.glo_ok X G (fact 17 (f := .glo "is_name") rfl)
    g_Place := He.glo_ok X G (fact 18 (f := .glo "Place") rfl)
    g_BadPlace := He.glo_ok X G (fact 19 (f := .glo "BadPlace") rfl)
    c_Place := cls_of (fact 20 (f := .cls "Place") rfl)
    m_Place := mk_of (fact 21 (f := .mkr "Place") rfl)
    nN := noat_of (fact 22 (f := .noat "Place" "name") rfl)
    nL := noat_of (fact 23 (f := .noat "Place" "least") rfl)
    nM := noat_of (fact 24 (f := .noat "Place" "most") rfl)
    nT := noat_of (fact 25 (f := .noat "Place" "let") rfl)
    x_BadPlace := exI_ok c4
    hn := He.eqO_ok c5
    ht := of_decide_eq_true c6
    ha := He.eqO_ok c7
    hm := of_decide_eq_true c8
    k1 := of_decide_eq_true c9
    z_enumerate := He.free_ok X G (fact 26 (f := .free "enumerate") rfl)
    z_list := He.free_ok X G (fact 27 (f := .free "list") rfl)
    z_tuple := He.free_ok X G (fact 28 (f := .free "tuple") rfl)
    z_dict := He.free_ok X G (fact 29 (f := .free "dict") rfl)
    i_MOST_PLACES := He.int_ok X G (fact 30 (f := .int "MOST_PLACES" 6) rfl)
    g_has_twins := He.glo_ok X G (fact 31 (f := .glo "has_twins") rfl)
    g_is_one_of := He.glo_ok X G (fact 32 (f := .glo "is_one_of") rfl)
    g_are_places := He.glo_ok X G (fact 33 (f := .glo "are_places") rfl)
    g_are_nexts := He.glo_ok X G (fact 34 (f := .glo "are_nexts") rfl)
    g_is_choice := He.glo_ok X G (fact 35 (f := .glo "is_choice") rfl)
    g_Program := He.glo_ok X G (fact 36 (f := .glo "Program") rfl)
    g_BadProgram := He.glo_ok X G (fact 37 (f := .glo "BadProgram") rfl)
    g_NoPlace := He.glo_ok X G (fact 38 (f := .glo "NoPlace") rfl)
    c_Program := cls_of (fact 39 (f := .cls "Program") rfl)
    m_Program := mk_of (fact 40 (f := .mkr "Program") rfl)
    nA := noat_of (fact 41 (f := .noat "Program" "names") rfl)
    nB := noat_of (fact 42 (f := .noat "Program" "start") rfl)
    nC := noat_of (fact 43 (f := .noat "Program" "_places") rfl)
    nD := noat_of (fact 44 (f := .noat "Program" "_nexts") rfl)
    x_BadProgram := exI_ok c10
    x_NoPlace := exI_ok c11
    pa := He.eqO_ok c12
    pm := of_decide_eq_true c13
    pk := of_decide_eq_true c14
    z_range := He.free_ok X G (fact 45 (f := .free "range") rfl)
    z_sum := He.free_ok X G (fact 46 (f := .free "sum") rfl)
    i_MOST_PERIOD := He.int_ok X G (fact 47 (f := .int "MOST_PERIOD" 8) rfl)
    i_MOST_RUN_TICKS := He.int_ok X G (fact 48 (f := .int "MOST_RUN_TICKS" 2000) rfl)
    g_Sampler := He.glo_ok X G (fact 49 (f := .glo "Sampler") rfl)
    g_BadSampler := He.glo_ok X G (fact 50 (f := .glo "BadSampler") rfl)
    c_Sampler := cls_of (fact 51 (f := .cls "Sampler") rfl)
    m_Sampler := mk_of (fact 52 (f := .mkr "Sampler") rfl)
    sP := noat_of (fact 53 (f := .noat "Sampler" "period") rfl)
    sJ := noat_of (fact 54 (f := .noat "Sampler" "jitter") rfl)
    sF := noat_of (fact 55 (f := .noat "Sampler" "phase") rfl)
    x_BadSampler := exI_ok c15
    g_Record := He.glo_ok X G (fact 56 (f := .glo "Record") rfl)
    c_Record := cls_of (fact 57 (f := .cls "Record") rfl)
    m_Record := mk_of (fact 58 (f := .mkr "Record") rfl)
    rA := noat_of (fact 59 (f := .noat "Record" "ticks") rfl)
    rB := noat_of (fact 60 (f := .noat "Record" "times") rfl)
    rC := noat_of (fact 61 (f := .noat "Record" "notes") rfl)
    rD := noat_of (fact 62 (f := .noat "Record" "waiting") rfl)
    rE := noat_of (fact 63 (f := .noat "Record" "lost") rfl)
    g_observe := He.glo_ok X G (fact 64 (f := .glo "observe") rfl)
    g_check_stays := He.glo_ok X G (fact 65 (f := .glo "check_stays") rfl)
    g_is_stay := He.glo_ok X G (fact 66 (f := .glo "is_stay") rfl)
    g_check_phase := He.glo_ok X G (fact 67 (f := .glo "check_phase") rfl)
    g_check_looks := He.glo_ok X G (fact 68 (f := .glo "check_looks") rfl)
    g_is_look := He.glo_ok X G (fact 69 (f := .glo "is_look") rfl)
    g_is_due := He.glo_ok X G (fact 70 (f := .glo "is_due") rfl)
    g_record_of := He.glo_ok X G (fact 71 (f := .glo "record_of") rfl)
    g_BadStay := He.glo_ok X G (fact 72 (f := .glo "BadStay") rfl)
    g_BadPhase := He.glo_ok X G (fact 73 (f := .glo "BadPhase") rfl)
    g_BadLook := He.glo_ok X G (fact 74 (f := .glo "BadLook") rfl)
    g_NoTicks := He.glo_ok X G (fact 75 (f := .glo "NoTicks") rfl)
    x_BadStay := exI_ok c16
    x_BadPhase := exI_ok c17
    x_BadLook := exI_ok c18
    e_NoTicks := (fact 76 (f := .exc "NoTicks") rfl)
    g_law_cell := He.glo_ok X G (fact 77 (f := .glo "_law_cell") rfl)
    g_law_take := He.glo_ok X G (fact 78 (f := .glo "_law_take") rfl)
    g_law_is_integer := He.glo_ok X G (fact 79 (f := .glo "_law_is_integer") rfl)
    g_law_told := He.glo_ok X G (fact 80 (f := .glo "_law_told") rfl)
    g_law_called := He.glo_ok X G (fact 81 (f := .glo "_law_called") rfl)
    g_law_profile_fits := He.glo_ok X G (fact 82 (f := .glo "_law_profile_fits") rfl)
    g_look_flags := He.glo_ok X G (fact 83 (f := .glo "look_flags") rfl)
    g_pair_at := He.glo_ok X G (fact 84 (f := .glo "pair_at") rfl)
    g_is_one_of_choices := He.glo_ok X G (fact 85 (f := .glo "is_one_of_choices") rfl)
    g_stays_made := He.glo_ok X G (fact 86 (f := .glo "stays_made") rfl)
    g_looks_made := He.glo_ok X G (fact 87 (f := .glo "looks_made") rfl)
    g_Profile := He.glo_ok X G (fact 88 (f := .glo "Profile") rfl)
    g_BadChoice := He.glo_ok X G (fact 89 (f := .glo "BadChoice") rfl)
    x_BadChoice := exI_ok c19
    c_Profile := cls_of (fact 90 (f := .cls "Profile") rfl)
    m_Profile := mk_of (fact 91 (f := .mkr "Profile") rfl)
    fT := noat_of (fact 92 (f := .noat "Profile" "ticks") rfl)
    fP := noat_of (fact 93 (f := .noat "Profile" "_program") rfl)
    fS := noat_of (fact 94 (f := .noat "Profile" "_sampler") rfl)
    fF := noat_of (fact 95 (f := .noat "Profile" "_phase") rfl)
    fM := noat_of (fact 96 (f := .noat "Profile" "_made") rfl)
    fA := noat_of (fact 97 (f := .noat "Profile" "_state") rfl)
    fK := noat_of (fact 98 (f := .noat "Profile" "_mark") rfl)
    g_SeenError := He.glo_ok X G (fact 99 (f := .glo "SeenError") rfl)
    z_min := He.free_ok X G (fact 100 (f := .free "min") rfl)
    n_NoTicks := excNB_ok c20
    x1 := of_decide_eq_true c21
    x2 := of_decide_eq_true c22
    x3 := of_decide_eq_true c23
    x4 := of_decide_eq_true c24
    p1 := of_decide_eq_true c25
    p2 := of_decide_eq_true c26 }
theorem mk_PMeth (X : K.In h) (G : h.Ns mainGlobals mg) (c : ex K = true) : PMeth K := by
  obtain ⟨a, c⟩ := He.ba c
  have fact : ∀ (i : Nat) {f : He.Fa}, fa[i]? = some f → f.ok K = true := fun i f e => List.all_eq_true.mp a f (List.mem_of_getElem? e)
  obtain ⟨c0, c⟩ := He.ba c
  obtain ⟨c1, c⟩ := He.ba c
  obtain ⟨c2, c⟩ := He.ba c
  obtain ⟨c3, c⟩ := He.ba c
  obtain ⟨c4, c⟩ := He.ba c
  obtain ⟨c5, c⟩ := He.ba c
  obtain ⟨c6, c⟩ := He.ba c
  obtain ⟨c7, c⟩ := He.ba c
  obtain ⟨c8, c⟩ := He.ba c
  obtain ⟨c9, c⟩ := He.ba c
  obtain ⟨c10, c⟩ := He.ba c
  obtain ⟨c11, c⟩ := He.ba c
  obtain ⟨c12, c⟩ := He.ba c
  obtain ⟨c13, c⟩ := He.ba c
  obtain ⟨c14, c⟩ := He.ba c
  obtain ⟨c15, c⟩ := He.ba c
  obtain ⟨c16, c⟩ := He.ba c
  obtain ⟨c17, c⟩ := He.ba c
  obtain ⟨c18, c⟩ := He.ba c
  obtain ⟨c19, c⟩ := He.ba c
  obtain ⟨c20, c⟩ := He.ba c
  obtain ⟨c21, c⟩ := He.ba c
  obtain ⟨c22, c⟩ := He.ba c
  obtain ⟨c23, c⟩ := He.ba c
  obtain ⟨c24, c⟩ := He.ba c
  obtain ⟨c25, c⟩ := He.ba c
  obtain ⟨c26, c⟩ := He.ba c
  obtain ⟨c27, c⟩ := He.ba c
  exact
  { m_choices := meth_of (fact 101 (f := .meth "Profile" "choices") rfl)
    m_record := meth_of (fact 102 (f := .meth "Profile" "record") rfl)
    m_run := meth_of (fact 103 (f := .meth "Profile" "run") rfl)
    m__go_on := meth_of (fact 104 (f := .meth "Profile" "_go_on") rfl)
    m__moves := meth_of (fact 105 (f := .meth "Profile" "_moves") rfl)
    m__spot := meth_of (fact 106 (f := .meth "Profile" "_spot") rfl)
    m__has_come := meth_of (fact 107 (f := .meth "Profile" "_has_come") rfl)
    m__call__ := meth_of (fact 108 (f := .meth "Profile" "__call__") rfl)
    f_call := c27 }
theorem mk_QMeth (X : K.In h) (G : h.Ns mainGlobals mg) (c : ex K = true) : QMeth K := by
  obtain ⟨a, c⟩ := He.ba c
  have fact : ∀ (i : Nat) {f : He.Fa}, fa[i]? = some f → f.ok K = true := fun i f e => List.all_eq_true.mp a f (List.mem_of_getElem? e)
  obtain ⟨c0, c⟩ := He.ba c
  obtain ⟨c1, c⟩ := He.ba c
  obtain ⟨c2, c⟩ := He.ba c
  obtain ⟨c3, c⟩ := He.ba c
  obtain ⟨c4, c⟩ := He.ba c
  obtain ⟨c5, c⟩ := He.ba c
  obtain ⟨c6, c⟩ := He.ba c
  obtain ⟨c7, c⟩ := He.ba c
  obtain ⟨c8, c⟩ := He.ba c
  obtain ⟨c9, c⟩ := He.ba c
  obtain ⟨c10, c⟩ := He.ba c
  obtain ⟨c11, c⟩ := He.ba c
  obtain ⟨c12, c⟩ := He.ba c
  obtain ⟨c13, c⟩ := He.ba c
  obtain ⟨c14, c⟩ := He.ba c
  obtain ⟨c15, c⟩ := He.ba c
  obtain ⟨c16, c⟩ := He.ba c
  obtain ⟨c17, c⟩ := He.ba c
  obtain ⟨c18, c⟩ := He.ba c
  obtain ⟨c19, c⟩ := He.ba c
  obtain ⟨c20, c⟩ := He.ba c
  obtain ⟨c21, c⟩ := He.ba c
  obtain ⟨c22, c⟩ := He.ba c
  obtain ⟨c23, c⟩ := He.ba c
  obtain ⟨c24, c⟩ := He.ba c
  obtain ⟨c25, c⟩ := He.ba c
  obtain ⟨c26, c⟩ := He.ba c
  obtain ⟨c27, c⟩ := He.ba c
  exact
  { m_path := meth_of (fact 109 (f := .meth "Profile" "path") rfl)
    m_choices := meth_of (fact 101 (f := .meth "Profile" "choices") rfl)
    m_record := meth_of (fact 102 (f := .meth "Profile" "record") rfl)
    m__call__ := meth_of (fact 108 (f := .meth "Profile" "__call__") rfl) }
theorem facts {P : Program} {w : World} {f : Addr} (X : K.In h) (G : h.Ns mainGlobals mg) (hfa : mg ("law" : Str) = some (.ref f)) (c : SaysP ex fn gt K) :
    ∃ fd : FuncData, (∀ (s : Shared) (v : Value), BindsTo s fd ⟨[v], []⟩ [("_law_script", v)]) ∧ ∀ base : Heap, K.In base → base.Ns mainGlobals mg → FnOk P w K mg base CX0 12 f fd ["_law_script"] (spLaw K) := by
  obtain ⟨d0, F0⟩ := c.fn 0
  obtain ⟨d1, F1⟩ := c.fn 1
  obtain ⟨d2, F2⟩ := c.fn 2
  obtain ⟨d3, F3⟩ := c.fn 3
  obtain ⟨d4, F4⟩ := c.fn 4
  obtain ⟨d5, F5⟩ := c.fn 5
  obtain ⟨d6, F6⟩ := c.fn 6
  obtain ⟨d7, F7⟩ := c.fn 7
  obtain ⟨d8, F8⟩ := c.fn 8
  obtain ⟨d9, F9⟩ := c.fn 9
  obtain ⟨d10, F10⟩ := c.fn 10
  obtain ⟨d11, F11⟩ := c.fn 11
  obtain ⟨d12, F12⟩ := c.fn 12
  obtain ⟨d13, F13⟩ := c.fn 13
  obtain ⟨d14, F14⟩ := c.fn 14
  obtain ⟨d15, F15⟩ := c.fn 15
  obtain ⟨d16, F16⟩ := c.fn 16
  obtain ⟨d17, F17⟩ := c.fn 17
  obtain ⟨d18, F18⟩ := c.fn 18
  obtain ⟨d19, F19⟩ := c.fn 19
  obtain ⟨d20, F20⟩ := c.fn 20
  obtain ⟨d21, F21⟩ := c.fn 21
  obtain ⟨d22, F22⟩ := c.fn 22
  obtain ⟨d23, F23⟩ := c.fn 23
  obtain ⟨d24, F24⟩ := c.fn 24
  obtain ⟨d25, F25⟩ := c.fn 25
  obtain ⟨d26, F26⟩ := c.fn 26
  obtain ⟨d27, F27⟩ := c.fn 27
  obtain ⟨d28, F28⟩ := c.fn 28
  obtain ⟨d29, F29⟩ := c.fn 29
  obtain ⟨d30, F30⟩ := c.fn 30
  obtain ⟨d31, F31⟩ := c.fn 31
  obtain ⟨d32, F32⟩ := c.fn 32
  obtain ⟨d33, F33⟩ := c.fn 33
  obtain ⟨d34, F34⟩ := c.fn 34
  obtain ⟨d35, F35⟩ := c.fn 35
  obtain ⟨d36, F36⟩ := c.fn 36
  obtain ⟨d37, F37⟩ := c.fn 37
  obtain ⟨d38, F38⟩ := c.fn 38
  obtain ⟨d39, F39⟩ := c.fn 39
  obtain ⟨d40, F40⟩ := c.fn 40
  obtain ⟨d41, F41⟩ := c.fn 41
  obtain ⟨d42, F42⟩ := c.fn 42
  obtain ⟨d43, F43⟩ := c.fn 43
  obtain ⟨d44, F44⟩ := c.fn 44
  obtain ⟨d45, F45⟩ := c.fn 45
  obtain ⟨d46, F46⟩ := c.fn 46
  obtain ⟨d47, F47⟩ := c.fn 47
  obtain ⟨d48, F48⟩ := c.fn 48
  obtain ⟨d49, F49⟩ := c.fn 49
  obtain ⟨d50, F50⟩ := c.fn 50
  obtain ⟨d51, F51⟩ := c.fn 51
  obtain ⟨⟨e0, G0⟩, p0⟩ := c.gt 0
  have hl : He.ga K "law" = f := by
    have e := He.glo_ok X G (List.all_eq_true.mp (He.ba c.ex).1 (.glo "law") (List.mem_of_getElem? (i := 110) rfl))
    rw [hfa] at e
    cases e
    rfl
  have b := FunD.bindsA (ps := ["_law_script"]) F51 fun _ _ _ _ _ _ us hl => match us, hl with | [_], _ => rfl
  refine ⟨d51, fun s v => b s [v] rfl, fun base _ _ => ?_⟩
  have ET := mk_VTxt X G c.ex
  have PM := mk_PMeth X G c.ex
  have QM := mk_QMeth X G c.ex
  have T := ET.toTxt
  have M := mk_GMeth X G c.ex
  have S := T.toPTxt
  have GT := T.toGTxt
  have RT := T.toRTxt
  have A_is_integer := ok_is_integer (P := P) (w := w) (base := base) F0 S
  have A_is_integer_from := ok_is_integer_from F1 S A_is_integer
  have A_is_flag := ok_is_flag (P := P) (w := w) (base := base) F2 S
  have A_is_name := ok_is_name (P := P) (w := w) (base := base) F3 S
  have A_has_twins := ok_has_twins (P := P) (w := w) (base := base) F4 GT
  have A_BadPlace := ok_BadPlace_init (P := P) (w := w) (mg := mg) (base := base) F5
  have GP := ok_Place_init F6 S A_is_name A_is_integer_from A_is_flag A_BadPlace
  have IP := O_Place3k F6 GP
  have A_BadProgram := ok_BadProgram_init (P := P) (w := w) (mg := mg) (base := base) F7
  have A_NoPlace := ok_NoPlace_init (P := P) (w := w) (mg := mg) (base := base) F8
  have A_is_one_of := ok_is_one_of (P := P) (w := w) (base := base) F12 GT
  have A_is_choice := ok_is_choice F15 GT A_is_one_of A_has_twins
  have A_are_places := ok_are_places F13 GT A_has_twins
  have A_are_nexts := ok_are_nexts F14 GT A_is_choice
  have GG := ok_Program_init F9 GT A_are_places A_are_nexts A_is_one_of A_BadProgram
  have IG := O_Program2k F9 GG
  have A_contains := ok_Program_contains F10 GT A_is_one_of
  have A_getitem := ok_Program_getitem F11 GT M A_contains A_NoPlace
  have N0 := ok_Program_nexts (P := P) (w := w) (base := base) G0 p0 GT
  have A_BadSampler := ok_BadSampler_init (P := P) (w := w) (mg := mg) (base := base) F16
  have GS := ok_Sampler_init F17 RT A_is_integer_from A_BadSampler
  have IS1 := O_Sampler1 F17 GS
  have A_Record := ok_Record_init (P := P) (w := w) (base := base) F18 RT
  have A_BadStay := ok_BadStay_init (P := P) (w := w) (mg := mg) (base := base) F19
  have A_BadPhase := ok_BadPhase_init (P := P) (w := w) (mg := mg) (base := base) F20
  have A_BadLook := ok_BadLook_init (P := P) (w := w) (mg := mg) (base := base) F21
  have A_is_due := ok_is_due (P := P) (w := w) (base := base) F27 RT
  have A_record_of := ok_record_of F28 RT M A_getitem A_Record
  have A_is_stay := ok_is_stay F22 RT M A_contains A_is_integer
  have A_check_stays := ok_check_stays F23 RT M A_is_stay A_getitem N0 A_BadStay
  have A_check_phase := ok_check_phase F24 RT A_is_integer A_is_integer_from A_BadPhase
  have A_is_look := ok_is_look F25 RT A_is_integer_from
  have A_check_looks := ok_check_looks F26 RT A_is_look A_BadLook
  have GO := ok_observe F29 RT A_check_stays A_check_phase A_check_looks A_is_due A_record_of
  have IO4 := O_obs4 F29 GO
  have LV := ET.toLvTxt
  have A_look_flags := ok_look_flags (P := P) (w := w) (base := base) F36 RT
  have A_pair_at := ok_pair_at (P := P) (w := w) (base := base) F37 RT
  have A_BadChoice := ok_BadChoice_init (P := P) (w := w) (mg := mg) (base := base) F38
  have GPf := ok_Profile_init F39 LV A_check_phase
  have IPf2 := O_Profile2 F39 GPf
  have A_spot := ok_Profile_spot (P := P) (w := w) (base := base) F40 LV
  have A_hc := ok_Profile_has_come F41 LV PM A_spot
  have A_mv := ok_Profile_moves F42 LV M A_getitem N0
  have A_chs := ok_Profile_choices F43 LV PM A_look_flags A_spot A_hc A_mv
  have A_onech := ok_is_one_of_choices F44 LV A_is_flag
  have A_go := ok_Profile_go_on F45 LV PM M A_getitem A_onech A_pair_at A_spot A_hc A_chs A_BadChoice
  have A_call := ok_Profile_call F46 LV PM A_go
  have A_sm := ok_stays_made (P := P) (w := w) (base := base) F47 LV
  have A_rec := ok_Profile_record F49 LV A_sm A_record_of
  have A_path := ok_Profile_path (P := P) (w := w) (base := base) F50 LV
  have A_take := ok_law_take (P := P) (w := w) (base := base) F31 T
  have A_cell := ok_law_cell (P := P) (w := w) (base := base) F30 T
  have A_isint := ok_law_is_integer (P := P) (w := w) (base := base) F32 T
  have A_told := ok_law_told F33 ET F29.kp IO4
  have A_cld := ok_law_called F34 ET PM QM A_call
  have A_fit := ok_law_profile_fits F35 ET PM QM A_cld IS1 IPf2 A_chs A_rec A_path
  have r := ok_law F51 ET A_cell A_take A_isint A_told A_fit IP IG IS1
  rw [← hl]
  exact r
end
end K16
open PySem PySem.W PySem.Calls PyProof.Rows
theorem PySem.Challenge.cw_seenshares_k16_long_runs_holds : PySem.Challenge.rw_seenshares_k16_long_runs.Holds := by
  w_on; o_law
  refine HandSHeadRun.head_any (r := OpenLaw.row PySem.Challenge.rw_seenshares_k16_long_runs) (q := view (OpenLaw.row PySem.Challenge.rw_seenshares_k16_long_runs).prog [60]) (H := K16.hk) (ob := K16.ob) (M := 100000) (loose := K16.names)
    (d := HandSHeadRun.topDef (OpenLaw.row PySem.Challenge.rw_seenshares_k16_long_runs).prog 60) (kwd := []) K16.ob_eq (by kernel_rfl) (fun s => by kernel_rfl) K16.run (by kernel_rfl) (by kernel_rfl) (by kernel_rfl) (by rfl) (by first | assumption | decide +kernel) (by decide +kernel) ⟨rfl, rfl, rfl, rfl, rfl, by decide +kernel⟩ ?hw ?hc
  case hw => w_witness2
  case hc =>
    refine L2.walk_ofE (l := PySem.Challenge.rw_seenshares_k16_long_runs) (n := 63) (k := 12) (x := "_law_script") (CX := L2.CX0) rfl (by decide) (by kernel_rfl) ⟨rfl, by decide, by decide⟩ ?F (fun _ _ _ _ z => z)
    intro w mg fa h Y G hmg0
    obtain ⟨K, KX, c⟩ := Y
    have hmg : mg ("law" : PySem.Str) = some (.ref fa) := by
      have e : (HandSHeadRun.topDef (OpenLaw.row PySem.Challenge.rw_seenshares_k16_long_runs).prog 60).name = ("law" : PySem.Str) := by kernel_rfl
      rw [← e]
      exact hmg0
    obtain ⟨fd, hb, hF⟩ := K16.facts (P := (PySem.Challenge.rw_seenshares_k16_long_runs).prog) (w := w) KX G hmg c
    exact ⟨K, fd, K16.spLaw K, KX, hb, fun H a ns hl _ hS => ⟨a, ns, rfl, hS, hl, fun _ => rfl⟩, hF⟩
#print axioms PySem.Challenge.cw_seenshares_k16_long_runs_holds
