import PyProof.Rows.All
import Wide.All
import OpenK.AllK
import Wide.FinOn
import PyProof.EqAt
import PyProof.EqKinds
import PyProof.TupleCall
import KE.KStateDown
import KE.KCallOwn
import HandS.ForExc
import HandS.Wide
import HandS.Gcd
import HandS.Defaults
import HandS.IsInst
import HandS.ExcInit
import HandS.ExcField
import HandS.ExcIs
import HandS.FStr
import HandS.Codes
import HandS.Dict
import HandS.Head0
import HandS.Head1
import HandS.Head2
import HandS.Head3
import HandS.HeadEnd
import HandS.HeadHook1
import HandS.HeadHook2
import KE.KExcIs
import KE.KOpsOwn
import PyProof.FactsAll.int_1
import PyProof.FactsAll.int_2
import PyProof.FactsAll.int_3
import PyProof.FactsAll.int_5
import HandS.TryOnly
import HandS.Small
import PySem.Challenge.RW_seenshares_k02_share_arithmetic
set_option Elab.async false
set_option linter.all false
set_option maxRecDepth 100000
set_option maxHeartbeats 2000000
namespace Vf
open PySem PySem.Spec PyProof.Rows L2
/-! ### defs at their places -/
abbrev Pl : Type := Str × Option Str
structure OkD (P : Program) (w : World) (K : PySem.W.Frag) (mg : Str → Option Value) (base : Heap) (CX : CXT) (k : Nat) (p : Pl) (ps : List Str) (dvs : List V) (sp : Sp) : Prop where
  ex : ∃ fd ds, FnOk P w K mg base CX k (He.fAd K p) fd ps sp ∧ Binds K fd ps ds ∧ Vals dvs ds
  kp : PySem.W.keepIn K (.ref (He.fAd K p)) = true
section
variable {X : Cx} {CX : CXT} {k j : Nat} {ps : List Str} {sp : Sp} {dvs : List V} {x m : Str} {p pos apos : Pos} {e o : Expr} {es : List Expr} {ta : TE} {t : TA}
theorem c_fn {E : XK} (O : OkD X.prog X.w X.K X.mg X.base CX k (x, none) ps dvs sp) (hr : Room j X.A) (hj : k ≤ j) (hm : X.mg x = some (.ref (He.ga X.K x))) (hx : Passes CX X E) (ha : PA X (e :: es) t) (hg : Gl X x := by rfl)
    (hdb : (x == ("__debug__" : Str)) = false := by decide) (he : starEach (e :: es) X.env = (false, eval e X.env) :: starEach es X.env := by rfl) (hpl : (backTo pos (starEach es X.env)).any (·.1) = false := by rfl) :
    PE X (.Call (.Name x p) (e :: es) [] pos) (tCall sp dvs E t) := by
  obtain ⟨fd, ds, F, b, v⟩ := O.ex
  exact pe_call F (hr.mono hj) hg hm O.kp b v hx ha hdb he hpl
theorem c_fnS {E : L2.St → XK} (O : OkD X.prog X.w X.K X.mg X.base CX k (x, none) ps [] sp) (hr : Room j X.A) (hj : k ≤ j) (hm : X.mg x = some (.ref (He.ga X.K x))) (hx : ∀ σ, PassesAt CX X σ (E σ)) (ha : PA X (e :: es) t) (hg : Gl X x := by rfl)
    (hdb : (x == ("__debug__" : Str)) = false := by decide) (he : starEach (e :: es) X.env = (false, eval e X.env) :: starEach es X.env := by rfl) (hpl : (backTo pos (starEach es X.env)).any (·.1) = false := by rfl) :
    PE X (.Call (.Name x p) (e :: es) [] pos) (tCallS sp E t) := by
  obtain ⟨fd, ds, F, b, v⟩ := O.ex
  cases v
  exact pe_callS F (hr.mono hj) hg hm O.kp b hx ha hdb he hpl
theorem mk_of {K : PySem.W.Frag} {x : Str} (c : (He.Fa.mkr x).ok K = true) : Mk K (He.ga K x) (He.fAd K (x, some "__init__")) := by
  obtain ⟨h1, h2⟩ := He.ba c
  obtain ⟨h2, h3⟩ := He.ba h2
  obtain ⟨h3, h4⟩ := He.ba h3
  exact ⟨h1, He.eqO_ok h2, h3, h4⟩
theorem meth_of {K : PySem.W.Frag} {x m : Str} (c : (He.Fa.meth x m).ok K = true) : Meth K (He.ga K x) m (He.fAd K (x, some m)) := by
  obtain ⟨h1, h2⟩ := He.ba c
  obtain ⟨h2, h3⟩ := He.ba h2
  exact ⟨He.eqO_ok h1, h2, h3⟩
theorem cls_of {K : PySem.W.Frag} {x : Str} (c : (He.Fa.cls x).ok K = true) : Cls K (He.ga K x) := by
  obtain ⟨h1, h2⟩ := He.ba c
  obtain ⟨h2, h3⟩ := He.ba h2
  obtain ⟨h3, h4⟩ := He.ba h3
  exact ⟨h1, h2, h3, He.eqO_ok h4⟩
theorem noat_of {K : PySem.W.Frag} {x f : Str} (c : (He.Fa.noat x f).ok K = true) : NoAttr K (He.ga K x) f := He.eqO_ok c
/-- C(e, ..) -/
theorem c_mk {E : XK} {C : Addr} (M : Mk X.K C (He.fAd X.K (x, some "__init__"))) (O : OkD X.prog X.w X.K X.mg X.base CX k (x, some "__init__") ps dvs sp) (hr : Room j X.A) (hj : k + 1 ≤ j) (hm : X.mg x = some (.ref C)) (hx : Passes CX X E) (ha : PA X (e :: es) t) (hg : Gl X x := by rfl)
    (hdb : (x == ("__debug__" : Str)) = false := by decide) (he : starEach (e :: es) X.env = (false, eval e X.env) :: starEach es X.env := by rfl) (hpl : (backTo pos (starEach es X.env)).any (·.1) = false := by rfl) :
    PE X (.Call (.Name x p) (e :: es) [] pos) (tMake C sp dvs E t) := by
  obtain ⟨fd, ds, F, b, v⟩ := O.ex
  exact pe_make M F (hr.mono hj) hg hm b v hx ha hdb he hpl
/-- o.m() -/
theorem c_me0 {E : XK} {C : Addr} {cn : Str} (hC : C = He.ga X.K cn) (he : PE X o ta) (c : Cls X.K C) (hm : Meth X.K C m (He.fAd X.K (cn, some m))) (O : OkD X.prog X.w X.K X.mg X.base CX k (cn, some m) ps dvs sp) (hr : Room j X.A) (hj : k ≤ j) (hx : Passes CX X E) {pl : Sem Bool}
    (ht : eval (.Call (.Attribute o m apos) [] [] pos) X.env = (do
      let ov ← eval o X.env
      standAt apos.atName
      let (f, first) ← holding [ov] (getMethod ov m pl)
      callWith pos f first (backTo pos (starEach [] X.env)) (backToKw pos (keywordEach [] X.env))) := by rfl) :
    PE X (.Call (.Attribute o m apos) [] [] pos) (tMeth C m sp dvs E ta tNil) := by
  obtain ⟨fd, ds, F, b, v⟩ := O.ex
  exact pe_meth0 he c hm F (hr.mono hj) b v hx ht
theorem c_me {E : XK} {C : Addr} {cn : Str} (hC : C = He.ga X.K cn) (hb : PE X o ta) (c : Cls X.K C) (hm : Meth X.K C m (He.fAd X.K (cn, some m))) (O : OkD X.prog X.w X.K X.mg X.base CX k (cn, some m) ps dvs sp) (hr : Room j X.A) (hj : k ≤ j) (hx : Passes CX X E) (ha : PA X (e :: es) t) {pl : Sem Bool}
    (hst : starEach (e :: es) X.env = (false, eval e X.env) :: starEach es X.env := by rfl) (hpl : (backTo pos (starEach es X.env)).any (·.1) = false := by rfl)
    (ht : eval (.Call (.Attribute o m apos) (e :: es) [] pos) X.env = (do
      let ov ← eval o X.env
      standAt apos.atName
      let (f, first) ← holding [ov] (getMethod ov m pl)
      callWith pos f first (backTo pos (starEach (e :: es) X.env)) (backToKw pos (keywordEach [] X.env))) := by rfl) :
    PE X (.Call (.Attribute o m apos) (e :: es) [] pos) (tMeth C m sp dvs E ta t) := by
  obtain ⟨fd, ds, F, b, v⟩ := O.ex
  exact pe_meth hb c hm F (hr.mono hj) b v hx ha hst hpl ht
end
/-! ### a try's body whose errors are wished for at any slots -/
theorem passAny {X : Cx} {W : WX} (n : Nat) (tk : Takes X W) (hn : X.N.length = n := by rfl) : Passes (L2.CX X.prog X.w) X (fun cls d H => ∀ σ : L2.St, σ.length = n → W cls d σ H) :=
  fun _ σ _ _ e s' I c => tk e s' (XE.of_call I (fun _ _ _ h => h σ (I.len.trans hn)) c)
/-! ### operators -/
section
variable {X : Cx}
/-- // by any divisor but 0 below 2 ^ 9000 -/
theorem op_fdivG : OpR X (binaryOp .FloorDiv) (rI (fun _ j => j ≠ 0 ∧ j.natAbs.log2 < 9000) fun i j => .int (i.fdiv j)) := opI fun i j _ _ _ _ _ hc q => floordiv_int hc.1 q (.inl (PyProof.noPylong_of_log2 hc.2))
/-- a built-in class as a value -/
theorem pe_ty {x : Str} {n : String} {pos : Pos} (hm : X.mg x = none) (hv : bootBuiltins x = some (.type n)) (hg : Gl X x := by rfl) (hn : x ≠ "__name__" := by decide) (hd : (x == ("__debug__" : Str)) = false := by decide) : PE X (.Name x pos) (tC (.ty n)) := pe_bltn hg hm hv rfl hn hd
/-- a class of the text as a value -/
theorem pe_cl {x : Str} {a : Addr} {pos : Pos} (hm : X.mg x = some (.ref a)) (hg : Gl X x := by rfl) (hd : (x == ("__debug__" : Str)) = false := by decide) : PE X (.Name x pos) (tC (.ref a)) := pe_glob hg hm rfl hd
/-- str(o), o of a class of the text that has its own __str__ -/
def rStrO (C : Addr) (sp : Sp) : List V → Hp → VK → Prop := fun xs H Q => ∃ a dx fs, xs = [.ref a] ∧ H a = some (.ins C dx fs) ∧ sp [.ref a] H (fun v H' => ∃ z, v = .str z ∧ Q (.str z) H') fun _ _ _ => False
theorem call_strO {k j : Nat} {C : Addr} {cn : Str} {ps : List Str} {sp : Sp} (hC : C = He.ga X.K cn) (hm : Meth X.K C "__str__" (He.fAd X.K (cn, some "__str__"))) (O : OkD X.prog X.w X.K X.mg X.base CX0 k (cn, some "__str__") ps [] sp) (hr : Room j X.A) (hj : k + 2 ≤ j) :
    CallR X (.type "str") (rStrO C sp) := by
  obtain ⟨fd, ds, F, b, v⟩ := O.ex
  cases v
  intro pins s σ H xs us Q I r h
  obtain ⟨a, dx, fs, rfl, ha, hsp⟩ := h
  obtain ⟨u, rfl, ru⟩ : ∃ u, us = [u] ∧ RelV (.ref a) u := by
    cases r with
    | cons p q => cases q; exact ⟨_, rfl, p⟩
  cases ru
  obtain ⟨mA, J, _⟩ := ins_get I.hok ha
  obtain ⟨od, J, _⟩ := J.look
  have hr2 : Room k X.A.in1.in1 := ((hr.mono hj).in1).in1
  refine PySem.W.kso_call hr2.units0 I.kIn J hm.at_ hm.fn ?_
  have hl := F.len _ _ _ _ hsp
  have hb := b s [.ref a] I.kIn (by simpa using hl)
  simp only [List.append_nil] at hb
  refine wpAny_call (codeAny_mono (F.run X.A.in1.in1 X.stack s H ⟨[.ref a], []⟩ [.ref a] [.ref a] _ _ hr2 I.env0.in1.in1 hb (.cons rfl .nil) hsp) fun r s' hq => ?_)
  cases r with
  | error e => exact hq.elim
  | ok fl =>
    cases fl with
    | ret w =>
      obtain ⟨z, H', I', rz, y, ez, q⟩ := I.after hq
      subst ez
      obtain ⟨tk, rfl⟩ := rz
      exact ⟨.str y, H', I', ⟨tk, rfl⟩, q⟩
    | next => exact False.elim hq
    | brk => exact False.elim hq
    | cont => exact False.elim hq
end
end Vf

set_option Elab.async false
set_option linter.all false
set_option maxRecDepth 100000
set_option maxHeartbeats 2000000
namespace Vf
open PySem PySem.Spec PyProof.Rows L2
/-! ### ints and other values -/
/-- a value that is no integer -/
inductive Odd (H : Hp) : V → Prop where
  | bl (b : Bool) : Odd H (.bl b)
  | non : Odd H .non
  | str (z : Str) : Odd H (.str z)
  | tup {a : Addr} {xs : List V} (h : H a = some (.tup xs)) : Odd H (.ref a)
  | lst {a : Addr} {xs : List V} (h : H a = some (.lst xs)) : Odd H (.ref a)
  | dic {a : Addr} {kvs : List (Key × V)} (h : H a = some (.dK kvs)) : Odd H (.ref a)
theorem Odd.ext {H H' : Hp} {x : V} (o : Odd H x) (s : Same H H') : Odd H' x := by
  cases o with
  | bl b => exact .bl b
  | non => exact .non
  | str z => exact .str z
  | tup h => exact .tup (s _ _ h)
  | lst h => exact .lst (s _ _ h)
  | dic h => exact .dic (s _ _ h)
theorem odd_ty (K : PySem.W.Frag) {H : Hp} {x : V} (o : Odd H x) : ∃ (n : String) (b1 b2 : Bool), TyX K H x (.type n) ∧ kitB n "int" = some b1 ∧ kitB n "bool" = some b2 ∧ (b1 && !b2) = false := by
  cases o with
  | bl b => exact ⟨"bool", true, true, .base (.bl b), by decide +kernel, by decide +kernel, rfl⟩
  | non => exact ⟨"NoneType", false, false, .base .non, by decide +kernel, by decide +kernel, rfl⟩
  | str z => exact ⟨"str", false, false, .base (.str z), by decide +kernel, by decide +kernel, rfl⟩
  | tup h => exact ⟨"tuple", false, false, .base (.tup h), by decide +kernel, by decide +kernel, rfl⟩
  | lst h => exact ⟨"list", false, false, .base (.lst h), by decide +kernel, by decide +kernel, rfl⟩
  | dic h => exact ⟨"dict", false, false, .base (.dK h), by decide +kernel, by decide +kernel, rfl⟩
theorem int_ty (K : PySem.W.Frag) (H : Hp) (n : Int) : TyX K H (.int n) (.type "int") ∧ kitB "int" "int" = some true ∧ kitB "int" "bool" = some false :=
  ⟨.base (.int n), by decide +kernel, by decide +kernel⟩
/-- is_integer(x) -/
def spIsInt : Sp := fun vs H Q _ => ∃ x, vs = [x] ∧ (((∃ n, x = .int n) ∧ Q (.bl true) H) ∨ (Odd H x ∧ Q (.bl false) H))
def t_isint (K : PySem.W.Frag) : TS := tRet (tAndV (tCB (rIsi K) (tCons (tVar 0) (tCons (tC (.ty "int")) tNil))) (tNotV (tCB (rIsi K) (tCons (tVar 0) (tCons (tC (.ty "bool")) tNil)))))
theorem run_isint {K : PySem.W.Frag} {N : List Str} {vs : List V} {H : Hp} {Q : VK} {E : XK} (h : spIsInt vs H Q E) : t_isint K { nx := fun _ H' => Q .non H', rt := Q } (start N vs) H := by
  obtain ⟨x, rfl, h⟩ := h
  have s0 : (start N [x])[0]? = some (some x) := rfl
  rcases h with ⟨⟨n, rfl⟩, q⟩ | ⟨o, q⟩
  · obtain ⟨t1, k1, k2⟩ := int_ty K H n
    refine ⟨_, s0, _, .ty "int", _, .type "int", true, rfl, .ty _, t1, kit_ty k1, true, rfl, ?_⟩
    refine iteT ?_
    exact ⟨_, s0, _, .ty "bool", _, .type "bool", false, rfl, .ty _, t1, kit_ty k2, false, rfl, q⟩
  · obtain ⟨n, b1, b2, t1, k1, k2, e⟩ := odd_ty K o
    refine ⟨_, s0, _, .ty "int", _, .type "int", b1, rfl, .ty _, t1, kit_ty k1, b1, rfl, ?_⟩
    cases b1 with
    | false => exact iteF q
    | true =>
      cases b2 with
      | false => cases e
      | true =>
        refine iteT ?_
        exact ⟨_, s0, _, .ty "bool", _, .type "bool", true, rfl, .ty _, t1, kit_ty k2, true, rfl, q⟩
/-! ### the draws -/
/-- _law_cell(script, k): some int -/
def spCell (K : PySem.W.Frag) : Sp := fun vs H Q _ => ∃ (l : Addr) (ns : List Int) (j : Nat), vs = [.ref l, .int (j : Int)] ∧ SqL K H l (ns.map V.int) ∧ j < 1000 ∧ ∀ n : Int, Q (.int n) H
/-- _law_take(draw, size) -/
def spTake : Sp := fun vs H Q _ => ∃ (d : Addr) (n s : Int), vs = [.ref d, .int s] ∧ H d = some (.lst [.int n]) ∧ 0 < s ∧ s < 1073741824 ∧ ∀ r m : Int, 0 ≤ r → r < s → Q (.int r) (upd H d (.lst [.int m]))
theorem atI0 {α : Type} {x : α} {xs : List α} : atI (x :: xs) 0 = some x := by simp [atI, ixN]
theorem atI1 {α : Type} {x y : α} {xs : List α} : atI (x :: y :: xs) 1 = some y := by
  have h : ixN (x :: y :: xs).length 1 = some 1 := by
    unfold ixN
    rw [if_pos (by omega), if_pos (by simp only [List.length_cons]; omega)]
    rfl
  unfold atI
  rw [h]
  rfl
theorem ixN0 {n : Nat} : ixN (n + 1) 0 = some 0 := by
  unfold ixN
  rw [if_pos (by omega), if_pos (by omega)]
  all_goals rfl
abbrev rAddI : R2 := rI0 fun i j => .int (i + j)
abbrev rModI : R2 := rI (fun _ j => 0 < j) fun i j => .int (i % j)
end Vf

set_option Elab.async false
set_option linter.all false
set_option maxRecDepth 100000
set_option maxHeartbeats 2000000
namespace Vf
open PySem PySem.Spec PyProof.Rows L2
/-! ### own errors: class C(..): def __init__(self, f): self.f = f -/
def oexB (K : PySem.W.Frag) (C : Addr) : Bool := match K.lookup C with
  | some ⟨.type "type", _, .cls cd, sl⟩ => (match cd.mro, sl.toList with
    | .ref C' :: bm, [_, _, _, _, some (.builtin n), _] => C' == C && n == "ValueError.__new__" && !cd.hasDel && cd.hasDict && PySem.HandSPX.refsVE bm
    | _, _ => false)
  | _ => false
theorem oexB_ok {K : PySem.W.Frag} {C : Addr} (q : oexB K C = true) : ∃ nm qn N bs bm sn sub ab col dd k0 k1 k2 k3 k5, K.lookup C = some (excClassObj nm qn C N bs bm true sn sub ab col dd k0 k1 k2 k3 k5 "ValueError.__new__") ∧ PySem.HandSPX.refsVE bm = true := by
  unfold oexB at q
  split at q
  · rename_i dd cd sl ho
    split at q
    · rename_i C' bm k0 k1 k2 k3 n k5 hm hs
      simp only [Bool.and_eq_true, beq_iff_eq, Bool.not_eq_true'] at q
      obtain ⟨⟨⟨⟨e1, e2⟩, hdel⟩, hh⟩, hbm⟩ := q
      obtain ⟨nm, bs, mro, ns, qn, hd, sn, sub, ab, col, del⟩ := cd
      obtain ⟨l⟩ := sl
      dsimp only at hm hdel hh hs
      subst hm hdel hh hs e1 e2
      exact ⟨nm, qn, ns, bs, bm, sn, sub, ab, col, dd, k0, k1, k2, k3, k5, ho, hbm⟩
    · cases q
  · cases q
/-- what is told of the error class x whose __init__ keeps its argument as f -/
structure ExD (K : PySem.W.Frag) (x : Str) : Prop where
  o : OexC K (He.ga K x)
  gg : PySem.W.findIn K (.ref (He.ga K x)) "__getattr__" = some none
  ga : PySem.W.findIn K (.ref (He.ga K x)) "__getattribute__" = some (some (.builtin "BaseException.__getattribute__"))
  ha : PySem.W.findIn K (.ref (He.ga K x)) "__class__" = some (some (.builtin "object.__class__"))
  hm : PySem.W.mroIn K (He.ga K x) (.type "object") = some true
  hd : PySem.W.hasDictIn K (He.ga K x) = true
  hcl : (PySem.W.clsIn K (He.ga K x)).isSome = true
def exD (K : PySem.W.Frag) (x : Str) : Bool :=
  oexB K (He.ga K x) && (He.eqO (PySem.W.findIn K (.ref (He.ga K x)) "__setattr__") (some (some (.builtin "object.__setattr__"))) && (decide (PySem.W.subIn K (.ref (He.ga K x)) (.type "BaseException") = some true) && (decide (PySem.W.typeIn K (.ref (He.ga K x)) = some (.type "type")) && (PySem.W.keepIn K (.ref (He.ga K x)) &&
  (He.eqO (PySem.W.findIn K (.ref (He.ga K x)) "__getattr__") (some none) && (He.eqO (PySem.W.findIn K (.ref (He.ga K x)) "__getattribute__") (some (some (.builtin "BaseException.__getattribute__"))) && (He.eqO (PySem.W.findIn K (.ref (He.ga K x)) "__class__") (some (some (.builtin "object.__class__"))) &&
  (decide (PySem.W.mroIn K (He.ga K x) (.type "object") = some true) && (PySem.W.hasDictIn K (He.ga K x) && (PySem.W.clsIn K (He.ga K x)).isSome)))))))))
theorem exD_ok {K : PySem.W.Frag} {x : Str} (h : exD K x = true) : ExD K x := by
  obtain ⟨h1, h⟩ := He.ba h
  obtain ⟨h2, h⟩ := He.ba h
  obtain ⟨h3, h⟩ := He.ba h
  obtain ⟨h4, h⟩ := He.ba h
  obtain ⟨h5, h⟩ := He.ba h
  obtain ⟨h6, h⟩ := He.ba h
  obtain ⟨h7, h⟩ := He.ba h
  obtain ⟨h8, h⟩ := He.ba h
  obtain ⟨h9, h⟩ := He.ba h
  obtain ⟨h10, h11⟩ := He.ba h
  exact ⟨⟨oexB_ok h1, He.eqO_ok h2, of_decide_eq_true h3, of_decide_eq_true h4, h5⟩, He.eqO_ok h6, He.eqO_ok h7, He.eqO_ok h8, of_decide_eq_true h9, h10, h11⟩
/-- .. with its __init__ and its field f -/
structure ExI (K : PySem.W.Frag) (x f : Str) : Prop where
  d : ExD K x
  i : PySem.W.findIn K (.ref (He.ga K x)) "__init__" = some (some (.ref (He.fAd K (x, some "__init__"))))
  t : PySem.W.typeIn K (.ref (He.fAd K (x, some "__init__"))) = some (.type "function")
  n : PySem.W.findIn K (.ref (He.ga K x)) f = some none
def exI (K : PySem.W.Frag) (x f : Str) : Bool :=
  exD K x && (He.eqO (PySem.W.findIn K (.ref (He.ga K x)) "__init__") (some (some (.ref (He.fAd K (x, some "__init__"))))) && (decide (PySem.W.typeIn K (.ref (He.fAd K (x, some "__init__"))) = some (.type "function")) && He.eqO (PySem.W.findIn K (.ref (He.ga K x)) f) (some none)))
theorem exI_ok {K : PySem.W.Frag} {x f : Str} (h : exI K x f = true) : ExI K x f := by
  obtain ⟨h1, h⟩ := He.ba h
  obtain ⟨h2, h⟩ := He.ba h
  obtain ⟨h3, h4⟩ := He.ba h
  exact ⟨exD_ok h1, He.eqO_ok h2, of_decide_eq_true h3, He.eqO_ok h4⟩
/-- the __init__: self.f = v -/
def spExI (K : PySem.W.Frag) (C : Addr) (f : Str) : Sp := fun vs H Q _ => ∃ (a : Addr) (v : V), vs = [.ref a, v] ∧ OexC K C ∧ PySem.W.findIn K (.ref C) f = some none ∧ H a = some (exo a C none) ∧
  ∀ dx, H dx = none → dx ≠ a → Q .non (upd (upd H dx (exd dx [(f, v)])) a (exo a C (some dx)))
theorem run_exI {K : PySem.W.Frag} {C : Addr} {f : Str} {N : List Str} {vs : List V} {H : Hp} {Q : VK} {E : XK} (h : spExI K C f vs H Q E) : tOst K f (tVar 0) (tVar 1) { nx := fun _ H' => Q .non H', rt := Q } (start N vs) H := by
  obtain ⟨a, v, rfl, T, hn, ea, q⟩ := h
  have s0 : (start N [.ref a, v])[0]? = some (some (.ref a)) := rfl
  have s1 : (start N [.ref a, v])[1]? = some (some v) := rfl
  exact ⟨_, s1, _, s0, a, C, rfl, T, hn, .inl ⟨ea, fun dx h1 h2 => q dx h1 h2⟩⟩
/-- the heap behind the making: the error's own dict alone is new -/
theorem exc_heap {H : Hp} {a d : Addr} {o1 o2 o3 o4 : HO} (ha : H a = none) (hda : d ≠ a) : upd (del (upd (upd (upd H a o1) d o2) a o3) a) d o4 = upd H d o4 := by
  funext b
  by_cases h1 : b = d
  · rw [h1, upd_same, upd_same]
  · rw [upd_ne h1, upd_ne h1]
    by_cases h2 : b = a
    · rw [h2, del_same, ha]
    · rw [del_ne h2, upd_ne h2, upd_ne h1, upd_ne h2]
theorem pa_weak {X : Cx} {es : List Expr} {ta : TA} (ha : PA X es ta) : PA X es (fun σ H Q => ∃ R, ta σ H R ∧ ∀ vs H1, R vs H1 → Q vs H1) := ⟨fun pos pins s σ H Q I h => by
  obtain ⟨R, h1, h2⟩ := h
  exact thn (ha.run pos pins s σ H R I h1) fun us s1 ⟨vs, H1, I1, r, q⟩ => ⟨vs, H1, I1, r, h2 _ _ q⟩⟩
section
variable {X : Cx} {CX : CXT} {k j : Nat} {ps : List Str} {x f : Str} {p pos pos2 : Pos} {e : Expr} {es : List Expr} {ta : TA} {W : WX}
/-- raise C(e): the error's dict, new, holds f -/
def tRaiseI (C : Addr) (f : Str) (W : WX) (ta : TA) : TS := fun _ σ H => ta σ H fun vs H1 => ∃ v, vs = [v] ∧ ∀ d, H1 d = none → W (.ref C) (some d) σ (upd H1 d (.xd [(f, v)]))
theorem c_raise (T : ExI X.K x f) (O : OkD X.prog X.w X.K X.mg X.base CX0 k (x, some "__init__") ps [] (spExI X.K (He.ga X.K x) f)) (hr : Room j X.A) (hj : k + 1 ≤ j) (hm : X.mg x = some (.ref (He.ga X.K x))) (tk : Takes X W) (ha : PA X (e :: es) ta) (hc : X.calm = true := by rfl) (hg : Gl X x := by rfl)
    (hdb : (x == ("__debug__" : Str)) = false := by decide) (he : starEach (e :: es) X.env = (false, eval e X.env) :: starEach es X.env := by rfl) (hpl : (backTo pos (starEach es X.env)).any (·.1) = false := by rfl) :
    PS X (.Raise (some (.Call (.Name x p) (e :: es) [] pos)) none pos2) (tRaiseI (He.ga X.K x) f W ta) := by
  obtain ⟨fd, ds, F, b, v⟩ := O.ex
  cases v
  refine ⟨fun pins s σ H D I h => (ps_raise hc tk (pmk_oex (p := p) T.d.o T.i T.t F (hr.mono hj) b .nil pass0 hg hm (pa_weak ha) hdb he hpl)).run pins s σ H D I ?_⟩
  refine ⟨_, h, fun vs H1 z => ?_⟩
  obtain ⟨v, rfl, q⟩ := z
  refine ⟨(by show 1 ≤ 1000; decide), fun a na => ⟨a, v, rfl, T.d.o, T.n, upd_same, fun dx h1 h2 => ?_⟩⟩
  have hdx : H1 dx = none := by
    rw [upd_ne h2] at h1
    exact h1
  refine ⟨rfl, dx, [(f, v)], upd_same, ?_, hdx, ?_⟩
  · rw [upd_ne h2, upd_same]
  · rw [exc_heap na h2]
    exact q dx hdx
end
/-! ### isinstance(e, c) of a caught error -/
section
variable {X : Cx}
theorem call_isiE {a D : Addr} {d : Option Addr} {oe : Obj} {pn : List (Addr × Obj)} {x : Str} (hD : D = He.ga X.K x) (T : ExD X.K x) (hn : PySem.W.specialIn X.K (.builtin "object.__class__") "__get__" = some (some (.builtin "getset_descriptor.__get__")))
    (ht : PySem.W.takesIn X.K (.builtin "object.__class__") = some true) {cls : Value} (hz : Zc cls d oe) (hf : ∃ vs, oe.data = .fields vs) : CallR (X.suite a ((a, oe) :: pn)) (.builtin "isinstance")
      (fun xs H Q => ∃ (c : V) (cv : Value) (b : Bool), xs = [.ref a, c] ∧ cls = .ref D ∧ ClsV c cv ∧ PySem.W.kitOne X.K (.ref D) cv = some b ∧ (∃ dd fs, d = some dd ∧ H dd = some (.xd fs)) ∧ Q (.bl b) H) := by
  subst hD
  intro pins s σ H xs us Q I r h
  obtain ⟨c, cv, b, rfl, ec, hcv, e, ⟨dd, fs, ed, hdd⟩, q⟩ := h
  obtain ⟨u1, u2, rfl, r1, r2⟩ := vals2 r
  have e2 := hcv.eq r2
  subst e2
  cases r1
  obtain ⟨hget, _⟩ := I.pin (a, oe) (List.mem_append.mpr (.inl List.mem_cons_self))
  obtain ⟨vs, hv⟩ := hf
  subst ed ec
  obtain ⟨mA, ⟨od, es, ep, ho, _⟩, _⟩ := (show ObjOk X.prog X.w H s.heap dd (.xd fs) from I.hok dd _ hdd)
  have J : PySem.W.InstAt s.heap a oe (He.ga X.K x) (some od) := by
    obtain ⟨oc, odd, oda, osl⟩ := oe
    obtain ⟨h1, h2⟩ := hz
    dsimp only at h1 h2 hv
    subst h1 h2 hv
    exact ⟨hget, rfl, rfl, ho⟩
  exact PySem.W.kia_one (PySem.W.kitx_exc T.hcl T.ga T.gg T.o.exC T.ha hn ht T.hm) I.kIn J e (fun z => nomatch z) fun tk => ⟨.bl b, H, I.kept (t' := tk) fun _ _ z => z, rfl, q⟩
end
/-! ### the head's hook: any Bool over the written part, the defs -/
abbrev AlM : Type := Bool × List He.FnW
def obsM (ex : PySem.W.Frag → Bool) (fn : List He.DefD) (K : PySem.W.Frag) : AlM := (ex K && fn.all fun d => d.ok K, fn.map fun d => He.fnW K d.at_)
def SaysM (ex : PySem.W.Frag → Bool) (fn : List He.DefD) (K : PySem.W.Frag) : Prop := obsM ex fn K = (true, fn.map He.DefD.val)
def obsMG (n : Nat) (ex : PySem.W.Frag → Bool) (fn : List He.DefD) (g : Addr → Option Obj) : AlM := obsM ex fn (He.frG g (He.asD g n))
def hookM (n : Nat) (ex : PySem.W.Frag → Bool) (fn : List He.DefD) : PySem.W.Hook where
  α := AlM
  obs := fun s => obsMG n ex fn s.heap.get?
  val := fun _ => (true, fn.map He.DefD.val)
  says := fun _ h => ∃ K : PySem.W.Frag, K.In h ∧ SaysM ex fn K
  of := fun _ _ e => ⟨_, He.frG_in, e⟩
  keeps := fun _ _ _ ⟨K, hK, c⟩ k => ⟨K, PySem.W.Frag.In.keeps hK k, c⟩
theorem obsMG_eq {n : Nat} {ex : PySem.W.Frag → Bool} {fn : List He.DefD} {g : Addr → Option Obj} {s : Shared} (h : ∀ a, g a = s.heap.get? a) : obsMG n ex fn g = (hookM n ex fn).obs s := by
  have e : g = s.heap.get? := funext h
  rw [e]
  rfl
theorem SaysM.ex {ex : PySem.W.Frag → Bool} {fn : List He.DefD} {K : PySem.W.Frag} (c : SaysM ex fn K) : ex K = true := (He.ba (congrArg (fun z : AlM => z.1) c)).1
theorem SaysM.fn {ex : PySem.W.Frag → Bool} {fn : List He.DefD} {K : PySem.W.Frag} (c : SaysM ex fn K) (i : Nat) {d : He.DefD} (h : fn[i]? = some d := by rfl) : ∃ fd, FunD K d.name d.qual d.params d.body d.scope (d.dvs K) (d.kws K) (He.fAd K d.at_) fd := by
  have c2 := (He.ba (congrArg (fun z : AlM => z.1) c)).2
  have e : fn.map (fun d => He.fnW K d.at_) = fn.map He.DefD.val := congrArg (fun z : AlM => z.2) c
  have e2 : He.fnW K d.at_ = d.val := by
    have e3 : (fn.map fun d => He.fnW K d.at_)[i]? = (fn.map He.DefD.val)[i]? := by rw [e]
    simp only [List.getElem?_map, h, Option.map_some] at e3
    exact Option.some.inj e3
  exact He.DefD.funD e2 (List.all_eq_true.mp c2 d (List.mem_of_getElem? h))

end Vf

set_option Elab.async false
set_option linter.all false
set_option maxRecDepth 100000
set_option maxHeartbeats 2000000
namespace Vf
open PySem PySem.Spec PyProof.Rows L2
/-! ### Euclid's loop -/
def Eu (g B i x y : Nat) : Prop := Nat.gcd x y = g ∧ ((i % 2 = 0 ∧ y * 2 ^ (i / 2) ≤ B) ∨ (i % 2 = 1 ∧ y < x ∧ x * 2 ^ (i / 2) ≤ B))
theorem Eu.start (x y : Nat) : Eu (Nat.gcd x y) y 0 x y := ⟨rfl, .inl ⟨rfl, by simp⟩⟩
theorem Eu.step {g B i x y : Nat} (h : Eu g B i x y) (hy : y ≠ 0) : Eu g B (i + 1) y (x % y) := by
  obtain ⟨hg, h⟩ := h
  have hg2 : Nat.gcd y (x % y) = g := by
    rw [← hg, Nat.gcd_comm x y, Nat.gcd_rec y x, Nat.gcd_comm]
  have hlt : x % y < y := Nat.mod_lt x (by omega)
  refine ⟨hg2, ?_⟩
  rcases h with ⟨he, hb⟩ | ⟨ho, hxy, hb⟩
  · refine .inr ⟨by omega, hlt, ?_⟩
    have e : (i + 1) / 2 = i / 2 := by omega
    rw [e]
    exact hb
  · refine .inl ⟨by omega, ?_⟩
    have e : (i + 1) / 2 = i / 2 + 1 := by omega
    have hd := Nat.div_add_mod x y
    have h1 : 1 ≤ x / y := Nat.div_pos (by omega) (by omega)
    have h2 : y * 1 ≤ y * (x / y) := Nat.mul_le_mul_left y h1
    have h3 : 2 * (x % y) ≤ x := by omega
    rw [e, Nat.pow_succ]
    calc x % y * (2 ^ (i / 2) * 2) = (2 * (x % y)) * 2 ^ (i / 2) := by rw [Nat.mul_comm (2 ^ (i / 2)) 2, ← Nat.mul_assoc, Nat.mul_comm (x % y) 2]
      _ ≤ x * 2 ^ (i / 2) := Nat.mul_le_mul_right _ h3
      _ ≤ B := hb
theorem Eu.last {g B x y : Nat} (h : Eu g B 500 x y) (hB : B < 2 ^ 250) : x = g := by
  obtain ⟨hg, h⟩ := h
  rcases h with ⟨_, hb⟩ | ⟨ho, _⟩
  · have e : (500 : Nat) / 2 = 250 := rfl
    rw [e] at hb
    have hy : y = 0 := by
      rcases Nat.eq_zero_or_pos y with h0 | h0
      · exact h0
      · exfalso
        have : 1 * 2 ^ 250 ≤ y * 2 ^ 250 := Nat.mul_le_mul_right _ h0
        omega
    rw [hy, Nat.gcd_zero_right] at hg
    exact hg
  · omega
theorem Eu.zero {g B i x : Nat} (h : Eu g B i x 0) : x = g := by
  have hg := h.1
  rw [Nat.gcd_zero_right] at hg
  exact hg
/-! ### lowest terms -/
def nG (t b : Int) : Int := ((Nat.gcd t.natAbs b.natAbs : Nat) : Int)
def nC (t b : Int) : Int := if b < 0 then -(nG t b) else nG t b
def nT (t b : Int) : Int := t.fdiv (nC t b)
def nB (t b : Int) : Int := b.fdiv (nC t b)
/-- a and b are t over b' in lowest terms -/
structure Nf (a b : Int) : Prop where
  pos : 0 < b
  cop : Nat.gcd a.natAbs b.natAbs = 1
structure NfOf (t u a b : Int) : Prop extends Nf a b where
  eq : a * u = t * b
  le1 : a.natAbs ≤ t.natAbs
  le2 : b.natAbs ≤ u.natAbs
theorem nG_pos {t b : Int} (hb : b ≠ 0) : 0 < nG t b := by
  have : 0 < Nat.gcd t.natAbs b.natAbs := Nat.gcd_pos_of_pos_right _ (by omega)
  unfold nG
  omega
theorem nC_abs (t b : Int) : (nC t b).natAbs = Nat.gcd t.natAbs b.natAbs := by
  unfold nC nG
  split <;> omega
theorem nC_ne {t b : Int} (hb : b ≠ 0) : nC t b ≠ 0 := by
  have := nG_pos (t := t) hb
  unfold nC
  split <;> omega
theorem nC_dvd1 (t b : Int) : nC t b ∣ t := by
  rw [← Int.natAbs_dvd_natAbs, nC_abs]
  exact Nat.gcd_dvd_left _ _
theorem nC_dvd2 (t b : Int) : nC t b ∣ b := by
  rw [← Int.natAbs_dvd_natAbs, nC_abs]
  exact Nat.gcd_dvd_right _ _
theorem nT_mul (t b : Int) : nT t b * nC t b = t := Int.fdiv_mul_cancel (nC_dvd1 t b)
theorem nB_mul (t b : Int) : nB t b * nC t b = b := Int.fdiv_mul_cancel (nC_dvd2 t b)
theorem nf_of (t : Int) {b : Int} (hb : b ≠ 0) : NfOf t b (nT t b) (nB t b) := by
  have e1 := nT_mul t b
  have e2 := nB_mul t b
  have hc := nC_ne (t := t) hb
  have ga := nC_abs t b
  have g0 : 0 < Nat.gcd t.natAbs b.natAbs := Nat.gcd_pos_of_pos_right _ (by omega)
  have a1 : (nT t b).natAbs * Nat.gcd t.natAbs b.natAbs = t.natAbs := by rw [← ga, ← Int.natAbs_mul, e1]
  have a2 : (nB t b).natAbs * Nat.gcd t.natAbs b.natAbs = b.natAbs := by rw [← ga, ← Int.natAbs_mul, e2]
  refine ⟨⟨?_, ?_⟩, ?_, ?_, ?_⟩
  · rcases (show 0 < nB t b ∨ nB t b ≤ 0 by omega) with h | h
    · exact h
    · exfalso
      by_cases hn : b < 0
      · have hc2 : nC t b < 0 := by
          have := nG_pos (t := t) hb
          unfold nC
          rw [if_pos hn]
          omega
        have := Int.mul_nonneg_of_nonpos_of_nonpos h (Int.le_of_lt hc2)
        omega
      · have hc2 : 0 < nC t b := by
          have := nG_pos (t := t) hb
          unfold nC
          rw [if_neg hn]
          omega
        have := Int.mul_nonpos_of_nonpos_of_nonneg h (Int.le_of_lt hc2)
        omega
  · have h := Nat.gcd_mul_right (nT t b).natAbs (Nat.gcd t.natAbs b.natAbs) (nB t b).natAbs
    rw [a1, a2] at h
    have h2 : 1 * Nat.gcd t.natAbs b.natAbs = Nat.gcd (nT t b).natAbs (nB t b).natAbs * Nat.gcd t.natAbs b.natAbs := by rw [Nat.one_mul]; exact h
    exact (Nat.eq_of_mul_eq_mul_right g0 h2).symm
  · calc nT t b * b = nT t b * (nB t b * nC t b) := by rw [e2]
      _ = (nT t b * nC t b) * nB t b := by rw [Int.mul_comm (nB t b), Int.mul_assoc]
      _ = t * nB t b := by rw [e1]
  · calc (nT t b).natAbs = (nT t b).natAbs * 1 := by rw [Nat.mul_one]
      _ ≤ (nT t b).natAbs * Nat.gcd t.natAbs b.natAbs := Nat.mul_le_mul_left _ g0
      _ = t.natAbs := a1
  · calc (nB t b).natAbs = (nB t b).natAbs * 1 := by rw [Nat.mul_one]
      _ ≤ (nB t b).natAbs * Nat.gcd t.natAbs b.natAbs := Nat.mul_le_mul_left _ g0
      _ = b.natAbs := a2
/-- bits: below 2 ^ n -/
def Bit (n : Nat) (x : Int) : Prop := x.natAbs < 2 ^ n
theorem Bit.mono {n m : Nat} {x : Int} (h : Bit n x) (l : n ≤ m) : Bit m x := Nat.lt_of_lt_of_le h (Nat.pow_le_pow_right (by decide) l)
theorem Bit.le {n : Nat} {x y : Int} (h : Bit n y) (l : x.natAbs ≤ y.natAbs) : Bit n x := Nat.lt_of_le_of_lt l h
theorem Bit.mul {n m : Nat} {x y : Int} (h : Bit n x) (h' : Bit m y) : Bit (n + m) (x * y) := by
  unfold Bit
  rw [Int.natAbs_mul, Nat.pow_add]
  exact Nat.mul_lt_mul'' h h'
theorem Bit.add {n : Nat} {x y : Int} (h : Bit n x) (h' : Bit n y) : Bit (n + 1) (x + y) := by
  unfold Bit at *
  rw [Nat.pow_succ]
  omega
theorem Bit.sub {n : Nat} {x y : Int} (h : Bit n x) (h' : Bit n y) : Bit (n + 1) (x - y) := by
  unfold Bit at *
  rw [Nat.pow_succ]
  omega
theorem Bit.neg {n : Nat} {x : Int} (h : Bit n x) : Bit n (-x) := by
  unfold Bit at *
  omega
theorem Bit.log {n m : Nat} {x : Int} (h : Bit n x) (h0 : 0 < n) (hm : n ≤ m) : x.natAbs.log2 < m := Nat.lt_of_lt_of_le (PySem.Flt.log2_lt_of h0 h) hm
theorem Bit.wm {n m : Nat} {x y : Int} (h : Bit n x) (h' : Bit m y) (h0 : 0 < n) (h1 : 0 < m) (l : n + m ≤ 1000000) : CMulW x y := wide_mul h h' h0 h1 l
end Vf

set_option Elab.async false
set_option linter.all false
set_option maxRecDepth 100000
set_option maxHeartbeats 2000000
namespace Vf
open PySem PySem.Spec PyProof.Rows L2
section
open PySem.W PySem.Calls
variable {prog : Program} {w : World} {A : Around} {E : Value → Shared → Prop} {s : Shared} {K : Frag} {x C f f0 L : Addr} {h₀ : Heap} {m : Str → Option Value} {ox : Obj} {od : Option Obj} {nm : String}
/-- a slot of int that is handed an instance of the text's own declines -/
theorem int_no {n : Int} {t : Tok} {name : String} {g : Int → Int → Sem Fin} {refl : Bool} (hd : ox.data = .plain) (hx : s.heap.get? x = some ox) {Q : Fin → Shared → Prop}
    (h : Q (.done (.ret .notImplemented)) s) : wpAny (model prog w) A (PySem.Builtin.Int.intBinary name g refl ⟨[.int n t, .ref x], []⟩) Q E s := by
  obtain ⟨hp, gg, d, tk, os⟩ := s
  obtain ⟨oc, odd, oda, osl⟩ := ox
  dsimp only at hd
  subst hd
  unfold PySem.Builtin.Int.intBinary
  wp_walk using AutoSeq1.wpAny_loadPart' hx
  exact h
/-- B declines an instance of the text's own -/
def Declines (B : Builtin) : Prop := ∀ (prog : Program) (w : World) (A : Around) (E : Value → Shared → Prop) (s : Shared) (n : Int) (t : Tok) (x : Addr) (ox : Obj) (Q : Fin → Shared → Prop), ox.data = .plain → s.heap.get? x = some ox → Q (.done (.ret .notImplemented)) s → wpAny (model prog w) A (B ⟨[.int n t, .ref x], []⟩) Q E s
theorem decl_bin (name : String) (g : Int → Int → Sem Fin) (r : Bool) : Declines (PySem.Builtin.Int.intBinary name g r) := fun _ _ _ _ _ _ _ _ _ _ hd hx h => int_no hd hx h
theorem decl_fdv : Declines PySem.Builtin.«int.__floordiv__» := fun prog w A E s n t x ox Q hd hx h => by
  obtain ⟨hp, gg, d, tk, os⟩ := s
  obtain ⟨oc, odd, oda, osl⟩ := ox
  dsimp only at hd
  subst hd
  unfold PySem.Builtin.«int.__floordiv__» PySem.Builtin.exactOperandsForPylong
  have k := fun g => int_no (prog := prog) (w := w) (A := A) (E := E) (n := n) (t := t) (name := "__floordiv__") (g := g) (refl := false) (s := ⟨hp, gg, d, tk, os⟩) rfl hx h
  wp_walk using AutoSeq1.wpAny_loadPart' hx
  all_goals first | exact k _ | exact h
/-- n op x, n an int, x an instance of the text's own: int's slot declines, the reflected one of x's class is asked -/
theorem bin_int_own {op : Operator} {n : Int} {t : Tok} {id : String} {B : Builtin} {Q : Value → Shared → Prop} (X : K.In s.heap) (I : InstAt s.heap x ox C od) (hp : ox.data = .plain) (hc : selfFirst K C = true)
    (hs : findIn K (.ref C) (PySem.dunder op.info.2) = some (some (.ref f0))) (hr : findIn K (.ref C) (dunderR op.info.2) = some (some (.ref f))) (hf : isFn K (.ref f) = true) (hm : mroIn K C (.type "int") = some false)
    (hfT : fillsNumberSlot (.type "int") op.info.2 = pure true) (slot : Slot "int" (PySem.dunder op.info.2) id) (entry : entryFor table id = some B) (ha : argsOk id ⟨[.int n t, .ref x], []⟩)
    (hB : Declines B)
    (h : wpAny (model prog w) A (call (.ref f) [.ref x, .int n t]) (PySem.W.CmpBack Q) E s) : wpAny (model prog w) A (binaryOp op (.int n t) (.ref x)) Q E s := by
  obtain ⟨cd, rest, hcd, hmro⟩ := ksp_first hc
  rcases hi : op.info with ⟨sym, nm'⟩
  rw [hi] at hs hr slot hfT
  dsimp only at hs hr slot hfT
  have one := ksp_try X I hr hf h
  have two : wpAny (model prog w) A (tryMethod (.int n t) (PySem.dunder nm') (.ref x)) (fun r s' => r = none ∧ s' = s) E s :=
    wpAny_tryMethod_declines (typeIs_int s n t) slot (wpAny_call_entry slot (typeIs_int s n t) entry (hB _ _ _ _ _ _ _ _ _ _ hp I.at_ ⟨_, rfl, rfl, rfl, rfl⟩) ha)
  obtain ⟨hh, gg, d, tt, os⟩ := s
  have L1 : Looks (model prog w) hh (typeOf (.int n t)) (.type "int") := Looks.of_pure rfl
  have L2 : Looks (model prog w) hh (typeOf (.ref x)) (.ref C) := I.type
  have L3 : Looks (model prog w) hh (fillsNumberSlot (.type "int") nm') true := Looks.of_pure hfT
  have L4 : Looks (model prog w) hh (fillsNumberSlot (.ref C) nm') true := fills_K X hcd hmro hs
  have L5 : Looks (model prog w) hh (isSubtype (.ref C) (.type "int")) false := looks_mroIn X hm
  have L6 : Looks (model prog w) hh (numberSlotInPython (.type "int") nm') false := Looks.of_pure rfl
  have hne : (Value.type "int" == Value.ref C) = false := Bool.eq_false_iff.mpr fun q => by cases beq_iff_eq.mp q
  simp only [binaryOp, hi]
  refine wpAny_holding (wpAny_bind ?_)
  unfold binaryOp1
  refine wpAny_bind (L1.at (wpAny_bind (L2.at (wpAny_bind (L3.at ?_)))))
  simp only [hne, Bool.false_eq_true, if_false]
  ksp_lk
  refine wpAny_mono two (fun r s' hr' => ?_) fun _ _ e => e
  obtain ⟨rfl, rfl⟩ := hr'
  ksp_lk
  refine wpAny_mono one (fun r s' hr' => ?_) fun _ _ e => e
  obtain ⟨v, rfl, hq⟩ := hr'
  ksp_lk
  exact hq
/-- n ? x for a comparison: int's slot declines, the swapped one of x's class is asked -/
theorem cmp_int_own {op : CmpOp} {n : Int} {t : Tok} {id : String} {B : Builtin} {Q : Value → Shared → Prop} (hu : A.units < cLine) (X : K.In s.heap) (I : InstAt s.heap x ox C od) (hp : ox.data = .plain)
    (hr : findIn K (.ref C) (cmpInfo op).2.2 = some (some (.ref f))) (hf : isFn K (.ref f) = true) (hm : mroIn K C (.type "int") = some false)
    (slot : Slot "int" (cmpInfo op).2.1 id) (entry : entryFor table id = some B) (ha : argsOk id ⟨[.int n t, .ref x], []⟩) (hB : Declines B)
    (h : wpAny (model prog w) A (call (.ref f) [.ref x, .int n t]) (PySem.W.CmpBack Q) E s) : wpAny (model prog w) A (richCompare op (.int n t) (.ref x)) Q E s := by
  have one : wpAny (model prog w) A (tryCompare (.ref x) (cmpInfo op).2.2 (.int n t)) (fun r s' => ∃ v, r = some v ∧ Q v s') E s := by
    unfold tryCompare
    refine wpAny_bind (ifBound_K X I hr hf (wpAny_mono h (fun v s' hv => ?_) fun _ _ e => e))
    cases v <;> first | exact hv.elim | exact wpAny_pure ⟨_, rfl, hv⟩
  have two : wpAny (model prog w) A (tryCompare (.int n t) (cmpInfo op).2.1 (.ref x)) (fun r s' => r = none ∧ s' = s) E s :=
    wpAny_tryCompare_declines (typeIs_int s n t) slot (wpAny_call_entry slot (typeIs_int s n t) entry (hB _ _ _ _ _ _ _ _ _ _ hp I.at_ ⟨_, rfl, rfl, rfl, rfl⟩) ha)
  have ot : oneThing? op (.int n t) (.ref x) = none := rfl
  have hne : (Value.type "int" != Value.ref C) = true := bne_iff_ne.mpr fun q => by cases q
  unfold richCompare
  simp only [ot]
  refine wpAny_holding (wpAny_bind (wpAny_cRoomFor hu ?_))
  refine wpAny_bind ((Looks.of_pure rfl : Looks (model prog w) s.heap (typeOf (.int n t)) (.type "int")).here (wpAny_bind (I.type.here ?_)))
  simp only [hne, if_true]
  refine wpAny_bind ((looks_mroIn X hm).here ?_)
  simp only [Bool.false_eq_true, if_false]
  refine wpAny_bind (wpAny_mono two (fun r s' z => ?_) fun _ _ e => e)
  obtain ⟨rfl, rfl⟩ := z
  simp only [Bool.not_false, if_true]
  refine wpAny_bind (wpAny_mono one (fun r s' z => ?_) fun _ _ e => e)
  obtain ⟨v, rfl, hq⟩ := z
  exact wpAny_pure hq
end
/-! ### readings over the layer -/
section
variable {X : Cx} {CX : CXT} {k j : Nat} {C : Addr} {cn m : Str} {ps : List Str} {sp : Sp} {E : XK}
theorem back_of {pins : List (Addr × Obj)} {σ : L2.St} {Q : VK} {u : Value} {s' : Shared} (h : EP X pins σ Q u s') : PySem.W.CmpBack (EP X pins σ Q) u s' := by
  obtain ⟨v, H', I, r, q⟩ := id h
  cases v with
  | non => cases (show u = Value.none from r); exact h
  | bl b => cases (show u = Value.bool b from r); exact h
  | int i => obtain ⟨t, e⟩ := (show ∃ t, u = Value.int i t from r); cases e; exact h
  | str z => obtain ⟨t, e⟩ := (show ∃ t, u = Value.str z t from r); cases e; exact h
  | byt z => obtain ⟨t, e⟩ := (show ∃ t, u = Value.bytes z t from r); cases e; exact h
  | flt z => obtain ⟨t, e⟩ := (show ∃ t, u = Value.float z t from r); cases e; exact h
  | ref a => cases (show u = Value.ref a from r); exact h
  | ty n => cases (show u = Value.type n from r); exact h
/-- a method of the text's own asked by the machine, at the running body's own depth -/
theorem run_own {f : Addr} {fd : FuncData} {pins : List (Addr × Obj)} {σ : L2.St} {H : Hp} {s : Shared} {Q : VK} {us : List Value} {vs : List V} (F : FnOk X.prog X.w X.K X.mg X.base CX k f fd ps sp) (hr : Room k X.A) (hb : L2.Binds X.K fd ps []) (hx : Passes CX X E)
    (I : L2.Inv X pins σ H s) (r : Vals vs us) (h : sp vs H Q E) : wpAny (model X.prog X.w) X.A (call (.ref f) us) (PySem.W.CmpBack (EP X pins σ Q)) X.xe s :=
  wpAny_mono (run_fn F hr hb .nil hx I r (by rw [List.append_nil]; exact h)) (fun _ _ z => back_of z) fun _ _ z => z
/-- o op p, both of the class at C -/
def rOO (C : Addr) (sp : Sp) (E : XK) : R2 := fun x y H Q => ∃ a b dx dy fs gs, x = .ref a ∧ y = .ref b ∧ H a = some (.ins C dx fs) ∧ H b = some (.ins C dy gs) ∧ sp [x, y] H Q E
/-- o op n, n an int -/
def rOI (C : Addr) (sp : Sp) (E : XK) : R2 := fun x y H Q => ∃ a n dx fs, x = .ref a ∧ y = .int n ∧ H a = some (.ins C dx fs) ∧ sp [x, y] H Q E
/-- n op o, n an int: the reflected method -/
def rIO (C : Addr) (sp : Sp) (E : XK) : R2 := fun x y H Q => ∃ n b dx fs, x = .int n ∧ y = .ref b ∧ H b = some (.ins C dx fs) ∧ sp [y, x] H Q E
theorem op_oo {op : Operator} (hd : PySem.dunder op.info.2 = m) (M : Meth X.K C m (He.fAd X.K (cn, some m))) (hc : PySem.W.selfFirst X.K C = true) (O : OkD X.prog X.w X.K X.mg X.base CX k (cn, some m) ps [] sp) (hr : Room j X.A) (hj : k ≤ j) (hx : Passes CX X E) : OpR X (binaryOp op) (rOO C sp E) := by
  obtain ⟨fd, ds, F, b, v⟩ := O.ex
  cases v
  intro pins s σ H x y v u Q I rx ry h
  obtain ⟨a, b', dx, dy, fs, gs, rfl, rfl, ha, hb, hsp⟩ := h
  cases rx
  cases ry
  obtain ⟨mA, J, _⟩ := ins_get I.hok ha
  obtain ⟨mB, J', _⟩ := ins_get I.hok hb
  obtain ⟨od, J, _⟩ := J.look
  obtain ⟨od', J', _⟩ := J'.look
  obtain ⟨mm, hF⟩ := I.fr
  exact PySem.W.binop_K hF I.ok.mod.kin J J'.type hc (by rw [hd]; exact M.at_) M.fn (run_own (vs := [V.ref a, V.ref b']) F (hr.mono hj) b hx I (.cons rfl (.cons rfl .nil)) hsp)
theorem op_oi {op : Operator} {fo ro rc : Option Value} (hd : PySem.dunder op.info.2 = m) (M : Meth X.K C m (He.fAd X.K (cn, some m))) (hc : PySem.W.selfFirst X.K C = true) (h2 : PySem.W.findIn X.K (.ref C) (dunderR op.info.2) = some rc) (hp : rc = none ∨ ∃ g : Addr, rc = some (.ref g))
    (h3 : PySem.W.findIn X.K (.type "int") (PySem.dunder op.info.2) = some fo) (h4 : PySem.W.findIn X.K (.type "int") (dunderR op.info.2) = some ro) (h5 : PySem.W.subIn X.K (.type "int") (.ref C) = some false)
    (O : OkD X.prog X.w X.K X.mg X.base CX k (cn, some m) ps [] sp) (hr : Room j X.A) (hj : k ≤ j) (hx : Passes CX X E) : OpR X (binaryOp op) (rOI C sp E) := by
  obtain ⟨fd, ds, F, b, v⟩ := O.ex
  cases v
  intro pins s σ H x y v u Q I rx ry h
  obtain ⟨a, n, dx, fs, rfl, rfl, ha, hsp⟩ := h
  cases rx
  obtain ⟨t, rfl⟩ := ry
  obtain ⟨mA, J, _⟩ := ins_get I.hok ha
  obtain ⟨od, J, _⟩ := J.look
  obtain ⟨mm, hF⟩ := I.fr
  exact PySem.W.ksp_binT hF I.ok.mod.kin J rfl hc (by rw [hd]; exact M.at_) M.fn h2 hp h3 h4 h5 (run_own (vs := [V.ref a, V.int n]) F (hr.mono hj) b hx I (.cons rfl (.cons ⟨t, rfl⟩ .nil)) hsp)
theorem op_io {op : Operator} {f0 : Addr} {id : String} {B : Builtin} (hd : dunderR op.info.2 = m) (M : Meth X.K C m (He.fAd X.K (cn, some m))) (hc : PySem.W.selfFirst X.K C = true) (h2 : PySem.W.findIn X.K (.ref C) (PySem.dunder op.info.2) = some (some (.ref f0))) (hm : PySem.W.mroIn X.K C (.type "int") = some false)
    (hfT : fillsNumberSlot (.type "int") op.info.2 = pure true) (slot : Slot "int" (PySem.dunder op.info.2) id) (entry : entryFor table id = some B) (ha : ∀ a b, argsOk id ⟨[a, b], []⟩) (hB : Declines B)
    (O : OkD X.prog X.w X.K X.mg X.base CX k (cn, some m) ps [] sp) (hr : Room j X.A) (hj : k ≤ j) (hx : Passes CX X E) : OpR X (binaryOp op) (rIO C sp E) := by
  obtain ⟨fd, ds, F, b, v⟩ := O.ex
  cases v
  intro pins s σ H x y v u Q I rx ry h
  obtain ⟨n, b', dx, fs, rfl, rfl, hb, hsp⟩ := h
  obtain ⟨t, rfl⟩ := rx
  cases ry
  obtain ⟨mA, J, _⟩ := ins_get I.hok hb
  obtain ⟨od, J, _⟩ := J.look
  exact bin_int_own I.kIn J rfl hc h2 (by rw [hd]; exact M.at_) M.fn hm hfT slot entry (ha _ _) hB (run_own (vs := [V.ref b', V.int n]) F (hr.mono hj) b hx I (.cons rfl (.cons ⟨t, rfl⟩ .nil)) hsp)
/-- -o -/
def rUO (C : Addr) (sp : Sp) (E : XK) : V → Hp → VK → Prop := fun x H Q => ∃ a dx fs, x = .ref a ∧ H a = some (.ins C dx fs) ∧ sp [x] H Q E
theorem un_negO (M : Meth X.K C "__neg__" (He.fAd X.K (cn, some "__neg__"))) (O : OkD X.prog X.w X.K X.mg X.base CX k (cn, some "__neg__") ps [] sp) (hr : Room j X.A) (hj : k ≤ j) (hx : Passes CX X E) : UnR X (unaryOp .USub) (rUO C sp E) := by
  obtain ⟨fd, ds, F, b, v⟩ := O.ex
  cases v
  intro pins s σ H x v Q I rx h
  obtain ⟨a, dx, fs, rfl, ha, hsp⟩ := h
  cases rx
  obtain ⟨mA, J, _⟩ := ins_get I.hok ha
  obtain ⟨od, J, _⟩ := J.look
  obtain ⟨mm, hF⟩ := I.fr
  exact PySem.W.ksp_neg hF I.ok.mod.kin J M.at_ M.fn (run_fn (vs := [V.ref a]) F (hr.mono hj) b .nil hx I (.cons rfl .nil) hsp)
/-- abs(o) -/
def rAbsO (C : Addr) (sp : Sp) : List V → Hp → VK → Prop := fun xs H Q => ∃ a dx fs, xs = [.ref a] ∧ H a = some (.ins C dx fs) ∧ sp xs H Q fun _ _ _ => False
theorem call_absO (M : Meth X.K C "__abs__" (He.fAd X.K (cn, some "__abs__"))) (O : OkD X.prog X.w X.K X.mg X.base CX0 k (cn, some "__abs__") ps [] sp) (hr : Room j X.A) (hj : k + 2 ≤ j) : CallR X (.builtin "abs") (rAbsO C sp) := by
  obtain ⟨fd, ds, F, b, v⟩ := O.ex
  cases v
  intro pins s σ H xs us Q I r h
  obtain ⟨a, dx, fs, rfl, ha, hsp⟩ := h
  obtain ⟨u, rfl, ru⟩ : ∃ u, us = [u] ∧ RelV (.ref a) u := by
    cases r with
    | cons p q => cases q; exact ⟨_, rfl, p⟩
  cases ru
  obtain ⟨mA, J, _⟩ := ins_get I.hok ha
  obtain ⟨od, J, _⟩ := J.look
  have hr2 : Room (k + 1) X.A.in1 := (hr.mono hj).in1
  have hr3 : Room k X.A.in1 := hr2.mono (by omega)
  have hl := F.len _ _ _ _ hsp
  have hb := b s [.ref a] I.kIn (by simpa using hl)
  simp only [List.append_nil] at hb
  refine PySem.Calls.call_function_entry PyProof.Rows.kind_abs PyProof.Rows.plain_abs PyProof.Rows.entry_abs (PyProof.Rows.args_abs _) ?_
  unfold PySem.Builtin.«abs»
  refine wpAny_bind (wpAny_pure ?_)
  refine wpAny_bind (m := callSpecial? (.ref a) (Str.ofString "__abs__")) (PySem.W.special_fn I.kIn J M.at_ (beq_iff_eq.mp M.fn) ?_)
  refine wpAny_call (codeAny_mono (F.run X.A.in1 X.stack s H ⟨[.ref a], []⟩ [.ref a] [.ref a] _ _ hr3 I.env0.in1 hb (.cons rfl .nil) hsp) fun r s' hq => ?_)
  cases r with
  | error e => exact hq.elim
  | ok fl =>
    cases fl with
    | ret w => exact wpAny_pure ⟨_, rfl, I.after hq⟩
    | next => exact False.elim hq
    | brk => exact False.elim hq
    | cont => exact False.elim hq
/-- comparisons -/
theorem cmp_oo {op : CmpOp} (hd : (cmpInfo op).2.1 = m) (hop : compareOp op = richCompare op) (M : Meth X.K C m (He.fAd X.K (cn, some m))) (O : OkD X.prog X.w X.K X.mg X.base CX k (cn, some m) ps [] sp) (hr : Room j X.A) (hj : k ≤ j) (hx : Passes CX X E) : OpR X (compareOp op) (rOO C sp E) := by
  obtain ⟨fd, ds, F, b, v⟩ := O.ex
  cases v
  intro pins s σ H x y v u Q I rx ry h
  obtain ⟨a, b', dx, dy, fs, gs, rfl, rfl, ha, hb, hsp⟩ := h
  cases rx
  cases ry
  obtain ⟨mA, J, _⟩ := ins_get I.hok ha
  obtain ⟨mB, J', _⟩ := ins_get I.hok hb
  obtain ⟨od, J, _⟩ := J.look
  obtain ⟨od', J', _⟩ := J'.look
  obtain ⟨mm, hF⟩ := I.fr
  rw [hop]
  exact PySem.W.cmp_K (tb := .ref C) hr.units0 hF I.ok.mod.kin J J'.type (by simp [PySem.W.notFirst]) (by rw [hd]; exact M.at_) M.fn (run_own (vs := [V.ref a, V.ref b']) F (hr.mono hj) b hx I (.cons rfl (.cons rfl .nil)) hsp)
theorem cmp_oi {op : CmpOp} (hd : (cmpInfo op).2.1 = m) (hop : compareOp op = richCompare op) (M : Meth X.K C m (He.fAd X.K (cn, some m))) (h5 : PySem.W.subIn X.K (.type "int") (.ref C) = some false)
    (O : OkD X.prog X.w X.K X.mg X.base CX k (cn, some m) ps [] sp) (hr : Room j X.A) (hj : k ≤ j) (hx : Passes CX X E) : OpR X (compareOp op) (rOI C sp E) := by
  obtain ⟨fd, ds, F, b, v⟩ := O.ex
  cases v
  intro pins s σ H x y v u Q I rx ry h
  obtain ⟨a, n, dx, fs, rfl, rfl, ha, hsp⟩ := h
  cases rx
  obtain ⟨t, rfl⟩ := ry
  obtain ⟨mA, J, _⟩ := ins_get I.hok ha
  obtain ⟨od, J, _⟩ := J.look
  obtain ⟨mm, hF⟩ := I.fr
  rw [hop]
  exact PySem.W.cmp_K (tb := .type "int") hr.units0 hF I.ok.mod.kin J (PySem.W.Looks.of_pure rfl) (by unfold PySem.W.notFirst; rw [h5]; simp) (by rw [hd]; exact M.at_) M.fn (run_own (vs := [V.ref a, V.int n]) F (hr.mono hj) b hx I (.cons rfl (.cons ⟨t, rfl⟩ .nil)) hsp)
theorem cmp_io {op : CmpOp} {id : String} {B : Builtin} (hd : (cmpInfo op).2.2 = m) (hop : compareOp op = richCompare op) (M : Meth X.K C m (He.fAd X.K (cn, some m))) (hm : PySem.W.mroIn X.K C (.type "int") = some false)
    (slot : Slot "int" (cmpInfo op).2.1 id) (entry : entryFor table id = some B) (ha : ∀ a b, argsOk id ⟨[a, b], []⟩) (hB : Declines B)
    (O : OkD X.prog X.w X.K X.mg X.base CX k (cn, some m) ps [] sp) (hr : Room j X.A) (hj : k ≤ j) (hx : Passes CX X E) : OpR X (compareOp op) (rIO C sp E) := by
  obtain ⟨fd, ds, F, b, v⟩ := O.ex
  cases v
  intro pins s σ H x y v u Q I rx ry h
  obtain ⟨n, b', dx, fs, rfl, rfl, hb, hsp⟩ := h
  obtain ⟨t, rfl⟩ := rx
  cases ry
  obtain ⟨mA, J, _⟩ := ins_get I.hok hb
  obtain ⟨od, J, _⟩ := J.look
  rw [hop]
  exact cmp_int_own hr.units0 I.kIn J rfl (by rw [hd]; exact M.at_) M.fn hm slot entry (ha _ _) hB (run_own (vs := [V.ref b', V.int n]) F (hr.mono hj) b hx I (.cons rfl (.cons ⟨t, rfl⟩ .nil)) hsp)
end
end Vf

set_option Elab.async false
set_option linter.all false
set_option maxRecDepth 100000
set_option maxHeartbeats 2000000
namespace Vf
open PySem PySem.Spec PyProof.Rows L2
section
variable {X : Cx} {C : Addr} {bmB : List Value} {B newId initId : String}
/-- X(), X an error of the text's own without an __init__ -/
theorem pmk_own0 {x : Str} {p pos : Pos} (F : ExcBaseFacts B newId initId bmB) (q : PySem.W.excIn X.K C bmB newId = true) (gC : X.mg x = some (.ref C)) (kC : PySem.W.keepIn X.K (.ref C) = true) (r : Raises X (.ref C)) (hg : Gl X x)
    (hdb : (x == ("__debug__" : Str)) = false := by decide) : PMk X (.Call (.Name x p) [] [] pos) (fun _ H Q => Q (.ref C) none H) := by
  intro pins s σ H Q I h
  refine wpAny_Call_Name_kw (ld_glob I hg gC ?_ hdb)
  refine PySem.W.callWith_K0 I.kIn kC ?_
  obtain ⟨_, _, _, _, _, _, _, _, _, _, _, _, _, _, _, _, _, hC, hN, hni, T⟩ := exc_obj I.kIn q
  show wpAny _ _ (call (.ref C) []) _ _ _
  exact wpAny_call_exc_subT F T hC hN hni (fun h' e hm => L2.mk_of I hm r h (I.hok.gone hm.new)) (Nat.zero_le _)
end
theorem c_raise0 {X : Cx} {x : Str} {p pos pos2 : Pos} {W : WX} (c : (He.Fa.exc x).ok X.K = true) (hm : X.mg x = some (.ref (He.ga X.K x))) (tk : Takes X W) (hc : X.calm = true := by rfl) (hg : Gl X x := by rfl) (hdb : (x == ("__debug__" : Str)) = false := by decide) :
    PS X (.Raise (some (.Call (.Name x p) [] [] pos)) none pos2) (fun _ σ H => W (.ref (He.ga X.K x)) none σ H) := by
  obtain ⟨h1, h2, h3, h4⟩ := He.exc_ok c
  exact ps_raise hc tk (pmk_own0 PySem.F.excBase_ValueError h1 hm h2 (raises_own h3 h4) hg hdb)
theorem passX {X : Cx} {E : XK} (tk : Takes X (fun cls d _ H => E cls d H)) : Passes (L2.CX X.prog X.w) X E := passes_call tk fun _ _ _ _ h => h
theorem opr_or {X : Cx} {f : Value → Value → Sem Value} {r1 r2 : R2} (h1 : OpR X f r1) (h2 : OpR X f r2) : OpR X f (fun x y H Q => r1 x y H Q ∨ r2 x y H Q) := fun pins s σ H x y v u Q I rx ry h => by
  rcases h with h | h
  · exact h1 pins s σ H x y v u Q I rx ry h
  · exact h2 pins s σ H x y v u Q I rx ry h
section
variable (K : PySem.W.Frag)
theorem int_add : PySem.W.findIn K (.type "int") (PySem.dunder "add") = some (some (.builtin "int.__add__")) := by kernel_rfl
theorem int_sub : PySem.W.findIn K (.type "int") (PySem.dunder "sub") = some (some (.builtin "int.__sub__")) := by kernel_rfl
theorem int_mul : PySem.W.findIn K (.type "int") (PySem.dunder "mul") = some (some (.builtin "int.__mul__")) := by kernel_rfl
theorem int_fdv : PySem.W.findIn K (.type "int") (PySem.dunder "floordiv") = some (some (.builtin "int.__floordiv__")) := by kernel_rfl
theorem int_radd : PySem.W.findIn K (.type "int") (dunderR "add") = some (some (.builtin "int.__radd__")) := by kernel_rfl
theorem int_rsub : PySem.W.findIn K (.type "int") (dunderR "sub") = some (some (.builtin "int.__rsub__")) := by kernel_rfl
theorem int_rmul : PySem.W.findIn K (.type "int") (dunderR "mul") = some (some (.builtin "int.__rmul__")) := by kernel_rfl
theorem int_rfdv : PySem.W.findIn K (.type "int") (dunderR "floordiv") = some (some (.builtin "int.__rfloordiv__")) := by kernel_rfl
end
end Vf

set_option Elab.async false
set_option linter.all false
set_option maxRecDepth 100000
set_option maxHeartbeats 2000000
namespace K2
open PySem PySem.Spec PyProof.Rows L2 Vf
def top (i : Nat) : Stmt := PySem.Challenge.pw_seenshares_k02_share_arithmetic.main.body.getD i (.Pass ⟨0, 0, 0, 0⟩)
abbrev OkF (P : Program) (w : World) (K : PySem.W.Frag) (mg : Str → Option Value) (base : Heap) (CX : CXT) (k : Nat) (x : Str) (ps : List Str) (sp : Sp) : Prop := OkD P w K mg base CX k (x, none) ps [] sp
abbrev OkM (P : Program) (w : World) (K : PySem.W.Frag) (mg : Str → Option Value) (base : Heap) (CX : CXT) (k : Nat) (m : Str) (ps : List Str) (sp : Sp) : Prop := OkD P w K mg base CX k ("Share", some m) ps [] sp
abbrev FnD (K : PySem.W.Frag) (p : Pl) (x q : Str) (st : Stmt) (fd : FuncData) : Prop := FunD K x q (defArgs st) (defBody st) (defScope st) [] [] (He.fAd K p) fd
abbrev CS (K : PySem.W.Frag) : Addr := He.ga K "Share"
abbrev CB (K : PySem.W.Frag) : Addr := He.ga K "BadShare"
abbrev CN (K : PySem.W.Frag) : Addr := He.ga K "NoShare"
structure STxt (K : PySem.W.Frag) (mg : Str → Option Value) : Prop where
  z_int : mg "int" = none
  z_bool : mg "bool" = none
  z_abs : mg "abs" = none
  z_isinstance : mg "isinstance" = none
  gcd : mg "gcd" = some (.builtin "math.gcd")
  g_is_integer : mg "is_integer" = some (.ref (He.ga K "is_integer"))
  g_is_number : mg "is_number" = some (.ref (He.ga K "is_number"))
  g_parts : mg "parts" = some (.ref (He.ga K "parts"))
  g_Share : mg "Share" = some (.ref (He.ga K "Share"))
  g_NoShare : mg "NoShare" = some (.ref (He.ga K "NoShare"))
  g_BadShare : mg "BadShare" = some (.ref (He.ga K "BadShare"))
  c_Share : Cls K (He.ga K "Share")
  m_Share : Mk K (He.ga K "Share") (He.fAd K ("Share", some "__init__"))
  nT : NoAttr K (He.ga K "Share") "top"
  nB : NoAttr K (He.ga K "Share") "bottom"
  x_BadShare : ExI K "BadShare" "part"
  e_NoShare : (He.Fa.exc "NoShare").ok K = true
  te : PySem.W.exmOne K (.ref (He.ga K "NoShare")) (.ref (He.ga K "NoShare")) = some true
  hn : PySem.W.specialIn K (.builtin "object.__class__") "__get__" = some (some (.builtin "getset_descriptor.__get__"))
  ht : PySem.W.takesIn K (.builtin "object.__class__") = some true
  ha : PySem.W.findIn K (.ref (He.ga K "Share")) "__class__" = some (some (.builtin "object.__class__"))
  hm : PySem.W.mroIn K (He.ga K "Share") (.type "object") = some true
  hi : PySem.W.mroIn K (He.ga K "Share") (.type "int") = some false
  hc : PySem.W.selfFirst K (He.ga K "Share") = true
  hs : PySem.W.subIn K (.type "int") (.ref (He.ga K "Share")) = some false
  k1 : PySem.W.kitOne K (.ref (He.ga K "Share")) (.ref (He.ga K "Share")) = some true
  kz : ∀ n ∈ (["int", "bool", "NoneType", "str", "tuple", "list", "dict"] : List String), PySem.W.kitOne K (.type n) (.ref (He.ga K "Share")) = some false
/-! ### a share's fields -/
theorem tb_ : ¬ (("top" : Str) = "bottom") := by decide +kernel
theorem bt_ : ¬ (("bottom" : Str) = "top") := by decide +kernel
def shf (a b : Int) : List (Str × V) := putF "bottom" (.int b) (putF "top" (.int a) [])
theorem shf_top (a b : Int) : (shf a b).lookup ("top" : Str) = some (.int a) := by
  unfold shf
  rw [lookup_putF, if_neg tb_, lookup_putF, if_pos rfl]
theorem shf_bottom (a b : Int) : (shf a b).lookup ("bottom" : Str) = some (.int b) := by
  unfold shf
  rw [lookup_putF, if_pos rfl]
theorem shf_no (a b : Int) {m : Str} (h1 : ¬ m = "top") (h2 : ¬ m = "bottom") : (shf a b).lookup m = none := by
  unfold shf
  rw [lookup_putF, if_neg h2, lookup_putF, if_neg h1]
  rfl
/-- at p a share a over b -/
def Sh (C : Addr) (H : Hp) (p : Addr) (a b : Int) : Prop := ∃ dx, H p = some (.ins C dx (shf a b))
theorem Sh.ext {C : Addr} {H H' : Hp} {p : Addr} {a b : Int} (h : Sh C H p a b) (s : Same H H') : Sh C H' p a b := by
  obtain ⟨dx, e⟩ := h
  exact ⟨dx, s _ _ e⟩
/-- y is c over d, a share or an int -/
def Nm (C : Addr) (H : Hp) (y : V) (c d : Int) : Prop := (∃ p, y = .ref p ∧ Sh C H p c d) ∨ (y = .int c ∧ d = 1)
theorem Nm.ext {C : Addr} {H H' : Hp} {y : V} {c d : Int} (h : Nm C H y c d) (s : Same H H') : Nm C H' y c d := by
  rcases h with ⟨p, e, h⟩ | h
  · exact .inl ⟨p, e, h.ext s⟩
  · exact .inr h
theorem same_new {H : Hp} {p : Addr} {o : HO} (h : H p = none) : Same H (upd H p o) := fun b u e => by
  rw [upd_ne (ne_of_none e h)]
  exact e
theorem same_make {H : Hp} {x dx : Addr} {o1 o2 : HO} (nx : H x = none) (ndx : H dx = none) : Same H (upd (upd H dx o1) x o2) := fun b o e => by
  rw [upd_ne (ne_of_none e nx), upd_ne (ne_of_none e ndx)]
  exact e
theorem same_make2 {H : Hp} {x dx : Addr} {o1 o2 o3 : HO} (nx : H x = none) (ndx : H dx = none) : Same H (upd (upd (upd H dx o1) x o2) x o3) := by
  rw [upd_upd]
  exact same_make nx ndx
section
variable {P : Program} {w : World} {K : PySem.W.Frag} {mg : Str → Option Value} {base : Heap}
theorem okd {CX : CXT} {k : Nat} {p : Pl} {x q : Str} {st : Stmt} {fd : FuncData} {ps : List Str} {sp : Sp} (F : FnD K p x q st fd) (ok : FnOk P w K mg base CX k (He.fAd K p) fd ps sp)
    (h : ∀ (kV doc pm : Value) (an : Option Addr) (cdv ct : Value) (us : List Value), us.length = ps.length → bindArgs (PySem.W.fnOf x q (defArgs st) (defBody st) (defScope st) .none kV doc pm an cdv ct) ⟨us, []⟩ = pure (ps.zip us)) : OkD P w K mg base CX k p ps [] sp :=
  ⟨⟨fd, [], ok, FunD.bindsN F h, .nil⟩, F.kp⟩
abbrev s_is_integer : Stmt := top 6
theorem sc_is_integer : FnScope ["x"] ["x"] (defScope s_is_integer) := ⟨rfl, rfl, rfl, by decide +kernel, rfl, by decide +kernel, by decide +kernel⟩
-- slots: 0 x
theorem ok_is_integer {fd : FuncData} (F : FnD K ("is_integer", none) "is_integer" "is_integer" s_is_integer fd) (T : STxt K mg) : OkF P w K mg base CX0 1 "is_integer" ["x"] spIsInt := by
  refine okd F (F.ok sc_is_integer (fun vs H Q E h => ?_) fun cdv A outer s H vs Q E hr h => ⟨t_isint K, PSs.nox ?_, run_isint h⟩) fun _ _ _ _ _ _ us hl => match us, hl with | [_], _ => rfl
  · obtain ⟨x, rfl, _⟩ := h
    rfl
  · exact (pss_one (ps_ret (pe_and (pe_callB call_isi (by rfl) T.z_isinstance (by decide +kernel) (pa_cons (pv 0) (pa_cons (pe_ty T.z_int (by decide +kernel)) pa_nil))) (pe_one (pe_not (pe_callB call_isi (by rfl) T.z_isinstance (by decide +kernel) (pa_cons (pv 0) (pa_cons (pe_ty T.z_bool (by decide +kernel)) pa_nil))))))))
abbrev s_BadShare_init : Stmt := inClass (top 3) 0
theorem sc_BadShare_init : FnScope ["self", "part"] ["self", "part"] (defScope s_BadShare_init) := ⟨rfl, rfl, rfl, by decide +kernel, rfl, by decide +kernel, by decide +kernel⟩
-- slots: 0 self, 1 part
theorem ok_BadShare_init {fd : FuncData} (F : FnD K ("BadShare", some "__init__") "__init__" "BadShare.__init__" s_BadShare_init fd) : OkD P w K mg base CX0 1 ("BadShare", some "__init__") ["self", "part"] [] (spExI K (CB K) "part") := by
  refine okd F (F.ok sc_BadShare_init (fun vs H Q E h => ?_) fun cdv A outer s H vs Q E hr h => ⟨tOst K "part" (tVar 0) (tVar 1), PSs.nox ?_, run_exI h⟩) fun _ _ _ _ _ _ us hl => match us, hl with | [_, _], _ => rfl
  · obtain ⟨a, v, rfl, _⟩ := h
    rfl
  · exact pss_one (ps_ost (pv 0) (pv 1))
abbrev s_Share_init : Stmt := inClass (top 8) 0
theorem sc_Share_init : FnScope ["self", "top", "bottom", "common"] ["self", "top", "bottom"] (defScope s_Share_init) := ⟨rfl, rfl, rfl, by decide +kernel, rfl, by decide +kernel, by decide +kernel⟩
-- slots: 0 self, 1 top, 2 bottom, 3 common
def spShI (K : PySem.W.Frag) : Sp := fun vs H Q E => ∃ (p dx : Addr) (x y : V), vs = [.ref p, x, y] ∧ H p = some (.ins (CS K) dx []) ∧
  ((∃ t b : Int, x = .int t ∧ y = .int b ∧ b ≠ 0 ∧ Bit 4000 b ∧ Q .non (upd H p (.ins (CS K) dx (shf (nT t b) (nB t b))))) ∨
   (Odd H x ∧ ∀ d, H d = none → E (.ref (CB K)) (some d) (upd H d (.xd [("part", .str "top")]))) ∨
   (∃ t : Int, x = .int t ∧ (Odd H y ∨ y = .int 0) ∧ ∀ d, H d = none → E (.ref (CB K)) (some d) (upd H d (.xd [("part", .str "bottom")]))))
theorem ok_Share_init {fd : FuncData} (F : FunD K "__init__" "Share.__init__" (defArgs s_Share_init) (defBody s_Share_init) (defScope s_Share_init) [.int 1] [] (He.fAd K ("Share", some "__init__")) fd) (T : STxt K mg)
    (O_is_integer : OkF P w K mg base CX0 1 "is_integer" ["x"] spIsInt) (O_BadShare_init : OkD P w K mg base CX0 1 ("BadShare", some "__init__") ["self", "part"] [] (spExI K (CB K) "part")) :
    FnOk P w K mg base (L2.CX P w) 4 (He.fAd K ("Share", some "__init__")) fd ["self", "top", "bottom"] (spShI K) := by
  refine F.ok sc_Share_init (fun vs H Q E h => ?_) fun cdv A outer s H vs Q E hr h => ?_
  · obtain ⟨p, dx, x, y, rfl, _⟩ := h
    rfl
  · obtain ⟨p, dx, x, y, rfl, hp, h⟩ := h
    refine ⟨_, (pss_cons (ps_if (pt_not (pt_val (c_fn O_is_integer hr (by decide) T.g_is_integer pass0 (pa_cons (pv 1) pa_nil)))) (pss_one (c_raise T.x_BadShare O_BadShare_init hr (by decide) T.g_BadShare (takes_of rfl rfl rfl rfl) (pa_cons pe_str pa_nil)))
  pss_nil)
  (pss_cons (ps_if (PW.pt (pw_or (pt_not (pt_val (c_fn O_is_integer hr (by decide) T.g_is_integer pass0 (pa_cons (pv 2) pa_nil)))) (pw_or1 (pt_cmpR op_eq (pv 2) pe_int (nomark _))))) (pss_one (c_raise T.x_BadShare O_BadShare_init hr (by decide) T.g_BadShare (takes_of rfl rfl rfl rfl) (pa_cons pe_str pa_nil)))
  pss_nil)
  (pss_cons (ps_set (i := 3) sc_Share_init.nd rfl (Or.inl rfl) (pe_callBfun cr_gcd (by rfl) T.gcd (pa_cons (pv 1) (pa_cons (pv 2) pa_nil))))
  (C8.pss_cut (ps_if (pt_cmpR op_lt (pv 2) pe_int (nomark _)) (pss_one (ps_set (i := 3) sc_Share_init.nd rfl (Or.inl rfl) (pe_un un_neg (pv 3))))
  pss_nil)
  (pss_cons (ps_fld (pv 0) (pe_op op_fdivG (pv 1) (pv 3)) rfl)
  (pss_one (ps_fld (pv 0) (pe_op op_fdivG (pv 2) (pv 3)) rfl))))))), ?_⟩
    rcases h with ⟨t, b, rfl, rfl, hb, bb, q⟩ | ⟨o, k⟩ | ⟨t, rfl, o, k⟩
    · refine ⟨_, rfl, _, rfl, .inl ⟨⟨t, rfl⟩, true, rfl, iteF ?_⟩⟩
      refine ⟨_, rfl, _, rfl, .inl ⟨⟨b, rfl⟩, true, rfl, iteF ⟨_, rfl, rfl, _, rfl, ?_⟩⟩⟩
      rw [decide_eq_false (show ¬ (V.int b = V.int 0) from fun e => hb (V.int.inj e))]
      refine iteF ⟨_, rfl, _, rfl, t, b, rfl, ?_⟩
      refine ⟨fun σ' H' => H' = H ∧ σ' = [some (.ref p), some (.int t), some (.int b), some (.int (nC t b))], ?_, ?_⟩
      · refine ⟨_, rfl, b, 0, rfl, rfl, _, rfl, ite2 (fun h => ?_) fun h => ?_⟩
        · refine ⟨_, rfl, _, rfl, rfl, ?_⟩
          have e : nC t b = -(nG t b) := if_pos (of_decide_eq_true h)
          rw [e]
          rfl
        · refine ⟨rfl, ?_⟩
          have e : nC t b = nG t b := if_neg fun z => h (decide_eq_true z)
          rw [e]
          rfl
      rintro σ' H' ⟨rfl, rfl⟩
      have hc := nC_ne (t := t) hb
      have hl : (nC t b).natAbs.log2 < 9000 := by
        refine Bit.log (n := 4000) (Nat.lt_of_le_of_lt ?_ bb) (by decide) (by decide)
        rw [nC_abs]
        exact Nat.gcd_le_right _ (by omega)
      refine ⟨_, rfl, _, rfl, t, _, rfl, rfl, ⟨hc, hl⟩, _, rfl, p, _, dx, [], rfl, hp, T.c_Share, T.nT, (by show 0 < 1000; decide), ?_⟩
      refine ⟨_, rfl, _, rfl, b, _, rfl, rfl, ⟨hc, hl⟩, _, rfl, p, _, dx, _, rfl, upd_same, T.c_Share, T.nB, (by show 1 < 1000; decide), ?_⟩
      rw [upd_upd]
      exact q
    · refine ⟨_, rfl, _, rfl, .inr ⟨o, false, rfl, iteT ⟨_, rfl, fun d hd => k d hd⟩⟩⟩
    · refine ⟨_, rfl, _, rfl, .inl ⟨⟨t, rfl⟩, true, rfl, iteF ?_⟩⟩
      rcases o with o | rfl
      · exact ⟨_, rfl, _, rfl, .inr ⟨o, false, rfl, iteT (iteT ⟨_, rfl, fun d hd => k d hd⟩)⟩⟩
      · refine ⟨_, rfl, _, rfl, .inl ⟨⟨0, rfl⟩, true, rfl, iteF ⟨_, rfl, rfl, _, rfl, ?_⟩⟩⟩
        rw [decide_eq_true (rfl : V.int 0 = V.int 0)]
        exact iteT ⟨_, rfl, fun d hd => k d hd⟩
theorem O_Share2 {fd : FuncData} (F : FunD K "__init__" "Share.__init__" (defArgs s_Share_init) (defBody s_Share_init) (defScope s_Share_init) [.int 1] [] (He.fAd K ("Share", some "__init__")) fd) (G : FnOk P w K mg base (L2.CX P w) 4 (He.fAd K ("Share", some "__init__")) fd ["self", "top", "bottom"] (spShI K)) :
    OkD P w K mg base (L2.CX P w) 4 ("Share", some "__init__") ["self", "top", "bottom"] [] (spShI K) := by
  obtain ⟨ds, v, b⟩ := F.binds1 (ps := ["self", "top", "bottom"]) 3 1 (by decide) rfl fun T kV doc pm an cdv ct us its h1 h2 => match us, its, h1, h2 with | [_, _, _], [_], _, _ => ⟨_, rfl, rfl⟩
  exact ⟨⟨fd, ds, G, b, v⟩, F.kp⟩
theorem O_Share1 {fd : FuncData} (F : FunD K "__init__" "Share.__init__" (defArgs s_Share_init) (defBody s_Share_init) (defScope s_Share_init) [.int 1] [] (He.fAd K ("Share", some "__init__")) fd) (G : FnOk P w K mg base (L2.CX P w) 4 (He.fAd K ("Share", some "__init__")) fd ["self", "top", "bottom"] (spShI K)) :
    OkD P w K mg base (L2.CX P w) 4 ("Share", some "__init__") ["self", "top", "bottom"] [.int 1] (spShI K) := by
  obtain ⟨ds, v, b⟩ := F.binds1 (ps := ["self", "top", "bottom"]) 2 0 (by decide) rfl fun T kV doc pm an cdv ct us its h1 h2 => match us, its, h1, h2 with | [_, _], [_], _, _ => ⟨_, rfl, rfl⟩
  exact ⟨⟨fd, ds, G, b, v⟩, F.kp⟩
abbrev s_Share_floor : Stmt := inClass (top 8) 19
theorem sc_Share_floor : FnScope ["self"] ["self"] (defScope s_Share_floor) := ⟨rfl, rfl, rfl, by decide +kernel, rfl, by decide +kernel, by decide +kernel⟩
-- slots: 0 self
def spFloor (C : Addr) : Sp := fun vs H Q _ => ∃ (p : Addr) (a b : Int), vs = [.ref p] ∧ Sh C H p a b ∧ 0 < b ∧ Bit 4000 b ∧ Q (.int (a / b)) H
theorem ok_Share_floor {fd : FuncData} (F : FnD K ("Share", some "floor") "floor" "Share.floor" s_Share_floor fd) (T : STxt K mg) : OkD P w K mg base CX0 1 ("Share", some "floor") ["self"] [] (spFloor (CS K)) := by
  refine okd F (F.ok sc_Share_floor (fun vs H Q E h => ?_) fun cdv A outer s H vs Q E hr h => ?_) fun _ _ _ _ _ _ us hl => match us, hl with | [_], _ => rfl
  · obtain ⟨p, a, b, rfl, _⟩ := h
    rfl
  · obtain ⟨p, a, b, rfl, ⟨dx, hp⟩, h0, hb, q⟩ := h
    refine ⟨_, PSs.nox (pss_one (ps_ret (pe_op op_fdivW (pe_fld (pv 0) rfl) (pe_fld (pv 0) rfl)))), ?_⟩
    exact ⟨_, rfl, p, _, dx, _, _, rfl, hp, T.c_Share, T.nT, shf_top a b, _, rfl, p, _, dx, _, _, rfl, hp, T.c_Share, T.nB, shf_bottom a b, a, b, rfl, rfl, ⟨h0, hb.log (by decide) (by decide)⟩, q⟩
abbrev s_is_number : Stmt := top 9
theorem sc_is_number : FnScope ["x"] ["x"] (defScope s_is_number) := ⟨rfl, rfl, rfl, by decide +kernel, rfl, by decide +kernel, by decide +kernel⟩
-- slots: 0 x
def spIsNum (C : Addr) : Sp := fun vs H Q _ => ∃ x, vs = [x] ∧ (((∃ c d, Nm C H x c d) ∧ Q (.bl true) H) ∨ (Odd H x ∧ Q (.bl false) H))
theorem odd_share (T : STxt K mg) {H : Hp} {x : V} (o : Odd H x) : ∃ n : String, TyX K H x (.type n) ∧ PySem.W.kitOne K (.type n) (.ref (CS K)) = some false := by
  cases o with
  | bl b => exact ⟨"bool", .base (.bl b), T.kz _ (by simp)⟩
  | non => exact ⟨"NoneType", .base .non, T.kz _ (by simp)⟩
  | str z => exact ⟨"str", .base (.str z), T.kz _ (by simp)⟩
  | tup h => exact ⟨"tuple", .base (.tup h), T.kz _ (by simp)⟩
  | lst h => exact ⟨"list", .base (.lst h), T.kz _ (by simp)⟩
  | dic h => exact ⟨"dict", .base (.dK h), T.kz _ (by simp)⟩
theorem ok_is_number {fd : FuncData} (F : FnD K ("is_number", none) "is_number" "is_number" s_is_number fd) (T : STxt K mg) (O_is_integer : OkF P w K mg base CX0 1 "is_integer" ["x"] spIsInt) : OkF P w K mg base CX0 2 "is_number" ["x"] (spIsNum (CS K)) := by
  refine okd F (F.ok sc_is_number (fun vs H Q E h => ?_) fun cdv A outer s H vs Q E hr h => ?_) fun _ _ _ _ _ _ us hl => match us, hl with | [_], _ => rfl
  · obtain ⟨x, rfl, _⟩ := h
    rfl
  · obtain ⟨x, rfl, h⟩ := h
    refine ⟨_, PSs.nox (pss_one (ps_ret (pe_or (pe_callB call_isi (by rfl) T.z_isinstance (by decide +kernel) (pa_cons (pv 0) (pa_cons (pe_cl T.g_Share) pa_nil))) (pe_one (c_fn O_is_integer hr (by decide) T.g_is_integer pass0 (pa_cons (pv 0) pa_nil)))))), ?_⟩
    rcases h with ⟨⟨c, d, ⟨p, rfl, dx, hp⟩ | ⟨rfl, _⟩⟩, q⟩ | ⟨o, q⟩
    · exact ⟨_, rfl, .ref p, .ref (CS K), .ref (CS K), .ref (CS K), true, rfl, .own _, .base (.ins hp T.c_Share T.ha T.hn T.ht T.hm), T.k1, true, rfl, iteT q⟩
    · exact ⟨_, rfl, .int c, .ref (CS K), .type "int", .ref (CS K), false, rfl, .own _, .base (.int c), T.kz _ (by simp), false, rfl, iteF ⟨_, rfl, _, rfl, .inl ⟨⟨c, rfl⟩, q⟩⟩⟩
    · obtain ⟨n, ty, kk⟩ := odd_share T o
      exact ⟨_, rfl, x, .ref (CS K), .type n, .ref (CS K), false, rfl, .own _, ty, kk, false, rfl, iteF ⟨_, rfl, _, rfl, .inr ⟨o, q⟩⟩⟩
abbrev s_parts : Stmt := top 10
theorem sc_parts : FnScope ["number"] ["number"] (defScope s_parts) := ⟨rfl, rfl, rfl, by decide +kernel, rfl, by decide +kernel, by decide +kernel⟩
-- slots: 0 number
def spParts (C : Addr) : Sp := fun vs H Q _ => ∃ x c d, vs = [x] ∧ Nm C H x c d ∧ ∀ t, H t = none → Q (.ref t) (upd H t (.tup [.int c, .int d]))
theorem ok_parts {fd : FuncData} (F : FnD K ("parts", none) "parts" "parts" s_parts fd) (T : STxt K mg) : OkF P w K mg base CX0 1 "parts" ["number"] (spParts (CS K)) := by
  refine okd F (F.ok sc_parts (fun vs H Q E h => ?_) fun cdv A outer s H vs Q E hr h => ?_) fun _ _ _ _ _ _ us hl => match us, hl with | [_], _ => rfl
  · obtain ⟨x, c, d, rfl, _⟩ := h
    rfl
  · obtain ⟨x, c, d, rfl, h, q⟩ := h
    refine ⟨_, PSs.nox (pss_cons (ps_if (pt_val (pe_callB call_isi (by rfl) T.z_isinstance (by decide +kernel) (pa_cons (pv 0) (pa_cons (pe_cl T.g_Share) pa_nil)))) (pss_one (ps_ret (pe_tup (pa_cons (pe_fld (pv 0) rfl) (pa_cons (pe_fld (pv 0) rfl) pa_nil)))))
  pss_nil)
  (pss_one (ps_ret (pe_tup (pa_cons (pv 0) (pa_cons pe_int pa_nil)))))), ?_⟩
    rcases h with ⟨p, rfl, dx, hp⟩ | ⟨rfl, rfl⟩
    · refine ⟨_, rfl, .ref p, .ref (CS K), .ref (CS K), .ref (CS K), true, rfl, .own _, .base (.ins hp T.c_Share T.ha T.hn T.ht T.hm), T.k1, true, rfl, iteT ?_⟩
      exact ⟨_, rfl, p, _, dx, _, _, rfl, hp, T.c_Share, T.nT, shf_top c d, _, rfl, p, _, dx, _, _, rfl, hp, T.c_Share, T.nB, shf_bottom c d, (by show 2 ≤ sizeLine; decide), fun t nt => q t nt⟩
    · refine ⟨_, rfl, .int c, .ref (CS K), .type "int", .ref (CS K), false, rfl, .own _, .base (.int c), T.kz _ (by simp), false, rfl, iteF ?_⟩
      exact ⟨_, rfl, (by show 2 ≤ sizeLine; decide), fun t nt => q t nt⟩
end
end K2

set_option Elab.async false
set_option linter.all false
set_option maxRecDepth 100000
set_option maxHeartbeats 2000000
namespace K2
open PySem PySem.Spec PyProof.Rows L2 Vf
section
variable {P : Program} {w : World} {K : PySem.W.Frag} {mg : Str → Option Value} {base : Heap}
/-! ### the methods -/
structure SMeth (K : PySem.W.Frag) : Prop where
  m_add : Meth K (He.ga K "Share") "__add__" (He.fAd K ("Share", some "__add__"))
  m_radd : Meth K (He.ga K "Share") "__radd__" (He.fAd K ("Share", some "__radd__"))
  m_sub : Meth K (He.ga K "Share") "__sub__" (He.fAd K ("Share", some "__sub__"))
  m_rsub : Meth K (He.ga K "Share") "__rsub__" (He.fAd K ("Share", some "__rsub__"))
  m_mul : Meth K (He.ga K "Share") "__mul__" (He.fAd K ("Share", some "__mul__"))
  m_rmul : Meth K (He.ga K "Share") "__rmul__" (He.fAd K ("Share", some "__rmul__"))
  m_fdv : Meth K (He.ga K "Share") "__floordiv__" (He.fAd K ("Share", some "__floordiv__"))
  m_rfdv : Meth K (He.ga K "Share") "__rfloordiv__" (He.fAd K ("Share", some "__rfloordiv__"))
  m_neg : Meth K (He.ga K "Share") "__neg__" (He.fAd K ("Share", some "__neg__"))
  m_abs : Meth K (He.ga K "Share") "__abs__" (He.fAd K ("Share", some "__abs__"))
  m_over : Meth K (He.ga K "Share") "over" (He.fAd K ("Share", some "over"))
  m_floor : Meth K (He.ga K "Share") "floor" (He.fAd K ("Share", some "floor"))
/-- self a over b, other c over d: a share of F over G -/
def spAr (C : Addr) (F G : Int → Int → Int → Int → Int) : Sp := fun vs H Q _ => ∃ (p : Addr) (y : V) (a b c d : Int), vs = [.ref p, y] ∧ Sh C H p a b ∧ Nm C H y c d ∧ 0 < b ∧ 0 < d ∧ Bit 900 a ∧ Bit 900 b ∧ Bit 900 c ∧ Bit 900 d ∧
  ∀ (H' : Hp) (q : Addr), Same H H' → Sh C H' q (nT (F a b c d) (G a b c d)) (nB (F a b c d) (G a b c d)) → Q (.ref q) H'
def Fad (a b c d : Int) : Int := a * d + c * b
def Fsu (a b c d : Int) : Int := a * d - c * b
def Fmu (a _ c _ : Int) : Int := a * c
def Gbd (_ b _ d : Int) : Int := b * d
def Fov (a _ _ d : Int) : Int := a * d
def Gov (_ b c _ : Int) : Int := b * c
abbrev s_Share_add : Stmt := inClass (top 8) 1
theorem sc_Share_add : FnScope ["self", "other", "top", "bottom"] ["self", "other"] (defScope s_Share_add) := ⟨rfl, rfl, rfl, by decide +kernel, rfl, by decide +kernel, by decide +kernel⟩
-- slots: 0 self, 1 other, 2 top, 3 bottom
theorem ok_Share_add {fd : FuncData} (F : FnD K ("Share", some "__add__") "__add__" "Share.__add__" s_Share_add fd) (T : STxt K mg) (O_is_number : OkF P w K mg base CX0 2 "is_number" ["x"] (spIsNum (CS K))) (O_parts : OkF P w K mg base CX0 1 "parts" ["number"] (spParts (CS K)))
    (O_Share_init2 : OkD P w K mg base (L2.CX P w) 4 ("Share", some "__init__") ["self", "top", "bottom"] [] (spShI K)) : OkM P w K mg base CX0 6 "__add__" ["self", "other"] (spAr (CS K) Fad Gbd) := by
  refine okd F (F.ok sc_Share_add (fun vs H Q E h => ?_) fun cdv A outer s H vs Q E hr h => ?_) fun _ _ _ _ _ _ us hl => match us, hl with | [_, _], _ => rfl
  · obtain ⟨p, y, a, b, c, d, rfl, _⟩ := h
    rfl
  · obtain ⟨p, y, a, b, c, d, rfl, ⟨dx, hp⟩, hN, b0, d0, ba, bb, bc, bd, k⟩ := h
    have ft := shf_top a b
    have fb := shf_bottom a b
    refine ⟨_, PSs.nox (pss_cons (ps_if (pt_not (pt_val (c_fn O_is_number hr (by decide) T.g_is_number pass0 (pa_cons (pv 1) pa_nil)))) (pss_one ps_never)
  pss_nil)
  (pss_cons (ps_asg (c_fn O_parts hr (by decide) T.g_parts pass0 (pa_cons (pv 1) pa_nil)) (pg_tup rfl (pgs_cons (pg_name (i := 2) sc_Share_add.nd rfl (Or.inl rfl)) (pgs_cons (pg_name (i := 3) sc_Share_add.nd rfl (Or.inl rfl)) pgs_nil))))
  (pss_one (ps_ret (c_mk T.m_Share O_Share_init2 hr (by decide) T.g_Share passL (pa_cons (pe_op op_add (pe_op op_mulW (pe_fld (pv 0) rfl) (pv 3)) (pe_op op_mulW (pv 2) (pe_fld (pv 0) rfl))) (pa_cons (pe_op op_mulW (pe_fld (pv 0) rfl) (pv 3)) pa_nil))))))), ?_⟩
    refine ⟨_, rfl, y, rfl, .inl ⟨⟨c, d, hN⟩, true, rfl, iteF ?_⟩⟩
    refine ⟨_, rfl, y, c, d, rfl, hN, fun t nt => ?_⟩
    have st := same_new (o := .tup [.int c, .int d]) nt
    have hp' := st _ _ hp
    refine ⟨t, _, rfl, SqT.of upd_same, rfl, _, _, rfl, _, _, rfl, rfl, ?_⟩
    refine ⟨_, rfl, p, _, dx, _, _, rfl, hp', T.c_Share, T.nT, ft, _, rfl, a, d, rfl, rfl, ba.wm bd (by decide) (by decide) (by decide), _, rfl, _, rfl, p, _, dx, _, _, rfl, hp', T.c_Share, T.nB, fb, c, b, rfl, rfl, bc.wm bb (by decide) (by decide) (by decide), _, _, rfl, rfl, _, rfl, p, _, dx, _, _, rfl, hp', T.c_Share, T.nB, fb, _, rfl, b, d, rfl, rfl, bb.wm bd (by decide) (by decide) (by decide), fun q dx2 nq ndx ne => ?_⟩
    exact ⟨q, dx2, _, _, rfl, upd_same, .inl ⟨_, _, rfl, rfl, Int.ne_of_gt (Int.mul_pos b0 d0), (bb.mul bd).mono (by decide), rfl, k _ q (st.trans (same_make2 nq ndx)) ⟨dx2, upd_same⟩⟩⟩
abbrev s_Share_sub : Stmt := inClass (top 8) 3
theorem sc_Share_sub : FnScope ["self", "other", "top", "bottom"] ["self", "other"] (defScope s_Share_sub) := ⟨rfl, rfl, rfl, by decide +kernel, rfl, by decide +kernel, by decide +kernel⟩
-- slots: 0 self, 1 other, 2 top, 3 bottom
theorem ok_Share_sub {fd : FuncData} (F : FnD K ("Share", some "__sub__") "__sub__" "Share.__sub__" s_Share_sub fd) (T : STxt K mg) (O_is_number : OkF P w K mg base CX0 2 "is_number" ["x"] (spIsNum (CS K))) (O_parts : OkF P w K mg base CX0 1 "parts" ["number"] (spParts (CS K)))
    (O_Share_init2 : OkD P w K mg base (L2.CX P w) 4 ("Share", some "__init__") ["self", "top", "bottom"] [] (spShI K)) : OkM P w K mg base CX0 6 "__sub__" ["self", "other"] (spAr (CS K) Fsu Gbd) := by
  refine okd F (F.ok sc_Share_sub (fun vs H Q E h => ?_) fun cdv A outer s H vs Q E hr h => ?_) fun _ _ _ _ _ _ us hl => match us, hl with | [_, _], _ => rfl
  · obtain ⟨p, y, a, b, c, d, rfl, _⟩ := h
    rfl
  · obtain ⟨p, y, a, b, c, d, rfl, ⟨dx, hp⟩, hN, b0, d0, ba, bb, bc, bd, k⟩ := h
    have ft := shf_top a b
    have fb := shf_bottom a b
    refine ⟨_, PSs.nox (pss_cons (ps_if (pt_not (pt_val (c_fn O_is_number hr (by decide) T.g_is_number pass0 (pa_cons (pv 1) pa_nil)))) (pss_one ps_never)
  pss_nil)
  (pss_cons (ps_asg (c_fn O_parts hr (by decide) T.g_parts pass0 (pa_cons (pv 1) pa_nil)) (pg_tup rfl (pgs_cons (pg_name (i := 2) sc_Share_sub.nd rfl (Or.inl rfl)) (pgs_cons (pg_name (i := 3) sc_Share_sub.nd rfl (Or.inl rfl)) pgs_nil))))
  (pss_one (ps_ret (c_mk T.m_Share O_Share_init2 hr (by decide) T.g_Share passL (pa_cons (pe_op op_sub (pe_op op_mulW (pe_fld (pv 0) rfl) (pv 3)) (pe_op op_mulW (pv 2) (pe_fld (pv 0) rfl))) (pa_cons (pe_op op_mulW (pe_fld (pv 0) rfl) (pv 3)) pa_nil))))))), ?_⟩
    refine ⟨_, rfl, y, rfl, .inl ⟨⟨c, d, hN⟩, true, rfl, iteF ?_⟩⟩
    refine ⟨_, rfl, y, c, d, rfl, hN, fun t nt => ?_⟩
    have st := same_new (o := .tup [.int c, .int d]) nt
    have hp' := st _ _ hp
    refine ⟨t, _, rfl, SqT.of upd_same, rfl, _, _, rfl, _, _, rfl, rfl, ?_⟩
    refine ⟨_, rfl, p, _, dx, _, _, rfl, hp', T.c_Share, T.nT, ft, _, rfl, a, d, rfl, rfl, ba.wm bd (by decide) (by decide) (by decide), _, rfl, _, rfl, p, _, dx, _, _, rfl, hp', T.c_Share, T.nB, fb, c, b, rfl, rfl, bc.wm bb (by decide) (by decide) (by decide), _, _, rfl, rfl, _, rfl, p, _, dx, _, _, rfl, hp', T.c_Share, T.nB, fb, _, rfl, b, d, rfl, rfl, bb.wm bd (by decide) (by decide) (by decide), fun q dx2 nq ndx ne => ?_⟩
    exact ⟨q, dx2, _, _, rfl, upd_same, .inl ⟨_, _, rfl, rfl, Int.ne_of_gt (Int.mul_pos b0 d0), (bb.mul bd).mono (by decide), rfl, k _ q (st.trans (same_make2 nq ndx)) ⟨dx2, upd_same⟩⟩⟩
abbrev s_Share_mul : Stmt := inClass (top 8) 5
theorem sc_Share_mul : FnScope ["self", "other", "top", "bottom"] ["self", "other"] (defScope s_Share_mul) := ⟨rfl, rfl, rfl, by decide +kernel, rfl, by decide +kernel, by decide +kernel⟩
-- slots: 0 self, 1 other, 2 top, 3 bottom
theorem ok_Share_mul {fd : FuncData} (F : FnD K ("Share", some "__mul__") "__mul__" "Share.__mul__" s_Share_mul fd) (T : STxt K mg) (O_is_number : OkF P w K mg base CX0 2 "is_number" ["x"] (spIsNum (CS K))) (O_parts : OkF P w K mg base CX0 1 "parts" ["number"] (spParts (CS K)))
    (O_Share_init2 : OkD P w K mg base (L2.CX P w) 4 ("Share", some "__init__") ["self", "top", "bottom"] [] (spShI K)) : OkM P w K mg base CX0 6 "__mul__" ["self", "other"] (spAr (CS K) Fmu Gbd) := by
  refine okd F (F.ok sc_Share_mul (fun vs H Q E h => ?_) fun cdv A outer s H vs Q E hr h => ?_) fun _ _ _ _ _ _ us hl => match us, hl with | [_, _], _ => rfl
  · obtain ⟨p, y, a, b, c, d, rfl, _⟩ := h
    rfl
  · obtain ⟨p, y, a, b, c, d, rfl, ⟨dx, hp⟩, hN, b0, d0, ba, bb, bc, bd, k⟩ := h
    have ft := shf_top a b
    have fb := shf_bottom a b
    refine ⟨_, PSs.nox (pss_cons (ps_if (pt_not (pt_val (c_fn O_is_number hr (by decide) T.g_is_number pass0 (pa_cons (pv 1) pa_nil)))) (pss_one ps_never)
  pss_nil)
  (pss_cons (ps_asg (c_fn O_parts hr (by decide) T.g_parts pass0 (pa_cons (pv 1) pa_nil)) (pg_tup rfl (pgs_cons (pg_name (i := 2) sc_Share_mul.nd rfl (Or.inl rfl)) (pgs_cons (pg_name (i := 3) sc_Share_mul.nd rfl (Or.inl rfl)) pgs_nil))))
  (pss_one (ps_ret (c_mk T.m_Share O_Share_init2 hr (by decide) T.g_Share passL (pa_cons (pe_op op_mulW (pe_fld (pv 0) rfl) (pv 2)) (pa_cons (pe_op op_mulW (pe_fld (pv 0) rfl) (pv 3)) pa_nil))))))), ?_⟩
    refine ⟨_, rfl, y, rfl, .inl ⟨⟨c, d, hN⟩, true, rfl, iteF ?_⟩⟩
    refine ⟨_, rfl, y, c, d, rfl, hN, fun t nt => ?_⟩
    have st := same_new (o := .tup [.int c, .int d]) nt
    have hp' := st _ _ hp
    refine ⟨t, _, rfl, SqT.of upd_same, rfl, _, _, rfl, _, _, rfl, rfl, ?_⟩
    refine ⟨_, rfl, p, _, dx, _, _, rfl, hp', T.c_Share, T.nT, ft, _, rfl, a, c, rfl, rfl, ba.wm bc (by decide) (by decide) (by decide), _, rfl, p, _, dx, _, _, rfl, hp', T.c_Share, T.nB, fb, _, rfl, b, d, rfl, rfl, bb.wm bd (by decide) (by decide) (by decide), fun q dx2 nq ndx ne => ?_⟩
    exact ⟨q, dx2, _, _, rfl, upd_same, .inl ⟨_, _, rfl, rfl, Int.ne_of_gt (Int.mul_pos b0 d0), (bb.mul bd).mono (by decide), rfl, k _ q (st.trans (same_make2 nq ndx)) ⟨dx2, upd_same⟩⟩⟩
/-- over -/
def spOver (K : PySem.W.Frag) : Sp := fun vs H Q E => ∃ (p : Addr) (y : V) (a b c d : Int), vs = [.ref p, y] ∧ Sh (CS K) H p a b ∧ Nm (CS K) H y c d ∧ 0 < b ∧ 0 < d ∧ Bit 900 a ∧ Bit 900 b ∧ Bit 900 c ∧ Bit 900 d ∧
  (c ≠ 0 → ∀ (H' : Hp) (q : Addr), Same H H' → Sh (CS K) H' q (nT (Fov a b c d) (Gov a b c d)) (nB (Fov a b c d) (Gov a b c d)) → Q (.ref q) H') ∧ (c = 0 → ∀ H', Same H H' → E (.ref (CN K)) none H')
abbrev s_Share_over : Stmt := inClass (top 8) 18
theorem sc_Share_over : FnScope ["self", "other", "top", "bottom"] ["self", "other"] (defScope s_Share_over) := ⟨rfl, rfl, rfl, by decide +kernel, rfl, by decide +kernel, by decide +kernel⟩
-- slots: 0 self, 1 other, 2 top, 3 bottom
theorem ok_Share_over {fd : FuncData} (F : FnD K ("Share", some "over") "over" "Share.over" s_Share_over fd) (T : STxt K mg) (O_parts : OkF P w K mg base CX0 1 "parts" ["number"] (spParts (CS K)))
    (O_Share_init2 : OkD P w K mg base (L2.CX P w) 4 ("Share", some "__init__") ["self", "top", "bottom"] [] (spShI K)) : OkM P w K mg base (L2.CX P w) 6 "over" ["self", "other"] (spOver K) := by
  refine okd F (F.ok sc_Share_over (fun vs H Q E h => ?_) fun cdv A outer s H vs Q E hr h => ?_) fun _ _ _ _ _ _ us hl => match us, hl with | [_, _], _ => rfl
  · obtain ⟨p, y, a, b, c, d, rfl, _⟩ := h
    rfl
  · obtain ⟨p, y, a, b, c, d, rfl, ⟨dx, hp⟩, hN, b0, d0, ba, bb, bc, bd, k1, k2⟩ := h
    have ft := shf_top a b
    have fb := shf_bottom a b
    refine ⟨_, (pss_cons (ps_asg (c_fn O_parts hr (by decide) T.g_parts pass0 (pa_cons (pv 1) pa_nil)) (pg_tup rfl (pgs_cons (pg_name (i := 2) sc_Share_over.nd rfl (Or.inl rfl)) (pgs_cons (pg_name (i := 3) sc_Share_over.nd rfl (Or.inl rfl)) pgs_nil))))
  (pss_cons (ps_if (pt_cmpR op_eq (pv 2) pe_int (nomark _)) (pss_one (c_raise0 T.e_NoShare T.g_NoShare (takes_of rfl rfl rfl rfl)))
  pss_nil)
  (pss_one (ps_ret (c_mk T.m_Share O_Share_init2 hr (by decide) T.g_Share passL (pa_cons (pe_op op_mulW (pe_fld (pv 0) rfl) (pv 3)) (pa_cons (pe_op op_mulW (pe_fld (pv 0) rfl) (pv 2)) pa_nil))))))), ?_⟩
    refine ⟨_, rfl, y, c, d, rfl, hN, fun t nt => ?_⟩
    have st := same_new (o := .tup [.int c, .int d]) nt
    have hp' := st _ _ hp
    refine ⟨t, _, rfl, SqT.of upd_same, rfl, _, _, rfl, _, _, rfl, rfl, ?_⟩
    refine ⟨_, rfl, rfl, _, rfl, ite2 (fun h => ?_) fun h => ?_⟩
    · exact k2 (V.int.inj (of_decide_eq_true h)) _ st
    · have hc : c ≠ 0 := fun z => h (decide_eq_true (by rw [z]))
      refine ⟨_, rfl, p, _, dx, _, _, rfl, hp', T.c_Share, T.nT, ft, _, rfl, a, d, rfl, rfl, ba.wm bd (by decide) (by decide) (by decide), _, rfl, p, _, dx, _, _, rfl, hp', T.c_Share, T.nB, fb, _, rfl, b, c, rfl, rfl, bb.wm bc (by decide) (by decide) (by decide), fun q dx2 nq ndx ne => ?_⟩
      exact ⟨q, dx2, _, _, rfl, upd_same, .inl ⟨_, _, rfl, rfl, Int.mul_ne_zero (Int.ne_of_gt b0) hc, (bb.mul bc).mono (by decide), rfl, k1 hc _ q (st.trans (same_make2 nq ndx)) ⟨dx2, upd_same⟩⟩⟩
/-- -self, abs(self) -/
def spUn (C : Addr) (f : Int → Int) : Sp := fun vs H Q _ => ∃ (p : Addr) (a b : Int), vs = [.ref p] ∧ Sh C H p a b ∧ 0 < b ∧ Bit 900 a ∧ Bit 900 b ∧ ∀ (H' : Hp) (q : Addr), Same H H' → Sh C H' q (nT (f a) b) (nB (f a) b) → Q (.ref q) H'
def Fng (a : Int) : Int := -a
def Fab (a : Int) : Int := if a < 0 then -a else a
abbrev s_Share_neg : Stmt := inClass (top 8) 9
theorem sc_Share_neg : FnScope ["self"] ["self"] (defScope s_Share_neg) := ⟨rfl, rfl, rfl, by decide +kernel, rfl, by decide +kernel, by decide +kernel⟩
-- slots: 0 self
theorem ok_Share_neg {fd : FuncData} (F : FnD K ("Share", some "__neg__") "__neg__" "Share.__neg__" s_Share_neg fd) (T : STxt K mg)
    (O_Share_init2 : OkD P w K mg base (L2.CX P w) 4 ("Share", some "__init__") ["self", "top", "bottom"] [] (spShI K)) : OkM P w K mg base CX0 6 "__neg__" ["self"] (spUn (CS K) Fng) := by
  refine okd F (F.ok sc_Share_neg (fun vs H Q E h => ?_) fun cdv A outer s H vs Q E hr h => ?_) fun _ _ _ _ _ _ us hl => match us, hl with | [_], _ => rfl
  · obtain ⟨p, a, b, rfl, _⟩ := h
    rfl
  · obtain ⟨p, a, b, rfl, ⟨dx, hp⟩, b0, ba, bb, k⟩ := h
    refine ⟨_, PSs.nox (pss_one (ps_ret (c_mk T.m_Share O_Share_init2 hr (by decide) T.g_Share passL (pa_cons (pe_un un_neg (pe_fld (pv 0) rfl)) (pa_cons (pe_fld (pv 0) rfl) pa_nil))))), ?_⟩
    refine ⟨_, rfl, p, _, dx, _, _, rfl, hp, T.c_Share, T.nT, shf_top a b, a, rfl, _, rfl, p, _, dx, _, _, rfl, hp, T.c_Share, T.nB, shf_bottom a b, fun q dx2 nq ndx ne => ?_⟩
    exact ⟨q, dx2, _, _, rfl, upd_same, .inl ⟨_, _, rfl, rfl, Int.ne_of_gt b0, bb.mono (by decide), rfl, k _ q (same_make2 nq ndx) ⟨dx2, upd_same⟩⟩⟩
abbrev s_Share_abs : Stmt := inClass (top 8) 10
theorem sc_Share_abs : FnScope ["self"] ["self"] (defScope s_Share_abs) := ⟨rfl, rfl, rfl, by decide +kernel, rfl, by decide +kernel, by decide +kernel⟩
-- slots: 0 self
theorem ok_Share_abs {fd : FuncData} (F : FnD K ("Share", some "__abs__") "__abs__" "Share.__abs__" s_Share_abs fd) (T : STxt K mg)
    (O_Share_init2 : OkD P w K mg base (L2.CX P w) 4 ("Share", some "__init__") ["self", "top", "bottom"] [] (spShI K)) : OkM P w K mg base CX0 6 "__abs__" ["self"] (spUn (CS K) Fab) := by
  refine okd F (F.ok sc_Share_abs (fun vs H Q E h => ?_) fun cdv A outer s H vs Q E hr h => ?_) fun _ _ _ _ _ _ us hl => match us, hl with | [_], _ => rfl
  · obtain ⟨p, a, b, rfl, _⟩ := h
    rfl
  · obtain ⟨p, a, b, rfl, ⟨dx, hp⟩, b0, ba, bb, k⟩ := h
    refine ⟨_, PSs.nox (pss_one (ps_ret (c_mk T.m_Share O_Share_init2 hr (by decide) T.g_Share passL (pa_cons (pe_callB call_abs (by rfl) T.z_abs (by decide +kernel) (pa_cons (pe_fld (pv 0) rfl) pa_nil)) (pa_cons (pe_fld (pv 0) rfl) pa_nil))))), ?_⟩
    refine ⟨_, rfl, p, _, dx, _, _, rfl, hp, T.c_Share, T.nT, shf_top a b, a, rfl, _, rfl, p, _, dx, _, _, rfl, hp, T.c_Share, T.nB, shf_bottom a b, fun q dx2 nq ndx ne => ?_⟩
    exact ⟨q, dx2, _, _, rfl, upd_same, .inl ⟨_, _, rfl, rfl, Int.ne_of_gt b0, bb.mono (by decide), rfl, k _ q (same_make2 nq ndx) ⟨dx2, upd_same⟩⟩⟩
end
end K2

set_option Elab.async false
set_option linter.all false
set_option maxRecDepth 100000
set_option maxHeartbeats 2000000
namespace K2
open PySem PySem.Spec PyProof.Rows L2 Vf
section
variable {P : Program} {w : World} {K : PySem.W.Frag} {mg : Str → Option Value} {base : Heap}
/-- self a over b, other the int n -/
def spRe (C : Addr) (F G : Int → Int → Int → Int → Int) : Sp := fun vs H Q _ => ∃ (p : Addr) (n a b : Int), vs = [.ref p, .int n] ∧ Sh C H p a b ∧ 0 < b ∧ Bit 900 a ∧ Bit 900 b ∧ Bit 900 n ∧
  ∀ (H' : Hp) (q : Addr), Same H H' → Sh C H' q (nT (F a b n 1) (G a b n 1)) (nB (F a b n 1) (G a b n 1)) → Q (.ref q) H'
theorem one_bit (n : Nat) : Bit (n + 1) 1 := Nat.one_lt_two_pow (by omega)
abbrev s_Share_radd : Stmt := inClass (top 8) 2
theorem sc_Share_radd : FnScope ["self", "other"] ["self", "other"] (defScope s_Share_radd) := ⟨rfl, rfl, rfl, by decide +kernel, rfl, by decide +kernel, by decide +kernel⟩
-- slots: 0 self, 1 other
theorem ok_Share_radd {fd : FuncData} (F : FnD K ("Share", some "__radd__") "__radd__" "Share.__radd__" s_Share_radd fd) (T : STxt K mg) (M : SMeth K) (O_is_number : OkF P w K mg base CX0 2 "is_number" ["x"] (spIsNum (CS K))) (O_add : OkM P w K mg base CX0 6 "__add__" ["self", "other"] (spAr (CS K) Fad Gbd)) : OkM P w K mg base CX0 7 "__radd__" ["self", "other"] (spRe (CS K) Fad Gbd) := by
  refine okd F (F.ok sc_Share_radd (fun vs H Q E h => ?_) fun cdv A outer s H vs Q E hr h => ?_) fun _ _ _ _ _ _ us hl => match us, hl with | [_, _], _ => rfl
  · obtain ⟨p, n, a, b, rfl, _⟩ := h
    rfl
  · obtain ⟨p, n, a, b, rfl, ⟨dx, hp⟩, b0, ba, bb, bn, k⟩ := h
    refine ⟨_, PSs.nox (pss_cons (ps_if (pt_not (pt_val (c_fn O_is_number hr (by decide) T.g_is_number pass0 (pa_cons (pv 1) pa_nil)))) (pss_one ps_never) pss_nil)
      (pss_one (ps_ret (pe_op (op_oi (E := E0) rfl M.m_add T.hc M.m_radd.at_ (.inr ⟨_, rfl⟩) (int_add K) (int_radd K) T.hs O_add hr (by decide) pass0) (pv 0) (pv 1))))), ?_⟩
    refine ⟨_, rfl, .int n, rfl, .inl ⟨⟨n, 1, .inr ⟨rfl, rfl⟩⟩, true, rfl, iteF ?_⟩⟩
    exact ⟨_, rfl, _, rfl, p, n, dx, _, rfl, rfl, hp, p, .int n, a, b, n, 1, rfl, ⟨dx, hp⟩, .inr ⟨rfl, rfl⟩, b0, by decide, ba, bb, bn, one_bit _, k⟩
abbrev s_Share_rmul : Stmt := inClass (top 8) 6
theorem sc_Share_rmul : FnScope ["self", "other"] ["self", "other"] (defScope s_Share_rmul) := ⟨rfl, rfl, rfl, by decide +kernel, rfl, by decide +kernel, by decide +kernel⟩
-- slots: 0 self, 1 other
theorem ok_Share_rmul {fd : FuncData} (F : FnD K ("Share", some "__rmul__") "__rmul__" "Share.__rmul__" s_Share_rmul fd) (T : STxt K mg) (M : SMeth K) (O_is_number : OkF P w K mg base CX0 2 "is_number" ["x"] (spIsNum (CS K))) (O_mul : OkM P w K mg base CX0 6 "__mul__" ["self", "other"] (spAr (CS K) Fmu Gbd)) : OkM P w K mg base CX0 7 "__rmul__" ["self", "other"] (spRe (CS K) Fmu Gbd) := by
  refine okd F (F.ok sc_Share_rmul (fun vs H Q E h => ?_) fun cdv A outer s H vs Q E hr h => ?_) fun _ _ _ _ _ _ us hl => match us, hl with | [_, _], _ => rfl
  · obtain ⟨p, n, a, b, rfl, _⟩ := h
    rfl
  · obtain ⟨p, n, a, b, rfl, ⟨dx, hp⟩, b0, ba, bb, bn, k⟩ := h
    refine ⟨_, PSs.nox (pss_cons (ps_if (pt_not (pt_val (c_fn O_is_number hr (by decide) T.g_is_number pass0 (pa_cons (pv 1) pa_nil)))) (pss_one ps_never) pss_nil)
      (pss_one (ps_ret (pe_op (op_oi (E := E0) rfl M.m_mul T.hc M.m_rmul.at_ (.inr ⟨_, rfl⟩) (int_mul K) (int_rmul K) T.hs O_mul hr (by decide) pass0) (pv 0) (pv 1))))), ?_⟩
    refine ⟨_, rfl, .int n, rfl, .inl ⟨⟨n, 1, .inr ⟨rfl, rfl⟩⟩, true, rfl, iteF ?_⟩⟩
    exact ⟨_, rfl, _, rfl, p, n, dx, _, rfl, rfl, hp, p, .int n, a, b, n, 1, rfl, ⟨dx, hp⟩, .inr ⟨rfl, rfl⟩, b0, by decide, ba, bb, bn, one_bit _, k⟩
/-- n - self: -self + n -/
def spRs (C : Addr) : Sp := fun vs H Q _ => ∃ (p : Addr) (n a b : Int), vs = [.ref p, .int n] ∧ Sh C H p a b ∧ 0 < b ∧ Bit 900 a ∧ Bit 900 b ∧ Bit 900 n ∧
  ∀ (H' : Hp) (q : Addr), Same H H' → Sh C H' q (nT (Fad (nT (-a) b) (nB (-a) b) n 1) (Gbd (nT (-a) b) (nB (-a) b) n 1)) (nB (Fad (nT (-a) b) (nB (-a) b) n 1) (Gbd (nT (-a) b) (nB (-a) b) n 1)) → Q (.ref q) H'
abbrev s_Share_rsub : Stmt := inClass (top 8) 4
theorem sc_Share_rsub : FnScope ["self", "other"] ["self", "other"] (defScope s_Share_rsub) := ⟨rfl, rfl, rfl, by decide +kernel, rfl, by decide +kernel, by decide +kernel⟩
-- slots: 0 self, 1 other
theorem ok_Share_rsub {fd : FuncData} (F : FnD K ("Share", some "__rsub__") "__rsub__" "Share.__rsub__" s_Share_rsub fd) (T : STxt K mg) (M : SMeth K) (O_is_number : OkF P w K mg base CX0 2 "is_number" ["x"] (spIsNum (CS K))) (O_add : OkM P w K mg base CX0 6 "__add__" ["self", "other"] (spAr (CS K) Fad Gbd)) (O_neg : OkM P w K mg base CX0 6 "__neg__" ["self"] (spUn (CS K) Fng)) : OkM P w K mg base CX0 7 "__rsub__" ["self", "other"] (spRs (CS K)) := by
  refine okd F (F.ok sc_Share_rsub (fun vs H Q E h => ?_) fun cdv A outer s H vs Q E hr h => ?_) fun _ _ _ _ _ _ us hl => match us, hl with | [_, _], _ => rfl
  · obtain ⟨p, n, a, b, rfl, _⟩ := h
    rfl
  · obtain ⟨p, n, a, b, rfl, ⟨dx, hp⟩, b0, ba, bb, bn, k⟩ := h
    refine ⟨_, PSs.nox (pss_cons (ps_if (pt_not (pt_val (c_fn O_is_number hr (by decide) T.g_is_number pass0 (pa_cons (pv 1) pa_nil)))) (pss_one ps_never) pss_nil)
      (pss_one (ps_ret (pe_op (op_oi (E := E0) rfl M.m_add T.hc M.m_radd.at_ (.inr ⟨_, rfl⟩) (int_add K) (int_radd K) T.hs O_add hr (by decide) pass0) (pe_un (un_negO (E := E0) M.m_neg O_neg hr (by decide) pass0) (pv 0)) (pv 1))))), ?_⟩
    refine ⟨_, rfl, .int n, rfl, .inl ⟨⟨n, 1, .inr ⟨rfl, rfl⟩⟩, true, rfl, iteF ?_⟩⟩
    have nf := nf_of (-a) (Int.ne_of_gt b0)
    refine ⟨_, rfl, p, dx, _, rfl, hp, p, a, b, rfl, ⟨dx, hp⟩, b0, ba, bb, fun H1 q sm hq => ?_⟩
    obtain ⟨dq, hq2⟩ := id hq
    exact ⟨_, rfl, q, n, dq, _, rfl, rfl, hq2, q, .int n, _, _, n, 1, rfl, hq, .inr ⟨rfl, rfl⟩, nf.pos, by decide, ba.neg.le nf.le1, bb.le nf.le2, bn, one_bit _, fun H' r s1 hs => k H' r (sm.trans s1) hs⟩
/-- self // other -/
def spFd (K : PySem.W.Frag) : Sp := fun vs H Q E => ∃ (p : Addr) (y : V) (a b c d : Int), vs = [.ref p, y] ∧ Sh (CS K) H p a b ∧ Nm (CS K) H y c d ∧ 0 < b ∧ 0 < d ∧ Bit 900 a ∧ Bit 900 b ∧ Bit 900 c ∧ Bit 900 d ∧
  (c ≠ 0 → ∀ (H' : Hp), Same H H' → Q (.int (nT (Fov a b c d) (Gov a b c d) / nB (Fov a b c d) (Gov a b c d))) H') ∧ (c = 0 → ∀ H', Same H H' → E (.ref (CN K)) none H')
abbrev s_Share_floordiv : Stmt := inClass (top 8) 7
theorem sc_Share_floordiv : FnScope ["self", "other"] ["self", "other"] (defScope s_Share_floordiv) := ⟨rfl, rfl, rfl, by decide +kernel, rfl, by decide +kernel, by decide +kernel⟩
-- slots: 0 self, 1 other
theorem ok_Share_floordiv {fd : FuncData} (F : FnD K ("Share", some "__floordiv__") "__floordiv__" "Share.__floordiv__" s_Share_floordiv fd) (T : STxt K mg) (M : SMeth K) (O_is_number : OkF P w K mg base CX0 2 "is_number" ["x"] (spIsNum (CS K))) (O_over : OkM P w K mg base (L2.CX P w) 6 "over" ["self", "other"] (spOver K)) (O_floor : OkM P w K mg base CX0 1 "floor" ["self"] (spFloor (CS K))) : OkM P w K mg base (L2.CX P w) 7 "__floordiv__" ["self", "other"] (spFd K) := by
  refine okd F (F.ok sc_Share_floordiv (fun vs H Q E h => ?_) fun cdv A outer s H vs Q E hr h => ?_) fun _ _ _ _ _ _ us hl => match us, hl with | [_, _], _ => rfl
  · obtain ⟨p, y, a, b, c, d, rfl, _⟩ := h
    rfl
  · obtain ⟨p, y, a, b, c, d, rfl, ⟨dx, hp⟩, hN, b0, d0, ba, bb, bc, bd, k1, k2⟩ := h
    refine ⟨_, (pss_cons (ps_if (pt_not (pt_val (c_fn O_is_number hr (by decide) T.g_is_number pass0 (pa_cons (pv 1) pa_nil)))) (pss_one ps_never) pss_nil)
      (pss_one (ps_ret (c_me0 (E := E0) rfl (c_me rfl (pv 0) T.c_Share M.m_over O_over hr (by decide) (passX (takes_of rfl rfl rfl rfl)) (pa_cons (pv 1) pa_nil)) T.c_Share M.m_floor O_floor hr (by decide) pass0)))), ?_⟩
    refine ⟨_, rfl, y, rfl, .inl ⟨⟨c, d, hN⟩, true, rfl, iteF ?_⟩⟩
    refine ⟨_, rfl, p, dx, _, rfl, hp, shf_no _ _ (by decide +kernel) (by decide +kernel), _, rfl, p, y, a, b, c, d, rfl, ⟨dx, hp⟩, hN, b0, d0, ba, bb, bc, bd, fun hc H' q sm hq => ?_, fun hc H' sm => k2 hc H' sm⟩
    obtain ⟨dq, hq2⟩ := id hq
    have hg : Gov a b c d ≠ 0 := Int.mul_ne_zero (Int.ne_of_gt b0) hc
    have nf := nf_of (Fov a b c d) hg
    exact ⟨q, dq, _, rfl, hq2, shf_no _ _ (by decide +kernel) (by decide +kernel), q, _, _, rfl, hq, nf.pos, ((bb.mul bc).le nf.le2).mono (by decide), k1 hc H' sm⟩
/-- other // self, other the int n -/
def spRf (K : PySem.W.Frag) : Sp := fun vs H Q E => ∃ (p : Addr) (n a b : Int), vs = [.ref p, .int n] ∧ Sh (CS K) H p a b ∧ 0 < b ∧ Bit 900 a ∧ Bit 900 b ∧ Bit 900 n ∧
  (a ≠ 0 → ∀ (H' : Hp), Same H H' → Q (.int (nT (Fov (nT n 1) (nB n 1) a b) (Gov (nT n 1) (nB n 1) a b) / nB (Fov (nT n 1) (nB n 1) a b) (Gov (nT n 1) (nB n 1) a b))) H') ∧ (a = 0 → ∀ H', Same H H' → E (.ref (CN K)) none H')
abbrev s_Share_rfloordiv : Stmt := inClass (top 8) 8
theorem sc_Share_rfloordiv : FnScope ["self", "other"] ["self", "other"] (defScope s_Share_rfloordiv) := ⟨rfl, rfl, rfl, by decide +kernel, rfl, by decide +kernel, by decide +kernel⟩
-- slots: 0 self, 1 other
theorem ok_Share_rfloordiv {fd : FuncData} (F : FnD K ("Share", some "__rfloordiv__") "__rfloordiv__" "Share.__rfloordiv__" s_Share_rfloordiv fd) (T : STxt K mg) (M : SMeth K) (O_is_number : OkF P w K mg base CX0 2 "is_number" ["x"] (spIsNum (CS K))) (O_over : OkM P w K mg base (L2.CX P w) 6 "over" ["self", "other"] (spOver K)) (O_floor : OkM P w K mg base CX0 1 "floor" ["self"] (spFloor (CS K)))
    (O_Share_init1 : OkD P w K mg base (L2.CX P w) 4 ("Share", some "__init__") ["self", "top", "bottom"] [.int 1] (spShI K)) : OkM P w K mg base (L2.CX P w) 7 "__rfloordiv__" ["self", "other"] (spRf K) := by
  refine okd F (F.ok sc_Share_rfloordiv (fun vs H Q E h => ?_) fun cdv A outer s H vs Q E hr h => ?_) fun _ _ _ _ _ _ us hl => match us, hl with | [_, _], _ => rfl
  · obtain ⟨p, n, a, b, rfl, _⟩ := h
    rfl
  · obtain ⟨p, n, a, b, rfl, hS, b0, ba, bb, bn, k1, k2⟩ := h
    refine ⟨_, (pss_cons (ps_if (pt_not (pt_val (c_fn O_is_number hr (by decide) T.g_is_number pass0 (pa_cons (pv 1) pa_nil)))) (pss_one ps_never) pss_nil)
      (pss_one (ps_ret (c_me0 (E := E0) rfl (c_me rfl (c_mk T.m_Share O_Share_init1 hr (by decide) T.g_Share passL (pa_cons (pv 1) pa_nil)) T.c_Share M.m_over O_over hr (by decide) (passX (takes_of rfl rfl rfl rfl)) (pa_cons (pv 0) pa_nil)) T.c_Share M.m_floor O_floor hr (by decide) pass0)))), ?_⟩
    refine ⟨_, rfl, .int n, rfl, .inl ⟨⟨n, 1, .inr ⟨rfl, rfl⟩⟩, true, rfl, iteF ?_⟩⟩
    have nf1 := nf_of n (b := 1) (by decide)
    refine ⟨_, rfl, fun r dr nr ndr ne => ⟨r, dr, .int n, .int 1, rfl, upd_same, .inl ⟨n, 1, rfl, rfl, by decide, one_bit _, rfl, ?_⟩⟩⟩
    have sr := same_make2 (o1 := .own r) (o2 := .ins (CS K) dr []) (o3 := .ins (CS K) dr (shf (nT n 1) (nB n 1))) nr ndr
    refine ⟨r, dr, _, rfl, upd_same, shf_no _ _ (by decide +kernel) (by decide +kernel), _, rfl, r, .ref p, _, _, a, b, rfl, ⟨dr, upd_same⟩, .inl ⟨p, rfl, hS.ext sr⟩, nf1.pos, b0, bn.le nf1.le1, (one_bit 899).le nf1.le2, ba, bb, fun hc H' q sm hq => ?_, fun hc H' sm => k2 hc H' (sr.trans sm)⟩
    obtain ⟨dq, hq2⟩ := id hq
    have hg : Gov (nT n 1) (nB n 1) a b ≠ 0 := Int.mul_ne_zero (Int.ne_of_gt nf1.pos) hc
    have nf := nf_of (Fov (nT n 1) (nB n 1) a b) hg
    exact ⟨q, dq, _, rfl, hq2, shf_no _ _ (by decide +kernel) (by decide +kernel), q, _, _, rfl, hq, nf.pos, (((one_bit 899).le nf1.le2 |>.mul ba).le nf.le2).mono (by decide), k1 hc H' (sr.trans sm)⟩
end
end K2

set_option Elab.async false
set_option linter.all false
set_option maxRecDepth 100000
set_option maxHeartbeats 2000000
namespace K2
open PySem PySem.Spec PyProof.Rows L2 Vf
section
variable {P : Program} {w : World} {K : PySem.W.Frag} {mg : Str → Option Value} {base : Heap}
theorem nC_one (t : Int) : nC t 1 = 1 := by
  unfold nC nG
  rw [if_neg (by decide), show (1 : Int).natAbs = 1 from rfl, Nat.gcd_one_right]
  rfl
theorem nT_one (t : Int) : nT t 1 = t := by
  have h := nT_mul t 1
  rw [nC_one, Int.mul_one] at h
  exact h
theorem nB_one (t : Int) : nB t 1 = 1 := by
  have h := nB_mul t 1
  rw [nC_one, Int.mul_one] at h
  exact h
/-- + of a share and a share or an int, an int on either side -/
def rAd (K : PySem.W.Frag) : R2 := fun x y H Q => rOO (CS K) (spAr (CS K) Fad Gbd) E0 x y H Q ∨ (rOI (CS K) (spAr (CS K) Fad Gbd) E0 x y H Q ∨ rIO (CS K) (spRe (CS K) Fad Gbd) E0 x y H Q)
def rSu (K : PySem.W.Frag) : R2 := fun x y H Q => rOO (CS K) (spAr (CS K) Fsu Gbd) E0 x y H Q ∨ (rOI (CS K) (spAr (CS K) Fsu Gbd) E0 x y H Q ∨ rIO (CS K) (spRs (CS K)) E0 x y H Q)
def rMu (K : PySem.W.Frag) : R2 := fun x y H Q => rOO (CS K) (spAr (CS K) Fmu Gbd) E0 x y H Q ∨ (rOI (CS K) (spAr (CS K) Fmu Gbd) E0 x y H Q ∨ rIO (CS K) (spRe (CS K) Fmu Gbd) E0 x y H Q)
def rFd (K : PySem.W.Frag) (E : XK) : R2 := fun x y H Q => rOO (CS K) (spFd K) E x y H Q ∨ (rOI (CS K) (spFd K) E x y H Q ∨ rIO (CS K) (spRf K) E x y H Q)
section
variable {X : Cx} {j : Nat}
theorem op_Ad (T : STxt X.K X.mg) (M : SMeth X.K) (O : OkM X.prog X.w X.K X.mg X.base CX0 6 "__add__" ["self", "other"] (spAr (CS X.K) Fad Gbd)) (O' : OkM X.prog X.w X.K X.mg X.base CX0 7 "__radd__" ["self", "other"] (spRe (CS X.K) Fad Gbd)) (hr : Room j X.A) (hj : 7 ≤ j) : OpR X (binaryOp .Add) (rAd X.K) :=
  opr_or (op_oo rfl M.m_add T.hc O hr (by omega) pass0) (opr_or (op_oi rfl M.m_add T.hc M.m_radd.at_ (.inr ⟨_, rfl⟩) (int_add X.K) (int_radd X.K) T.hs O hr (by omega) pass0)
    (op_io rfl M.m_radd T.hc M.m_add.at_ T.hi PySem.F.fills_int_add PySem.F.slot_int_add PySem.F.entry_int_add PySem.F.args_int_add_2 (decl_bin _ _ _) O' hr hj pass0))
theorem op_Su (T : STxt X.K X.mg) (M : SMeth X.K) (O : OkM X.prog X.w X.K X.mg X.base CX0 6 "__sub__" ["self", "other"] (spAr (CS X.K) Fsu Gbd)) (O' : OkM X.prog X.w X.K X.mg X.base CX0 7 "__rsub__" ["self", "other"] (spRs (CS X.K))) (hr : Room j X.A) (hj : 7 ≤ j) : OpR X (binaryOp .Sub) (rSu X.K) :=
  opr_or (op_oo rfl M.m_sub T.hc O hr (by omega) pass0) (opr_or (op_oi rfl M.m_sub T.hc M.m_rsub.at_ (.inr ⟨_, rfl⟩) (int_sub X.K) (int_rsub X.K) T.hs O hr (by omega) pass0)
    (op_io rfl M.m_rsub T.hc M.m_sub.at_ T.hi PySem.F.fills_int_sub PySem.F.slot_int_sub PySem.F.entry_int_sub PySem.F.args_int_sub_2 (decl_bin _ _ _) O' hr hj pass0))
theorem op_Mu (T : STxt X.K X.mg) (M : SMeth X.K) (O : OkM X.prog X.w X.K X.mg X.base CX0 6 "__mul__" ["self", "other"] (spAr (CS X.K) Fmu Gbd)) (O' : OkM X.prog X.w X.K X.mg X.base CX0 7 "__rmul__" ["self", "other"] (spRe (CS X.K) Fmu Gbd)) (hr : Room j X.A) (hj : 7 ≤ j) : OpR X (binaryOp .Mult) (rMu X.K) :=
  opr_or (op_oo rfl M.m_mul T.hc O hr (by omega) pass0) (opr_or (op_oi rfl M.m_mul T.hc M.m_rmul.at_ (.inr ⟨_, rfl⟩) (int_mul X.K) (int_rmul X.K) T.hs O hr (by omega) pass0)
    (op_io rfl M.m_rmul T.hc M.m_mul.at_ T.hi PySem.F.fills_int_mul PySem.F.slot_int_mul PySem.F.entry_int_mul PySem.F.args_int_mul_2 (decl_bin _ _ _) O' hr hj pass0))
theorem op_Fd {E : XK} (T : STxt X.K X.mg) (M : SMeth X.K) (O : OkM X.prog X.w X.K X.mg X.base (L2.CX X.prog X.w) 7 "__floordiv__" ["self", "other"] (spFd X.K)) (O' : OkM X.prog X.w X.K X.mg X.base (L2.CX X.prog X.w) 7 "__rfloordiv__" ["self", "other"] (spRf X.K)) (hr : Room j X.A) (hj : 7 ≤ j) (hx : Passes (L2.CX X.prog X.w) X E) : OpR X (binaryOp .FloorDiv) (rFd X.K E) :=
  opr_or (op_oo rfl M.m_fdv T.hc O hr (by omega) hx) (opr_or (op_oi rfl M.m_fdv T.hc M.m_rfdv.at_ (.inr ⟨_, rfl⟩) (int_fdv X.K) (int_rfdv X.K) T.hs O hr (by omega) hx)
    (op_io rfl M.m_rfdv T.hc M.m_fdv.at_ T.hi PySem.F.fills_int_floordiv PySem.F.slot_int_floordiv PySem.F.entry_int_floordiv PySem.F.args_int_floordiv_2 decl_fdv O' hr hj hx))
end
/-- x is c over d, y is e over f, not two ints -/
structure Two (C : Addr) (H : Hp) (x y : V) (c d e f : Int) : Prop where
  nx : Nm C H x c d
  ny : Nm C H y e f
  o : (∃ p, x = .ref p) ∨ ∃ p, y = .ref p
  d0 : 0 < d
  f0 : 0 < f
  bc : Bit 100 c
  bd : Bit 100 d
  be : Bit 100 e
  bf : Bit 100 f
theorem Two.ext {C : Addr} {H H' : Hp} {x y : V} {c d e f : Int} (h : Two C H x y c d e f) (s : Same H H') : Two C H' x y c d e f := ⟨h.nx.ext s, h.ny.ext s, h.o, h.d0, h.f0, h.bc, h.bd, h.be, h.bf⟩
theorem Two.three {C : Addr} {H : Hp} {x y : V} {c d e f : Int} (h : Two C H x y c d e f) : (∃ p q dx dy, x = .ref p ∧ y = .ref q ∧ H p = some (.ins C dx (shf c d)) ∧ H q = some (.ins C dy (shf e f))) ∨ (∃ p dx, x = .ref p ∧ y = .int e ∧ f = 1 ∧ H p = some (.ins C dx (shf c d))) ∨ (∃ q dy, x = .int c ∧ d = 1 ∧ y = .ref q ∧ H q = some (.ins C dy (shf e f))) := by
  obtain ⟨hx, hy, ho, _⟩ := h
  rcases hx with ⟨p, rfl, dx, hp⟩ | ⟨rfl, rfl⟩
  · rcases hy with ⟨q, rfl, dy, hq⟩ | ⟨rfl, rfl⟩
    · exact .inl ⟨p, q, dx, dy, rfl, rfl, hp, hq⟩
    · exact .inr (.inl ⟨p, dx, rfl, rfl, rfl, hp⟩)
  · rcases hy with ⟨q, rfl, dy, hq⟩ | ⟨rfl, rfl⟩
    · exact .inr (.inr ⟨q, dy, rfl, rfl, rfl, hq⟩)
    · rcases ho with ⟨p, e⟩ | ⟨p, e⟩ <;> cases e
/-- a share that is t over u -/
structure Res (C : Addr) (H : Hp) (r : Addr) (t u : Int) (p q : Int) : Prop where
  sh : Sh C H r p q
  nf : Nf p q
  bp : Bit 220 p
  bq : Bit 220 q
  eq : p * u = t * q
theorem rd_add {H : Hp} {x y : V} {c d e f : Int} {Q : VK} (h : Two (CS K) H x y c d e f) (k : ∀ (H' : Hp) (r : Addr) (p q : Int), Same H H' → Res (CS K) H' r (c * f + e * d) (d * f) p q → Q (.ref r) H') : rAd K x y H Q := by
  have bF : Bit 220 (c * f + e * d) := ((h.bc.mul h.bf).add (h.be.mul h.bd)).mono (by decide)
  have bG : Bit 220 (d * f) := (h.bd.mul h.bf).mono (by decide)
  rcases h.three with ⟨p, q, dx, dy, rfl, rfl, hp, hq⟩ | ⟨p, dx, rfl, rfl, rfl, hp⟩ | ⟨q, dy, rfl, rfl, rfl, hq⟩
  · have nf := nf_of (Fad c d e f) (b := Gbd c d e f) (Int.ne_of_gt (Int.mul_pos h.d0 h.f0))
    exact .inl ⟨p, q, dx, dy, _, _, rfl, rfl, hp, hq, p, _, c, d, e, f, rfl, ⟨dx, hp⟩, .inl ⟨q, rfl, dy, hq⟩, h.d0, h.f0, h.bc.mono (by decide), h.bd.mono (by decide), h.be.mono (by decide), h.bf.mono (by decide), fun H' r sm hs => k H' r _ _ sm ⟨hs, nf.toNf, bF.le nf.le1, bG.le nf.le2, nf.eq⟩⟩
  · have nf := nf_of (Fad c d e 1) (b := Gbd c d e 1) (Int.ne_of_gt (Int.mul_pos h.d0 h.f0))
    exact .inr (.inl ⟨p, e, dx, _, rfl, rfl, hp, p, _, c, d, e, 1, rfl, ⟨dx, hp⟩, .inr ⟨rfl, rfl⟩, h.d0, h.f0, h.bc.mono (by decide), h.bd.mono (by decide), h.be.mono (by decide), h.bf.mono (by decide), fun H' r sm hs => k H' r _ _ sm ⟨hs, nf.toNf, bF.le nf.le1, bG.le nf.le2, nf.eq⟩⟩)
  · have nf := nf_of (Fad e f c 1) (b := Gbd e f c 1) (Int.ne_of_gt (Int.mul_pos h.f0 h.d0))
    have e1 : Fad e f c 1 = c * f + e * 1 := by unfold Fad; omega
    have e2 : Gbd e f c 1 = 1 * f := by unfold Gbd; omega
    have eq := nf.eq
    have l1 := nf.le1
    have l2 := nf.le2
    refine .inr (.inr ⟨c, q, dy, _, rfl, rfl, hq, q, c, e, f, rfl, ⟨dy, hq⟩, h.f0, h.be.mono (by decide), h.bf.mono (by decide), h.bc.mono (by decide), fun H' r sm hs => k H' r _ _ sm ⟨hs, nf.toNf, bF.le (by rw [← e1]; exact l1), bG.le (by rw [← e2]; exact l2), ?_⟩⟩)
    rw [← e1, ← e2]
    exact eq
theorem rd_mul {H : Hp} {x y : V} {c d e f : Int} {Q : VK} (h : Two (CS K) H x y c d e f) (k : ∀ (H' : Hp) (r : Addr) (p q : Int), Same H H' → Res (CS K) H' r (c * e) (d * f) p q → Q (.ref r) H') : rMu K x y H Q := by
  have bF : Bit 220 (c * e) := (h.bc.mul h.be).mono (by decide)
  have bG : Bit 220 (d * f) := (h.bd.mul h.bf).mono (by decide)
  rcases h.three with ⟨p, q, dx, dy, rfl, rfl, hp, hq⟩ | ⟨p, dx, rfl, rfl, rfl, hp⟩ | ⟨q, dy, rfl, rfl, rfl, hq⟩
  · have nf := nf_of (Fmu c d e f) (b := Gbd c d e f) (Int.ne_of_gt (Int.mul_pos h.d0 h.f0))
    exact .inl ⟨p, q, dx, dy, _, _, rfl, rfl, hp, hq, p, _, c, d, e, f, rfl, ⟨dx, hp⟩, .inl ⟨q, rfl, dy, hq⟩, h.d0, h.f0, h.bc.mono (by decide), h.bd.mono (by decide), h.be.mono (by decide), h.bf.mono (by decide), fun H' r sm hs => k H' r _ _ sm ⟨hs, nf.toNf, bF.le nf.le1, bG.le nf.le2, nf.eq⟩⟩
  · have nf := nf_of (Fmu c d e 1) (b := Gbd c d e 1) (Int.ne_of_gt (Int.mul_pos h.d0 h.f0))
    exact .inr (.inl ⟨p, e, dx, _, rfl, rfl, hp, p, _, c, d, e, 1, rfl, ⟨dx, hp⟩, .inr ⟨rfl, rfl⟩, h.d0, h.f0, h.bc.mono (by decide), h.bd.mono (by decide), h.be.mono (by decide), h.bf.mono (by decide), fun H' r sm hs => k H' r _ _ sm ⟨hs, nf.toNf, bF.le nf.le1, bG.le nf.le2, nf.eq⟩⟩)
  · have nf := nf_of (Fmu e f c 1) (b := Gbd e f c 1) (Int.ne_of_gt (Int.mul_pos h.f0 h.d0))
    have e1 : Fmu e f c 1 = c * e := Int.mul_comm _ _
    have e2 : Gbd e f c 1 = 1 * f := Int.mul_comm _ _
    have eq := nf.eq
    have l1 := nf.le1
    have l2 := nf.le2
    refine .inr (.inr ⟨c, q, dy, _, rfl, rfl, hq, q, c, e, f, rfl, ⟨dy, hq⟩, h.f0, h.be.mono (by decide), h.bf.mono (by decide), h.bc.mono (by decide), fun H' r sm hs => k H' r _ _ sm ⟨hs, nf.toNf, bF.le (by rw [← e1]; exact l1), bG.le (by rw [← e2]; exact l2), ?_⟩⟩)
    rw [← e1, ← e2]
    exact eq
theorem rd_sub {H : Hp} {x y : V} {c d e f : Int} {Q : VK} (h : Two (CS K) H x y c d e f) (k : ∀ (H' : Hp) (r : Addr) (p q : Int), Same H H' → Res (CS K) H' r (c * f - e * d) (d * f) p q → Q (.ref r) H') : rSu K x y H Q := by
  have bF : Bit 220 (c * f - e * d) := ((h.bc.mul h.bf).sub (h.be.mul h.bd)).mono (by decide)
  have bG : Bit 220 (d * f) := (h.bd.mul h.bf).mono (by decide)
  rcases h.three with ⟨p, q, dx, dy, rfl, rfl, hp, hq⟩ | ⟨p, dx, rfl, rfl, rfl, hp⟩ | ⟨q, dy, rfl, rfl, rfl, hq⟩
  · have nf := nf_of (Fsu c d e f) (b := Gbd c d e f) (Int.ne_of_gt (Int.mul_pos h.d0 h.f0))
    exact .inl ⟨p, q, dx, dy, _, _, rfl, rfl, hp, hq, p, _, c, d, e, f, rfl, ⟨dx, hp⟩, .inl ⟨q, rfl, dy, hq⟩, h.d0, h.f0, h.bc.mono (by decide), h.bd.mono (by decide), h.be.mono (by decide), h.bf.mono (by decide), fun H' r sm hs => k H' r _ _ sm ⟨hs, nf.toNf, bF.le nf.le1, bG.le nf.le2, nf.eq⟩⟩
  · have nf := nf_of (Fsu c d e 1) (b := Gbd c d e 1) (Int.ne_of_gt (Int.mul_pos h.d0 h.f0))
    exact .inr (.inl ⟨p, e, dx, _, rfl, rfl, hp, p, _, c, d, e, 1, rfl, ⟨dx, hp⟩, .inr ⟨rfl, rfl⟩, h.d0, h.f0, h.bc.mono (by decide), h.bd.mono (by decide), h.be.mono (by decide), h.bf.mono (by decide), fun H' r sm hs => k H' r _ _ sm ⟨hs, nf.toNf, bF.le nf.le1, bG.le nf.le2, nf.eq⟩⟩)
  · have n1 := nf_of (-e) (b := f) (Int.ne_of_gt h.f0)
    have nf := nf_of (Fad (nT (-e) f) (nB (-e) f) c 1) (b := Gbd (nT (-e) f) (nB (-e) f) c 1) (Int.ne_of_gt (Int.mul_pos n1.pos (by decide)))
    have b1 : Bit 100 (nT (-e) f) := h.be.neg.le n1.le1
    have b2 : Bit 100 (nB (-e) f) := h.bf.le n1.le2
    have one : Bit 100 1 := one_bit 99
    have bF1 : Bit 220 (Fad (nT (-e) f) (nB (-e) f) c 1) := ((b1.mul one).add (h.bc.mul b2)).mono (by decide)
    have bG1 : Bit 220 (Gbd (nT (-e) f) (nB (-e) f) c 1) := (b2.mul one).mono (by decide)
    refine .inr (.inr ⟨c, q, dy, _, rfl, rfl, hq, q, c, e, f, rfl, ⟨dy, hq⟩, h.f0, h.be.mono (by decide), h.bf.mono (by decide), h.bc.mono (by decide), fun H' r sm hs => k H' r _ _ sm ⟨hs, nf.toNf, bF1.le nf.le1, bG1.le nf.le2, ?_⟩⟩)
    have g1 := n1.eq
    have g2 := nf.eq
    have g3 := n1.pos
    unfold Fad Gbd at g2 ⊢
    generalize nT (-e) f = s at g1 g2 ⊢
    generalize nB (-e) f = t at g1 g2 g3 ⊢
    generalize nT (s * 1 + c * t) (t * 1) = p at g2 ⊢
    generalize nB (s * 1 + c * t) (t * 1) = r at g2 ⊢
    have hh : t * (p * (1 * f)) = t * ((c * f - e * 1) * r) := by grind
    exact Int.eq_of_mul_eq_mul_left (Int.ne_of_gt g3) hh
theorem rd_fd {H : Hp} {x y : V} {c d e f : Int} {Q : VK} {E : XK} (h : Two (CS K) H x y c d e f) (k : e ≠ 0 → ∀ (H' : Hp) (p q : Int), Same H H' → 0 < q → p * (d * e) = (c * f) * q → Q (.int (p / q)) H') (kE : e = 0 → ∀ H', Same H H' → E (.ref (CN K)) none H') : rFd K E x y H Q := by
  rcases h.three with ⟨p, q, dx, dy, rfl, rfl, hp, hq⟩ | ⟨p, dx, rfl, rfl, rfl, hp⟩ | ⟨q, dy, rfl, rfl, rfl, hq⟩
  · refine .inl ⟨p, q, dx, dy, _, _, rfl, rfl, hp, hq, p, _, c, d, e, f, rfl, ⟨dx, hp⟩, .inl ⟨q, rfl, dy, hq⟩, h.d0, h.f0, h.bc.mono (by decide), h.bd.mono (by decide), h.be.mono (by decide), h.bf.mono (by decide), fun he H' sm => ?_, kE⟩
    have nf := nf_of (Fov c d e f) (b := Gov c d e f) (Int.mul_ne_zero (Int.ne_of_gt h.d0) he)
    exact k he H' _ _ sm nf.pos nf.eq
  · refine .inr (.inl ⟨p, e, dx, _, rfl, rfl, hp, p, _, c, d, e, 1, rfl, ⟨dx, hp⟩, .inr ⟨rfl, rfl⟩, h.d0, h.f0, h.bc.mono (by decide), h.bd.mono (by decide), h.be.mono (by decide), h.bf.mono (by decide), fun he H' sm => ?_, kE⟩)
    have nf := nf_of (Fov c d e 1) (b := Gov c d e 1) (Int.mul_ne_zero (Int.ne_of_gt h.d0) he)
    exact k he H' _ _ sm nf.pos nf.eq
  · refine .inr (.inr ⟨c, q, dy, _, rfl, rfl, hq, q, c, e, f, rfl, ⟨dy, hq⟩, h.f0, h.be.mono (by decide), h.bf.mono (by decide), h.bc.mono (by decide), fun he H' sm => ?_, kE⟩)
    rw [nT_one, nB_one]
    have nf := nf_of (Fov c 1 e f) (b := Gov c 1 e f) (Int.mul_ne_zero (by decide) he)
    exact k he H' _ _ sm nf.pos nf.eq
/-- the floor of one value, however it is written -/
theorem floor_eq {p q t u : Int} (hq : 0 < q) (hu : u ≠ 0) (h : p * u = t * q) : p / q = t.fdiv u := by
  rcases (show 0 < u ∨ u < 0 by omega) with h0 | h0
  · rw [Int.fdiv_eq_ediv_of_nonneg t (by omega), ← Int.mul_ediv_mul_of_pos_left p q h0, h, Int.mul_comm t q, Int.mul_ediv_mul_of_pos t u hq]
  · have h1 : t.fdiv u = (-t).fdiv (-u) := (Int.neg_fdiv_neg t u).symm
    have h2 : p * (-u) = (-t) * q := by rw [Int.mul_neg, Int.neg_mul, h]
    rw [h1, Int.fdiv_eq_ediv_of_nonneg (-t) (by omega), ← Int.mul_ediv_mul_of_pos_left p q (show 0 < -u by omega), h2, Int.mul_comm (-t) q, Int.mul_ediv_mul_of_pos (-t) (-u) hq]
end
end K2

set_option Elab.async false
set_option linter.all false
set_option maxRecDepth 100000
set_option maxHeartbeats 2000000
namespace K2
open PySem PySem.Spec PyProof.Rows L2 Vf
section
variable {P : Program} {w : World} {K : PySem.W.Frag} {mg : Str → Option Value} {base : Heap}
structure Txt (K : PySem.W.Frag) (mg : Str → Option Value) : Prop extends STxt K mg where
  z_len : mg "len" = none
  z_range : mg "range" = none
  g_law_cell : mg "_law_cell" = some (.ref (He.ga K "_law_cell"))
  g_law_take : mg "_law_take" = some (.ref (He.ga K "_law_take"))
  g_law_is_integer : mg "_law_is_integer" = some (.ref (He.ga K "_law_is_integer"))
  g_law_gcd : mg "_law_gcd" = some (.ref (He.ga K "_law_gcd"))
  g_law_is_share : mg "_law_is_share" = some (.ref (He.ga K "_law_is_share"))
  g_law_pair : mg "_law_pair" = some (.ref (He.ga K "_law_pair"))
  g_law_over : mg "_law_over" = some (.ref (He.ga K "_law_over"))
  g_law_below : mg "_law_below" = some (.ref (He.ga K "_law_below"))
  g_law_quotient_fits : mg "_law_quotient_fits" = some (.ref (He.ga K "_law_quotient_fits"))
  g_law_floor_fits : mg "_law_floor_fits" = some (.ref (He.ga K "_law_floor_fits"))
  g_law_sums_fit : mg "_law_sums_fit" = some (.ref (He.ga K "_law_sums_fit"))
abbrev s_law_is_integer : Stmt := top 14
theorem sc_law_is_integer : FnScope ["_law_value"] ["_law_value"] (defScope s_law_is_integer) := ⟨rfl, rfl, rfl, by decide +kernel, rfl, by decide +kernel, by decide +kernel⟩
-- slots: 0 _law_value
theorem ok_law_is_integer {fd : FuncData} (F : FnD K ("_law_is_integer", none) "_law_is_integer" "_law_is_integer" s_law_is_integer fd) (T : Txt K mg) : OkF P w K mg base CX0 1 "_law_is_integer" ["_law_value"] spIsInt := by
  refine okd F (F.ok sc_law_is_integer (fun vs H Q E h => ?_) fun cdv A outer s H vs Q E hr h => ⟨t_isint K, PSs.nox ?_, run_isint h⟩) fun _ _ _ _ _ _ us hl => match us, hl with | [_], _ => rfl
  · obtain ⟨x, rfl, _⟩ := h
    rfl
  · exact (pss_one (ps_ret (pe_and (pe_callB call_isi (by rfl) T.z_isinstance (by decide +kernel) (pa_cons (pv 0) (pa_cons (pe_ty T.z_int (by decide +kernel)) pa_nil))) (pe_one (pe_not (pe_callB call_isi (by rfl) T.z_isinstance (by decide +kernel) (pa_cons (pv 0) (pa_cons (pe_ty T.z_bool (by decide +kernel)) pa_nil))))))))
abbrev s_law_take : Stmt := top 13
theorem sc_law_take : FnScope ["_law_draw", "_law_size", "_law_taken"] ["_law_draw", "_law_size"] (defScope s_law_take) := ⟨rfl, rfl, rfl, by decide +kernel, rfl, by decide +kernel, by decide +kernel⟩
-- slots: 0 _law_draw, 1 _law_size, 2 _law_taken
theorem ok_law_take {fd : FuncData} (F : FnD K ("_law_take", none) "_law_take" "_law_take" s_law_take fd) (T : Txt K mg) : OkF P w K mg base CX0 1 "_law_take" ["_law_draw", "_law_size"] spTake := by
  refine okd F (F.ok sc_law_take (fun vs H Q E h => ?_) fun cdv A outer s H vs Q E hr h => ?_) fun _ _ _ _ _ _ us hl => match us, hl with | [_, _], _ => rfl
  · obtain ⟨d, n, s, rfl, _⟩ := h
    rfl
  · obtain ⟨d, n, s, rfl, hd, s0, s1, q⟩ := h
    refine ⟨_, PSs.nox (pss_cons (ps_set (i := 2) sc_law_take.nd rfl (Or.inl rfl) (pe_op op_mod (pe_callTy call_int1 (by rfl) T.z_int (by decide +kernel) (pa_cons (pe_ix ix_list (pv 0) pe_int (fun _ _ => rfl)) pa_nil)) (pv 1)))
  (pss_cons (ps_asg (pe_op op_fdiv (pe_ix ix_list (pv 0) pe_int (fun _ _ => rfl)) (pv 1)) (pg_sub (pv 0) pe_int set_list))
  (pss_one (ps_ret (pv 2))))), ?_⟩
    refine ⟨_, rfl, d, [.int n], 0, .int n, rfl, rfl, SqL.of hd, atI0, .inl ⟨n, rfl, _, rfl, n, s, rfl, rfl, s0, ?_⟩⟩
    refine ⟨_, rfl, d, [.int n], 0, .int n, rfl, rfl, SqL.of hd, atI0, _, rfl, n, s, rfl, rfl, ⟨s0, s1⟩, ?_⟩
    refine ⟨_, rfl, d, [.int n], 0, 0, rfl, rfl, hd, ixN0, _, rfl, ?_⟩
    exact q (n % s) (n / s) (Int.emod_nonneg n (by omega)) (Int.emod_lt_of_pos n s0)
abbrev s_law_cell : Stmt := top 12
theorem sc_law_cell : FnScope ["_law_script", "_law_k", "_law_cell_here", "_law_number", "_law_total", "_law_step"] ["_law_script", "_law_k"] (defScope s_law_cell) := ⟨rfl, rfl, rfl, by decide +kernel, rfl, by decide +kernel, by decide +kernel⟩
-- slots: 0 _law_script, 1 _law_k, 2 _law_cell_here, 3 _law_number, 4 _law_total, 5 _law_step
theorem ok_law_cell {fd : FuncData} (F : FnD K ("_law_cell", none) "_law_cell" "_law_cell" s_law_cell fd) (T : Txt K mg) : OkF P w K mg base CX0 1 "_law_cell" ["_law_script", "_law_k"] (Vf.spCell K) := by
  refine okd F (F.ok sc_law_cell (fun vs H Q E h => ?_) fun cdv A outer s H vs Q E hr h => ?_) fun _ _ _ _ _ _ us hl => match us, hl with | [_, _], _ => rfl
  · obtain ⟨l, ns, j, rfl, _⟩ := h
    rfl
  · obtain ⟨l, ns, j, rfl, hS, hj, q⟩ := h
    refine ⟨_, PSs.nox (pss_cons (ps_set (i := 2) sc_law_cell.nd rfl (Or.inl rfl) pe_int)
  (C8.pss_cut (ps_if (pt_cmpR op_lt (pv 1) (pe_callB call_len_seq (by rfl) T.z_len (by decide +kernel) (pa_cons (pv 0) pa_nil)) (nomark _)) (pss_one (ps_set (i := 2) sc_law_cell.nd rfl (Or.inl rfl) (pe_ix ix_list (pv 0) (pv 1) (fun _ _ => rfl))))
  pss_nil)
  (pss_cons (ps_if (pt_cmpR op_ge (pv 2) (pe_op op_pow pe_int pe_int) (nomark _)) (pss_one (ps_ret (pv 2)))
  pss_nil)
  (pss_cons (ps_set (i := 3) sc_law_cell.nd rfl (Or.inl rfl) (pe_op op_mod (pe_callTy call_int1 (by rfl) T.z_int (by decide +kernel) (pa_cons (pe_op op_add (pe_op op_add (pe_op op_mul (pv 2) pe_int) (pe_op op_mul (pv 1) pe_int)) pe_int) pa_nil)) pe_int))
  (pss_cons (ps_set (i := 4) sc_law_cell.nd rfl (Or.inl rfl) pe_int)
  (pss_cons (ps_for PassesOwn.never rfl (pi_range1 rfl T.z_range (pa_cons pe_int pa_nil)) (pg_name (i := 5) sc_law_cell.nd rfl (Or.inl rfl))
  (pss_cons (ps_set (i := 3) sc_law_cell.nd rfl (Or.inl rfl) (pe_op op_mod (pe_callTy call_int1 (by rfl) T.z_int (by decide +kernel) (pa_cons (pe_op op_add (pe_op op_add (pe_op op_mul (pv 3) pe_int) (pe_op op_mul (pv 5) pe_int)) pe_int) pa_nil)) pe_int))
  (pss_cons (ps_set (i := 3) sc_law_cell.nd rfl (Or.inl rfl) (pe_op op_mod (pe_callTy call_int1 (by rfl) T.z_int (by decide +kernel) (pa_cons (pe_op op_mul (pv 3) (pe_op op_add (pe_op op_fdiv (pv 3) pe_int) pe_int)) pa_nil)) pe_int))
  (pss_one (ps_set (i := 4) sc_law_cell.nd rfl (Or.inl rfl) (pe_op op_add (pe_op op_mul (pv 4) pe_int) (pv 3)))))))
  (pss_one (ps_ret (pv 4))))))))), ?_⟩
    refine ⟨fun σ' H' => H' = H ∧ ∃ c : Int, σ' = [some (.ref l), some (.int (j : Int)), some (.int c), none, none, none], ?_, ?_⟩
    · refine ⟨_, rfl, _, rfl, l, _, rfl, .inl hS, _, _, rfl, rfl, _, rfl, ite2 (fun hlt => ?_) fun _ => ⟨rfl, 0, rfl⟩⟩
      have hj2 : j < ns.length := by
        have := of_decide_eq_true hlt
        rw [List.length_map] at this
        omega
      refine ⟨_, rfl, _, rfl, l, _, (j : Int), .int ns[j], rfl, rfl, hS, atI_nat ?_, rfl, _, rfl⟩
      rw [List.getElem?_map, List.getElem?_eq_getElem hj2]
      rfl
    rintro σ' H' ⟨rfl, c, rfl⟩
    refine ⟨_, rfl, 10, 18, rfl, rfl, ⟨by decide, by decide, by decide⟩, _, _, rfl, rfl, _, rfl, ite2 (fun _ => ⟨_, rfl, q c⟩) fun _ => ?_⟩
    refine ⟨_, rfl, c, 7, rfl, rfl, .inr ⟨by decide, by decide⟩, _, rfl, (j : Int), 7919, rfl, rfl, .inr ⟨by decide, by decide⟩, _, _, rfl, rfl, _, _, rfl, rfl, .inl ⟨_, rfl, _, 2147483647, rfl, rfl, (by show (0 : Int) < 2147483647; decide), ?_⟩⟩
    refine ⟨8, rfl, by decide, by decide, for_range (lo := 0) (n := 8) (fun i σ H1 => H1 = H' ∧ ∃ (num tot : Int) (v : Option V), 0 ≤ num ∧ num < 2147483647 ∧ σ = [some (.ref l), some (.int (j : Int)), some (.int c), some (.int num), some (.int tot), v]) ?_ ?_ ?_⟩
    · exact ⟨rfl, _, 0, none, Int.emod_nonneg _ (by decide), Int.emod_lt_of_pos _ (by decide), rfl⟩
    · rintro i σ H1 hi ⟨rfl, num, tot, v, h0, h1, rfl⟩
      refine ⟨_, rfl, num, 48271, rfl, rfl, .inr ⟨by decide, by decide⟩, _, rfl, _, 30103, rfl, rfl, .inr ⟨by decide, by decide⟩, _, _, rfl, rfl, _, 11, rfl, rfl, .inl ⟨_, rfl, _, 2147483647, rfl, rfl, (by show (0 : Int) < 2147483647; decide), ?_⟩⟩
      have b0 := Int.emod_nonneg (num * 48271 + (0 + (i : Int)) * 30103 + 11) (b := 2147483647) (by decide)
      have b1 := Int.emod_lt_of_pos (num * 48271 + (0 + (i : Int)) * 30103 + 11) (b := 2147483647) (by decide)
      refine ⟨_, rfl, _, rfl, _, 1009, rfl, rfl, ⟨by decide, by decide⟩, _, 69621, rfl, rfl, _, _, rfl, rfl, .inl ⟨by omega, by omega⟩, .inl ⟨_, rfl, _, 2147483629, rfl, rfl, (by show (0 : Int) < 2147483629; decide), ?_⟩⟩
      refine ⟨_, rfl, tot, 2147483629, rfl, rfl, .inr ⟨by decide, by decide⟩, _, rfl, _, _, rfl, rfl, ?_⟩
      exact ⟨rfl, _, _, _, Int.emod_nonneg _ (by decide), Int.lt_trans (Int.emod_lt_of_pos _ (by decide)) (by decide), rfl⟩
    · rintro σ H1 ⟨rfl, num, tot, v, h0, h1, rfl⟩
      exact ⟨_, rfl, q tot⟩
abbrev s_law_gcd : Stmt := top 15
theorem sc_law_gcd : FnScope ["_law_one", "_law_two", "_law_a", "_law_b", "_law_k", "_law_rest"] ["_law_one", "_law_two"] (defScope s_law_gcd) := ⟨rfl, rfl, rfl, by decide +kernel, rfl, by decide +kernel, by decide +kernel⟩
-- slots: 0 _law_one, 1 _law_two, 2 _law_a, 3 _law_b, 4 _law_k, 5 _law_rest
def spGcd : Sp := fun vs H Q _ => ∃ a b : Int, vs = [.int a, .int b] ∧ Bit 249 b ∧ Q (.int ((Nat.gcd a.natAbs b.natAbs : Nat) : Int)) H
theorem abs_if (a : Int) : (if a < 0 then -a else a) = ((a.natAbs : Nat) : Int) := by split <;> omega
theorem ok_law_gcd {fd : FuncData} (F : FnD K ("_law_gcd", none) "_law_gcd" "_law_gcd" s_law_gcd fd) (T : Txt K mg) : OkF P w K mg base CX0 1 "_law_gcd" ["_law_one", "_law_two"] spGcd := by
  refine okd F (F.ok sc_law_gcd (fun vs H Q E h => ?_) fun cdv A outer s H vs Q E hr h => ?_) fun _ _ _ _ _ _ us hl => match us, hl with | [_, _], _ => rfl
  · obtain ⟨a, b, rfl, _⟩ := h
    rfl
  · obtain ⟨a, b, rfl, hb, q⟩ := h
    refine ⟨_, PSs.nox (pss_cons (ps_set (i := 2) sc_law_gcd.nd rfl (Or.inl rfl) (pe_callB call_abs (by rfl) T.z_abs (by decide +kernel) (pa_cons (pv 0) pa_nil)))
  (pss_cons (ps_set (i := 3) sc_law_gcd.nd rfl (Or.inl rfl) (pe_callB call_abs (by rfl) T.z_abs (by decide +kernel) (pa_cons (pv 1) pa_nil)))
  (pss_cons (ps_for PassesOwn.never rfl (pi_range1 rfl T.z_range (pa_cons pe_int pa_nil)) (pg_name (i := 4) sc_law_gcd.nd rfl (Or.inl rfl))
  (pss_cons (ps_if (pt_cmpR op_eq (pv 3) pe_int (nomark _)) (pss_one (ps_ret (pv 2)))
  pss_nil)
  (pss_cons (ps_set (i := 5) sc_law_gcd.nd rfl (Or.inl rfl) (pe_op op_mod (pe_callTy call_int1 (by rfl) T.z_int (by decide +kernel) (pa_cons (pv 2) pa_nil)) (pv 3)))
  (pss_cons (ps_set (i := 2) sc_law_gcd.nd rfl (Or.inl rfl) (pv 3))
  (pss_one (ps_set (i := 3) sc_law_gcd.nd rfl (Or.inl rfl) (pv 5)))))))
  (pss_one (ps_ret (pv 2)))))), ?_⟩
    refine ⟨_, rfl, a, rfl, _, rfl, b, rfl, ?_⟩
    refine ⟨500, rfl, by decide, by decide, for_range (lo := 0) (n := 500) (fun i σ H1 => H1 = H ∧ ∃ (x y : Nat) (v u : Option V), Eu (Nat.gcd a.natAbs b.natAbs) b.natAbs i x y ∧ σ = [some (.int a), some (.int b), some (.int (x : Int)), some (.int (y : Int)), v, u]) ?_ ?_ ?_⟩
    · refine ⟨rfl, a.natAbs, b.natAbs, none, none, Eu.start _ _, ?_⟩
      rw [← abs_if a, ← abs_if b]
      rfl
    · rintro i σ H1 hi ⟨rfl, x, y, v, u, hE, rfl⟩
      refine ⟨_, rfl, rfl, _, rfl, ite2 (fun h => ?_) fun h => ?_⟩
      · have hy : y = 0 := by
          have := of_decide_eq_true h
          injection this with this
          omega
        subst hy
        refine ⟨_, rfl, ?_⟩
        rw [hE.zero]
        exact q
      · have hy : y ≠ 0 := fun e => h (decide_eq_true (by rw [e]; rfl))
        refine ⟨_, rfl, .inl ⟨_, rfl, _, rfl, (x : Int), (y : Int), rfl, rfl, (by omega), ?_⟩⟩
        exact ⟨_, rfl, _, rfl, rfl, y, x % y, _, _, hE.step hy, rfl⟩
    · rintro σ H1 ⟨rfl, x, y, v, u, hE, rfl⟩
      refine ⟨_, rfl, ?_⟩
      rw [hE.last (Nat.lt_of_lt_of_le hb (Nat.pow_le_pow_right (by decide) (by decide)))]
      exact q
abbrev s_law_is_share : Stmt := top 16
theorem sc_law_is_share : FnScope ["_law_value", "_law_top", "_law_bottom"] ["_law_value", "_law_top", "_law_bottom"] (defScope s_law_is_share) := ⟨rfl, rfl, rfl, by decide +kernel, rfl, by decide +kernel, by decide +kernel⟩
-- slots: 0 _law_value, 1 _law_top, 2 _law_bottom
def spIsSh (C : Addr) : Sp := fun vs H Q _ => ∃ (p : Addr) (a b t u : Int), vs = [.ref p, .int t, .int u] ∧ Sh C H p a b ∧ Nf a b ∧ Bit 249 b ∧ Bit 4000 a ∧ Bit 4000 t ∧ Bit 4000 u ∧ a * u = t * b ∧ Q (.bl true) H
theorem ok_law_is_share {fd : FuncData} (F : FnD K ("_law_is_share", none) "_law_is_share" "_law_is_share" s_law_is_share fd) (T : Txt K mg) (O_law_is_integer : OkF P w K mg base CX0 1 "_law_is_integer" ["_law_value"] spIsInt) (O_law_gcd : OkF P w K mg base CX0 1 "_law_gcd" ["_law_one", "_law_two"] spGcd) :
    OkF P w K mg base CX0 2 "_law_is_share" ["_law_value", "_law_top", "_law_bottom"] (spIsSh (CS K)) := by
  refine okd F (F.ok sc_law_is_share (fun vs H Q E h => ?_) fun cdv A outer s H vs Q E hr h => ?_) fun _ _ _ _ _ _ us hl => match us, hl with | [_, _, _], _ => rfl
  · obtain ⟨p, a, b, t, u, rfl, _⟩ := h
    rfl
  · obtain ⟨p, a, b, t, u, rfl, ⟨dx, hp⟩, nf, hb, ha, hT, hu, he, q⟩ := h
    refine ⟨_, PSs.nox (pss_cons (ps_if (PW.pt (pw_or (pt_not (pt_val (pe_callB call_isi (by rfl) T.z_isinstance (by decide +kernel) (pa_cons (pv 0) (pa_cons (pe_cl T.g_Share) pa_nil))))) (pw_or (pt_not (pt_val (c_fn O_law_is_integer hr (by decide) T.g_law_is_integer pass0 (pa_cons (pe_fld (pv 0) rfl) pa_nil)))) (pw_or1 (pt_not (pt_val (c_fn O_law_is_integer hr (by decide) T.g_law_is_integer pass0 (pa_cons (pe_fld (pv 0) rfl) pa_nil)))))))) (pss_one (ps_ret pe_bl))
  pss_nil)
  (pss_cons (ps_if (PW.pt (pw_or (pt_cmpR op_lt (pe_fld (pv 0) rfl) pe_int (nomark _)) (pw_or1 (pt_cmpR op_ne (c_fn O_law_gcd hr (by decide) T.g_law_gcd pass0 (pa_cons (pe_fld (pv 0) rfl) (pa_cons (pe_fld (pv 0) rfl) pa_nil))) pe_int (nomark _))))) (pss_one (ps_ret pe_bl))
  pss_nil)
  (pss_one (ps_ret (pe_cmpR op_eq (pe_op op_mulW (pe_fld (pv 0) rfl) (pv 2)) (pe_op op_mulW (pv 1) (pe_fld (pv 0) rfl)) (nomark _)))))), ?_⟩
    have ft : (shf a b).lookup ("top" : Str) = some (.int a) := shf_top a b
    have fb : (shf a b).lookup ("bottom" : Str) = some (.int b) := shf_bottom a b
    refine ⟨_, rfl, .ref p, .ref (CS K), .ref (CS K), .ref (CS K), true, rfl, .own _, .base (.ins hp T.c_Share T.ha T.hn T.ht T.hm), T.k1, true, rfl, iteF ?_⟩
    refine ⟨_, rfl, p, _, dx, _, _, rfl, hp, T.c_Share, T.nT, ft, _, rfl, .inl ⟨⟨a, rfl⟩, true, rfl, iteF ?_⟩⟩
    refine ⟨_, rfl, p, _, dx, _, _, rfl, hp, T.c_Share, T.nB, fb, _, rfl, .inl ⟨⟨b, rfl⟩, true, rfl, iteF ?_⟩⟩
    have hb0 := nf.pos
    refine ⟨_, rfl, p, _, dx, _, _, rfl, hp, T.c_Share, T.nB, fb, b, 1, rfl, rfl, _, rfl, ite2 (fun h => absurd (of_decide_eq_true h) (by omega)) fun _ => ?_⟩
    refine ⟨_, rfl, p, _, dx, _, _, rfl, hp, T.c_Share, T.nT, ft, _, rfl, p, _, dx, _, _, rfl, hp, T.c_Share, T.nB, fb, a, b, rfl, hb, rfl, _, rfl, ?_⟩
    rw [nf.cop, decide_eq_true (show V.int ((1 : Nat) : Int) = V.int 1 from rfl)]
    refine iteF ⟨_, rfl, p, _, dx, _, _, rfl, hp, T.c_Share, T.nT, ft, _, rfl, a, u, rfl, rfl, ha.wm hu (by decide) (by decide) (by decide), _, rfl, _, rfl, p, _, dx, _, _, rfl, hp, T.c_Share, T.nB, fb, t, b, rfl, rfl, hT.wm hb (by decide) (by decide) (by decide), rfl, ?_⟩
    show Q (.bl (decide (V.int (a * u) = V.int (t * b)))) H
    rw [he, decide_eq_true (rfl : V.int (t * b) = V.int (t * b))]
    exact q
/-- all but what stands at d is as it was -/
def SameX (d : Addr) (H H' : Hp) : Prop := ∀ b o, b ≠ d → H b = some o → H' b = some o
theorem SameX.trans {d : Addr} {H H1 H2 : Hp} (a : SameX d H H1) (b : SameX d H1 H2) : SameX d H H2 := fun c o n h => b c o n (a c o n h)
theorem same_x {d : Addr} {H H' : Hp} (s : Same H H') : SameX d H H' := fun b o _ h => s b o h
theorem SameX.upd {d : Addr} {H : Hp} {o : HO} : SameX d H (upd H d o) := fun b u n h => by rw [upd_ne n]; exact h
/-- the script is read whatever the draws do -/
def Scr (K : PySem.W.Frag) (d l : Addr) (ns : List Int) (H : Hp) : Prop := ∀ H', SameX d H H' → SqL K H' l (ns.map V.int)
theorem Scr.to {d l : Addr} {ns : List Int} {H H' : Hp} (h : Scr K d l ns H) (s : SameX d H H') : Scr K d l ns H' := fun H2 s2 => h H2 (s.trans s2)
abbrev s_law_pair : Stmt := top 17
theorem sc_law_pair : FnScope ["_law_draw", "_law_script", "_law_k"] ["_law_draw", "_law_script", "_law_k"] (defScope s_law_pair) := ⟨rfl, rfl, rfl, by decide +kernel, rfl, by decide +kernel, by decide +kernel⟩
-- slots: 0 _law_draw, 1 _law_script, 2 _law_k
def spPair (K : PySem.W.Frag) : Sp := fun vs H Q _ => ∃ (d l : Addr) (ns : List Int) (j : Nat) (n : Int), vs = [.ref d, .ref l, .int (j : Int)] ∧ Scr K d l ns H ∧ j < 900 ∧ H d = some (.lst [.int n]) ∧
  ∀ (H' : Hp) (r : Addr) (t u m : Int), 0 < u → Bit 81 t → Bit 81 u → H' d = some (.lst [.int m]) → SameX d H H' → H' r = some (.lst [.int t, .int u]) → Q (.ref r) H'
theorem b81 : (2 : Nat) ^ 81 = 2417851639229258349412352 := by decide
theorem ok_law_pair {fd : FuncData} (F : FnD K ("_law_pair", none) "_law_pair" "_law_pair" s_law_pair fd) (T : Txt K mg) (O_law_cell : OkF P w K mg base CX0 1 "_law_cell" ["_law_script", "_law_k"] (Vf.spCell K)) (O_law_take : OkF P w K mg base CX0 1 "_law_take" ["_law_draw", "_law_size"] spTake) :
    OkF P w K mg base CX0 2 "_law_pair" ["_law_draw", "_law_script", "_law_k"] (spPair K) := by
  refine okd F (F.ok sc_law_pair (fun vs H Q E h => ?_) fun cdv A outer s H vs Q E hr h => ?_) fun _ _ _ _ _ _ us hl => match us, hl with | [_, _, _], _ => rfl
  · obtain ⟨d, l, ns, j, n, rfl, _⟩ := h
    rfl
  · obtain ⟨d, l, ns, j, n, rfl, hS, hj, hd, k⟩ := h
    refine ⟨_, PSs.nox (pss_cons (ps_if (pt_cmpR op_eq (c_fn O_law_take hr (by decide) T.g_law_take pass0 (pa_cons (pv 0) (pa_cons pe_int pa_nil))) pe_int (nomark _)) (pss_one (ps_ret (pe_lst (pa_cons (pe_op op_sub (c_fn O_law_take hr (by decide) T.g_law_take pass0 (pa_cons (pv 0) (pa_cons pe_int pa_nil))) pe_int) (pa_cons (pe_op op_add pe_int (c_fn O_law_take hr (by decide) T.g_law_take pass0 (pa_cons (pv 0) (pa_cons pe_int pa_nil)))) pa_nil)))))
  pss_nil)
  (pss_one (ps_ret (pe_lst (pa_cons (pe_op op_sub (pe_op op_mod (pe_callTy call_int1 (by rfl) T.z_int (by decide +kernel) (pa_cons (c_fn O_law_cell hr (by decide) T.g_law_cell pass0 (pa_cons (pv 1) (pa_cons (pv 2) pa_nil))) pa_nil)) (pe_op op_add (pe_op op_mul pe_int (pe_op op_pow pe_int pe_int)) pe_int)) (pe_op op_pow pe_int pe_int)) (pa_cons (pe_op op_add pe_int (pe_op op_mod (pe_callTy call_int1 (by rfl) T.z_int (by decide +kernel) (pa_cons (c_fn O_law_cell hr (by decide) T.g_law_cell pass0 (pa_cons (pv 1) (pa_cons (pe_op op_add (pv 2) pe_int) pa_nil))) pa_nil)) (pe_op op_pow pe_int pe_int))) pa_nil)))))), ?_⟩
    refine ⟨_, rfl, d, n, 3, rfl, hd, by decide, by decide, fun r m r0 r1 => ⟨rfl, _, rfl, ite2 (fun _ => ?_) fun _ => ?_⟩⟩
    · refine ⟨_, rfl, d, m, 13, rfl, upd_same, by decide, by decide, fun t m2 t0 t1 => ⟨t, 6, rfl, rfl, ?_⟩⟩
      rw [upd_upd]
      refine ⟨_, rfl, d, m2, 6, rfl, upd_same, by decide, by decide, fun u m3 u0 u1 => ⟨1, u, rfl, rfl, (by show 2 ≤ sizeLine; decide), fun q nq => ?_⟩⟩
      rw [upd_upd] at nq ⊢
      have sq := same_new (o := .lst [.int (t - 6), .int (1 + u)]) nq
      refine k _ q _ _ m3 (by omega) ?_ ?_ (sq _ _ upd_same) (SameX.upd.trans (same_x sq)) upd_same
      · unfold Bit
        rw [b81]
        omega
      · unfold Bit
        rw [b81]
        omega
    · have sx : SameX d H (upd H d (.lst [.int m])) := SameX.upd
      refine ⟨_, rfl, _, rfl, l, ns, j, rfl, hS _ sx, by omega, fun c1 => .inl ⟨c1, rfl, 10, 24, rfl, rfl, ⟨by decide, by decide, by decide⟩, 2, _, rfl, rfl, .inl ⟨by decide, by decide⟩, _, 1, rfl, rfl, _, _, rfl, rfl, (by show (0 : Int) < 2 * 10 ^ Int.toNat 24 + 1; decide), 10, 24, rfl, rfl, ⟨by decide, by decide, by decide⟩, _, _, rfl, rfl, ?_⟩⟩
      refine ⟨_, rfl, _, rfl, _, 1, rfl, rfl, l, ns, j + 1, rfl, hS _ sx, by omega, fun c2 => .inl ⟨c2, rfl, 10, 24, rfl, rfl, ⟨by decide, by decide, by decide⟩, _, _, rfl, rfl, (by show (0 : Int) < 10 ^ Int.toNat 24; decide), 1, _, rfl, rfl, (by show 2 ≤ sizeLine; decide), fun q nq => ?_⟩⟩
      have h0 := Int.emod_nonneg c1 (b := 2000000000000000000000001) (by decide)
      have h1 := Int.emod_lt_of_pos c1 (b := 2000000000000000000000001) (by decide)
      have h2 := Int.emod_nonneg c2 (b := 1000000000000000000000000) (by decide)
      have h3 := Int.emod_lt_of_pos c2 (b := 1000000000000000000000000) (by decide)
      have sq := same_new (o := .lst [.int (c1 % 2000000000000000000000001 - 1000000000000000000000000), .int (1 + c2 % 1000000000000000000000000)]) nq
      refine k _ q (c1 % 2000000000000000000000001 - 1000000000000000000000000) (1 + c2 % 1000000000000000000000000) m (by omega) ?_ ?_ (sq _ _ upd_same) (SameX.upd.trans (same_x sq)) upd_same
      · unfold Bit
        rw [b81]
        omega
      · unfold Bit
        rw [b81]
        omega
abbrev s_law_over : Stmt := top 18
theorem sc_law_over : FnScope ["_law_x", "_law_y", "_law_outcome"] ["_law_x", "_law_y"] (defScope s_law_over) := ⟨rfl, rfl, rfl, by decide +kernel, rfl, by decide +kernel, by decide +kernel⟩
-- slots: 0 _law_x, 1 _law_y, 2 _law_outcome
/-- over, caught -/
def spLOver (K : PySem.W.Frag) : Sp := fun vs H Q _ => ∃ (p : Addr) (y : V) (a b c d : Int), vs = [.ref p, y] ∧ Two (CS K) H (.ref p) y a b c d ∧
  ∀ (H' : Hp) (o : Addr), Same H H' → ((c = 0 ∧ H' o = some (.tup [.str "refused"])) ∨ (c ≠ 0 ∧ ∃ (r : Addr) (x z : Int), H' o = some (.tup [.str "told", .ref r]) ∧ Res (CS K) H' r (a * d) (b * c) x z)) → Q (.ref o) H'
theorem ok_law_over {fd : FuncData} (F : FnD K ("_law_over", none) "_law_over" "_law_over" s_law_over fd) (T : Txt K mg) (M : SMeth K) (O_Share_over : OkM P w K mg base (L2.CX P w) 6 "over" ["self", "other"] (spOver K)) : OkF P w K mg base CX0 8 "_law_over" ["_law_x", "_law_y"] (spLOver K) := by
  refine okd F (F.ok sc_law_over (fun vs H Q E h => ?_) fun cdv A outer s H vs Q E hr h => ?_) fun _ _ _ _ _ _ us hl => match us, hl with | [_, _], _ => rfl
  · obtain ⟨p, y, a, b, c, d, rfl, _⟩ := h
    rfl
  · obtain ⟨p, y, a, b, c, d, rfl, h2, k⟩ := h
    have k1 : c ≠ 0 → ∀ (H' : Hp) (o r : Addr) (x z : Int), Same H H' → H' o = some (.tup [.str "told", .ref r]) → Res (CS K) H' r (a * d) (b * c) x z → Q (.ref o) H' := fun hc H' o r x z s h R => k H' o s (.inr ⟨hc, r, x, z, h, R⟩)
    have k2 : c = 0 → ∀ (H' : Hp) (o : Addr), Same H H' → H' o = some (.tup [.str "refused"]) → Q (.ref o) H' := fun hc H' o s h => k H' o s (.inl ⟨hc, h⟩)
    refine ⟨_, PSs.nox (pss_cons (ps_try_only (Wout := fun _ _ _ _ => False) rfl rfl ⟨rfl, by decide, Or.inl T.g_NoShare⟩ takes0
      (fun W pn xe tk _ => (pss_one (ps_set (i := 2) sc_law_over.nd rfl (Or.inl rfl) (pe_tup (pa_cons pe_str (pa_cons (c_me rfl (pv 0) T.c_Share M.m_over O_Share_over hr (by decide) (passAny 3 tk) (pa_cons (pv 1) pa_nil)) pa_nil))))))
      (fun a oe cls d pn hz hf => (pss_one (ps_set (i := 2) sc_law_over.nd rfl (Or.inl rfl) (pe_tup (pa_cons pe_str pa_nil))))))
      (pss_one (ps_ret (pv 2)))), ?_⟩
    obtain ⟨dx, hp⟩ : Sh (CS K) H p a b := by
      rcases h2.nx with ⟨p', e, h⟩ | ⟨e, _⟩
      · cases e
        exact h
      · cases e
    refine ⟨_, rfl, p, dx, _, rfl, hp, shf_no _ _ (by decide +kernel) (by decide +kernel), _, rfl, p, y, a, b, c, d, rfl, ⟨dx, hp⟩, h2.ny, h2.d0, h2.f0, h2.bc.mono (by decide), h2.bd.mono (by decide), h2.be.mono (by decide), h2.bf.mono (by decide), fun hc H' q sm hq => ⟨(by show 2 ≤ sizeLine; decide), fun o no => ⟨_, rfl, ?_⟩⟩, fun hc H' sm σ hσ => ⟨true, T.te, fun _ a na => ⟨(by show 1 ≤ sizeLine; decide), fun o no => ⟨_, ?_, k2 hc _ o (sm.trans (same_new no)) upd_same⟩⟩, fun q => Bool.noConfusion q⟩⟩
    · have nf := nf_of (Fov a b c d) (b := Gov a b c d) (Int.mul_ne_zero (Int.ne_of_gt h2.d0) hc)
      have sn := same_new (o := .tup [.str "told", .ref q]) no
      exact k1 hc _ o q _ _ (sm.trans sn) upd_same ⟨hq.ext sn, nf.toNf, ((h2.bc.mul h2.bf).mono (by decide)).le nf.le1, ((h2.bd.mul h2.be).mono (by decide)).le nf.le2, nf.eq⟩
    · rw [List.getElem?_set_self (by omega)]
abbrev s_law_below : Stmt := top 19
theorem sc_law_below : FnScope ["_law_x", "_law_y", "_law_outcome"] ["_law_x", "_law_y"] (defScope s_law_below) := ⟨rfl, rfl, rfl, by decide +kernel, rfl, by decide +kernel, by decide +kernel⟩
-- slots: 0 _law_x, 1 _law_y, 2 _law_outcome
/-- //, caught -/
def spLBelow (K : PySem.W.Frag) : Sp := fun vs H Q _ => ∃ (x y : V) (c d e f : Int), vs = [x, y] ∧ Two (CS K) H x y c d e f ∧
  ∀ (H' : Hp) (o : Addr), Same H H' → ((e = 0 ∧ H' o = some (.tup [.str "refused"])) ∨ (e ≠ 0 ∧ ∃ p q : Int, 0 < q ∧ p * (d * e) = (c * f) * q ∧ H' o = some (.tup [.str "told", .int (p / q)]))) → Q (.ref o) H'
theorem ok_law_below {fd : FuncData} (F : FnD K ("_law_below", none) "_law_below" "_law_below" s_law_below fd) (T : Txt K mg) (M : SMeth K) (O_fdv : OkM P w K mg base (L2.CX P w) 7 "__floordiv__" ["self", "other"] (spFd K)) (O_rfdv : OkM P w K mg base (L2.CX P w) 7 "__rfloordiv__" ["self", "other"] (spRf K)) : OkF P w K mg base CX0 8 "_law_below" ["_law_x", "_law_y"] (spLBelow K) := by
  refine okd F (F.ok sc_law_below (fun vs H Q E h => ?_) fun cdv A outer s H vs Q E hr h => ?_) fun _ _ _ _ _ _ us hl => match us, hl with | [_, _], _ => rfl
  · obtain ⟨x, y, c, d, e, f, rfl, _⟩ := h
    rfl
  · obtain ⟨x, y, c, d, e, f, rfl, h2, k⟩ := h
    have k1 : e ≠ 0 → ∀ (H' : Hp) (o : Addr) (p q : Int), Same H H' → 0 < q → p * (d * e) = (c * f) * q → H' o = some (.tup [.str "told", .int (p / q)]) → Q (.ref o) H' := fun he H' o p q s q0 eq h => k H' o s (.inr ⟨he, p, q, q0, eq, h⟩)
    have k2 : e = 0 → ∀ (H' : Hp) (o : Addr), Same H H' → H' o = some (.tup [.str "refused"]) → Q (.ref o) H' := fun he H' o s h => k H' o s (.inl ⟨he, h⟩)
    refine ⟨_, PSs.nox (pss_cons (ps_try_only (tb := fun W => tAsg (tTup (tCons (tC (.str "told")) (tCons (tOp (rFd K fun cls d H => ∀ σ : L2.St, σ.length = 3 → W cls d σ H) (tVar 0) (tVar 1)) tNil))) (gName 2)) (Wout := fun _ _ _ _ => False) rfl rfl ⟨rfl, by decide, Or.inl T.g_NoShare⟩ takes0
      (fun W pn xe tk _ => (pss_one (ps_set (i := 2) sc_law_below.nd rfl (Or.inl rfl) (pe_tup (pa_cons pe_str (pa_cons (pe_op (op_Fd T.toSTxt M O_fdv O_rfdv hr (by decide) (passAny 3 tk)) (pv 0) (pv 1)) pa_nil))))))
      (fun a oe cls d pn hz hf => (pss_one (ps_set (i := 2) sc_law_below.nd rfl (Or.inl rfl) (pe_tup (pa_cons pe_str pa_nil))))))
      (pss_one (ps_ret (pv 2)))), ?_⟩
    refine ⟨_, rfl, _, rfl, rd_fd h2 (fun he H' p q sm q0 eq => ⟨(by show 2 ≤ sizeLine; decide), fun o no => ⟨_, rfl, k1 he _ o p q (sm.trans (same_new no)) q0 eq upd_same⟩⟩) fun he H' sm σ hσ => ⟨true, T.te, fun _ a na => ⟨(by show 1 ≤ sizeLine; decide), fun o no => ⟨_, ?_, k2 he _ o (sm.trans (same_new no)) upd_same⟩⟩, fun q => Bool.noConfusion q⟩⟩
    rw [List.getElem?_set_self (by omega)]
end
end K2

set_option Elab.async false
set_option linter.all false
set_option maxRecDepth 100000
set_option maxHeartbeats 2000000
namespace K2
open PySem PySem.Spec PyProof.Rows L2 Vf
section
variable {P : Program} {w : World} {K : PySem.W.Frag} {mg : Str → Option Value} {base : Heap}
theorem fin_eq {t : Addr} {H : Hp} {xs : List V} {ds : List PyData} {Q : VK} {o : Addr} (sh : SeqAt.shaped (.tuple ds) = true) (ho : H o = some (.tup xs)) (nt : H t = none) (dp : ∀ H', DpAll K H' xs ds) (k : ∀ H', Same H H' → Q (.bl true) H') : rEqD K (.ref o) (.ref t) (upd H t (.tup xs)) Q := by
  have n2 : o ≠ t := ne_of_none ho nt
  refine ⟨_, _, .tup (SqT.of (by rw [upd_ne n2]; exact ho)) (dp _), .tup (SqT.of upd_same) (dp _), sh, sh, ?_⟩
  rw [SeqAt.eqv_refl _ (SeqAt.canLay_of_shaped sh)]
  exact k _ (same_new nt)
abbrev s_law_quotient_fits : Stmt := top 20
theorem sc_law_quotient_fits : FnScope ["_law_outcome", "_law_top", "_law_bottom"] ["_law_outcome", "_law_top", "_law_bottom"] (defScope s_law_quotient_fits) := ⟨rfl, rfl, rfl, by decide +kernel, rfl, by decide +kernel, by decide +kernel⟩
-- slots: 0 _law_outcome, 1 _law_top, 2 _law_bottom
def spQf (K : PySem.W.Frag) : Sp := fun vs H Q _ => ∃ (o : Addr) (t u : Int), vs = [.ref o, .int t, .int u] ∧ ((u = 0 ∧ H o = some (.tup [.str "refused"])) ∨ (u ≠ 0 ∧ ∃ (r : Addr) (p q : Int), H o = some (.tup [.str "told", .ref r]) ∧ Sh (CS K) H r p q ∧ Nf p q ∧ Bit 220 p ∧ Bit 220 q ∧ Bit 220 t ∧ Bit 220 u ∧ p * u = t * q)) ∧ ∀ H', Same H H' → Q (.bl true) H'
theorem ok_law_quotient_fits {fd : FuncData} (F : FnD K ("_law_quotient_fits", none) "_law_quotient_fits" "_law_quotient_fits" s_law_quotient_fits fd) (T : Txt K mg) (O_law_is_share : OkF P w K mg base CX0 2 "_law_is_share" ["_law_value", "_law_top", "_law_bottom"] (spIsSh (CS K))) : OkF P w K mg base CX0 4 "_law_quotient_fits" ["_law_outcome", "_law_top", "_law_bottom"] (spQf K) := by
  refine okd F (F.ok sc_law_quotient_fits (fun vs H Q E h => ?_) fun cdv A outer s H vs Q E hr h => ?_) fun _ _ _ _ _ _ us hl => match us, hl with | [_, _, _], _ => rfl
  · obtain ⟨o, t, u, rfl, _⟩ := h
    rfl
  · obtain ⟨o, t, u, rfl, h, k⟩ := h
    refine ⟨_, PSs.nox (pss_cons (ps_if (pt_cmpR op_eq (pv 2) pe_int (nomark _)) (pss_one (ps_ret (pe_cmpR (op_eqD hr.units) (pv 0) (pe_tup (pa_cons pe_str pa_nil)) (nomark _))))
  pss_nil)
  (pss_one (ps_ret (pe_and (pe_cmpR op_eq (pe_ix ix_tup (pv 0) pe_int (fun _ _ => rfl)) pe_str (nomark _)) (pe_one (c_fn O_law_is_share hr (by decide) T.g_law_is_share pass0 (pa_cons (pe_ix ix_tup (pv 0) pe_int (fun _ _ => rfl)) (pa_cons (pv 1) (pa_cons (pv 2) pa_nil))))))))), ?_⟩
    rcases h with ⟨rfl, ho⟩ | ⟨hu, r, p, q, ho, hs, nf, bp, bq, bt, bu, eq⟩
    · refine ⟨_, rfl, rfl, _, rfl, ?_⟩
      rw [decide_eq_true (rfl : V.int 0 = V.int 0)]
      exact iteT ⟨_, rfl, (by show 1 ≤ sizeLine; decide), fun t nt => fin_eq (by decide +kernel) ho nt (fun _ => .cons (.str _) .nil) k⟩
    · refine ⟨_, rfl, rfl, _, rfl, ?_⟩
      rw [decide_eq_false (show ¬ (V.int u = V.int 0) from fun z => hu (V.int.inj z))]
      refine iteF ⟨_, rfl, o, _, 0, .str "told", rfl, rfl, SqT.of ho, atI0, rfl, _, rfl, ?_⟩
      rw [decide_eq_true (show V.str "told" = V.str "told" from rfl)]
      exact iteT ⟨_, rfl, o, _, 1, .ref r, rfl, rfl, SqT.of ho, atI1, _, rfl, _, rfl, r, p, q, t, u, rfl, hs, nf, bq.mono (by decide), bp.mono (by decide), bt.mono (by decide), bu.mono (by decide), eq, k _ fun _ _ h => h⟩
abbrev s_law_floor_fits : Stmt := top 21
theorem sc_law_floor_fits : FnScope ["_law_outcome", "_law_top", "_law_bottom"] ["_law_outcome", "_law_top", "_law_bottom"] (defScope s_law_floor_fits) := ⟨rfl, rfl, rfl, by decide +kernel, rfl, by decide +kernel, by decide +kernel⟩
-- slots: 0 _law_outcome, 1 _law_top, 2 _law_bottom
def spFf : Sp := fun vs H Q _ => ∃ (o : Addr) (t u : Int), vs = [.ref o, .int t, .int u] ∧ Bit 4000 u ∧ ((u = 0 ∧ H o = some (.tup [.str "refused"])) ∨ (u ≠ 0 ∧ H o = some (.tup [.str "told", .int (t.fdiv u)]))) ∧ ∀ H', Same H H' → Q (.bl true) H'
theorem ok_law_floor_fits {fd : FuncData} (F : FnD K ("_law_floor_fits", none) "_law_floor_fits" "_law_floor_fits" s_law_floor_fits fd) (T : Txt K mg) (O_law_is_integer : OkF P w K mg base CX0 1 "_law_is_integer" ["_law_value"] spIsInt) : OkF P w K mg base CX0 4 "_law_floor_fits" ["_law_outcome", "_law_top", "_law_bottom"] spFf := by
  refine okd F (F.ok sc_law_floor_fits (fun vs H Q E h => ?_) fun cdv A outer s H vs Q E hr h => ?_) fun _ _ _ _ _ _ us hl => match us, hl with | [_, _, _], _ => rfl
  · obtain ⟨o, t, u, rfl, _⟩ := h
    rfl
  · obtain ⟨o, t, u, rfl, bu, h, k⟩ := h
    refine ⟨_, PSs.nox (pss_cons (ps_if (pt_cmpR op_eq (pv 2) pe_int (nomark _)) (pss_one (ps_ret (pe_cmpR (op_eqD hr.units) (pv 0) (pe_tup (pa_cons pe_str pa_nil)) (nomark _))))
  pss_nil)
  (pss_one (ps_ret (pe_and (pe_cmpR op_eq (pe_ix ix_tup (pv 0) pe_int (fun _ _ => rfl)) pe_str (nomark _)) (pe_and (c_fn O_law_is_integer hr (by decide) T.g_law_is_integer pass0 (pa_cons (pe_ix ix_tup (pv 0) pe_int (fun _ _ => rfl)) pa_nil)) (pe_one (pe_cmpR op_eq (pe_ix ix_tup (pv 0) pe_int (fun _ _ => rfl)) (pe_op op_fdivG (pe_callTy call_int1 (by rfl) T.z_int (by decide +kernel) (pa_cons (pv 1) pa_nil)) (pv 2)) (nomark _)))))))), ?_⟩
    rcases h with ⟨rfl, ho⟩ | ⟨hu, ho⟩
    · refine ⟨_, rfl, rfl, _, rfl, ?_⟩
      rw [decide_eq_true (rfl : V.int 0 = V.int 0)]
      exact iteT ⟨_, rfl, (by show 1 ≤ sizeLine; decide), fun t nt => fin_eq (by decide +kernel) ho nt (fun _ => .cons (.str _) .nil) k⟩
    · refine ⟨_, rfl, rfl, _, rfl, ?_⟩
      rw [decide_eq_false (show ¬ (V.int u = V.int 0) from fun z => hu (V.int.inj z))]
      refine iteF ⟨_, rfl, o, _, 0, .str "told", rfl, rfl, SqT.of ho, atI0, rfl, _, rfl, ?_⟩
      rw [decide_eq_true (show V.str "told" = V.str "told" from rfl)]
      refine iteT ⟨_, rfl, o, _, 1, .int (t.fdiv u), rfl, rfl, SqT.of ho, atI1, _, rfl, .inl ⟨⟨_, rfl⟩, true, rfl, iteT ?_⟩⟩
      refine ⟨_, rfl, o, _, 1, .int (t.fdiv u), rfl, rfl, SqT.of ho, atI1, _, rfl, .inl ⟨t, rfl, _, rfl, t, u, rfl, rfl, ⟨hu, bu.log (by decide) (by decide)⟩, rfl, ?_⟩⟩
      show Q (.bl (decide (V.int (t.fdiv u) = V.int (t.fdiv u)))) H
      rw [decide_eq_true (rfl : V.int (t.fdiv u) = V.int (t.fdiv u))]
      exact k _ fun _ _ h => h
abbrev s_law_sums_fit : Stmt := top 22
theorem sc_law_sums_fit : FnScope ["_law_x", "_law_y", "_law_a", "_law_b"] ["_law_x", "_law_y", "_law_a", "_law_b"] (defScope s_law_sums_fit) := ⟨rfl, rfl, rfl, by decide +kernel, rfl, by decide +kernel, by decide +kernel⟩
-- slots: 0 _law_x, 1 _law_y, 2 _law_a, 3 _law_b
/-- x is c over d as the list at la says, y is e over f as the list at lb says -/
structure Rep (c d A0 A1 : Int) : Prop where
  eq : c * A1 = A0 * d
  p1 : 0 < A1
  b0 : Bit 100 A0
  b1 : Bit 100 A1
def spSf (K : PySem.W.Frag) : Sp := fun vs H Q _ => ∃ (x y : V) (la lb : Addr) (c d e f A0 A1 B0 B1 : Int), vs = [x, y, .ref la, .ref lb] ∧ Two (CS K) H x y c d e f ∧ Rep c d A0 A1 ∧ Rep e f B0 B1 ∧ H la = some (.lst [.int A0, .int A1]) ∧ H lb = some (.lst [.int B0, .int B1]) ∧ ∀ H', Same H H' → Q (.bl true) H'
theorem add_eq {a b c d p q A0 A1 B0 B1 : Int} (h1 : a * A1 = A0 * b) (h2 : c * B1 = B0 * d) (h3 : p * (b * d) = (a * d + c * b) * q) (hb : b ≠ 0) (hd : d ≠ 0) : p * (A1 * B1) = (A0 * B1 + B0 * A1) * q := by
  have h : (b * d) * (p * (A1 * B1)) = (b * d) * ((A0 * B1 + B0 * A1) * q) := by grind
  exact Int.eq_of_mul_eq_mul_left (Int.mul_ne_zero hb hd) h
theorem sub_eq {a b c d p q A0 A1 B0 B1 : Int} (h1 : a * A1 = A0 * b) (h2 : c * B1 = B0 * d) (h3 : p * (b * d) = (a * d - c * b) * q) (hb : b ≠ 0) (hd : d ≠ 0) : p * (A1 * B1) = (A0 * B1 - B0 * A1) * q := by
  have h : (b * d) * (p * (A1 * B1)) = (b * d) * ((A0 * B1 - B0 * A1) * q) := by grind
  exact Int.eq_of_mul_eq_mul_left (Int.mul_ne_zero hb hd) h
theorem mul_eq {a b c d p q A0 A1 B0 B1 : Int} (h1 : a * A1 = A0 * b) (h2 : c * B1 = B0 * d) (h3 : p * (b * d) = (a * c) * q) (hb : b ≠ 0) (hd : d ≠ 0) : p * (A1 * B1) = (A0 * B0) * q := by
  have h : (b * d) * (p * (A1 * B1)) = (b * d) * ((A0 * B0) * q) := by grind
  exact Int.eq_of_mul_eq_mul_left (Int.mul_ne_zero hb hd) h
theorem over_eq {a b c d p q A0 A1 B0 B1 : Int} (h1 : a * A1 = A0 * b) (h2 : c * B1 = B0 * d) (h3 : p * (b * c) = (a * d) * q) (hb : b ≠ 0) (hd : d ≠ 0) (hc : c ≠ 0) : p * (A1 * B0) = (A0 * B1) * q := by
  have h : (b * c * d) * (p * (A1 * B0)) = (b * c * d) * ((A0 * B1) * q) := by grind
  exact Int.eq_of_mul_eq_mul_left (Int.mul_ne_zero (Int.mul_ne_zero hb hc) hd) h
theorem ok_law_sums_fit {fd : FuncData} (F : FnD K ("_law_sums_fit", none) "_law_sums_fit" "_law_sums_fit" s_law_sums_fit fd) (T : Txt K mg) (M : SMeth K) (O_law_is_share : OkF P w K mg base CX0 2 "_law_is_share" ["_law_value", "_law_top", "_law_bottom"] (spIsSh (CS K)))
    (O_add : OkM P w K mg base CX0 6 "__add__" ["self", "other"] (spAr (CS K) Fad Gbd)) (O_radd : OkM P w K mg base CX0 7 "__radd__" ["self", "other"] (spRe (CS K) Fad Gbd)) (O_sub : OkM P w K mg base CX0 6 "__sub__" ["self", "other"] (spAr (CS K) Fsu Gbd)) (O_rsub : OkM P w K mg base CX0 7 "__rsub__" ["self", "other"] (spRs (CS K)))
    (O_mul : OkM P w K mg base CX0 6 "__mul__" ["self", "other"] (spAr (CS K) Fmu Gbd)) (O_rmul : OkM P w K mg base CX0 7 "__rmul__" ["self", "other"] (spRe (CS K) Fmu Gbd)) : OkF P w K mg base CX0 8 "_law_sums_fit" ["_law_x", "_law_y", "_law_a", "_law_b"] (spSf K) := by
  refine okd F (F.ok sc_law_sums_fit (fun vs H Q E h => ?_) fun cdv A outer s H vs Q E hr h => ?_) fun _ _ _ _ _ _ us hl => match us, hl with | [_, _, _, _], _ => rfl
  · obtain ⟨x, y, la, lb, c, d, e, f, A0, A1, B0, B1, rfl, _⟩ := h
    rfl
  · obtain ⟨x, y, la, lb, c, d, e, f, A0, A1, B0, B1, rfl, h2, ra, rb, hA, hB, k⟩ := h
    refine ⟨_, PSs.nox (pss_cons (ps_if (pt_not (pt_val (c_fn O_law_is_share hr (by decide) T.g_law_is_share pass0 (pa_cons (pe_op (op_Ad T.toSTxt M O_add O_radd hr (by decide)) (pv 0) (pv 1)) (pa_cons (pe_op op_add (pe_op op_mulW (pe_ix ix_list (pv 2) pe_int (fun _ _ => rfl)) (pe_ix ix_list (pv 3) pe_int (fun _ _ => rfl))) (pe_op op_mulW (pe_ix ix_list (pv 3) pe_int (fun _ _ => rfl)) (pe_ix ix_list (pv 2) pe_int (fun _ _ => rfl)))) (pa_cons (pe_op op_mulW (pe_ix ix_list (pv 2) pe_int (fun _ _ => rfl)) (pe_ix ix_list (pv 3) pe_int (fun _ _ => rfl))) pa_nil)))))) (pss_one (ps_ret pe_bl))
  pss_nil)
  (pss_cons (ps_if (pt_not (pt_val (c_fn O_law_is_share hr (by decide) T.g_law_is_share pass0 (pa_cons (pe_op (op_Su T.toSTxt M O_sub O_rsub hr (by decide)) (pv 0) (pv 1)) (pa_cons (pe_op op_sub (pe_op op_mulW (pe_ix ix_list (pv 2) pe_int (fun _ _ => rfl)) (pe_ix ix_list (pv 3) pe_int (fun _ _ => rfl))) (pe_op op_mulW (pe_ix ix_list (pv 3) pe_int (fun _ _ => rfl)) (pe_ix ix_list (pv 2) pe_int (fun _ _ => rfl)))) (pa_cons (pe_op op_mulW (pe_ix ix_list (pv 2) pe_int (fun _ _ => rfl)) (pe_ix ix_list (pv 3) pe_int (fun _ _ => rfl))) pa_nil)))))) (pss_one (ps_ret pe_bl))
  pss_nil)
  (pss_one (ps_ret (c_fn O_law_is_share hr (by decide) T.g_law_is_share pass0 (pa_cons (pe_op (op_Mu T.toSTxt M O_mul O_rmul hr (by decide)) (pv 0) (pv 1)) (pa_cons (pe_op op_mulW (pe_ix ix_list (pv 2) pe_int (fun _ _ => rfl)) (pe_ix ix_list (pv 3) pe_int (fun _ _ => rfl))) (pa_cons (pe_op op_mulW (pe_ix ix_list (pv 2) pe_int (fun _ _ => rfl)) (pe_ix ix_list (pv 3) pe_int (fun _ _ => rfl))) pa_nil)))))))), ?_⟩
    have dn : d ≠ 0 := Int.ne_of_gt h2.d0
    have fn : f ≠ 0 := Int.ne_of_gt h2.f0
    have wAB : Bit 200 (A0 * B1) := ra.b0.mul rb.b1
    have wBA : Bit 200 (B0 * A1) := rb.b0.mul ra.b1
    have w11 : Bit 200 (A1 * B1) := ra.b1.mul rb.b1
    have w00 : Bit 200 (A0 * B0) := ra.b0.mul rb.b0
    refine ⟨_, rfl, _, rfl, rd_add h2 fun H1 r1 p1 q1 s1 R1 => ?_⟩
    have hA1 := s1 _ _ hA
    have hB1 := s1 _ _ hB
    refine ⟨_, rfl, la, _, 0, .int A0, rfl, rfl, SqL.of hA1, atI0, _, rfl, lb, _, 1, .int B1, rfl, rfl, SqL.of hB1, atI1, A0, B1, rfl, rfl, ra.b0.wm rb.b1 (by decide) (by decide) (by decide), _, rfl, lb, _, 0, .int B0, rfl, rfl, SqL.of hB1, atI0, _, rfl, la, _, 1, .int A1, rfl, rfl, SqL.of hA1, atI1, B0, A1, rfl, rfl, rb.b0.wm ra.b1 (by decide) (by decide) (by decide), _, _, rfl, rfl,
      _, rfl, la, _, 1, .int A1, rfl, rfl, SqL.of hA1, atI1, _, rfl, lb, _, 1, .int B1, rfl, rfl, SqL.of hB1, atI1, A1, B1, rfl, rfl, ra.b1.wm rb.b1 (by decide) (by decide) (by decide), r1, p1, q1, _, _, rfl, R1.sh, R1.nf, R1.bq.mono (by decide), R1.bp.mono (by decide), (wAB.add wBA).mono (by decide), w11.mono (by decide), add_eq ra.eq rb.eq R1.eq dn fn, true, rfl, iteF ?_⟩
    refine ⟨_, rfl, _, rfl, rd_sub (h2.ext s1) fun H2 r2 p2 q2 s2 R2 => ?_⟩
    have hA2 := s2 _ _ hA1
    have hB2 := s2 _ _ hB1
    refine ⟨_, rfl, la, _, 0, .int A0, rfl, rfl, SqL.of hA2, atI0, _, rfl, lb, _, 1, .int B1, rfl, rfl, SqL.of hB2, atI1, A0, B1, rfl, rfl, ra.b0.wm rb.b1 (by decide) (by decide) (by decide), _, rfl, lb, _, 0, .int B0, rfl, rfl, SqL.of hB2, atI0, _, rfl, la, _, 1, .int A1, rfl, rfl, SqL.of hA2, atI1, B0, A1, rfl, rfl, rb.b0.wm ra.b1 (by decide) (by decide) (by decide), _, _, rfl, rfl,
      _, rfl, la, _, 1, .int A1, rfl, rfl, SqL.of hA2, atI1, _, rfl, lb, _, 1, .int B1, rfl, rfl, SqL.of hB2, atI1, A1, B1, rfl, rfl, ra.b1.wm rb.b1 (by decide) (by decide) (by decide), r2, p2, q2, _, _, rfl, R2.sh, R2.nf, R2.bq.mono (by decide), R2.bp.mono (by decide), (wAB.sub wBA).mono (by decide), w11.mono (by decide), sub_eq ra.eq rb.eq R2.eq dn fn, true, rfl, iteF ?_⟩
    refine ⟨_, rfl, _, rfl, rd_mul (h2.ext (s1.trans s2)) fun H3 r3 p3 q3 s3 R3 => ?_⟩
    have hA3 := s3 _ _ hA2
    have hB3 := s3 _ _ hB2
    exact ⟨_, rfl, la, _, 0, .int A0, rfl, rfl, SqL.of hA3, atI0, _, rfl, lb, _, 0, .int B0, rfl, rfl, SqL.of hB3, atI0, A0, B0, rfl, rfl, ra.b0.wm rb.b0 (by decide) (by decide) (by decide),
      _, rfl, la, _, 1, .int A1, rfl, rfl, SqL.of hA3, atI1, _, rfl, lb, _, 1, .int B1, rfl, rfl, SqL.of hB3, atI1, A1, B1, rfl, rfl, ra.b1.wm rb.b1 (by decide) (by decide) (by decide), r3, p3, q3, _, _, rfl, R3.sh, R3.nf, R3.bq.mono (by decide), R3.bp.mono (by decide), w00.mono (by decide), w11.mono (by decide), mul_eq ra.eq rb.eq R3.eq dn fn, k _ (s1.trans (s2.trans s3))⟩
end
end K2

set_option Elab.async false
set_option linter.all false
set_option maxRecDepth 100000
set_option maxHeartbeats 2000000
namespace K2
open PySem PySem.Spec PyProof.Rows L2 Vf
section
variable {P : Program} {w : World} {K : PySem.W.Frag} {mg : Str → Option Value} {base : Heap}
abbrev s_law : Stmt := top 23
theorem sc_law : FnScope ["_law_script", "_law_draw", "_law_a", "_law_b", "_law_number", "_law_c", "_law_x", "_law_y", "_law_case", "_law_top", "_law_bottom"] ["_law_script"] (defScope s_law) := ⟨rfl, rfl, rfl, by decide +kernel, rfl, by decide +kernel, by decide +kernel⟩
-- slots: 0 _law_script, 1 _law_draw, 2 _law_a, 3 _law_b, 4 _law_number, 5 _law_c, 6 _law_x, 7 _law_y, 8 _law_case, 9 _law_top, 10 _law_bottom
def spLaw (K : PySem.W.Frag) : Sp := fun vs H Q _ => ∃ (a : Addr) (ns : List Int), vs = [.ref a] ∧ SqL K H a (ns.map V.int) ∧ ns.length ≤ 63 ∧ ∀ H', Q (.bl true) H'
theorem ok_law {fd : FuncData} (F : FnD K ("law", none) "law" "law" s_law fd) (T : Txt K mg) (M : SMeth K) (O_law_cell : OkF P w K mg base CX0 1 "_law_cell" ["_law_script", "_law_k"] (Vf.spCell K)) (O_law_pair : OkF P w K mg base CX0 2 "_law_pair" ["_law_draw", "_law_script", "_law_k"] (spPair K))
    (O_law_is_share : OkF P w K mg base CX0 2 "_law_is_share" ["_law_value", "_law_top", "_law_bottom"] (spIsSh (CS K))) (O_law_over : OkF P w K mg base CX0 8 "_law_over" ["_law_x", "_law_y"] (spLOver K)) (O_law_below : OkF P w K mg base CX0 8 "_law_below" ["_law_x", "_law_y"] (spLBelow K))
    (O_law_quotient_fits : OkF P w K mg base CX0 4 "_law_quotient_fits" ["_law_outcome", "_law_top", "_law_bottom"] (spQf K)) (O_law_floor_fits : OkF P w K mg base CX0 4 "_law_floor_fits" ["_law_outcome", "_law_top", "_law_bottom"] spFf) (O_law_sums_fit : OkF P w K mg base CX0 8 "_law_sums_fit" ["_law_x", "_law_y", "_law_a", "_law_b"] (spSf K))
    (O_Share_init2 : OkD P w K mg base (L2.CX P w) 4 ("Share", some "__init__") ["self", "top", "bottom"] [] (spShI K)) (O_neg : OkM P w K mg base CX0 6 "__neg__" ["self"] (spUn (CS K) Fng)) (O_abs : OkM P w K mg base CX0 6 "__abs__" ["self"] (spUn (CS K) Fab)) :
    FnOk P w K mg base CX0 10 (He.fAd K ("law", none)) fd ["_law_script"] (spLaw K) := by
  refine F.ok sc_law (fun vs H Q E h => ?_) fun cdv A outer s H vs Q E hr h => ?_
  · obtain ⟨a, ns, rfl, _⟩ := h
    rfl
  · obtain ⟨a0, ns, rfl, hS, hlen, k⟩ := h
    refine ⟨_, PSs.nox (pss_cons (ps_set (i := 1) sc_law.nd rfl (Or.inl rfl) (pe_lst (pa_cons (c_fn O_law_cell hr (by decide) T.g_law_cell pass0 (pa_cons (pv 0) (pa_cons pe_int pa_nil))) pa_nil)))
  (pss_cons (ps_set (i := 2) sc_law.nd rfl (Or.inl rfl) (c_fn O_law_pair hr (by decide) T.g_law_pair pass0 (pa_cons (pv 1) (pa_cons (pv 0) (pa_cons pe_int pa_nil)))))
  (pss_cons (ps_set (i := 3) sc_law.nd rfl (Or.inl rfl) (c_fn O_law_pair hr (by decide) T.g_law_pair pass0 (pa_cons (pv 1) (pa_cons (pv 0) (pa_cons pe_int pa_nil)))))
  (pss_cons (ps_set (i := 4) sc_law.nd rfl (Or.inl rfl) (pe_ix ix_list (c_fn O_law_pair hr (by decide) T.g_law_pair pass0 (pa_cons (pv 1) (pa_cons (pv 0) (pa_cons pe_int pa_nil)))) pe_int (fun _ _ => rfl)))
  (pss_cons (ps_set (i := 5) sc_law.nd rfl (Or.inl rfl) (pe_lst (pa_cons (pv 4) (pa_cons pe_int pa_nil))))
  (pss_cons (ps_set (i := 6) sc_law.nd rfl (Or.inl rfl) (c_mk T.m_Share O_Share_init2 hr (by decide) T.g_Share passL (pa_cons (pe_ix ix_list (pv 2) pe_int (fun _ _ => rfl)) (pa_cons (pe_ix ix_list (pv 2) pe_int (fun _ _ => rfl)) pa_nil))))
  (pss_cons (ps_set (i := 7) sc_law.nd rfl (Or.inl rfl) (c_mk T.m_Share O_Share_init2 hr (by decide) T.g_Share passL (pa_cons (pe_ix ix_list (pv 3) pe_int (fun _ _ => rfl)) (pa_cons (pe_ix ix_list (pv 3) pe_int (fun _ _ => rfl)) pa_nil))))
  (pss_cons (ps_if (PW.pt (pw_or (pt_not (pt_val (c_fn O_law_sums_fit hr (by decide) T.g_law_sums_fit pass0 (pa_cons (pv 6) (pa_cons (pv 7) (pa_cons (pv 2) (pa_cons (pv 3) pa_nil))))))) (pw_or (pt_not (pt_val (c_fn O_law_sums_fit hr (by decide) T.g_law_sums_fit pass0 (pa_cons (pv 6) (pa_cons (pv 4) (pa_cons (pv 2) (pa_cons (pv 5) pa_nil))))))) (pw_or1 (pt_not (pt_val (c_fn O_law_sums_fit hr (by decide) T.g_law_sums_fit pass0 (pa_cons (pv 4) (pa_cons (pv 6) (pa_cons (pv 5) (pa_cons (pv 2) pa_nil))))))))))) (pss_one (ps_ret pe_bl))
  pss_nil)
  (pss_cons (ps_for PassesOwn.never rfl (pi_list (pe_lst (pa_cons (pe_lst (pa_cons (pv 7) (pa_cons (pv 3) pa_nil))) (pa_cons (pe_lst (pa_cons (pv 4) (pa_cons (pv 5) pa_nil))) pa_nil)))) (pg_name (i := 8) sc_law.nd rfl (Or.inl rfl))
  (pss_cons (ps_set (i := 9) sc_law.nd rfl (Or.inl rfl) (pe_op op_mulW (pe_ix ix_list (pv 2) pe_int (fun _ _ => rfl)) (pe_ix ix_list (pe_ix ix_list (pv 8) pe_int (fun _ _ => rfl)) pe_int (fun _ _ => rfl))))
  (pss_cons (ps_set (i := 10) sc_law.nd rfl (Or.inl rfl) (pe_op op_mulW (pe_ix ix_list (pv 2) pe_int (fun _ _ => rfl)) (pe_ix ix_list (pe_ix ix_list (pv 8) pe_int (fun _ _ => rfl)) pe_int (fun _ _ => rfl))))
  (pss_cons (ps_if (pt_not (pt_val (c_fn O_law_quotient_fits hr (by decide) T.g_law_quotient_fits pass0 (pa_cons (c_fn O_law_over hr (by decide) T.g_law_over pass0 (pa_cons (pv 6) (pa_cons (pe_ix ix_list (pv 8) pe_int (fun _ _ => rfl)) pa_nil))) (pa_cons (pv 9) (pa_cons (pv 10) pa_nil)))))) (pss_one (ps_ret pe_bl))
  pss_nil)
  (pss_one (ps_if (pt_not (pt_val (c_fn O_law_floor_fits hr (by decide) T.g_law_floor_fits pass0 (pa_cons (c_fn O_law_below hr (by decide) T.g_law_below pass0 (pa_cons (pv 6) (pa_cons (pe_ix ix_list (pv 8) pe_int (fun _ _ => rfl)) pa_nil))) (pa_cons (pv 9) (pa_cons (pv 10) pa_nil)))))) (pss_one (ps_ret pe_bl))
  pss_nil))))))
  (pss_cons (ps_if (pt_not (pt_val (c_fn O_law_floor_fits hr (by decide) T.g_law_floor_fits pass0 (pa_cons (c_fn O_law_below hr (by decide) T.g_law_below pass0 (pa_cons (pv 4) (pa_cons (pv 6) pa_nil))) (pa_cons (pe_op op_mulW (pv 4) (pe_ix ix_list (pv 2) pe_int (fun _ _ => rfl))) (pa_cons (pe_ix ix_list (pv 2) pe_int (fun _ _ => rfl)) pa_nil)))))) (pss_one (ps_ret pe_bl))
  pss_nil)
  (pss_cons (ps_if (PW.pt (pw_or (pt_not (pt_val (c_fn O_law_is_share hr (by decide) T.g_law_is_share pass0 (pa_cons (pe_un (un_negO (E := E0) M.m_neg O_neg hr (by decide) pass0) (pv 6)) (pa_cons (pe_un un_neg (pe_ix ix_list (pv 2) pe_int (fun _ _ => rfl))) (pa_cons (pe_ix ix_list (pv 2) pe_int (fun _ _ => rfl)) pa_nil)))))) (pw_or1 (pt_not (pt_val (c_fn O_law_is_share hr (by decide) T.g_law_is_share pass0 (pa_cons (pe_callB (call_absO M.m_abs O_abs hr (by decide)) (by rfl) T.z_abs (by decide +kernel) (pa_cons (pv 6) pa_nil)) (pa_cons (pe_callB call_abs (by rfl) T.z_abs (by decide +kernel) (pa_cons (pe_ix ix_list (pv 2) pe_int (fun _ _ => rfl)) pa_nil)) (pa_cons (pe_ix ix_list (pv 2) pe_int (fun _ _ => rfl)) pa_nil))))))))) (pss_one (ps_ret pe_bl))
  pss_nil)
  (pss_one (ps_ret (pe_and (c_fn O_law_is_share hr (by decide) T.g_law_is_share pass0 (pa_cons (pv 6) (pa_cons (pe_ix ix_list (pv 2) pe_int (fun _ _ => rfl)) (pa_cons (pe_ix ix_list (pv 2) pe_int (fun _ _ => rfl)) pa_nil)))) (pe_one (c_fn O_law_is_share hr (by decide) T.g_law_is_share pass0 (pa_cons (pv 7) (pa_cons (pe_ix ix_list (pv 3) pe_int (fun _ _ => rfl)) (pa_cons (pe_ix ix_list (pv 3) pe_int (fun _ _ => rfl)) pa_nil))))))))))))))))))), ?_⟩
    refine ⟨_, rfl, a0, ns, 0, rfl, hS, by decide, fun n0 => ⟨(by show 1 ≤ sizeLine; decide), fun d nd => ?_⟩⟩
    have hd0 : (upd H d (.lst [.int n0])) d = some (.lst [.int n0]) := upd_same
    have S0 : Scr K d a0 ns (upd H d (.lst [.int n0])) := fun H' s => Same.seq (fun b o e => s b o (ne_of_none e nd) (same_new nd _ _ e)) hS
    generalize upd H d (.lst [.int n0]) = H0 at hd0 S0 ⊢
    refine ⟨_, rfl, _, rfl, d, a0, ns, 1, n0, rfl, S0, by decide, hd0, fun H1 la A0 A1 m1 pA bA0 bA1 hd1 sx1 hA1 => ?_⟩
    have S1 := S0.to sx1
    have nA : la ≠ d := ne_of hA1 hd1 (by intro q; cases q)
    refine ⟨_, rfl, _, rfl, d, a0, ns, 3, m1, rfl, S1, by decide, hd1, fun H2 lb B0 B1 m2 pB bB0 bB1 hd2 sx2 hB2 => ?_⟩
    have S2 := S1.to sx2
    have nB' : lb ≠ d := ne_of hB2 hd2 (by intro q; cases q)
    have hA2 := sx2 _ _ nA hA1
    refine ⟨_, rfl, _, rfl, d, a0, ns, 5, m2, rfl, S2, by decide, hd2, fun H3 lp N Nu m3 pN bN bNu hd3 sx3 hP3 => ⟨lp, _, 0, .int N, rfl, rfl, SqL.of hP3, atI0, ?_⟩⟩
    have hA3 := sx3 _ _ nA hA2
    have hB3 := sx3 _ _ nB' hB2
    refine ⟨_, rfl, (by show 2 ≤ sizeLine; decide), fun lc nlc => ?_⟩
    have s4 := same_new (o := .lst [.int N, .int 1]) nlc
    have hA4 := s4 _ _ hA3
    have hB4 := s4 _ _ hB3
    have hC4 : (upd H3 lc (.lst [.int N, .int 1])) lc = some (.lst [.int N, .int 1]) := upd_same
    generalize upd H3 lc (.lst [.int N, .int 1]) = H4 at hA4 hB4 hC4 ⊢
    refine ⟨_, rfl, la, _, 0, .int A0, rfl, rfl, SqL.of hA4, atI0, _, rfl, la, _, 1, .int A1, rfl, rfl, SqL.of hA4, atI1, fun p dx np ndx ne => ⟨p, dx, _, _, rfl, upd_same, .inl ⟨A0, A1, rfl, rfl, Int.ne_of_gt pA, bA1.mono (by decide), rfl, ?_⟩⟩⟩
    have s5 := same_make2 (o1 := .own p) (o2 := .ins (CS K) dx []) (o3 := .ins (CS K) dx (shf (nT A0 A1) (nB A0 A1))) np ndx
    have hA5 := s5 _ _ hA4
    have hB5 := s5 _ _ hB4
    have hC5 := s5 _ _ hC4
    have hX5 : Sh (CS K) (upd (upd (upd H4 dx (.own p)) p (.ins (CS K) dx [])) p (.ins (CS K) dx (shf (nT A0 A1) (nB A0 A1)))) p (nT A0 A1) (nB A0 A1) := ⟨dx, upd_same⟩
    generalize upd (upd (upd H4 dx (.own p)) p (.ins (CS K) dx [])) p (.ins (CS K) dx (shf (nT A0 A1) (nB A0 A1))) = H5 at hA5 hB5 hC5 hX5 ⊢
    refine ⟨_, rfl, lb, _, 0, .int B0, rfl, rfl, SqL.of hB5, atI0, _, rfl, lb, _, 1, .int B1, rfl, rfl, SqL.of hB5, atI1, fun q dy nq ndy ne2 => ⟨q, dy, _, _, rfl, upd_same, .inl ⟨B0, B1, rfl, rfl, Int.ne_of_gt pB, bB1.mono (by decide), rfl, ?_⟩⟩⟩
    have s6 := same_make2 (o1 := .own q) (o2 := .ins (CS K) dy []) (o3 := .ins (CS K) dy (shf (nT B0 B1) (nB B0 B1))) nq ndy
    have hA6 := s6 _ _ hA5
    have hB6 := s6 _ _ hB5
    have hC6 := s6 _ _ hC5
    have hX6 := hX5.ext s6
    have hY6 : Sh (CS K) (upd (upd (upd H5 dy (.own q)) q (.ins (CS K) dy [])) q (.ins (CS K) dy (shf (nT B0 B1) (nB B0 B1)))) q (nT B0 B1) (nB B0 B1) := ⟨dy, upd_same⟩
    generalize upd (upd (upd H5 dy (.own q)) q (.ins (CS K) dy [])) q (.ins (CS K) dy (shf (nT B0 B1) (nB B0 B1))) = H6 at hA6 hB6 hC6 hX6 hY6 ⊢
    have nfA := nf_of A0 (Int.ne_of_gt pA)
    have nfB := nf_of B0 (Int.ne_of_gt pB)
    have one : Bit 100 1 := one_bit 99
    have a0' : Bit 100 (nT A0 A1) := (bA0.le nfA.le1).mono (by decide)
    have a1' : Bit 100 (nB A0 A1) := (bA1.le nfA.le2).mono (by decide)
    have b0' : Bit 100 (nT B0 B1) := (bB0.le nfB.le1).mono (by decide)
    have b1' : Bit 100 (nB B0 B1) := (bB1.le nfB.le2).mono (by decide)
    have cN : Bit 100 N := bN.mono (by decide)
    have RA : Rep (nT A0 A1) (nB A0 A1) A0 A1 := ⟨nfA.eq, pA, bA0.mono (by decide), bA1.mono (by decide)⟩
    have RB : Rep (nT B0 B1) (nB B0 B1) B0 B1 := ⟨nfB.eq, pB, bB0.mono (by decide), bB1.mono (by decide)⟩
    have RC : Rep N 1 N 1 := ⟨rfl, by decide, cN, one⟩
    have TXY : Two (CS K) H6 (.ref p) (.ref q) (nT A0 A1) (nB A0 A1) (nT B0 B1) (nB B0 B1) := ⟨.inl ⟨p, rfl, hX6⟩, .inl ⟨q, rfl, hY6⟩, .inl ⟨p, rfl⟩, nfA.pos, nfB.pos, a0', a1', b0', b1'⟩
    have TXN : Two (CS K) H6 (.ref p) (.int N) (nT A0 A1) (nB A0 A1) N 1 := ⟨.inl ⟨p, rfl, hX6⟩, .inr ⟨rfl, rfl⟩, .inl ⟨p, rfl⟩, nfA.pos, by decide, a0', a1', cN, one⟩
    have TNX : Two (CS K) H6 (.int N) (.ref p) N 1 (nT A0 A1) (nB A0 A1) := ⟨.inr ⟨rfl, rfl⟩, .inl ⟨p, rfl, hX6⟩, .inr ⟨p, rfl⟩, by decide, nfA.pos, cN, one, a0', a1'⟩
    refine ⟨_, rfl, _, rfl, _, rfl, _, rfl, .ref p, .ref q, la, lb, _, _, _, _, A0, A1, B0, B1, rfl, TXY, RA, RB, hA6, hB6, fun H7 s7 => ⟨true, rfl, iteF ?_⟩⟩
    refine ⟨_, rfl, _, rfl, _, rfl, _, rfl, .ref p, .int N, la, lc, _, _, _, _, A0, A1, N, 1, rfl, TXN.ext s7, RA, RC, s7 _ _ hA6, s7 _ _ hC6, fun H8 s8 => ⟨true, rfl, iteF ?_⟩⟩
    have s78 := s7.trans s8
    refine ⟨_, rfl, _, rfl, _, rfl, _, rfl, .int N, .ref p, lc, la, _, _, _, _, N, 1, A0, A1, rfl, TNX.ext s78, RC, RA, s78 _ _ hC6, s78 _ _ hA6, fun H9 s9 => ⟨true, rfl, iteF ?_⟩⟩
    have s69 := s78.trans s9
    have hA9 := s69 _ _ hA6
    have hB9 := s69 _ _ hB6
    have hC9 := s69 _ _ hC6
    have TXY9 := TXY.ext s69
    have TXN9 := TXN.ext s69
    have TNX9 := TNX.ext s69
    -- the loop's list
    refine ⟨_, rfl, _, rfl, (by show 2 ≤ sizeLine; decide), fun l1 n1 => ⟨_, rfl, _, rfl, (by show 2 ≤ sizeLine; decide), fun l2 n2 => ⟨(by show 2 ≤ sizeLine; decide), fun l0 n0' => ?_⟩⟩⟩
    have t1 := same_new (o := .lst [.ref q, .ref lb]) n1
    have t2 := same_new (o := .lst [.int N, .ref lc]) n2
    have t0 := same_new (o := .lst [.ref l1, .ref l2]) n0'
    have h1 := t0 _ _ (t2 _ _ (upd_same (H := H9) (a := l1) (o := .lst [.ref q, .ref lb])))
    have h2 := t0 _ _ (upd_same (H := upd H9 l1 (.lst [.ref q, .ref lb])) (a := l2) (o := .lst [.int N, .ref lc]))
    have h0 := upd_same (H := upd (upd H9 l1 (.lst [.ref q, .ref lb])) l2 (.lst [.int N, .ref lc])) (a := l0) (o := .lst [.ref l1, .ref l2])
    have t9 := t1.trans (t2.trans t0)
    have hA := t9 _ _ hA9
    have hB := t9 _ _ hB9
    have hC := t9 _ _ hC9
    have TXYg := TXY9.ext t9
    have TXNg := TXN9.ext t9
    have TNXg := TNX9.ext t9
    generalize upd (upd (upd H9 l1 (.lst [.ref q, .ref lb])) l2 (.lst [.int N, .ref lc])) l0 (.lst [.ref l1, .ref l2]) = G at h1 h2 h0 hA hB hC TXYg TXNg TNXg ⊢
    refine ⟨l0, rfl, ⟨_, SqL.of h0⟩, for_list (K := K) (a := l0) (xs := [.ref l1, .ref l2]) (fun i σ H' => Same G H' ∧ ∃ v1 v2 v3 : Option V, σ = [some (.ref a0), some (.ref d), some (.ref la), some (.ref lb), some (.int N), some (.ref lc), some (.ref p), some (.ref q), v1, v2, v3]) ⟨Same.refl _, none, none, none, rfl⟩ (fun i σ H' _ h => h.1.seq (SqL.of h0)) ?_ ?_⟩
    · -- a turn
      have turn : ∀ (H' : Hp) (lx lw : Addr) (v : V) (e f W0 W1 : Int) (v1 v2 v3 : Option V) (i : Nat), Same G H' → H' lx = some (.lst [v, .ref lw]) → H' lw = some (.lst [.int W0, .int W1]) → Two (CS K) H' (.ref p) v (nT A0 A1) (nB A0 A1) e f → Rep e f W0 W1 → True := fun _ _ _ _ _ _ _ _ _ _ _ _ _ _ _ _ _ => trivial
      rintro i y σ H' hi ⟨sg, v1, v2, v3, rfl⟩
      obtain ⟨lx, lw, v, e, f, W0, W1, rfl, hx, hw, tw, rw'⟩ : ∃ (lx lw : Addr) (v : V) (e f W0 W1 : Int), y = .ref lx ∧ H' lx = some (.lst [v, .ref lw]) ∧ H' lw = some (.lst [.int W0, .int W1]) ∧ Two (CS K) H' (.ref p) v (nT A0 A1) (nB A0 A1) e f ∧ Rep e f W0 W1 := by
        match i, hi with
        | 0, hi => exact ⟨l1, lb, _, _, _, _, _, (Option.some.inj hi).symm, sg _ _ h1, sg _ _ hB, TXYg.ext sg, RB⟩
        | 1, hi => exact ⟨l2, lc, _, _, _, _, _, (Option.some.inj hi).symm, sg _ _ h2, sg _ _ hC, TXNg.ext sg, RC⟩
      clear turn
      have hA' := sg _ _ hA
      have wt : Bit 200 (A0 * W1) := RA.b0.mul rw'.b1
      have wb : Bit 200 (A1 * W0) := RA.b1.mul rw'.b0
      refine ⟨_, rfl, la, _, 0, .int A0, rfl, rfl, SqL.of hA', atI0, _, rfl, lx, _, 1, .ref lw, rfl, rfl, SqL.of hx, atI1, lw, _, 1, .int W1, rfl, rfl, SqL.of hw, atI1, A0, W1, rfl, rfl, RA.b0.wm rw'.b1 (by decide) (by decide) (by decide), ?_⟩
      refine ⟨_, rfl, la, _, 1, .int A1, rfl, rfl, SqL.of hA', atI1, _, rfl, lx, _, 1, .ref lw, rfl, rfl, SqL.of hx, atI1, lw, _, 0, .int W0, rfl, rfl, SqL.of hw, atI0, A1, W0, rfl, rfl, RA.b1.wm rw'.b0 (by decide) (by decide) (by decide), ?_⟩
      have dn : nB A0 A1 ≠ 0 := Int.ne_of_gt tw.d0
      have fn : f ≠ 0 := Int.ne_of_gt tw.f0
      have ze : e = 0 ↔ A1 * W0 = 0 := by
        have hq := rw'.eq
        constructor
        · intro h
          rw [h, Int.zero_mul] at hq
          rcases Int.mul_eq_zero.mp hq.symm with h' | h'
          · rw [h', Int.mul_zero]
          · exact absurd h' fn
        · intro h
          rcases Int.mul_eq_zero.mp h with h' | h'
          · exact absurd h' (Int.ne_of_gt pA)
          · rw [h', Int.zero_mul] at hq
            rcases Int.mul_eq_zero.mp hq with h'' | h''
            · exact h''
            · exact absurd h'' (Int.ne_of_gt rw'.p1)
      refine ⟨_, rfl, _, rfl, lx, _, 0, v, rfl, rfl, SqL.of hx, atI0, p, v, _, _, e, f, rfl, tw, fun Ha o sa ho => ⟨_, rfl, _, rfl, o, _, _, rfl, ?_, fun Hb sb => ⟨true, rfl, iteF ?_⟩⟩⟩
      · rcases ho with ⟨he, ho⟩ | ⟨he, r, x, z, ho, R⟩
        · exact .inl ⟨ze.mp he, ho⟩
        · exact .inr ⟨fun h => he (ze.mpr h), r, x, z, ho, R.sh, R.nf, R.bp, R.bq, wt.mono (by decide), wb.mono (by decide), over_eq RA.eq rw'.eq R.eq dn fn he⟩
      · have sab := sa.trans sb
        refine ⟨_, rfl, _, rfl, lx, _, 0, v, rfl, rfl, SqL.of (sab _ _ hx), atI0, .ref p, v, _, _, e, f, rfl, tw.ext sab, fun Hc o sc ho => ⟨_, rfl, _, rfl, o, _, _, rfl, wb.mono (by decide), ?_, fun Hd sd => ⟨true, rfl, iteF ⟨sg.trans (sab.trans (sc.trans sd)), _, _, _, rfl⟩⟩⟩⟩
        rcases ho with ⟨he, ho⟩ | ⟨he, x, z, z0, eq, ho⟩
        · exact .inl ⟨ze.mp he, ho⟩
        · have hne : A1 * W0 ≠ 0 := fun h => he (ze.mpr h)
          refine .inr ⟨hne, ?_⟩
          rw [← floor_eq z0 hne (over_eq RA.eq rw'.eq eq dn fn he)]
          exact ho
    · -- behind the loop
      rintro σ H' ⟨sg, v1, v2, v3, rfl⟩
      have hA' := sg _ _ hA
      have TN := TNXg.ext sg
      have wN : Bit 200 (N * A1) := cN.mul RA.b1
      have dn : nB A0 A1 ≠ 0 := Int.ne_of_gt nfA.pos
      have ze : nT A0 A1 = 0 ↔ A0 = 0 := by
        have hq := RA.eq
        constructor
        · intro h
          rw [h, Int.zero_mul] at hq
          rcases Int.mul_eq_zero.mp hq.symm with h' | h'
          · exact h'
          · exact absurd h' dn
        · intro h
          have hz : A0 * nB A0 A1 = 0 := Int.mul_eq_zero.mpr (.inl h)
          rw [← hq] at hz
          rcases Int.mul_eq_zero.mp hz with h' | h'
          · exact h'
          · exact absurd h' (Int.ne_of_gt pA)
      refine ⟨_, rfl, _, rfl, .int N, .ref p, N, 1, _, _, rfl, TN, fun Ha o sa ho => ⟨_, rfl, _, rfl, la, _, 1, .int A1, rfl, rfl, SqL.of (sa _ _ hA'), atI1, N, A1, rfl, rfl, cN.wm RA.b1 (by decide) (by decide) (by decide), _, rfl, la, _, 0, .int A0, rfl, rfl, SqL.of (sa _ _ hA'), atI0, o, _, _, rfl, bA0.mono (by decide), ?_, fun Hb sb => ⟨true, rfl, iteF ?_⟩⟩⟩
      · rcases ho with ⟨he, ho⟩ | ⟨he, x, z, z0, eq, ho⟩
        · exact .inl ⟨ze.mp he, ho⟩
        · have hne : A0 ≠ 0 := fun h => he (ze.mpr h)
          refine .inr ⟨hne, ?_⟩
          have e2 := over_eq (A0 := N) (A1 := 1) RC.eq RA.eq eq (by decide) dn he
          rw [Int.one_mul] at e2
          rw [← floor_eq z0 hne e2]
          exact ho
      · have sab := sa.trans sb
        have sG := sg.trans sab
        have hAb := sG _ _ hA
        have hXb : Sh (CS K) Hb p (nT A0 A1) (nB A0 A1) := by
          rcases (TXYg.ext sG).nx with ⟨p', e, h⟩ | ⟨e, _⟩
          · cases e
            exact h
          · cases e
        have hYb : Sh (CS K) Hb q (nT B0 B1) (nB B0 B1) := by
          rcases (TXYg.ext sG).ny with ⟨p', e, h⟩ | ⟨e, _⟩
          · cases e
            exact h
          · cases e
        have hBb := sG _ _ hB
        obtain ⟨dxb, hXo⟩ := id hXb
        have nfN := nf_of (Fng (nT A0 A1)) (b := nB A0 A1) dn
        have nfM := nf_of (Fab (nT A0 A1)) (b := nB A0 A1) dn
        have bF1 : Bit 100 (Fng (nT A0 A1)) := a0'.neg
        have bF2 : Bit 100 (Fab (nT A0 A1)) := by
          unfold Fab
          split
          · exact a0'.neg
          · exact a0'
        refine ⟨_, rfl, p, dxb, _, rfl, hXo, p, _, _, rfl, hXb, nfA.pos, a0'.mono (by decide), a1'.mono (by decide), fun Hc r sc hR => ⟨_, rfl, la, _, 0, .int A0, rfl, rfl, SqL.of (sc _ _ hAb), atI0, A0, rfl, _, rfl, la, _, 1, .int A1, rfl, rfl, SqL.of (sc _ _ hAb), atI1, r, _, _, _, _, rfl, hR, nfN.toNf, (a1'.le nfN.le2).mono (by decide), (bF1.le nfN.le1).mono (by decide), bA0.neg.mono (by decide), bA1.mono (by decide), ?_, true, rfl, iteF ?_⟩⟩
        · have g1 := nfN.eq
          have g2 := RA.eq
          unfold Fng at g1 ⊢
          generalize nT (-(nT A0 A1)) (nB A0 A1) = x at g1 ⊢
          generalize nB (-(nT A0 A1)) (nB A0 A1) = z at g1 ⊢
          generalize nT A0 A1 = s at g1 g2 ⊢
          generalize nB A0 A1 = t at g1 g2 dn ⊢
          have hh : t * (x * A1) = t * (-A0 * z) := by grind
          exact Int.eq_of_mul_eq_mul_left dn hh
        · have hAc := sc _ _ hAb
          have hXc := hXb.ext sc
          obtain ⟨dxc, hXo'⟩ := id hXc
          refine ⟨_, rfl, p, dxc, _, rfl, hXo', p, _, _, rfl, hXc, nfA.pos, a0'.mono (by decide), a1'.mono (by decide), fun Hd r2 sd hR2 => ⟨_, rfl, la, _, 0, .int A0, rfl, rfl, SqL.of (sd _ _ hAc), atI0, A0, rfl, _, rfl, la, _, 1, .int A1, rfl, rfl, SqL.of (sd _ _ hAc), atI1, r2, _, _, _, _, rfl, hR2, nfM.toNf, (a1'.le nfM.le2).mono (by decide), (bF2.le nfM.le1).mono (by decide), ?_, bA1.mono (by decide), ?_, true, rfl, iteF ?_⟩⟩
          · show Bit 4000 (if A0 < 0 then -A0 else A0)
            split
            · exact bA0.neg.mono (by decide)
            · exact bA0.mono (by decide)
          · show _ * A1 = (if A0 < 0 then -A0 else A0) * _
            have g1 := nfM.eq
            have g2 := RA.eq
            have g3 := nfA.pos
            have sgn : (nT A0 A1 < 0 ↔ A0 < 0) := by
              constructor
              · intro h
                have h1 : nT A0 A1 * A1 < 0 := Int.mul_neg_of_neg_of_pos h pA
                rw [g2] at h1
                rcases (show 0 ≤ A0 ∨ A0 < 0 by omega) with h2 | h2
                · have := Int.mul_nonneg h2 (Int.le_of_lt g3)
                  omega
                · exact h2
              · intro h
                have h1 : A0 * nB A0 A1 < 0 := Int.mul_neg_of_neg_of_pos h g3
                rw [← g2] at h1
                rcases (show 0 ≤ nT A0 A1 ∨ nT A0 A1 < 0 by omega) with h2 | h2
                · have := Int.mul_nonneg h2 (Int.le_of_lt pA)
                  omega
                · exact h2
            have ab : Fab (nT A0 A1) * A1 = (if A0 < 0 then -A0 else A0) * nB A0 A1 := by
              unfold Fab
              by_cases h : A0 < 0
              · rw [if_pos h, if_pos (sgn.mpr h), Int.neg_mul, Int.neg_mul, g2]
              · rw [if_neg h, if_neg (fun z => h (sgn.mp z)), g2]
            generalize (if A0 < 0 then -A0 else A0) = W at ab ⊢
            generalize nT (Fab (nT A0 A1)) (nB A0 A1) = x at g1 ⊢
            generalize nB (Fab (nT A0 A1)) (nB A0 A1) = z at g1 ⊢
            generalize Fab (nT A0 A1) = s at g1 ab ⊢
            generalize nB A0 A1 = t at g1 ab dn ⊢
            have hh : t * (x * A1) = t * (W * z) := by grind
            exact Int.eq_of_mul_eq_mul_left dn hh
          · have sbd := sc.trans sd
            have hAd := sbd _ _ hAb
            have hBd := sbd _ _ hBb
            refine ⟨_, rfl, _, rfl, la, _, 0, .int A0, rfl, rfl, SqL.of hAd, atI0, _, rfl, la, _, 1, .int A1, rfl, rfl, SqL.of hAd, atI1, p, _, _, A0, A1, rfl, hXb.ext sbd, nfA.toNf, a1'.mono (by decide), a0'.mono (by decide), bA0.mono (by decide), bA1.mono (by decide), RA.eq, true, rfl, iteT ?_⟩
            exact ⟨_, rfl, _, rfl, lb, _, 0, .int B0, rfl, rfl, SqL.of hBd, atI0, _, rfl, lb, _, 1, .int B1, rfl, rfl, SqL.of hBd, atI1, q, _, _, B0, B1, rfl, hYb.ext sbd, nfB.toNf, b1'.mono (by decide), b0'.mono (by decide), bB0.mono (by decide), bB1.mono (by decide), RB.eq, k _⟩
end
end K2

set_option Elab.async false
set_option linter.all false
set_option maxRecDepth 100000
set_option maxHeartbeats 0
namespace K2
open PySem PySem.Spec PyProof.Rows L2 Vf
def fn : List He.DefD := [
  ⟨("is_integer", none), "is_integer", "is_integer", defArgs s_is_integer, defBody s_is_integer, defScope s_is_integer, [], []⟩,
  ⟨("BadShare", some "__init__"), "__init__", "BadShare.__init__", defArgs s_BadShare_init, defBody s_BadShare_init, defScope s_BadShare_init, [], []⟩,
  ⟨("Share", some "__init__"), "__init__", "Share.__init__", defArgs s_Share_init, defBody s_Share_init, defScope s_Share_init, [.int 1], []⟩,
  ⟨("Share", some "floor"), "floor", "Share.floor", defArgs s_Share_floor, defBody s_Share_floor, defScope s_Share_floor, [], []⟩,
  ⟨("is_number", none), "is_number", "is_number", defArgs s_is_number, defBody s_is_number, defScope s_is_number, [], []⟩,
  ⟨("parts", none), "parts", "parts", defArgs s_parts, defBody s_parts, defScope s_parts, [], []⟩,
  ⟨("Share", some "__add__"), "__add__", "Share.__add__", defArgs s_Share_add, defBody s_Share_add, defScope s_Share_add, [], []⟩,
  ⟨("Share", some "__radd__"), "__radd__", "Share.__radd__", defArgs s_Share_radd, defBody s_Share_radd, defScope s_Share_radd, [], []⟩,
  ⟨("Share", some "__sub__"), "__sub__", "Share.__sub__", defArgs s_Share_sub, defBody s_Share_sub, defScope s_Share_sub, [], []⟩,
  ⟨("Share", some "__rsub__"), "__rsub__", "Share.__rsub__", defArgs s_Share_rsub, defBody s_Share_rsub, defScope s_Share_rsub, [], []⟩,
  ⟨("Share", some "__mul__"), "__mul__", "Share.__mul__", defArgs s_Share_mul, defBody s_Share_mul, defScope s_Share_mul, [], []⟩,
  ⟨("Share", some "__rmul__"), "__rmul__", "Share.__rmul__", defArgs s_Share_rmul, defBody s_Share_rmul, defScope s_Share_rmul, [], []⟩,
  ⟨("Share", some "__floordiv__"), "__floordiv__", "Share.__floordiv__", defArgs s_Share_floordiv, defBody s_Share_floordiv, defScope s_Share_floordiv, [], []⟩,
  ⟨("Share", some "__rfloordiv__"), "__rfloordiv__", "Share.__rfloordiv__", defArgs s_Share_rfloordiv, defBody s_Share_rfloordiv, defScope s_Share_rfloordiv, [], []⟩,
  ⟨("Share", some "__neg__"), "__neg__", "Share.__neg__", defArgs s_Share_neg, defBody s_Share_neg, defScope s_Share_neg, [], []⟩,
  ⟨("Share", some "__abs__"), "__abs__", "Share.__abs__", defArgs s_Share_abs, defBody s_Share_abs, defScope s_Share_abs, [], []⟩,
  ⟨("Share", some "over"), "over", "Share.over", defArgs s_Share_over, defBody s_Share_over, defScope s_Share_over, [], []⟩,
  ⟨("_law_is_integer", none), "_law_is_integer", "_law_is_integer", defArgs s_law_is_integer, defBody s_law_is_integer, defScope s_law_is_integer, [], []⟩,
  ⟨("_law_take", none), "_law_take", "_law_take", defArgs s_law_take, defBody s_law_take, defScope s_law_take, [], []⟩,
  ⟨("_law_cell", none), "_law_cell", "_law_cell", defArgs s_law_cell, defBody s_law_cell, defScope s_law_cell, [], []⟩,
  ⟨("_law_gcd", none), "_law_gcd", "_law_gcd", defArgs s_law_gcd, defBody s_law_gcd, defScope s_law_gcd, [], []⟩,
  ⟨("_law_is_share", none), "_law_is_share", "_law_is_share", defArgs s_law_is_share, defBody s_law_is_share, defScope s_law_is_share, [], []⟩,
  ⟨("_law_pair", none), "_law_pair", "_law_pair", defArgs s_law_pair, defBody s_law_pair, defScope s_law_pair, [], []⟩,
  ⟨("_law_over", none), "_law_over", "_law_over", defArgs s_law_over, defBody s_law_over, defScope s_law_over, [], []⟩,
  ⟨("_law_below", none), "_law_below", "_law_below", defArgs s_law_below, defBody s_law_below, defScope s_law_below, [], []⟩,
  ⟨("_law_quotient_fits", none), "_law_quotient_fits", "_law_quotient_fits", defArgs s_law_quotient_fits, defBody s_law_quotient_fits, defScope s_law_quotient_fits, [], []⟩,
  ⟨("_law_floor_fits", none), "_law_floor_fits", "_law_floor_fits", defArgs s_law_floor_fits, defBody s_law_floor_fits, defScope s_law_floor_fits, [], []⟩,
  ⟨("_law_sums_fit", none), "_law_sums_fit", "_law_sums_fit", defArgs s_law_sums_fit, defBody s_law_sums_fit, defScope s_law_sums_fit, [], []⟩,
  ⟨("law", none), "law", "law", defArgs s_law, defBody s_law, defScope s_law, [], []⟩]
def fa : List He.Fa := [.free "int", .free "bool", .free "abs", .free "isinstance", .glo "is_integer", .glo "is_number", .glo "parts", .glo "Share", .glo "NoShare", .glo "BadShare", .cls "Share", .mkr "Share", .noat "Share" "top", .noat "Share" "bottom", .exc "NoShare", .meth "Share" "__add__", .meth "Share" "__radd__", .meth "Share" "__sub__", .meth "Share" "__rsub__", .meth "Share" "__mul__", .meth "Share" "__rmul__", .meth "Share" "__floordiv__", .meth "Share" "__rfloordiv__", .meth "Share" "__neg__", .meth "Share" "__abs__", .meth "Share" "over", .meth "Share" "floor", .free "len", .free "range", .glo "_law_cell", .glo "_law_take", .glo "_law_is_integer", .glo "_law_gcd", .glo "_law_is_share", .glo "_law_pair", .glo "_law_over", .glo "_law_below", .glo "_law_quotient_fits", .glo "_law_floor_fits", .glo "_law_sums_fit", .glo "law"]
def ex2 (K : PySem.W.Frag) : Bool := ((He.eqO (PySem.W.nsIn K mainGlobals "gcd") (some (some (.builtin "math.gcd")))) && ((exI K "BadShare" "part") && ((decide (PySem.W.exmOne K (.ref (He.ga K "NoShare")) (.ref (He.ga K "NoShare")) = some true)) && ((He.eqO (PySem.W.specialIn K (.builtin "object.__class__") "__get__") (some (some (.builtin "getset_descriptor.__get__")))) && ((decide (PySem.W.takesIn K (.builtin "object.__class__") = some true)) && ((He.eqO (PySem.W.findIn K (.ref (He.ga K "Share")) "__class__") (some (some (.builtin "object.__class__")))) && ((decide (PySem.W.mroIn K (He.ga K "Share") (.type "object") = some true)) && ((decide (PySem.W.mroIn K (He.ga K "Share") (.type "int") = some false)) && ((PySem.W.selfFirst K (He.ga K "Share")) && ((decide (PySem.W.subIn K (.type "int") (.ref (He.ga K "Share")) = some false)) && ((decide (PySem.W.kitOne K (.ref (He.ga K "Share")) (.ref (He.ga K "Share")) = some true)) && (((["int", "bool", "NoneType", "str", "tuple", "list", "dict"] : List String).all fun n => decide (PySem.W.kitOne K (.type n) (.ref (He.ga K "Share")) = some false)) && ((He.eqO (PySem.W.nsIn K mainGlobals "gcd") (some (some (.builtin "math.gcd")))) && ((exI K "BadShare" "part") && ((decide (PySem.W.exmOne K (.ref (He.ga K "NoShare")) (.ref (He.ga K "NoShare")) = some true)) && ((He.eqO (PySem.W.specialIn K (.builtin "object.__class__") "__get__") (some (some (.builtin "getset_descriptor.__get__")))) && ((decide (PySem.W.takesIn K (.builtin "object.__class__") = some true)) && ((He.eqO (PySem.W.findIn K (.ref (He.ga K "Share")) "__class__") (some (some (.builtin "object.__class__")))) && ((decide (PySem.W.mroIn K (He.ga K "Share") (.type "object") = some true)) && ((decide (PySem.W.mroIn K (He.ga K "Share") (.type "int") = some false)) && ((PySem.W.selfFirst K (He.ga K "Share")) && ((decide (PySem.W.subIn K (.type "int") (.ref (He.ga K "Share")) = some false)) && ((decide (PySem.W.kitOne K (.ref (He.ga K "Share")) (.ref (He.ga K "Share")) = some true)) && (((["int", "bool", "NoneType", "str", "tuple", "list", "dict"] : List String).all fun n => decide (PySem.W.kitOne K (.type n) (.ref (He.ga K "Share")) = some false)) && true))))))))))))))))))))))))
def ex (K : PySem.W.Frag) : Bool := (fa.all fun f => f.ok K) && ex2 K
abbrev R : PySem.W.OpenRow := PySem.W.OpenLaw.row PySem.Challenge.rw_seenshares_k02_share_arithmetic
abbrev hk : PySem.W.Hook := hookM 5 ex fn
def ob (s : PySem.W.SharedT) : AlM := obsMG 5 ex fn (HandSHeadRun.getT s)
theorem ob_eq (s : PySem.W.SharedT) : ob s = hk.obs s.abs := obsMG_eq (HandSHeadRun.getT_eq s)
def names : List Str := ["SeenError", "BadShare", "NoShare", "is_integer", "Share", "is_number", "parts", "_law_cell", "_law_take", "_law_is_integer", "_law_gcd", "_law_is_share", "_law_pair", "_law_over", "_law_below", "_law_quotient_fits", "_law_floor_fits", "_law_sums_fit"]
theorem run (w : World) : HandSHeadRun.RunEqI R (PySem.W.view R.prog [0, 23]) hk ob 100000 names w := by
  unfold HandSHeadRun.RunEqI
  kernel_rfl
end K2

set_option Elab.async false
set_option linter.all false
set_option maxRecDepth 100000
set_option maxHeartbeats 4000000
namespace K2
open PySem PySem.Spec PyProof.Rows L2 Vf
section
variable {K : PySem.W.Frag} {h : Heap} {mg : Str → Option Value}
theorem mk_STxt (X : K.In h) (G : h.Ns mainGlobals mg) (c : ex K = true) : STxt K mg := by
  obtain ⟨a, c⟩ := He.ba c
  have fact : ∀ (i : Nat) {f : He.Fa}, fa[i]? = some f → f.ok K = true := fun i f e => List.all_eq_true.mp a f (List.mem_of_getElem? e)
  obtain ⟨c0, c⟩ := He.ba c
  obtain ⟨c1, c⟩ := He.ba c
  obtain ⟨c2, c⟩ := He.ba c
  obtain ⟨c3, c⟩ := He.ba c
  obtain ⟨c4, c⟩ := He.ba c
  obtain ⟨c5, c⟩ := He.ba c
  obtain ⟨c6, c⟩ := He.ba c
  obtain ⟨c7, c⟩ := He.ba c
  obtain ⟨c8, c⟩ := He.ba c
  obtain ⟨c9, c⟩ := He.ba c
  obtain ⟨c10, c⟩ := He.ba c
  obtain ⟨c11, c⟩ := He.ba c
  obtain ⟨c12, c⟩ := He.ba c
  obtain ⟨c13, c⟩ := He.ba c
  obtain ⟨c14, c⟩ := He.ba c
  obtain ⟨c15, c⟩ := He.ba c
  obtain ⟨c16, c⟩ := He.ba c
  obtain ⟨c17, c⟩ := He.ba c
  obtain ⟨c18, c⟩ := He.ba c
  obtain ⟨c19, c⟩ := He.ba c
  obtain ⟨c20, c⟩ := He.ba c
  obtain ⟨c21, c⟩ := He.ba c
  obtain ⟨c22, c⟩ := He.ba c
  obtain ⟨c23, c⟩ := He.ba c
  exact
  { z_int := He.free_ok X G (fact 0 (f := .free "int") rfl)
    z_bool := He.free_ok X G (fact 1 (f := .free "bool") rfl)
    z_abs := He.free_ok X G (fact 2 (f := .free "abs") rfl)
    z_isinstance := He.free_ok X G (fact 3 (f := .free "isinstance") rfl)
    gcd := PySem.W.mg_of X G (He.eqO_ok c0)
    g_is_integer := He.glo_ok X G (fact 4 (f := .glo "is_integer") rfl)
    g_is_number := He.glo_ok X G (fact 5 (f := .glo "is_number") rfl)
    g_parts := He.glo_ok X G (fact 6 (f := .glo "parts") rfl)
    g_Share := He.glo_ok X G (fact 7 (f := .glo "Share") rfl)
    g_NoShare := He.glo_ok X G (fact 8 (f := .glo "NoShare") rfl)
    g_BadShare := He.glo_ok X G (fact 9 (f := .glo "BadShare") rfl)
    c_Share := cls_of (fact 10 (f := .cls "Share") rfl)
    m_Share := mk_of (fact 11 (f := .mkr "Share") rfl)
    nT := noat_of (fact 12 (f := .noat "Share" "top") rfl)
    nB := noat_of (fact 13 (f := .noat "Share" "bottom") rfl)
    x_BadShare := exI_ok c1
    e_NoShare := (fact 14 (f := .exc "NoShare") rfl)
    te := of_decide_eq_true c2
    hn := He.eqO_ok c3
    ht := of_decide_eq_true c4
    ha := He.eqO_ok c5
    hm := of_decide_eq_true c6
    hi := of_decide_eq_true c7
    hc := c8
    hs := of_decide_eq_true c9
    k1 := of_decide_eq_true c10
    kz := fun n hn => of_decide_eq_true (List.all_eq_true.mp c11 n hn) }
theorem mk_SMeth (X : K.In h) (G : h.Ns mainGlobals mg) (c : ex K = true) : SMeth K := by
  obtain ⟨a, c⟩ := He.ba c
  have fact : ∀ (i : Nat) {f : He.Fa}, fa[i]? = some f → f.ok K = true := fun i f e => List.all_eq_true.mp a f (List.mem_of_getElem? e)
  obtain ⟨c0, c⟩ := He.ba c
  obtain ⟨c1, c⟩ := He.ba c
  obtain ⟨c2, c⟩ := He.ba c
  obtain ⟨c3, c⟩ := He.ba c
  obtain ⟨c4, c⟩ := He.ba c
  obtain ⟨c5, c⟩ := He.ba c
  obtain ⟨c6, c⟩ := He.ba c
  obtain ⟨c7, c⟩ := He.ba c
  obtain ⟨c8, c⟩ := He.ba c
  obtain ⟨c9, c⟩ := He.ba c
  obtain ⟨c10, c⟩ := He.ba c
  obtain ⟨c11, c⟩ := He.ba c
  obtain ⟨c12, c⟩ := He.ba c
  obtain ⟨c13, c⟩ := He.ba c
  obtain ⟨c14, c⟩ := He.ba c
  obtain ⟨c15, c⟩ := He.ba c
  obtain ⟨c16, c⟩ := He.ba c
  obtain ⟨c17, c⟩ := He.ba c
  obtain ⟨c18, c⟩ := He.ba c
  obtain ⟨c19, c⟩ := He.ba c
  obtain ⟨c20, c⟩ := He.ba c
  obtain ⟨c21, c⟩ := He.ba c
  obtain ⟨c22, c⟩ := He.ba c
  obtain ⟨c23, c⟩ := He.ba c
  exact
  { m_add := meth_of (fact 15 (f := .meth "Share" "__add__") rfl)
    m_radd := meth_of (fact 16 (f := .meth "Share" "__radd__") rfl)
    m_sub := meth_of (fact 17 (f := .meth "Share" "__sub__") rfl)
    m_rsub := meth_of (fact 18 (f := .meth "Share" "__rsub__") rfl)
    m_mul := meth_of (fact 19 (f := .meth "Share" "__mul__") rfl)
    m_rmul := meth_of (fact 20 (f := .meth "Share" "__rmul__") rfl)
    m_fdv := meth_of (fact 21 (f := .meth "Share" "__floordiv__") rfl)
    m_rfdv := meth_of (fact 22 (f := .meth "Share" "__rfloordiv__") rfl)
    m_neg := meth_of (fact 23 (f := .meth "Share" "__neg__") rfl)
    m_abs := meth_of (fact 24 (f := .meth "Share" "__abs__") rfl)
    m_over := meth_of (fact 25 (f := .meth "Share" "over") rfl)
    m_floor := meth_of (fact 26 (f := .meth "Share" "floor") rfl) }
theorem mk_Txt (X : K.In h) (G : h.Ns mainGlobals mg) (c : ex K = true) : Txt K mg := by
  obtain ⟨a, c⟩ := He.ba c
  have fact : ∀ (i : Nat) {f : He.Fa}, fa[i]? = some f → f.ok K = true := fun i f e => List.all_eq_true.mp a f (List.mem_of_getElem? e)
  obtain ⟨c0, c⟩ := He.ba c
  obtain ⟨c1, c⟩ := He.ba c
  obtain ⟨c2, c⟩ := He.ba c
  obtain ⟨c3, c⟩ := He.ba c
  obtain ⟨c4, c⟩ := He.ba c
  obtain ⟨c5, c⟩ := He.ba c
  obtain ⟨c6, c⟩ := He.ba c
  obtain ⟨c7, c⟩ := He.ba c
  obtain ⟨c8, c⟩ := He.ba c
  obtain ⟨c9, c⟩ := He.ba c
  obtain ⟨c10, c⟩ := He.ba c
  obtain ⟨c11, c⟩ := He.ba c
  obtain ⟨c12, c⟩ := He.ba c
  obtain ⟨c13, c⟩ := He.ba c
  obtain ⟨c14, c⟩ := He.ba c
  obtain ⟨c15, c⟩ := He.ba c
  obtain ⟨c16, c⟩ := He.ba c
  obtain ⟨c17, c⟩ := He.ba c
  obtain ⟨c18, c⟩ := He.ba c
  obtain ⟨c19, c⟩ := He.ba c
  obtain ⟨c20, c⟩ := He.ba c
  obtain ⟨c21, c⟩ := He.ba c
  obtain ⟨c22, c⟩ := He.ba c
  obtain ⟨c23, c⟩ := He.ba c
  exact
  { z_int := He.free_ok X G (fact 0 (f := .free "int") rfl)
    z_bool := He.free_ok X G (fact 1 (f := .free "bool") rfl)
    z_abs := He.free_ok X G (fact 2 (f := .free "abs") rfl)
    z_isinstance := He.free_ok X G (fact 3 (f := .free "isinstance") rfl)
    gcd := PySem.W.mg_of X G (He.eqO_ok c12)
    g_is_integer := He.glo_ok X G (fact 4 (f := .glo "is_integer") rfl)
    g_is_number := He.glo_ok X G (fact 5 (f := .glo "is_number") rfl)
    g_parts := He.glo_ok X G (fact 6 (f := .glo "parts") rfl)
    g_Share := He.glo_ok X G (fact 7 (f := .glo "Share") rfl)
    g_NoShare := He.glo_ok X G (fact 8 (f := .glo "NoShare") rfl)
    g_BadShare := He.glo_ok X G (fact 9 (f := .glo "BadShare") rfl)
    c_Share := cls_of (fact 10 (f := .cls "Share") rfl)
    m_Share := mk_of (fact 11 (f := .mkr "Share") rfl)
    nT := noat_of (fact 12 (f := .noat "Share" "top") rfl)
    nB := noat_of (fact 13 (f := .noat "Share" "bottom") rfl)
    x_BadShare := exI_ok c13
    e_NoShare := (fact 14 (f := .exc "NoShare") rfl)
    te := of_decide_eq_true c14
    hn := He.eqO_ok c15
    ht := of_decide_eq_true c16
    ha := He.eqO_ok c17
    hm := of_decide_eq_true c18
    hi := of_decide_eq_true c19
    hc := c20
    hs := of_decide_eq_true c21
    k1 := of_decide_eq_true c22
    kz := fun n hn => of_decide_eq_true (List.all_eq_true.mp c23 n hn)
    z_len := He.free_ok X G (fact 27 (f := .free "len") rfl)
    z_range := He.free_ok X G (fact 28 (f := .free "range") rfl)
    g_law_cell := He.glo_ok X G (fact 29 (f := .glo "_law_cell") rfl)
    g_law_take := He.glo_ok X G (fact 30 (f := .glo "_law_take") rfl)
    g_law_is_integer := He.glo_ok X G (fact 31 (f := .glo "_law_is_integer") rfl)
    g_law_gcd := He.glo_ok X G (fact 32 (f := .glo "_law_gcd") rfl)
    g_law_is_share := He.glo_ok X G (fact 33 (f := .glo "_law_is_share") rfl)
    g_law_pair := He.glo_ok X G (fact 34 (f := .glo "_law_pair") rfl)
    g_law_over := He.glo_ok X G (fact 35 (f := .glo "_law_over") rfl)
    g_law_below := He.glo_ok X G (fact 36 (f := .glo "_law_below") rfl)
    g_law_quotient_fits := He.glo_ok X G (fact 37 (f := .glo "_law_quotient_fits") rfl)
    g_law_floor_fits := He.glo_ok X G (fact 38 (f := .glo "_law_floor_fits") rfl)
    g_law_sums_fit := He.glo_ok X G (fact 39 (f := .glo "_law_sums_fit") rfl) }
theorem facts {P : Program} {w : World} {f : Addr} (X : K.In h) (G : h.Ns mainGlobals mg) (hfa : mg ("law" : Str) = some (.ref f)) (c : SaysM ex fn K) :
    ∃ fd : FuncData, (∀ (s : Shared) (v : Value), BindsTo s fd ⟨[v], []⟩ [("_law_script", v)]) ∧ ∀ base : Heap, K.In base → base.Ns mainGlobals mg → FnOk P w K mg base CX0 10 f fd ["_law_script"] (spLaw K) := by
  obtain ⟨d0, F0⟩ := c.fn 0
  obtain ⟨d1, F1⟩ := c.fn 1
  obtain ⟨d2, F2⟩ := c.fn 2
  obtain ⟨d3, F3⟩ := c.fn 3
  obtain ⟨d4, F4⟩ := c.fn 4
  obtain ⟨d5, F5⟩ := c.fn 5
  obtain ⟨d6, F6⟩ := c.fn 6
  obtain ⟨d7, F7⟩ := c.fn 7
  obtain ⟨d8, F8⟩ := c.fn 8
  obtain ⟨d9, F9⟩ := c.fn 9
  obtain ⟨d10, F10⟩ := c.fn 10
  obtain ⟨d11, F11⟩ := c.fn 11
  obtain ⟨d12, F12⟩ := c.fn 12
  obtain ⟨d13, F13⟩ := c.fn 13
  obtain ⟨d14, F14⟩ := c.fn 14
  obtain ⟨d15, F15⟩ := c.fn 15
  obtain ⟨d16, F16⟩ := c.fn 16
  obtain ⟨d17, F17⟩ := c.fn 17
  obtain ⟨d18, F18⟩ := c.fn 18
  obtain ⟨d19, F19⟩ := c.fn 19
  obtain ⟨d20, F20⟩ := c.fn 20
  obtain ⟨d21, F21⟩ := c.fn 21
  obtain ⟨d22, F22⟩ := c.fn 22
  obtain ⟨d23, F23⟩ := c.fn 23
  obtain ⟨d24, F24⟩ := c.fn 24
  obtain ⟨d25, F25⟩ := c.fn 25
  obtain ⟨d26, F26⟩ := c.fn 26
  obtain ⟨d27, F27⟩ := c.fn 27
  obtain ⟨d28, F28⟩ := c.fn 28
  have hl : He.ga K "law" = f := by
    have e := He.glo_ok X G (List.all_eq_true.mp (He.ba c.ex).1 (.glo "law") (List.mem_of_getElem? (i := 40) rfl))
    rw [hfa] at e
    cases e
    rfl
  have b := FunD.bindsA (ps := ["_law_script"]) F28 fun _ _ _ _ _ _ us hl => match us, hl with | [_], _ => rfl
  refine ⟨d28, fun s v => b s [v] rfl, fun base _ _ => ?_⟩
  have T := mk_Txt X G c.ex
  have M := mk_SMeth X G c.ex
  have S := T.toSTxt
  have A0 := ok_is_integer (P := P) (w := w) (base := base) F0 S
  have A1 := ok_BadShare_init (P := P) (w := w) (mg := mg) (base := base) F1
  have G2 := ok_Share_init (P := P) (w := w) (base := base) F2 S A0 A1
  have I2 := O_Share2 F2 G2
  have I1 := O_Share1 F2 G2
  have A3 := ok_Share_floor (P := P) (w := w) (base := base) F3 S
  have A4 := ok_is_number (P := P) (w := w) (base := base) F4 S A0
  have A5 := ok_parts (P := P) (w := w) (base := base) F5 S
  have A6 := ok_Share_add F6 S A4 A5 I2
  have A8 := ok_Share_sub F8 S A4 A5 I2
  have A10 := ok_Share_mul F10 S A4 A5 I2
  have A14 := ok_Share_neg F14 S I2
  have A15 := ok_Share_abs F15 S I2
  have A16 := ok_Share_over F16 S A5 I2
  have A7 := ok_Share_radd F7 S M A4 A6
  have A9 := ok_Share_rsub F9 S M A4 A6 A14
  have A11 := ok_Share_rmul F11 S M A4 A10
  have A12 := ok_Share_floordiv F12 S M A4 A16 A3
  have A13 := ok_Share_rfloordiv F13 S M A4 A16 A3 I1
  have B0 := ok_law_is_integer (P := P) (w := w) (base := base) F17 T
  have B1 := ok_law_take (P := P) (w := w) (base := base) F18 T
  have B2 := ok_law_cell (P := P) (w := w) (base := base) F19 T
  have B3 := ok_law_gcd (P := P) (w := w) (base := base) F20 T
  have B4 := ok_law_is_share F21 T B0 B3
  have r := ok_law F28 T M B2 (ok_law_pair F22 T B2 B1) B4 (ok_law_over F23 T M A16) (ok_law_below F24 T M A12 A13) (ok_law_quotient_fits F25 T B4) (ok_law_floor_fits F26 T B0) (ok_law_sums_fit F27 T M B4 A6 A7 A8 A9 A10 A11) I2 A14 A15
  rw [← hl]
  exact r
end
end K2
open PySem PySem.W PySem.Calls PyProof.Rows
theorem PySem.Challenge.cw_seenshares_k02_share_arithmetic_holds : PySem.Challenge.rw_seenshares_k02_share_arithmetic.Holds := by
  w_on; o_law
  refine HandSHeadRun.head_imp (r := OpenLaw.row PySem.Challenge.rw_seenshares_k02_share_arithmetic) (q := view (OpenLaw.row PySem.Challenge.rw_seenshares_k02_share_arithmetic).prog [0, 23]) (H := K2.hk) (ob := K2.ob) (M := 100000) (loose := K2.names)
    (d := HandSHeadRun.topDef (OpenLaw.row PySem.Challenge.rw_seenshares_k02_share_arithmetic).prog 23) (kwd := []) K2.ob_eq K2.run (by kernel_rfl) (by kernel_rfl) (by kernel_rfl) (by rfl) (by first | assumption | decide +kernel) (by decide +kernel) ⟨rfl, rfl, rfl, rfl, rfl, by decide +kernel⟩ ?hw ?hc
  case hw => w_witness2
  case hc =>
    refine L2.walk_ofE (l := PySem.Challenge.rw_seenshares_k02_share_arithmetic) (n := 63) (k := 10) (x := "_law_script") (CX := L2.CX0) rfl (by decide) (by kernel_rfl) ⟨rfl, by decide, by decide⟩ ?F (fun _ _ _ _ z => z)
    intro w mg fa h Y G hmg0
    obtain ⟨K, KX, c⟩ := Y
    have hmg : mg ("law" : PySem.Str) = some (.ref fa) := by
      have e : (HandSHeadRun.topDef (OpenLaw.row PySem.Challenge.rw_seenshares_k02_share_arithmetic).prog 23).name = ("law" : PySem.Str) := by kernel_rfl
      rw [← e]
      exact hmg0
    obtain ⟨fd, hb, hF⟩ := K2.facts (P := (PySem.Challenge.rw_seenshares_k02_share_arithmetic).prog) (w := w) KX G hmg c
    exact ⟨K, fd, K2.spLaw K, KX, hb, fun H a ns hl _ hS => ⟨a, ns, rfl, hS, hl, fun _ => rfl⟩, hF⟩
#print axioms PySem.Challenge.cw_seenshares_k02_share_arithmetic_holds
