import PyProof.Rows.All
import Wide.All
import OpenK.AllK
import Wide.FinOn
import PyProof.EqAt
import PyProof.EqKinds
import PyProof.TupleCall
import KE.KStateDown
import KE.KCallOwn
import HandS.ForExc
import HandS.Wide
import HandS.Gcd
import HandS.Defaults
import HandS.IsInst
import HandS.ExcInit
import HandS.ExcField
import HandS.ExcIs
import HandS.FStr
import HandS.Codes
import HandS.Dict
import HandS.Head0
import HandS.Head1
import HandS.Head2
import HandS.Head3
import HandS.HeadEnd
import HandS.HeadHook1
import HandS.HeadHook2
import KE.KExcIs
import PySem.Challenge.RW_seenshares_k01_share_lowest_terms
set_option Elab.async false
set_option linter.all false
set_option maxRecDepth 100000
set_option maxHeartbeats 2000000
namespace Vf
open PySem PySem.Spec PyProof.Rows L2
/-! ### defs at their places -/
abbrev Pl : Type := Str × Option Str
structure OkD (P : Program) (w : World) (K : PySem.W.Frag) (mg : Str → Option Value) (base : Heap) (CX : CXT) (k : Nat) (p : Pl) (ps : List Str) (dvs : List V) (sp : Sp) : Prop where
  ex : ∃ fd ds, FnOk P w K mg base CX k (He.fAd K p) fd ps sp ∧ Binds K fd ps ds ∧ Vals dvs ds
  kp : PySem.W.keepIn K (.ref (He.fAd K p)) = true
section
variable {X : Cx} {CX : CXT} {k j : Nat} {ps : List Str} {sp : Sp} {dvs : List V} {x m : Str} {p pos apos : Pos} {e o : Expr} {es : List Expr} {ta : TE} {t : TA}
theorem c_fn {E : XK} (O : OkD X.prog X.w X.K X.mg X.base CX k (x, none) ps dvs sp) (hr : Room j X.A) (hj : k ≤ j) (hm : X.mg x = some (.ref (He.ga X.K x))) (hx : Passes CX X E) (ha : PA X (e :: es) t) (hg : Gl X x := by rfl)
    (hdb : (x == ("__debug__" : Str)) = false := by decide) (he : starEach (e :: es) X.env = (false, eval e X.env) :: starEach es X.env := by rfl) (hpl : (backTo pos (starEach es X.env)).any (·.1) = false := by rfl) :
    PE X (.Call (.Name x p) (e :: es) [] pos) (tCall sp dvs E t) := by
  obtain ⟨fd, ds, F, b, v⟩ := O.ex
  exact pe_call F (hr.mono hj) hg hm O.kp b v hx ha hdb he hpl
theorem c_fnS {E : L2.St → XK} (O : OkD X.prog X.w X.K X.mg X.base CX k (x, none) ps [] sp) (hr : Room j X.A) (hj : k ≤ j) (hm : X.mg x = some (.ref (He.ga X.K x))) (hx : ∀ σ, PassesAt CX X σ (E σ)) (ha : PA X (e :: es) t) (hg : Gl X x := by rfl)
    (hdb : (x == ("__debug__" : Str)) = false := by decide) (he : starEach (e :: es) X.env = (false, eval e X.env) :: starEach es X.env := by rfl) (hpl : (backTo pos (starEach es X.env)).any (·.1) = false := by rfl) :
    PE X (.Call (.Name x p) (e :: es) [] pos) (tCallS sp E t) := by
  obtain ⟨fd, ds, F, b, v⟩ := O.ex
  cases v
  exact pe_callS F (hr.mono hj) hg hm O.kp b hx ha hdb he hpl
theorem mk_of {K : PySem.W.Frag} {x : Str} (c : (He.Fa.mkr x).ok K = true) : Mk K (He.ga K x) (He.fAd K (x, some "__init__")) := by
  obtain ⟨h1, h2⟩ := He.ba c
  obtain ⟨h2, h3⟩ := He.ba h2
  obtain ⟨h3, h4⟩ := He.ba h3
  exact ⟨h1, He.eqO_ok h2, h3, h4⟩
theorem meth_of {K : PySem.W.Frag} {x m : Str} (c : (He.Fa.meth x m).ok K = true) : Meth K (He.ga K x) m (He.fAd K (x, some m)) := by
  obtain ⟨h1, h2⟩ := He.ba c
  obtain ⟨h2, h3⟩ := He.ba h2
  exact ⟨He.eqO_ok h1, h2, h3⟩
theorem cls_of {K : PySem.W.Frag} {x : Str} (c : (He.Fa.cls x).ok K = true) : Cls K (He.ga K x) := by
  obtain ⟨h1, h2⟩ := He.ba c
  obtain ⟨h2, h3⟩ := He.ba h2
  obtain ⟨h3, h4⟩ := He.ba h3
  exact ⟨h1, h2, h3, He.eqO_ok h4⟩
theorem noat_of {K : PySem.W.Frag} {x f : Str} (c : (He.Fa.noat x f).ok K = true) : NoAttr K (He.ga K x) f := He.eqO_ok c
/-- C(e, ..) -/
theorem c_mk {E : XK} {C : Addr} (M : Mk X.K C (He.fAd X.K (x, some "__init__"))) (O : OkD X.prog X.w X.K X.mg X.base CX k (x, some "__init__") ps dvs sp) (hr : Room j X.A) (hj : k + 1 ≤ j) (hm : X.mg x = some (.ref C)) (hx : Passes CX X E) (ha : PA X (e :: es) t) (hg : Gl X x := by rfl)
    (hdb : (x == ("__debug__" : Str)) = false := by decide) (he : starEach (e :: es) X.env = (false, eval e X.env) :: starEach es X.env := by rfl) (hpl : (backTo pos (starEach es X.env)).any (·.1) = false := by rfl) :
    PE X (.Call (.Name x p) (e :: es) [] pos) (tMake C sp dvs E t) := by
  obtain ⟨fd, ds, F, b, v⟩ := O.ex
  exact pe_make M F (hr.mono hj) hg hm b v hx ha hdb he hpl
/-- o.m() -/
theorem c_me0 {E : XK} {C : Addr} {cn : Str} (hC : C = He.ga X.K cn) (he : PE X o ta) (c : Cls X.K C) (hm : Meth X.K C m (He.fAd X.K (cn, some m))) (O : OkD X.prog X.w X.K X.mg X.base CX k (cn, some m) ps dvs sp) (hr : Room j X.A) (hj : k ≤ j) (hx : Passes CX X E) {pl : Sem Bool}
    (ht : eval (.Call (.Attribute o m apos) [] [] pos) X.env = (do
      let ov ← eval o X.env
      standAt apos.atName
      let (f, first) ← holding [ov] (getMethod ov m pl)
      callWith pos f first (backTo pos (starEach [] X.env)) (backToKw pos (keywordEach [] X.env))) := by rfl) :
    PE X (.Call (.Attribute o m apos) [] [] pos) (tMeth C m sp dvs E ta tNil) := by
  obtain ⟨fd, ds, F, b, v⟩ := O.ex
  exact pe_meth0 he c hm F (hr.mono hj) b v hx ht
theorem c_me {E : XK} {C : Addr} {cn : Str} (hC : C = He.ga X.K cn) (hb : PE X o ta) (c : Cls X.K C) (hm : Meth X.K C m (He.fAd X.K (cn, some m))) (O : OkD X.prog X.w X.K X.mg X.base CX k (cn, some m) ps dvs sp) (hr : Room j X.A) (hj : k ≤ j) (hx : Passes CX X E) (ha : PA X (e :: es) t) {pl : Sem Bool}
    (hst : starEach (e :: es) X.env = (false, eval e X.env) :: starEach es X.env := by rfl) (hpl : (backTo pos (starEach es X.env)).any (·.1) = false := by rfl)
    (ht : eval (.Call (.Attribute o m apos) (e :: es) [] pos) X.env = (do
      let ov ← eval o X.env
      standAt apos.atName
      let (f, first) ← holding [ov] (getMethod ov m pl)
      callWith pos f first (backTo pos (starEach (e :: es) X.env)) (backToKw pos (keywordEach [] X.env))) := by rfl) :
    PE X (.Call (.Attribute o m apos) (e :: es) [] pos) (tMeth C m sp dvs E ta t) := by
  obtain ⟨fd, ds, F, b, v⟩ := O.ex
  exact pe_meth hb c hm F (hr.mono hj) b v hx ha hst hpl ht
end
/-! ### a try's body whose errors are wished for at any slots -/
theorem passAny {X : Cx} {W : WX} (n : Nat) (tk : Takes X W) (hn : X.N.length = n := by rfl) : Passes (L2.CX X.prog X.w) X (fun cls d H => ∀ σ : L2.St, σ.length = n → W cls d σ H) :=
  fun _ σ _ _ e s' I c => tk e s' (XE.of_call I (fun _ _ _ h => h σ (I.len.trans hn)) c)
/-! ### operators -/
section
variable {X : Cx}
/-- // by any divisor but 0 below 2 ^ 9000 -/
theorem op_fdivG : OpR X (binaryOp .FloorDiv) (rI (fun _ j => j ≠ 0 ∧ j.natAbs.log2 < 9000) fun i j => .int (i.fdiv j)) := opI fun i j _ _ _ _ _ hc q => floordiv_int hc.1 q (.inl (PyProof.noPylong_of_log2 hc.2))
/-- a built-in class as a value -/
theorem pe_ty {x : Str} {n : String} {pos : Pos} (hm : X.mg x = none) (hv : bootBuiltins x = some (.type n)) (hg : Gl X x := by rfl) (hn : x ≠ "__name__" := by decide) (hd : (x == ("__debug__" : Str)) = false := by decide) : PE X (.Name x pos) (tC (.ty n)) := pe_bltn hg hm hv rfl hn hd
/-- a class of the text as a value -/
theorem pe_cl {x : Str} {a : Addr} {pos : Pos} (hm : X.mg x = some (.ref a)) (hg : Gl X x := by rfl) (hd : (x == ("__debug__" : Str)) = false := by decide) : PE X (.Name x pos) (tC (.ref a)) := pe_glob hg hm rfl hd
/-- str(o), o of a class of the text that has its own __str__ -/
def rStrO (C : Addr) (sp : Sp) : List V → Hp → VK → Prop := fun xs H Q => ∃ a dx fs, xs = [.ref a] ∧ H a = some (.ins C dx fs) ∧ sp [.ref a] H (fun v H' => ∃ z, v = .str z ∧ Q (.str z) H') fun _ _ _ => False
theorem call_strO {k j : Nat} {C : Addr} {cn : Str} {ps : List Str} {sp : Sp} (hC : C = He.ga X.K cn) (hm : Meth X.K C "__str__" (He.fAd X.K (cn, some "__str__"))) (O : OkD X.prog X.w X.K X.mg X.base CX0 k (cn, some "__str__") ps [] sp) (hr : Room j X.A) (hj : k + 2 ≤ j) :
    CallR X (.type "str") (rStrO C sp) := by
  obtain ⟨fd, ds, F, b, v⟩ := O.ex
  cases v
  intro pins s σ H xs us Q I r h
  obtain ⟨a, dx, fs, rfl, ha, hsp⟩ := h
  obtain ⟨u, rfl, ru⟩ : ∃ u, us = [u] ∧ RelV (.ref a) u := by
    cases r with
    | cons p q => cases q; exact ⟨_, rfl, p⟩
  cases ru
  obtain ⟨mA, J, _⟩ := ins_get I.hok ha
  obtain ⟨od, J, _⟩ := J.look
  have hr2 : Room k X.A.in1.in1 := ((hr.mono hj).in1).in1
  refine PySem.W.kso_call hr2.units0 I.kIn J hm.at_ hm.fn ?_
  have hl := F.len _ _ _ _ hsp
  have hb := b s [.ref a] I.kIn (by simpa using hl)
  simp only [List.append_nil] at hb
  refine wpAny_call (codeAny_mono (F.run X.A.in1.in1 X.stack s H ⟨[.ref a], []⟩ [.ref a] [.ref a] _ _ hr2 I.env0.in1.in1 hb (.cons rfl .nil) hsp) fun r s' hq => ?_)
  cases r with
  | error e => exact hq.elim
  | ok fl =>
    cases fl with
    | ret w =>
      obtain ⟨z, H', I', rz, y, ez, q⟩ := I.after hq
      subst ez
      obtain ⟨tk, rfl⟩ := rz
      exact ⟨.str y, H', I', ⟨tk, rfl⟩, q⟩
    | next => exact False.elim hq
    | brk => exact False.elim hq
    | cont => exact False.elim hq
end
end Vf

set_option Elab.async false
set_option linter.all false
set_option maxRecDepth 100000
set_option maxHeartbeats 2000000
namespace Vf
open PySem PySem.Spec PyProof.Rows L2
/-! ### ints and other values -/
/-- a value that is no integer -/
inductive Odd (H : Hp) : V → Prop where
  | bl (b : Bool) : Odd H (.bl b)
  | non : Odd H .non
  | str (z : Str) : Odd H (.str z)
  | tup {a : Addr} {xs : List V} (h : H a = some (.tup xs)) : Odd H (.ref a)
  | lst {a : Addr} {xs : List V} (h : H a = some (.lst xs)) : Odd H (.ref a)
  | dic {a : Addr} {kvs : List (Key × V)} (h : H a = some (.dK kvs)) : Odd H (.ref a)
theorem Odd.ext {H H' : Hp} {x : V} (o : Odd H x) (s : Same H H') : Odd H' x := by
  cases o with
  | bl b => exact .bl b
  | non => exact .non
  | str z => exact .str z
  | tup h => exact .tup (s _ _ h)
  | lst h => exact .lst (s _ _ h)
  | dic h => exact .dic (s _ _ h)
theorem odd_ty (K : PySem.W.Frag) {H : Hp} {x : V} (o : Odd H x) : ∃ (n : String) (b1 b2 : Bool), TyX K H x (.type n) ∧ kitB n "int" = some b1 ∧ kitB n "bool" = some b2 ∧ (b1 && !b2) = false := by
  cases o with
  | bl b => exact ⟨"bool", true, true, .base (.bl b), by decide +kernel, by decide +kernel, rfl⟩
  | non => exact ⟨"NoneType", false, false, .base .non, by decide +kernel, by decide +kernel, rfl⟩
  | str z => exact ⟨"str", false, false, .base (.str z), by decide +kernel, by decide +kernel, rfl⟩
  | tup h => exact ⟨"tuple", false, false, .base (.tup h), by decide +kernel, by decide +kernel, rfl⟩
  | lst h => exact ⟨"list", false, false, .base (.lst h), by decide +kernel, by decide +kernel, rfl⟩
  | dic h => exact ⟨"dict", false, false, .base (.dK h), by decide +kernel, by decide +kernel, rfl⟩
theorem int_ty (K : PySem.W.Frag) (H : Hp) (n : Int) : TyX K H (.int n) (.type "int") ∧ kitB "int" "int" = some true ∧ kitB "int" "bool" = some false :=
  ⟨.base (.int n), by decide +kernel, by decide +kernel⟩
/-- is_integer(x) -/
def spIsInt : Sp := fun vs H Q _ => ∃ x, vs = [x] ∧ (((∃ n, x = .int n) ∧ Q (.bl true) H) ∨ (Odd H x ∧ Q (.bl false) H))
def t_isint (K : PySem.W.Frag) : TS := tRet (tAndV (tCB (rIsi K) (tCons (tVar 0) (tCons (tC (.ty "int")) tNil))) (tNotV (tCB (rIsi K) (tCons (tVar 0) (tCons (tC (.ty "bool")) tNil)))))
theorem run_isint {K : PySem.W.Frag} {N : List Str} {vs : List V} {H : Hp} {Q : VK} {E : XK} (h : spIsInt vs H Q E) : t_isint K { nx := fun _ H' => Q .non H', rt := Q } (start N vs) H := by
  obtain ⟨x, rfl, h⟩ := h
  have s0 : (start N [x])[0]? = some (some x) := rfl
  rcases h with ⟨⟨n, rfl⟩, q⟩ | ⟨o, q⟩
  · obtain ⟨t1, k1, k2⟩ := int_ty K H n
    refine ⟨_, s0, _, .ty "int", _, .type "int", true, rfl, .ty _, t1, kit_ty k1, true, rfl, ?_⟩
    refine iteT ?_
    exact ⟨_, s0, _, .ty "bool", _, .type "bool", false, rfl, .ty _, t1, kit_ty k2, false, rfl, q⟩
  · obtain ⟨n, b1, b2, t1, k1, k2, e⟩ := odd_ty K o
    refine ⟨_, s0, _, .ty "int", _, .type "int", b1, rfl, .ty _, t1, kit_ty k1, b1, rfl, ?_⟩
    cases b1 with
    | false => exact iteF q
    | true =>
      cases b2 with
      | false => cases e
      | true =>
        refine iteT ?_
        exact ⟨_, s0, _, .ty "bool", _, .type "bool", true, rfl, .ty _, t1, kit_ty k2, true, rfl, q⟩
/-! ### the draws -/
/-- _law_cell(script, k): some int -/
def spCell (K : PySem.W.Frag) : Sp := fun vs H Q _ => ∃ (l : Addr) (ns : List Int) (j : Nat), vs = [.ref l, .int (j : Int)] ∧ SqL K H l (ns.map V.int) ∧ j < 1000 ∧ ∀ n : Int, Q (.int n) H
/-- _law_take(draw, size) -/
def spTake : Sp := fun vs H Q _ => ∃ (d : Addr) (n s : Int), vs = [.ref d, .int s] ∧ H d = some (.lst [.int n]) ∧ 0 < s ∧ s < 1073741824 ∧ ∀ r m : Int, 0 ≤ r → r < s → Q (.int r) (upd H d (.lst [.int m]))
theorem atI0 {α : Type} {x : α} {xs : List α} : atI (x :: xs) 0 = some x := by simp [atI, ixN]
theorem atI1 {α : Type} {x y : α} {xs : List α} : atI (x :: y :: xs) 1 = some y := by
  have h : ixN (x :: y :: xs).length 1 = some 1 := by
    unfold ixN
    rw [if_pos (by omega), if_pos (by simp only [List.length_cons]; omega)]
    rfl
  unfold atI
  rw [h]
  rfl
theorem ixN0 {n : Nat} : ixN (n + 1) 0 = some 0 := by
  unfold ixN
  rw [if_pos (by omega), if_pos (by omega)]
  all_goals rfl
abbrev rAddI : R2 := rI0 fun i j => .int (i + j)
abbrev rModI : R2 := rI (fun _ j => 0 < j) fun i j => .int (i % j)
end Vf

set_option Elab.async false
set_option linter.all false
set_option maxRecDepth 100000
set_option maxHeartbeats 2000000
namespace Vf
open PySem PySem.Spec PyProof.Rows L2
/-! ### own errors: class C(..): def __init__(self, f): self.f = f -/
def oexB (K : PySem.W.Frag) (C : Addr) : Bool := match K.lookup C with
  | some ⟨.type "type", _, .cls cd, sl⟩ => (match cd.mro, sl.toList with
    | .ref C' :: bm, [_, _, _, _, some (.builtin n), _] => C' == C && n == "ValueError.__new__" && !cd.hasDel && cd.hasDict && PySem.HandSPX.refsVE bm
    | _, _ => false)
  | _ => false
theorem oexB_ok {K : PySem.W.Frag} {C : Addr} (q : oexB K C = true) : ∃ nm qn N bs bm sn sub ab col dd k0 k1 k2 k3 k5, K.lookup C = some (excClassObj nm qn C N bs bm true sn sub ab col dd k0 k1 k2 k3 k5 "ValueError.__new__") ∧ PySem.HandSPX.refsVE bm = true := by
  unfold oexB at q
  split at q
  · rename_i dd cd sl ho
    split at q
    · rename_i C' bm k0 k1 k2 k3 n k5 hm hs
      simp only [Bool.and_eq_true, beq_iff_eq, Bool.not_eq_true'] at q
      obtain ⟨⟨⟨⟨e1, e2⟩, hdel⟩, hh⟩, hbm⟩ := q
      obtain ⟨nm, bs, mro, ns, qn, hd, sn, sub, ab, col, del⟩ := cd
      obtain ⟨l⟩ := sl
      dsimp only at hm hdel hh hs
      subst hm hdel hh hs e1 e2
      exact ⟨nm, qn, ns, bs, bm, sn, sub, ab, col, dd, k0, k1, k2, k3, k5, ho, hbm⟩
    · cases q
  · cases q
/-- what is told of the error class x whose __init__ keeps its argument as f -/
structure ExD (K : PySem.W.Frag) (x : Str) : Prop where
  o : OexC K (He.ga K x)
  gg : PySem.W.findIn K (.ref (He.ga K x)) "__getattr__" = some none
  ga : PySem.W.findIn K (.ref (He.ga K x)) "__getattribute__" = some (some (.builtin "BaseException.__getattribute__"))
  ha : PySem.W.findIn K (.ref (He.ga K x)) "__class__" = some (some (.builtin "object.__class__"))
  hm : PySem.W.mroIn K (He.ga K x) (.type "object") = some true
  hd : PySem.W.hasDictIn K (He.ga K x) = true
  hcl : (PySem.W.clsIn K (He.ga K x)).isSome = true
def exD (K : PySem.W.Frag) (x : Str) : Bool :=
  oexB K (He.ga K x) && (He.eqO (PySem.W.findIn K (.ref (He.ga K x)) "__setattr__") (some (some (.builtin "object.__setattr__"))) && (decide (PySem.W.subIn K (.ref (He.ga K x)) (.type "BaseException") = some true) && (decide (PySem.W.typeIn K (.ref (He.ga K x)) = some (.type "type")) && (PySem.W.keepIn K (.ref (He.ga K x)) &&
  (He.eqO (PySem.W.findIn K (.ref (He.ga K x)) "__getattr__") (some none) && (He.eqO (PySem.W.findIn K (.ref (He.ga K x)) "__getattribute__") (some (some (.builtin "BaseException.__getattribute__"))) && (He.eqO (PySem.W.findIn K (.ref (He.ga K x)) "__class__") (some (some (.builtin "object.__class__"))) &&
  (decide (PySem.W.mroIn K (He.ga K x) (.type "object") = some true) && (PySem.W.hasDictIn K (He.ga K x) && (PySem.W.clsIn K (He.ga K x)).isSome)))))))))
theorem exD_ok {K : PySem.W.Frag} {x : Str} (h : exD K x = true) : ExD K x := by
  obtain ⟨h1, h⟩ := He.ba h
  obtain ⟨h2, h⟩ := He.ba h
  obtain ⟨h3, h⟩ := He.ba h
  obtain ⟨h4, h⟩ := He.ba h
  obtain ⟨h5, h⟩ := He.ba h
  obtain ⟨h6, h⟩ := He.ba h
  obtain ⟨h7, h⟩ := He.ba h
  obtain ⟨h8, h⟩ := He.ba h
  obtain ⟨h9, h⟩ := He.ba h
  obtain ⟨h10, h11⟩ := He.ba h
  exact ⟨⟨oexB_ok h1, He.eqO_ok h2, of_decide_eq_true h3, of_decide_eq_true h4, h5⟩, He.eqO_ok h6, He.eqO_ok h7, He.eqO_ok h8, of_decide_eq_true h9, h10, h11⟩
/-- .. with its __init__ and its field f -/
structure ExI (K : PySem.W.Frag) (x f : Str) : Prop where
  d : ExD K x
  i : PySem.W.findIn K (.ref (He.ga K x)) "__init__" = some (some (.ref (He.fAd K (x, some "__init__"))))
  t : PySem.W.typeIn K (.ref (He.fAd K (x, some "__init__"))) = some (.type "function")
  n : PySem.W.findIn K (.ref (He.ga K x)) f = some none
def exI (K : PySem.W.Frag) (x f : Str) : Bool :=
  exD K x && (He.eqO (PySem.W.findIn K (.ref (He.ga K x)) "__init__") (some (some (.ref (He.fAd K (x, some "__init__"))))) && (decide (PySem.W.typeIn K (.ref (He.fAd K (x, some "__init__"))) = some (.type "function")) && He.eqO (PySem.W.findIn K (.ref (He.ga K x)) f) (some none)))
theorem exI_ok {K : PySem.W.Frag} {x f : Str} (h : exI K x f = true) : ExI K x f := by
  obtain ⟨h1, h⟩ := He.ba h
  obtain ⟨h2, h⟩ := He.ba h
  obtain ⟨h3, h4⟩ := He.ba h
  exact ⟨exD_ok h1, He.eqO_ok h2, of_decide_eq_true h3, He.eqO_ok h4⟩
/-- the __init__: self.f = v -/
def spExI (K : PySem.W.Frag) (C : Addr) (f : Str) : Sp := fun vs H Q _ => ∃ (a : Addr) (v : V), vs = [.ref a, v] ∧ OexC K C ∧ PySem.W.findIn K (.ref C) f = some none ∧ H a = some (exo a C none) ∧
  ∀ dx, H dx = none → dx ≠ a → Q .non (upd (upd H dx (exd dx [(f, v)])) a (exo a C (some dx)))
theorem run_exI {K : PySem.W.Frag} {C : Addr} {f : Str} {N : List Str} {vs : List V} {H : Hp} {Q : VK} {E : XK} (h : spExI K C f vs H Q E) : tOst K f (tVar 0) (tVar 1) { nx := fun _ H' => Q .non H', rt := Q } (start N vs) H := by
  obtain ⟨a, v, rfl, T, hn, ea, q⟩ := h
  have s0 : (start N [.ref a, v])[0]? = some (some (.ref a)) := rfl
  have s1 : (start N [.ref a, v])[1]? = some (some v) := rfl
  exact ⟨_, s1, _, s0, a, C, rfl, T, hn, .inl ⟨ea, fun dx h1 h2 => q dx h1 h2⟩⟩
/-- the heap behind the making: the error's own dict alone is new -/
theorem exc_heap {H : Hp} {a d : Addr} {o1 o2 o3 o4 : HO} (ha : H a = none) (hda : d ≠ a) : upd (del (upd (upd (upd H a o1) d o2) a o3) a) d o4 = upd H d o4 := by
  funext b
  by_cases h1 : b = d
  · rw [h1, upd_same, upd_same]
  · rw [upd_ne h1, upd_ne h1]
    by_cases h2 : b = a
    · rw [h2, del_same, ha]
    · rw [del_ne h2, upd_ne h2, upd_ne h1, upd_ne h2]
theorem pa_weak {X : Cx} {es : List Expr} {ta : TA} (ha : PA X es ta) : PA X es (fun σ H Q => ∃ R, ta σ H R ∧ ∀ vs H1, R vs H1 → Q vs H1) := ⟨fun pos pins s σ H Q I h => by
  obtain ⟨R, h1, h2⟩ := h
  exact thn (ha.run pos pins s σ H R I h1) fun us s1 ⟨vs, H1, I1, r, q⟩ => ⟨vs, H1, I1, r, h2 _ _ q⟩⟩
section
variable {X : Cx} {CX : CXT} {k j : Nat} {ps : List Str} {x f : Str} {p pos pos2 : Pos} {e : Expr} {es : List Expr} {ta : TA} {W : WX}
/-- raise C(e): the error's dict, new, holds f -/
def tRaiseI (C : Addr) (f : Str) (W : WX) (ta : TA) : TS := fun _ σ H => ta σ H fun vs H1 => ∃ v, vs = [v] ∧ ∀ d, H1 d = none → W (.ref C) (some d) σ (upd H1 d (.xd [(f, v)]))
theorem c_raise (T : ExI X.K x f) (O : OkD X.prog X.w X.K X.mg X.base CX0 k (x, some "__init__") ps [] (spExI X.K (He.ga X.K x) f)) (hr : Room j X.A) (hj : k + 1 ≤ j) (hm : X.mg x = some (.ref (He.ga X.K x))) (tk : Takes X W) (ha : PA X (e :: es) ta) (hc : X.calm = true := by rfl) (hg : Gl X x := by rfl)
    (hdb : (x == ("__debug__" : Str)) = false := by decide) (he : starEach (e :: es) X.env = (false, eval e X.env) :: starEach es X.env := by rfl) (hpl : (backTo pos (starEach es X.env)).any (·.1) = false := by rfl) :
    PS X (.Raise (some (.Call (.Name x p) (e :: es) [] pos)) none pos2) (tRaiseI (He.ga X.K x) f W ta) := by
  obtain ⟨fd, ds, F, b, v⟩ := O.ex
  cases v
  refine ⟨fun pins s σ H D I h => (ps_raise hc tk (pmk_oex (p := p) T.d.o T.i T.t F (hr.mono hj) b .nil pass0 hg hm (pa_weak ha) hdb he hpl)).run pins s σ H D I ?_⟩
  refine ⟨_, h, fun vs H1 z => ?_⟩
  obtain ⟨v, rfl, q⟩ := z
  refine ⟨(by show 1 ≤ 1000; decide), fun a na => ⟨a, v, rfl, T.d.o, T.n, upd_same, fun dx h1 h2 => ?_⟩⟩
  have hdx : H1 dx = none := by
    rw [upd_ne h2] at h1
    exact h1
  refine ⟨rfl, dx, [(f, v)], upd_same, ?_, hdx, ?_⟩
  · rw [upd_ne h2, upd_same]
  · rw [exc_heap na h2]
    exact q dx hdx
end
/-! ### isinstance(e, c) of a caught error -/
section
variable {X : Cx}
theorem call_isiE {a D : Addr} {d : Option Addr} {oe : Obj} {pn : List (Addr × Obj)} {x : Str} (hD : D = He.ga X.K x) (T : ExD X.K x) (hn : PySem.W.specialIn X.K (.builtin "object.__class__") "__get__" = some (some (.builtin "getset_descriptor.__get__")))
    (ht : PySem.W.takesIn X.K (.builtin "object.__class__") = some true) {cls : Value} (hz : Zc cls d oe) (hf : ∃ vs, oe.data = .fields vs) : CallR (X.suite a ((a, oe) :: pn)) (.builtin "isinstance")
      (fun xs H Q => ∃ (c : V) (cv : Value) (b : Bool), xs = [.ref a, c] ∧ cls = .ref D ∧ ClsV c cv ∧ PySem.W.kitOne X.K (.ref D) cv = some b ∧ (∃ dd fs, d = some dd ∧ H dd = some (.xd fs)) ∧ Q (.bl b) H) := by
  subst hD
  intro pins s σ H xs us Q I r h
  obtain ⟨c, cv, b, rfl, ec, hcv, e, ⟨dd, fs, ed, hdd⟩, q⟩ := h
  obtain ⟨u1, u2, rfl, r1, r2⟩ := vals2 r
  have e2 := hcv.eq r2
  subst e2
  cases r1
  obtain ⟨hget, _⟩ := I.pin (a, oe) (List.mem_append.mpr (.inl List.mem_cons_self))
  obtain ⟨vs, hv⟩ := hf
  subst ed ec
  obtain ⟨mA, ⟨od, es, ep, ho, _⟩, _⟩ := (show ObjOk X.prog X.w H s.heap dd (.xd fs) from I.hok dd _ hdd)
  have J : PySem.W.InstAt s.heap a oe (He.ga X.K x) (some od) := by
    obtain ⟨oc, odd, oda, osl⟩ := oe
    obtain ⟨h1, h2⟩ := hz
    dsimp only at h1 h2 hv
    subst h1 h2 hv
    exact ⟨hget, rfl, rfl, ho⟩
  exact PySem.W.kia_one (PySem.W.kitx_exc T.hcl T.ga T.gg T.o.exC T.ha hn ht T.hm) I.kIn J e (fun z => nomatch z) fun tk => ⟨.bl b, H, I.kept (t' := tk) fun _ _ z => z, rfl, q⟩
end
/-! ### the head's hook: any Bool over the written part, the defs -/
abbrev AlM : Type := Bool × List He.FnW
def obsM (ex : PySem.W.Frag → Bool) (fn : List He.DefD) (K : PySem.W.Frag) : AlM := (ex K && fn.all fun d => d.ok K, fn.map fun d => He.fnW K d.at_)
def SaysM (ex : PySem.W.Frag → Bool) (fn : List He.DefD) (K : PySem.W.Frag) : Prop := obsM ex fn K = (true, fn.map He.DefD.val)
def obsMG (n : Nat) (ex : PySem.W.Frag → Bool) (fn : List He.DefD) (g : Addr → Option Obj) : AlM := obsM ex fn (He.frG g (He.asD g n))
def hookM (n : Nat) (ex : PySem.W.Frag → Bool) (fn : List He.DefD) : PySem.W.Hook where
  α := AlM
  obs := fun s => obsMG n ex fn s.heap.get?
  val := fun _ => (true, fn.map He.DefD.val)
  says := fun _ h => ∃ K : PySem.W.Frag, K.In h ∧ SaysM ex fn K
  of := fun _ _ e => ⟨_, He.frG_in, e⟩
  keeps := fun _ _ _ ⟨K, hK, c⟩ k => ⟨K, PySem.W.Frag.In.keeps hK k, c⟩
theorem obsMG_eq {n : Nat} {ex : PySem.W.Frag → Bool} {fn : List He.DefD} {g : Addr → Option Obj} {s : Shared} (h : ∀ a, g a = s.heap.get? a) : obsMG n ex fn g = (hookM n ex fn).obs s := by
  have e : g = s.heap.get? := funext h
  rw [e]
  rfl
theorem SaysM.ex {ex : PySem.W.Frag → Bool} {fn : List He.DefD} {K : PySem.W.Frag} (c : SaysM ex fn K) : ex K = true := (He.ba (congrArg (fun z : AlM => z.1) c)).1
theorem SaysM.fn {ex : PySem.W.Frag → Bool} {fn : List He.DefD} {K : PySem.W.Frag} (c : SaysM ex fn K) (i : Nat) {d : He.DefD} (h : fn[i]? = some d := by rfl) : ∃ fd, FunD K d.name d.qual d.params d.body d.scope (d.dvs K) (d.kws K) (He.fAd K d.at_) fd := by
  have c2 := (He.ba (congrArg (fun z : AlM => z.1) c)).2
  have e : fn.map (fun d => He.fnW K d.at_) = fn.map He.DefD.val := congrArg (fun z : AlM => z.2) c
  have e2 : He.fnW K d.at_ = d.val := by
    have e3 : (fn.map fun d => He.fnW K d.at_)[i]? = (fn.map He.DefD.val)[i]? := by rw [e]
    simp only [List.getElem?_map, h, Option.map_some] at e3
    exact Option.some.inj e3
  exact He.DefD.funD e2 (List.all_eq_true.mp c2 d (List.mem_of_getElem? h))

end Vf

set_option Elab.async false
set_option linter.all false
set_option maxRecDepth 100000
set_option maxHeartbeats 2000000
namespace Vf
open PySem PySem.Spec PyProof.Rows L2
/-! ### Euclid's loop -/
def Eu (g B i x y : Nat) : Prop := Nat.gcd x y = g ∧ ((i % 2 = 0 ∧ y * 2 ^ (i / 2) ≤ B) ∨ (i % 2 = 1 ∧ y < x ∧ x * 2 ^ (i / 2) ≤ B))
theorem Eu.start (x y : Nat) : Eu (Nat.gcd x y) y 0 x y := ⟨rfl, .inl ⟨rfl, by simp⟩⟩
theorem Eu.step {g B i x y : Nat} (h : Eu g B i x y) (hy : y ≠ 0) : Eu g B (i + 1) y (x % y) := by
  obtain ⟨hg, h⟩ := h
  have hg2 : Nat.gcd y (x % y) = g := by
    rw [← hg, Nat.gcd_comm x y, Nat.gcd_rec y x, Nat.gcd_comm]
  have hlt : x % y < y := Nat.mod_lt x (by omega)
  refine ⟨hg2, ?_⟩
  rcases h with ⟨he, hb⟩ | ⟨ho, hxy, hb⟩
  · refine .inr ⟨by omega, hlt, ?_⟩
    have e : (i + 1) / 2 = i / 2 := by omega
    rw [e]
    exact hb
  · refine .inl ⟨by omega, ?_⟩
    have e : (i + 1) / 2 = i / 2 + 1 := by omega
    have hd := Nat.div_add_mod x y
    have h1 : 1 ≤ x / y := Nat.div_pos (by omega) (by omega)
    have h2 : y * 1 ≤ y * (x / y) := Nat.mul_le_mul_left y h1
    have h3 : 2 * (x % y) ≤ x := by omega
    rw [e, Nat.pow_succ]
    calc x % y * (2 ^ (i / 2) * 2) = (2 * (x % y)) * 2 ^ (i / 2) := by rw [Nat.mul_comm (2 ^ (i / 2)) 2, ← Nat.mul_assoc, Nat.mul_comm (x % y) 2]
      _ ≤ x * 2 ^ (i / 2) := Nat.mul_le_mul_right _ h3
      _ ≤ B := hb
theorem Eu.last {g B x y : Nat} (h : Eu g B 500 x y) (hB : B < 2 ^ 250) : x = g := by
  obtain ⟨hg, h⟩ := h
  rcases h with ⟨_, hb⟩ | ⟨ho, _⟩
  · have e : (500 : Nat) / 2 = 250 := rfl
    rw [e] at hb
    have hy : y = 0 := by
      rcases Nat.eq_zero_or_pos y with h0 | h0
      · exact h0
      · exfalso
        have : 1 * 2 ^ 250 ≤ y * 2 ^ 250 := Nat.mul_le_mul_right _ h0
        omega
    rw [hy, Nat.gcd_zero_right] at hg
    exact hg
  · omega
theorem Eu.zero {g B i x : Nat} (h : Eu g B i x 0) : x = g := by
  have hg := h.1
  rw [Nat.gcd_zero_right] at hg
  exact hg
/-! ### lowest terms -/
def nG (t b : Int) : Int := ((Nat.gcd t.natAbs b.natAbs : Nat) : Int)
def nC (t b : Int) : Int := if b < 0 then -(nG t b) else nG t b
def nT (t b : Int) : Int := t.fdiv (nC t b)
def nB (t b : Int) : Int := b.fdiv (nC t b)
/-- a and b are t over b' in lowest terms -/
structure Nf (a b : Int) : Prop where
  pos : 0 < b
  cop : Nat.gcd a.natAbs b.natAbs = 1
structure NfOf (t u a b : Int) : Prop extends Nf a b where
  eq : a * u = t * b
  le1 : a.natAbs ≤ t.natAbs
  le2 : b.natAbs ≤ u.natAbs
theorem nG_pos {t b : Int} (hb : b ≠ 0) : 0 < nG t b := by
  have : 0 < Nat.gcd t.natAbs b.natAbs := Nat.gcd_pos_of_pos_right _ (by omega)
  unfold nG
  omega
theorem nC_abs (t b : Int) : (nC t b).natAbs = Nat.gcd t.natAbs b.natAbs := by
  unfold nC nG
  split <;> omega
theorem nC_ne {t b : Int} (hb : b ≠ 0) : nC t b ≠ 0 := by
  have := nG_pos (t := t) hb
  unfold nC
  split <;> omega
theorem nC_dvd1 (t b : Int) : nC t b ∣ t := by
  rw [← Int.natAbs_dvd_natAbs, nC_abs]
  exact Nat.gcd_dvd_left _ _
theorem nC_dvd2 (t b : Int) : nC t b ∣ b := by
  rw [← Int.natAbs_dvd_natAbs, nC_abs]
  exact Nat.gcd_dvd_right _ _
theorem nT_mul (t b : Int) : nT t b * nC t b = t := Int.fdiv_mul_cancel (nC_dvd1 t b)
theorem nB_mul (t b : Int) : nB t b * nC t b = b := Int.fdiv_mul_cancel (nC_dvd2 t b)
theorem nf_of (t : Int) {b : Int} (hb : b ≠ 0) : NfOf t b (nT t b) (nB t b) := by
  have e1 := nT_mul t b
  have e2 := nB_mul t b
  have hc := nC_ne (t := t) hb
  have ga := nC_abs t b
  have g0 : 0 < Nat.gcd t.natAbs b.natAbs := Nat.gcd_pos_of_pos_right _ (by omega)
  have a1 : (nT t b).natAbs * Nat.gcd t.natAbs b.natAbs = t.natAbs := by rw [← ga, ← Int.natAbs_mul, e1]
  have a2 : (nB t b).natAbs * Nat.gcd t.natAbs b.natAbs = b.natAbs := by rw [← ga, ← Int.natAbs_mul, e2]
  refine ⟨⟨?_, ?_⟩, ?_, ?_, ?_⟩
  · rcases (show 0 < nB t b ∨ nB t b ≤ 0 by omega) with h | h
    · exact h
    · exfalso
      by_cases hn : b < 0
      · have hc2 : nC t b < 0 := by
          have := nG_pos (t := t) hb
          unfold nC
          rw [if_pos hn]
          omega
        have := Int.mul_nonneg_of_nonpos_of_nonpos h (Int.le_of_lt hc2)
        omega
      · have hc2 : 0 < nC t b := by
          have := nG_pos (t := t) hb
          unfold nC
          rw [if_neg hn]
          omega
        have := Int.mul_nonpos_of_nonpos_of_nonneg h (Int.le_of_lt hc2)
        omega
  · have h := Nat.gcd_mul_right (nT t b).natAbs (Nat.gcd t.natAbs b.natAbs) (nB t b).natAbs
    rw [a1, a2] at h
    have h2 : 1 * Nat.gcd t.natAbs b.natAbs = Nat.gcd (nT t b).natAbs (nB t b).natAbs * Nat.gcd t.natAbs b.natAbs := by rw [Nat.one_mul]; exact h
    exact (Nat.eq_of_mul_eq_mul_right g0 h2).symm
  · calc nT t b * b = nT t b * (nB t b * nC t b) := by rw [e2]
      _ = (nT t b * nC t b) * nB t b := by rw [Int.mul_comm (nB t b), Int.mul_assoc]
      _ = t * nB t b := by rw [e1]
  · calc (nT t b).natAbs = (nT t b).natAbs * 1 := by rw [Nat.mul_one]
      _ ≤ (nT t b).natAbs * Nat.gcd t.natAbs b.natAbs := Nat.mul_le_mul_left _ g0
      _ = t.natAbs := a1
  · calc (nB t b).natAbs = (nB t b).natAbs * 1 := by rw [Nat.mul_one]
      _ ≤ (nB t b).natAbs * Nat.gcd t.natAbs b.natAbs := Nat.mul_le_mul_left _ g0
      _ = b.natAbs := a2
/-- bits: below 2 ^ n -/
def Bit (n : Nat) (x : Int) : Prop := x.natAbs < 2 ^ n
theorem Bit.mono {n m : Nat} {x : Int} (h : Bit n x) (l : n ≤ m) : Bit m x := Nat.lt_of_lt_of_le h (Nat.pow_le_pow_right (by decide) l)
theorem Bit.le {n : Nat} {x y : Int} (h : Bit n y) (l : x.natAbs ≤ y.natAbs) : Bit n x := Nat.lt_of_le_of_lt l h
theorem Bit.mul {n m : Nat} {x y : Int} (h : Bit n x) (h' : Bit m y) : Bit (n + m) (x * y) := by
  unfold Bit
  rw [Int.natAbs_mul, Nat.pow_add]
  exact Nat.mul_lt_mul'' h h'
theorem Bit.add {n : Nat} {x y : Int} (h : Bit n x) (h' : Bit n y) : Bit (n + 1) (x + y) := by
  unfold Bit at *
  rw [Nat.pow_succ]
  omega
theorem Bit.sub {n : Nat} {x y : Int} (h : Bit n x) (h' : Bit n y) : Bit (n + 1) (x - y) := by
  unfold Bit at *
  rw [Nat.pow_succ]
  omega
theorem Bit.neg {n : Nat} {x : Int} (h : Bit n x) : Bit n (-x) := by
  unfold Bit at *
  omega
theorem Bit.log {n m : Nat} {x : Int} (h : Bit n x) (h0 : 0 < n) (hm : n ≤ m) : x.natAbs.log2 < m := Nat.lt_of_lt_of_le (PySem.Flt.log2_lt_of h0 h) hm
theorem Bit.wm {n m : Nat} {x y : Int} (h : Bit n x) (h' : Bit m y) (h0 : 0 < n) (h1 : 0 < m) (l : n + m ≤ 1000000) : CMulW x y := wide_mul h h' h0 h1 l
end Vf

set_option Elab.async false
set_option linter.all false
set_option maxRecDepth 100000
set_option maxHeartbeats 2000000
namespace K1
open PySem PySem.Spec PyProof.Rows L2 Vf
def top (i : Nat) : Stmt := PySem.Challenge.pw_seenshares_k01_share_lowest_terms.main.body.getD i (.Pass ⟨0, 0, 0, 0⟩)
abbrev OkF (P : Program) (w : World) (K : PySem.W.Frag) (mg : Str → Option Value) (base : Heap) (CX : CXT) (k : Nat) (x : Str) (ps : List Str) (sp : Sp) : Prop := OkD P w K mg base CX k (x, none) ps [] sp
abbrev FnD (K : PySem.W.Frag) (p : Pl) (x q : Str) (st : Stmt) (fd : FuncData) : Prop := FunD K x q (defArgs st) (defBody st) (defScope st) [] [] (He.fAd K p) fd
abbrev CS (K : PySem.W.Frag) : Addr := He.ga K "Share"
abbrev CB (K : PySem.W.Frag) : Addr := He.ga K "BadShare"
structure Txt (K : PySem.W.Frag) (mg : Str → Option Value) : Prop where
  z_len : mg "len" = none
  z_int : mg "int" = none
  z_bool : mg "bool" = none
  z_str : mg "str" = none
  z_range : mg "range" = none
  z_abs : mg "abs" = none
  z_isinstance : mg "isinstance" = none
  gcd : mg "gcd" = some (.builtin "math.gcd")
  g_is_integer : mg "is_integer" = some (.ref (He.ga K "is_integer"))
  g_law_cell : mg "_law_cell" = some (.ref (He.ga K "_law_cell"))
  g_law_take : mg "_law_take" = some (.ref (He.ga K "_law_take"))
  g_law_is_integer : mg "_law_is_integer" = some (.ref (He.ga K "_law_is_integer"))
  g_law_gcd : mg "_law_gcd" = some (.ref (He.ga K "_law_gcd"))
  g_law_is_share : mg "_law_is_share" = some (.ref (He.ga K "_law_is_share"))
  g_law_side : mg "_law_side" = some (.ref (He.ga K "_law_side"))
  g_law_odd : mg "_law_odd" = some (.ref (He.ga K "_law_odd"))
  g_law_made : mg "_law_made" = some (.ref (He.ga K "_law_made"))
  g_law_text : mg "_law_text" = some (.ref (He.ga K "_law_text"))
  g_Share : mg "Share" = some (.ref (He.ga K "Share"))
  g_SeenError : mg "SeenError" = some (.ref (He.ga K "SeenError"))
  g_NoShare : mg "NoShare" = some (.ref (He.ga K "NoShare"))
  g_BadShare : mg "BadShare" = some (.ref (He.ga K "BadShare"))
  c_Share : Cls K (He.ga K "Share")
  m_Share : Mk K (He.ga K "Share") (He.fAd K ("Share", some "__init__"))
  nT : NoAttr K (He.ga K "Share") "top"
  nB : NoAttr K (He.ga K "Share") "bottom"
  me_Share_floor : Meth K (He.ga K "Share") "floor" (He.fAd K ("Share", some "floor"))
  me_Share_str : Meth K (He.ga K "Share") "__str__" (He.fAd K ("Share", some "__str__"))
  x_BadShare : ExI K "BadShare" "part"
  hn : PySem.W.specialIn K (.builtin "object.__class__") "__get__" = some (some (.builtin "getset_descriptor.__get__"))
  ht : PySem.W.takesIn K (.builtin "object.__class__") = some true
  ha : PySem.W.findIn K (.ref (He.ga K "Share")) "__class__" = some (some (.builtin "object.__class__"))
  hm : PySem.W.mroIn K (He.ga K "Share") (.type "object") = some true
  k1 : PySem.W.kitOne K (.ref (He.ga K "Share")) (.ref (He.ga K "Share")) = some true
  k2 : PySem.W.kitOne K (.ref (He.ga K "BadShare")) (.ref (He.ga K "SeenError")) = some true
  k3 : PySem.W.kitOne K (.ref (He.ga K "BadShare")) (.ref (He.ga K "NoShare")) = some false
  te : PySem.W.exmOne K (.ref (He.ga K "BadShare")) (.ref (He.ga K "BadShare")) = some true
theorem Txt.xf {K : PySem.W.Frag} {mg : Str → Option Value} (T : Txt K mg) : XfC K (He.ga K "BadShare") := ⟨T.x_BadShare.d.ga, T.x_BadShare.d.gg, T.x_BadShare.d.o.exC, T.x_BadShare.d.hd⟩
/-! ### a share's fields -/
theorem tb_ : ¬ (("top" : Str) = "bottom") := by decide +kernel
theorem bt_ : ¬ (("bottom" : Str) = "top") := by decide +kernel
def shf (a b : Int) : List (Str × V) := putF "bottom" (.int b) (putF "top" (.int a) [])
theorem shf_top (a b : Int) : (shf a b).lookup ("top" : Str) = some (.int a) := by
  unfold shf
  rw [lookup_putF, if_neg tb_, lookup_putF, if_pos rfl]
theorem shf_bottom (a b : Int) : (shf a b).lookup ("bottom" : Str) = some (.int b) := by
  unfold shf
  rw [lookup_putF, if_pos rfl]
theorem shf_no (a b : Int) {m : Str} (h1 : ¬ m = "top") (h2 : ¬ m = "bottom") : (shf a b).lookup m = none := by
  unfold shf
  rw [lookup_putF, if_neg h2, lookup_putF, if_neg h1]
  rfl
/-- at p a share a over b -/
def Sh (C : Addr) (H : Hp) (p : Addr) (a b : Int) : Prop := ∃ dx, H p = some (.ins C dx (shf a b))
theorem Sh.ext {C : Addr} {H H' : Hp} {p : Addr} {a b : Int} (h : Sh C H p a b) (s : Same H H') : Sh C H' p a b := by
  obtain ⟨dx, e⟩ := h
  exact ⟨dx, s _ _ e⟩
section
variable {P : Program} {w : World} {K : PySem.W.Frag} {mg : Str → Option Value} {base : Heap}
theorem okd {CX : CXT} {k : Nat} {p : Pl} {x q : Str} {st : Stmt} {fd : FuncData} {ps : List Str} {sp : Sp} (F : FnD K p x q st fd) (ok : FnOk P w K mg base CX k (He.fAd K p) fd ps sp)
    (h : ∀ (kV doc pm : Value) (an : Option Addr) (cdv ct : Value) (us : List Value), us.length = ps.length → bindArgs (PySem.W.fnOf x q (defArgs st) (defBody st) (defScope st) .none kV doc pm an cdv ct) ⟨us, []⟩ = pure (ps.zip us)) : OkD P w K mg base CX k p ps [] sp :=
  ⟨⟨fd, [], ok, FunD.bindsN F h, .nil⟩, F.kp⟩
abbrev s_is_integer : Stmt := top 6
theorem sc_is_integer : FnScope ["x"] ["x"] (defScope s_is_integer) := ⟨rfl, rfl, rfl, by decide +kernel, rfl, by decide +kernel, by decide +kernel⟩
-- slots: 0 x
theorem ok_is_integer {fd : FuncData} (F : FnD K ("is_integer", none) "is_integer" "is_integer" s_is_integer fd) (T : Txt K mg) : OkF P w K mg base CX0 1 "is_integer" ["x"] spIsInt := by
  refine okd F (F.ok sc_is_integer (fun vs H Q E h => ?_) fun cdv A outer s H vs Q E hr h => ⟨t_isint K, PSs.nox ?_, run_isint h⟩) fun _ _ _ _ _ _ us hl => match us, hl with | [_], _ => rfl
  · obtain ⟨x, rfl, _⟩ := h
    rfl
  · exact (pss_one (ps_ret (pe_and (pe_callB call_isi (by rfl) T.z_isinstance (by decide +kernel) (pa_cons (pv 0) (pa_cons (pe_ty T.z_int (by decide +kernel)) pa_nil))) (pe_one (pe_not (pe_callB call_isi (by rfl) T.z_isinstance (by decide +kernel) (pa_cons (pv 0) (pa_cons (pe_ty T.z_bool (by decide +kernel)) pa_nil))))))))
abbrev s_law_is_integer : Stmt := top 14
theorem sc_law_is_integer : FnScope ["_law_value"] ["_law_value"] (defScope s_law_is_integer) := ⟨rfl, rfl, rfl, by decide +kernel, rfl, by decide +kernel, by decide +kernel⟩
-- slots: 0 _law_value
theorem ok_law_is_integer {fd : FuncData} (F : FnD K ("_law_is_integer", none) "_law_is_integer" "_law_is_integer" s_law_is_integer fd) (T : Txt K mg) : OkF P w K mg base CX0 1 "_law_is_integer" ["_law_value"] spIsInt := by
  refine okd F (F.ok sc_law_is_integer (fun vs H Q E h => ?_) fun cdv A outer s H vs Q E hr h => ⟨t_isint K, PSs.nox ?_, run_isint h⟩) fun _ _ _ _ _ _ us hl => match us, hl with | [_], _ => rfl
  · obtain ⟨x, rfl, _⟩ := h
    rfl
  · exact (pss_one (ps_ret (pe_and (pe_callB call_isi (by rfl) T.z_isinstance (by decide +kernel) (pa_cons (pv 0) (pa_cons (pe_ty T.z_int (by decide +kernel)) pa_nil))) (pe_one (pe_not (pe_callB call_isi (by rfl) T.z_isinstance (by decide +kernel) (pa_cons (pv 0) (pa_cons (pe_ty T.z_bool (by decide +kernel)) pa_nil))))))))
abbrev s_law_take : Stmt := top 13
theorem sc_law_take : FnScope ["_law_draw", "_law_size", "_law_taken"] ["_law_draw", "_law_size"] (defScope s_law_take) := ⟨rfl, rfl, rfl, by decide +kernel, rfl, by decide +kernel, by decide +kernel⟩
-- slots: 0 _law_draw, 1 _law_size, 2 _law_taken
theorem ok_law_take {fd : FuncData} (F : FnD K ("_law_take", none) "_law_take" "_law_take" s_law_take fd) (T : Txt K mg) : OkF P w K mg base CX0 1 "_law_take" ["_law_draw", "_law_size"] spTake := by
  refine okd F (F.ok sc_law_take (fun vs H Q E h => ?_) fun cdv A outer s H vs Q E hr h => ?_) fun _ _ _ _ _ _ us hl => match us, hl with | [_, _], _ => rfl
  · obtain ⟨d, n, s, rfl, _⟩ := h
    rfl
  · obtain ⟨d, n, s, rfl, hd, s0, s1, q⟩ := h
    refine ⟨_, PSs.nox (pss_cons (ps_set (i := 2) sc_law_take.nd rfl (Or.inl rfl) (pe_op op_mod (pe_callTy call_int1 (by rfl) T.z_int (by decide +kernel) (pa_cons (pe_ix ix_list (pv 0) pe_int (fun _ _ => rfl)) pa_nil)) (pv 1)))
  (pss_cons (ps_asg (pe_op op_fdiv (pe_ix ix_list (pv 0) pe_int (fun _ _ => rfl)) (pv 1)) (pg_sub (pv 0) pe_int set_list))
  (pss_one (ps_ret (pv 2))))), ?_⟩
    refine ⟨_, rfl, d, [.int n], 0, .int n, rfl, rfl, SqL.of hd, atI0, .inl ⟨n, rfl, _, rfl, n, s, rfl, rfl, s0, ?_⟩⟩
    refine ⟨_, rfl, d, [.int n], 0, .int n, rfl, rfl, SqL.of hd, atI0, _, rfl, n, s, rfl, rfl, ⟨s0, s1⟩, ?_⟩
    refine ⟨_, rfl, d, [.int n], 0, 0, rfl, rfl, hd, ixN0, _, rfl, ?_⟩
    exact q (n % s) (n / s) (Int.emod_nonneg n (by omega)) (Int.emod_lt_of_pos n s0)
abbrev s_law_cell : Stmt := top 12
theorem sc_law_cell : FnScope ["_law_script", "_law_k", "_law_cell_here", "_law_number", "_law_total", "_law_step"] ["_law_script", "_law_k"] (defScope s_law_cell) := ⟨rfl, rfl, rfl, by decide +kernel, rfl, by decide +kernel, by decide +kernel⟩
-- slots: 0 _law_script, 1 _law_k, 2 _law_cell_here, 3 _law_number, 4 _law_total, 5 _law_step
theorem ok_law_cell {fd : FuncData} (F : FnD K ("_law_cell", none) "_law_cell" "_law_cell" s_law_cell fd) (T : Txt K mg) : OkF P w K mg base CX0 1 "_law_cell" ["_law_script", "_law_k"] (Vf.spCell K) := by
  refine okd F (F.ok sc_law_cell (fun vs H Q E h => ?_) fun cdv A outer s H vs Q E hr h => ?_) fun _ _ _ _ _ _ us hl => match us, hl with | [_, _], _ => rfl
  · obtain ⟨l, ns, j, rfl, _⟩ := h
    rfl
  · obtain ⟨l, ns, j, rfl, hS, hj, q⟩ := h
    refine ⟨_, PSs.nox (pss_cons (ps_set (i := 2) sc_law_cell.nd rfl (Or.inl rfl) pe_int)
  (C8.pss_cut (ps_if (pt_cmpR op_lt (pv 1) (pe_callB call_len_seq (by rfl) T.z_len (by decide +kernel) (pa_cons (pv 0) pa_nil)) (nomark _)) (pss_one (ps_set (i := 2) sc_law_cell.nd rfl (Or.inl rfl) (pe_ix ix_list (pv 0) (pv 1) (fun _ _ => rfl))))
  pss_nil)
  (pss_cons (ps_if (pt_cmpR op_ge (pv 2) (pe_op op_pow pe_int pe_int) (nomark _)) (pss_one (ps_ret (pv 2)))
  pss_nil)
  (pss_cons (ps_set (i := 3) sc_law_cell.nd rfl (Or.inl rfl) (pe_op op_mod (pe_callTy call_int1 (by rfl) T.z_int (by decide +kernel) (pa_cons (pe_op op_add (pe_op op_add (pe_op op_mul (pv 2) pe_int) (pe_op op_mul (pv 1) pe_int)) pe_int) pa_nil)) pe_int))
  (pss_cons (ps_set (i := 4) sc_law_cell.nd rfl (Or.inl rfl) pe_int)
  (pss_cons (ps_for PassesOwn.never rfl (pi_range1 rfl T.z_range (pa_cons pe_int pa_nil)) (pg_name (i := 5) sc_law_cell.nd rfl (Or.inl rfl))
  (pss_cons (ps_set (i := 3) sc_law_cell.nd rfl (Or.inl rfl) (pe_op op_mod (pe_callTy call_int1 (by rfl) T.z_int (by decide +kernel) (pa_cons (pe_op op_add (pe_op op_add (pe_op op_mul (pv 3) pe_int) (pe_op op_mul (pv 5) pe_int)) pe_int) pa_nil)) pe_int))
  (pss_cons (ps_set (i := 3) sc_law_cell.nd rfl (Or.inl rfl) (pe_op op_mod (pe_callTy call_int1 (by rfl) T.z_int (by decide +kernel) (pa_cons (pe_op op_mul (pv 3) (pe_op op_add (pe_op op_fdiv (pv 3) pe_int) pe_int)) pa_nil)) pe_int))
  (pss_one (ps_set (i := 4) sc_law_cell.nd rfl (Or.inl rfl) (pe_op op_add (pe_op op_mul (pv 4) pe_int) (pv 3)))))))
  (pss_one (ps_ret (pv 4))))))))), ?_⟩
    refine ⟨fun σ' H' => H' = H ∧ ∃ c : Int, σ' = [some (.ref l), some (.int (j : Int)), some (.int c), none, none, none], ?_, ?_⟩
    · refine ⟨_, rfl, _, rfl, l, _, rfl, .inl hS, _, _, rfl, rfl, _, rfl, ite2 (fun hlt => ?_) fun _ => ⟨rfl, 0, rfl⟩⟩
      have hj2 : j < ns.length := by
        have := of_decide_eq_true hlt
        rw [List.length_map] at this
        omega
      refine ⟨_, rfl, _, rfl, l, _, (j : Int), .int ns[j], rfl, rfl, hS, atI_nat ?_, rfl, _, rfl⟩
      rw [List.getElem?_map, List.getElem?_eq_getElem hj2]
      rfl
    rintro σ' H' ⟨rfl, c, rfl⟩
    refine ⟨_, rfl, 10, 18, rfl, rfl, ⟨by decide, by decide, by decide⟩, _, _, rfl, rfl, _, rfl, ite2 (fun _ => ⟨_, rfl, q c⟩) fun _ => ?_⟩
    refine ⟨_, rfl, c, 7, rfl, rfl, .inr ⟨by decide, by decide⟩, _, rfl, (j : Int), 7919, rfl, rfl, .inr ⟨by decide, by decide⟩, _, _, rfl, rfl, _, _, rfl, rfl, .inl ⟨_, rfl, _, 2147483647, rfl, rfl, (by show (0 : Int) < 2147483647; decide), ?_⟩⟩
    refine ⟨8, rfl, by decide, by decide, for_range (lo := 0) (n := 8) (fun i σ H1 => H1 = H' ∧ ∃ (num tot : Int) (v : Option V), 0 ≤ num ∧ num < 2147483647 ∧ σ = [some (.ref l), some (.int (j : Int)), some (.int c), some (.int num), some (.int tot), v]) ?_ ?_ ?_⟩
    · exact ⟨rfl, _, 0, none, Int.emod_nonneg _ (by decide), Int.emod_lt_of_pos _ (by decide), rfl⟩
    · rintro i σ H1 hi ⟨rfl, num, tot, v, h0, h1, rfl⟩
      refine ⟨_, rfl, num, 48271, rfl, rfl, .inr ⟨by decide, by decide⟩, _, rfl, _, 30103, rfl, rfl, .inr ⟨by decide, by decide⟩, _, _, rfl, rfl, _, 11, rfl, rfl, .inl ⟨_, rfl, _, 2147483647, rfl, rfl, (by show (0 : Int) < 2147483647; decide), ?_⟩⟩
      have b0 := Int.emod_nonneg (num * 48271 + (0 + (i : Int)) * 30103 + 11) (b := 2147483647) (by decide)
      have b1 := Int.emod_lt_of_pos (num * 48271 + (0 + (i : Int)) * 30103 + 11) (b := 2147483647) (by decide)
      refine ⟨_, rfl, _, rfl, _, 1009, rfl, rfl, ⟨by decide, by decide⟩, _, 69621, rfl, rfl, _, _, rfl, rfl, .inl ⟨by omega, by omega⟩, .inl ⟨_, rfl, _, 2147483629, rfl, rfl, (by show (0 : Int) < 2147483629; decide), ?_⟩⟩
      refine ⟨_, rfl, tot, 2147483629, rfl, rfl, .inr ⟨by decide, by decide⟩, _, rfl, _, _, rfl, rfl, ?_⟩
      exact ⟨rfl, _, _, _, Int.emod_nonneg _ (by decide), Int.lt_trans (Int.emod_lt_of_pos _ (by decide)) (by decide), rfl⟩
    · rintro σ H1 ⟨rfl, num, tot, v, h0, h1, rfl⟩
      exact ⟨_, rfl, q tot⟩
abbrev s_law_gcd : Stmt := top 15
theorem sc_law_gcd : FnScope ["_law_one", "_law_two", "_law_a", "_law_b", "_law_k", "_law_rest"] ["_law_one", "_law_two"] (defScope s_law_gcd) := ⟨rfl, rfl, rfl, by decide +kernel, rfl, by decide +kernel, by decide +kernel⟩
-- slots: 0 _law_one, 1 _law_two, 2 _law_a, 3 _law_b, 4 _law_k, 5 _law_rest
def spGcd : Sp := fun vs H Q _ => ∃ a b : Int, vs = [.int a, .int b] ∧ Bit 249 b ∧ Q (.int ((Nat.gcd a.natAbs b.natAbs : Nat) : Int)) H
theorem abs_if (a : Int) : (if a < 0 then -a else a) = ((a.natAbs : Nat) : Int) := by split <;> omega
theorem ok_law_gcd {fd : FuncData} (F : FnD K ("_law_gcd", none) "_law_gcd" "_law_gcd" s_law_gcd fd) (T : Txt K mg) : OkF P w K mg base CX0 1 "_law_gcd" ["_law_one", "_law_two"] spGcd := by
  refine okd F (F.ok sc_law_gcd (fun vs H Q E h => ?_) fun cdv A outer s H vs Q E hr h => ?_) fun _ _ _ _ _ _ us hl => match us, hl with | [_, _], _ => rfl
  · obtain ⟨a, b, rfl, _⟩ := h
    rfl
  · obtain ⟨a, b, rfl, hb, q⟩ := h
    refine ⟨_, PSs.nox (pss_cons (ps_set (i := 2) sc_law_gcd.nd rfl (Or.inl rfl) (pe_callB call_abs (by rfl) T.z_abs (by decide +kernel) (pa_cons (pv 0) pa_nil)))
  (pss_cons (ps_set (i := 3) sc_law_gcd.nd rfl (Or.inl rfl) (pe_callB call_abs (by rfl) T.z_abs (by decide +kernel) (pa_cons (pv 1) pa_nil)))
  (pss_cons (ps_for PassesOwn.never rfl (pi_range1 rfl T.z_range (pa_cons pe_int pa_nil)) (pg_name (i := 4) sc_law_gcd.nd rfl (Or.inl rfl))
  (pss_cons (ps_if (pt_cmpR op_eq (pv 3) pe_int (nomark _)) (pss_one (ps_ret (pv 2)))
  pss_nil)
  (pss_cons (ps_set (i := 5) sc_law_gcd.nd rfl (Or.inl rfl) (pe_op op_mod (pe_callTy call_int1 (by rfl) T.z_int (by decide +kernel) (pa_cons (pv 2) pa_nil)) (pv 3)))
  (pss_cons (ps_set (i := 2) sc_law_gcd.nd rfl (Or.inl rfl) (pv 3))
  (pss_one (ps_set (i := 3) sc_law_gcd.nd rfl (Or.inl rfl) (pv 5)))))))
  (pss_one (ps_ret (pv 2)))))), ?_⟩
    refine ⟨_, rfl, a, rfl, _, rfl, b, rfl, ?_⟩
    refine ⟨500, rfl, by decide, by decide, for_range (lo := 0) (n := 500) (fun i σ H1 => H1 = H ∧ ∃ (x y : Nat) (v u : Option V), Eu (Nat.gcd a.natAbs b.natAbs) b.natAbs i x y ∧ σ = [some (.int a), some (.int b), some (.int (x : Int)), some (.int (y : Int)), v, u]) ?_ ?_ ?_⟩
    · refine ⟨rfl, a.natAbs, b.natAbs, none, none, Eu.start _ _, ?_⟩
      rw [← abs_if a, ← abs_if b]
      rfl
    · rintro i σ H1 hi ⟨rfl, x, y, v, u, hE, rfl⟩
      refine ⟨_, rfl, rfl, _, rfl, ite2 (fun h => ?_) fun h => ?_⟩
      · have hy : y = 0 := by
          have := of_decide_eq_true h
          injection this with this
          omega
        subst hy
        refine ⟨_, rfl, ?_⟩
        rw [hE.zero]
        exact q
      · have hy : y ≠ 0 := fun e => h (decide_eq_true (by rw [e]; rfl))
        refine ⟨_, rfl, .inl ⟨_, rfl, _, rfl, (x : Int), (y : Int), rfl, rfl, (by omega), ?_⟩⟩
        exact ⟨_, rfl, _, rfl, rfl, y, x % y, _, _, hE.step hy, rfl⟩
    · rintro σ H1 ⟨rfl, x, y, v, u, hE, rfl⟩
      refine ⟨_, rfl, ?_⟩
      rw [hE.last (Nat.lt_of_lt_of_le hb (Nat.pow_le_pow_right (by decide) (by decide)))]
      exact q
abbrev s_BadShare_init : Stmt := inClass (top 3) 0
theorem sc_BadShare_init : FnScope ["self", "part"] ["self", "part"] (defScope s_BadShare_init) := ⟨rfl, rfl, rfl, by decide +kernel, rfl, by decide +kernel, by decide +kernel⟩
-- slots: 0 self, 1 part
theorem ok_BadShare_init {fd : FuncData} (F : FnD K ("BadShare", some "__init__") "__init__" "BadShare.__init__" s_BadShare_init fd) : OkD P w K mg base CX0 1 ("BadShare", some "__init__") ["self", "part"] [] (spExI K (CB K) "part") := by
  refine okd F (F.ok sc_BadShare_init (fun vs H Q E h => ?_) fun cdv A outer s H vs Q E hr h => ⟨tOst K "part" (tVar 0) (tVar 1), PSs.nox ?_, run_exI h⟩) fun _ _ _ _ _ _ us hl => match us, hl with | [_, _], _ => rfl
  · obtain ⟨a, v, rfl, _⟩ := h
    rfl
  · exact pss_one (ps_ost (pv 0) (pv 1))
/-! ### Share -/
abbrev s_Share_init : Stmt := inClass (top 8) 0
theorem sc_Share_init : FnScope ["self", "top", "bottom", "common"] ["self", "top", "bottom"] (defScope s_Share_init) := ⟨rfl, rfl, rfl, by decide +kernel, rfl, by decide +kernel, by decide +kernel⟩
-- slots: 0 self, 1 top, 2 bottom, 3 common
def spShI (K : PySem.W.Frag) : Sp := fun vs H Q E => ∃ (p dx : Addr) (x y : V), vs = [.ref p, x, y] ∧ H p = some (.ins (CS K) dx []) ∧
  ((∃ t b : Int, x = .int t ∧ y = .int b ∧ b ≠ 0 ∧ Bit 4000 b ∧ Q .non (upd H p (.ins (CS K) dx (shf (nT t b) (nB t b))))) ∨
   (Odd H x ∧ ∀ d, H d = none → E (.ref (CB K)) (some d) (upd H d (.xd [("part", .str "top")]))) ∨
   (∃ t : Int, x = .int t ∧ (Odd H y ∨ y = .int 0) ∧ ∀ d, H d = none → E (.ref (CB K)) (some d) (upd H d (.xd [("part", .str "bottom")]))))
theorem ok_Share_init {fd : FuncData} (F : FunD K "__init__" "Share.__init__" (defArgs s_Share_init) (defBody s_Share_init) (defScope s_Share_init) [.int 1] [] (He.fAd K ("Share", some "__init__")) fd) (T : Txt K mg)
    (O_is_integer : OkF P w K mg base CX0 1 "is_integer" ["x"] spIsInt) (O_BadShare_init : OkD P w K mg base CX0 1 ("BadShare", some "__init__") ["self", "part"] [] (spExI K (CB K) "part")) :
    FnOk P w K mg base (L2.CX P w) 4 (He.fAd K ("Share", some "__init__")) fd ["self", "top", "bottom"] (spShI K) := by
  refine F.ok sc_Share_init (fun vs H Q E h => ?_) fun cdv A outer s H vs Q E hr h => ?_
  · obtain ⟨p, dx, x, y, rfl, _⟩ := h
    rfl
  · obtain ⟨p, dx, x, y, rfl, hp, h⟩ := h
    refine ⟨_, (pss_cons (ps_if (pt_not (pt_val (c_fn O_is_integer hr (by decide) T.g_is_integer pass0 (pa_cons (pv 1) pa_nil)))) (pss_one (c_raise T.x_BadShare O_BadShare_init hr (by decide) T.g_BadShare (takes_of rfl rfl rfl rfl) (pa_cons pe_str pa_nil)))
  pss_nil)
  (pss_cons (ps_if (PW.pt (pw_or (pt_not (pt_val (c_fn O_is_integer hr (by decide) T.g_is_integer pass0 (pa_cons (pv 2) pa_nil)))) (pw_or1 (pt_cmpR op_eq (pv 2) pe_int (nomark _))))) (pss_one (c_raise T.x_BadShare O_BadShare_init hr (by decide) T.g_BadShare (takes_of rfl rfl rfl rfl) (pa_cons pe_str pa_nil)))
  pss_nil)
  (pss_cons (ps_set (i := 3) sc_Share_init.nd rfl (Or.inl rfl) (pe_callBfun cr_gcd (by rfl) T.gcd (pa_cons (pv 1) (pa_cons (pv 2) pa_nil))))
  (C8.pss_cut (ps_if (pt_cmpR op_lt (pv 2) pe_int (nomark _)) (pss_one (ps_set (i := 3) sc_Share_init.nd rfl (Or.inl rfl) (pe_un un_neg (pv 3))))
  pss_nil)
  (pss_cons (ps_fld (pv 0) (pe_op op_fdivG (pv 1) (pv 3)) rfl)
  (pss_one (ps_fld (pv 0) (pe_op op_fdivG (pv 2) (pv 3)) rfl))))))), ?_⟩
    rcases h with ⟨t, b, rfl, rfl, hb, bb, q⟩ | ⟨o, k⟩ | ⟨t, rfl, o, k⟩
    · refine ⟨_, rfl, _, rfl, .inl ⟨⟨t, rfl⟩, true, rfl, iteF ?_⟩⟩
      refine ⟨_, rfl, _, rfl, .inl ⟨⟨b, rfl⟩, true, rfl, iteF ⟨_, rfl, rfl, _, rfl, ?_⟩⟩⟩
      rw [decide_eq_false (show ¬ (V.int b = V.int 0) from fun e => hb (V.int.inj e))]
      refine iteF ⟨_, rfl, _, rfl, t, b, rfl, ?_⟩
      refine ⟨fun σ' H' => H' = H ∧ σ' = [some (.ref p), some (.int t), some (.int b), some (.int (nC t b))], ?_, ?_⟩
      · refine ⟨_, rfl, b, 0, rfl, rfl, _, rfl, ite2 (fun h => ?_) fun h => ?_⟩
        · refine ⟨_, rfl, _, rfl, rfl, ?_⟩
          have e : nC t b = -(nG t b) := if_pos (of_decide_eq_true h)
          rw [e]
          rfl
        · refine ⟨rfl, ?_⟩
          have e : nC t b = nG t b := if_neg fun z => h (decide_eq_true z)
          rw [e]
          rfl
      rintro σ' H' ⟨rfl, rfl⟩
      have hc := nC_ne (t := t) hb
      have hl : (nC t b).natAbs.log2 < 9000 := by
        refine Bit.log (n := 4000) (Nat.lt_of_le_of_lt ?_ bb) (by decide) (by decide)
        rw [nC_abs]
        exact Nat.gcd_le_right _ (by omega)
      refine ⟨_, rfl, _, rfl, t, _, rfl, rfl, ⟨hc, hl⟩, _, rfl, p, _, dx, [], rfl, hp, T.c_Share, T.nT, (by show 0 < 1000; decide), ?_⟩
      refine ⟨_, rfl, _, rfl, b, _, rfl, rfl, ⟨hc, hl⟩, _, rfl, p, _, dx, _, rfl, upd_same, T.c_Share, T.nB, (by show 1 < 1000; decide), ?_⟩
      rw [upd_upd]
      exact q
    · refine ⟨_, rfl, _, rfl, .inr ⟨o, false, rfl, iteT ⟨_, rfl, fun d hd => k d hd⟩⟩⟩
    · refine ⟨_, rfl, _, rfl, .inl ⟨⟨t, rfl⟩, true, rfl, iteF ?_⟩⟩
      rcases o with o | rfl
      · exact ⟨_, rfl, _, rfl, .inr ⟨o, false, rfl, iteT (iteT ⟨_, rfl, fun d hd => k d hd⟩)⟩⟩
      · refine ⟨_, rfl, _, rfl, .inl ⟨⟨0, rfl⟩, true, rfl, iteF ⟨_, rfl, rfl, _, rfl, ?_⟩⟩⟩
        rw [decide_eq_true (rfl : V.int 0 = V.int 0)]
        exact iteT ⟨_, rfl, fun d hd => k d hd⟩
theorem O_Share2 {fd : FuncData} (F : FunD K "__init__" "Share.__init__" (defArgs s_Share_init) (defBody s_Share_init) (defScope s_Share_init) [.int 1] [] (He.fAd K ("Share", some "__init__")) fd) (G : FnOk P w K mg base (L2.CX P w) 4 (He.fAd K ("Share", some "__init__")) fd ["self", "top", "bottom"] (spShI K)) :
    OkD P w K mg base (L2.CX P w) 4 ("Share", some "__init__") ["self", "top", "bottom"] [] (spShI K) := by
  obtain ⟨ds, v, b⟩ := F.binds1 (ps := ["self", "top", "bottom"]) 3 1 (by decide) rfl fun T kV doc pm an cdv ct us its h1 h2 => match us, its, h1, h2 with | [_, _, _], [_], _, _ => ⟨_, rfl, rfl⟩
  exact ⟨⟨fd, ds, G, b, v⟩, F.kp⟩
theorem O_Share1 {fd : FuncData} (F : FunD K "__init__" "Share.__init__" (defArgs s_Share_init) (defBody s_Share_init) (defScope s_Share_init) [.int 1] [] (He.fAd K ("Share", some "__init__")) fd) (G : FnOk P w K mg base (L2.CX P w) 4 (He.fAd K ("Share", some "__init__")) fd ["self", "top", "bottom"] (spShI K)) :
    OkD P w K mg base (L2.CX P w) 4 ("Share", some "__init__") ["self", "top", "bottom"] [.int 1] (spShI K) := by
  obtain ⟨ds, v, b⟩ := F.binds1 (ps := ["self", "top", "bottom"]) 2 0 (by decide) rfl fun T kV doc pm an cdv ct us its h1 h2 => match us, its, h1, h2 with | [_, _], [_], _, _ => ⟨_, rfl, rfl⟩
  exact ⟨⟨fd, ds, G, b, v⟩, F.kp⟩
abbrev s_Share_floor : Stmt := inClass (top 8) 19
theorem sc_Share_floor : FnScope ["self"] ["self"] (defScope s_Share_floor) := ⟨rfl, rfl, rfl, by decide +kernel, rfl, by decide +kernel, by decide +kernel⟩
-- slots: 0 self
def spFloor (C : Addr) : Sp := fun vs H Q _ => ∃ (p : Addr) (a b : Int), vs = [.ref p] ∧ Sh C H p a b ∧ 0 < b ∧ Bit 4000 b ∧ Q (.int (a / b)) H
theorem ok_Share_floor {fd : FuncData} (F : FnD K ("Share", some "floor") "floor" "Share.floor" s_Share_floor fd) (T : Txt K mg) : OkD P w K mg base CX0 1 ("Share", some "floor") ["self"] [] (spFloor (CS K)) := by
  refine okd F (F.ok sc_Share_floor (fun vs H Q E h => ?_) fun cdv A outer s H vs Q E hr h => ?_) fun _ _ _ _ _ _ us hl => match us, hl with | [_], _ => rfl
  · obtain ⟨p, a, b, rfl, _⟩ := h
    rfl
  · obtain ⟨p, a, b, rfl, ⟨dx, hp⟩, h0, hb, q⟩ := h
    refine ⟨_, PSs.nox (pss_one (ps_ret (pe_op op_fdivW (pe_fld (pv 0) rfl) (pe_fld (pv 0) rfl)))), ?_⟩
    exact ⟨_, rfl, p, _, dx, _, _, rfl, hp, T.c_Share, T.nT, shf_top a b, _, rfl, p, _, dx, _, _, rfl, hp, T.c_Share, T.nB, shf_bottom a b, a, b, rfl, rfl, ⟨h0, hb.log (by decide) (by decide)⟩, q⟩
/-- str of a over b -/
def shStr (a b : Int) : Str := if b = 1 then toString a else Str.empty ++ toString a ++ "/" ++ toString b
def spStr (C : Addr) : Sp := fun vs H Q _ => ∃ (p : Addr) (a b : Int), vs = [.ref p] ∧ Sh C H p a b ∧ Bit 1000 a ∧ Bit 1000 b ∧ Q (.str (shStr a b)) H
theorem len_str {i : Int} (h : Bit 1000 i) : (toString i : Str).length ≤ 2000 := by
  have e := int_text_length_le (k := 1000) (by decide) (h.log (by decide) (Nat.le_refl _))
  rw [PySem.ofString_length]
  omega
theorem len_app (x y : Str) : (x ++ y).length = x.length + y.length := Array.size_append
theorem empty_app (x : Str) : Str.empty ++ x = x := by
  show Str.mk (#[] ++ x.cps) = x
  rw [Array.empty_append]
theorem len_slash : ("/" : Str).length = 1 := by decide +kernel
abbrev s_Share_str : Stmt := inClass (top 8) 17
theorem sc_Share_str : FnScope ["self"] ["self"] (defScope s_Share_str) := ⟨rfl, rfl, rfl, by decide +kernel, rfl, by decide +kernel, by decide +kernel⟩
-- slots: 0 self
theorem ok_Share_str {fd : FuncData} (F : FnD K ("Share", some "__str__") "__str__" "Share.__str__" s_Share_str fd) (T : Txt K mg) : OkD P w K mg base CX0 1 ("Share", some "__str__") ["self"] [] (spStr (CS K)) := by
  refine okd F (F.ok sc_Share_str (fun vs H Q E h => ?_) fun cdv A outer s H vs Q E hr h => ?_) fun _ _ _ _ _ _ us hl => match us, hl with | [_], _ => rfl
  · obtain ⟨p, a, b, rfl, _⟩ := h
    rfl
  · obtain ⟨p, a, b, rfl, ⟨dx, hp⟩, ha, hb, q⟩ := h
    have la : a.natAbs.log2 < 1920 := ha.log (by decide) (by decide)
    have lb : b.natAbs.log2 < 1920 := hb.log (by decide) (by decide)
    have l1 := len_str ha
    have l2 := len_str hb
    have hz : sizeLine = 16777216 := sizeLine_eq
    refine ⟨_, PSs.nox (pss_cons (ps_if (pt_cmpR op_eq (pe_fld (pv 0) rfl) pe_int (nomark _)) (pss_one (ps_ret (pe_callTy call_str_int (by rfl) T.z_str (by decide +kernel) (pa_cons (pe_fld (pv 0) rfl) pa_nil))))
  pss_nil)
  (pss_one (ps_ret (pe_joined (PJ.cons (pe_fmt (pe_fld (pv 0) rfl)) (PJ.cons pe_str (PJ.cons (pe_fmt (pe_fld (pv 0) rfl)) PJ.nil))))))), ?_⟩
    refine ⟨_, rfl, p, _, dx, _, _, rfl, hp, T.c_Share, T.nB, shf_bottom a b, rfl, _, rfl, ite2 (fun h => ?_) fun h => ?_⟩
    · have e : b = 1 := V.int.inj (of_decide_eq_true h)
      refine ⟨_, rfl, p, _, dx, _, _, rfl, hp, T.c_Share, T.nT, shf_top a b, a, rfl, la, ?_⟩
      have e2 : shStr a b = toString a := if_pos e
      rw [e2] at q
      exact q
    · have e : ¬ b = 1 := fun z => h (decide_eq_true (by rw [z]))
      refine ⟨_, rfl, p, _, dx, _, _, rfl, hp, T.c_Share, T.nT, shf_top a b, .inr ⟨a, rfl, la, _, rfl, ?_, _, rfl, ?_, _, rfl, p, _, dx, _, _, rfl, hp, T.c_Share, T.nB, shf_bottom a b, .inr ⟨b, rfl, lb, _, rfl, ?_, ?_⟩⟩⟩
      · rw [empty_app]
        omega
      · rw [len_app, empty_app, len_slash]
        omega
      · rw [len_app, len_app, empty_app, len_slash]
        omega
      · have e2 : shStr a b = Str.empty ++ toString a ++ "/" ++ toString b := if_neg e
        rw [e2] at q
        exact q
abbrev s_law_is_share : Stmt := top 16
theorem sc_law_is_share : FnScope ["_law_value", "_law_top", "_law_bottom"] ["_law_value", "_law_top", "_law_bottom"] (defScope s_law_is_share) := ⟨rfl, rfl, rfl, by decide +kernel, rfl, by decide +kernel, by decide +kernel⟩
-- slots: 0 _law_value, 1 _law_top, 2 _law_bottom
def spIsSh (C : Addr) : Sp := fun vs H Q _ => ∃ (p : Addr) (a b t u : Int), vs = [.ref p, .int t, .int u] ∧ Sh C H p a b ∧ Nf a b ∧ Bit 249 b ∧ Bit 4000 a ∧ Bit 4000 t ∧ Bit 4000 u ∧ a * u = t * b ∧ Q (.bl true) H
theorem ok_law_is_share {fd : FuncData} (F : FnD K ("_law_is_share", none) "_law_is_share" "_law_is_share" s_law_is_share fd) (T : Txt K mg) (O_law_is_integer : OkF P w K mg base CX0 1 "_law_is_integer" ["_law_value"] spIsInt) (O_law_gcd : OkF P w K mg base CX0 1 "_law_gcd" ["_law_one", "_law_two"] spGcd) :
    OkF P w K mg base CX0 2 "_law_is_share" ["_law_value", "_law_top", "_law_bottom"] (spIsSh (CS K)) := by
  refine okd F (F.ok sc_law_is_share (fun vs H Q E h => ?_) fun cdv A outer s H vs Q E hr h => ?_) fun _ _ _ _ _ _ us hl => match us, hl with | [_, _, _], _ => rfl
  · obtain ⟨p, a, b, t, u, rfl, _⟩ := h
    rfl
  · obtain ⟨p, a, b, t, u, rfl, ⟨dx, hp⟩, nf, hb, ha, hT, hu, he, q⟩ := h
    refine ⟨_, PSs.nox (pss_cons (ps_if (PW.pt (pw_or (pt_not (pt_val (pe_callB call_isi (by rfl) T.z_isinstance (by decide +kernel) (pa_cons (pv 0) (pa_cons (pe_cl T.g_Share) pa_nil))))) (pw_or (pt_not (pt_val (c_fn O_law_is_integer hr (by decide) T.g_law_is_integer pass0 (pa_cons (pe_fld (pv 0) rfl) pa_nil)))) (pw_or1 (pt_not (pt_val (c_fn O_law_is_integer hr (by decide) T.g_law_is_integer pass0 (pa_cons (pe_fld (pv 0) rfl) pa_nil)))))))) (pss_one (ps_ret pe_bl))
  pss_nil)
  (pss_cons (ps_if (PW.pt (pw_or (pt_cmpR op_lt (pe_fld (pv 0) rfl) pe_int (nomark _)) (pw_or1 (pt_cmpR op_ne (c_fn O_law_gcd hr (by decide) T.g_law_gcd pass0 (pa_cons (pe_fld (pv 0) rfl) (pa_cons (pe_fld (pv 0) rfl) pa_nil))) pe_int (nomark _))))) (pss_one (ps_ret pe_bl))
  pss_nil)
  (pss_one (ps_ret (pe_cmpR op_eq (pe_op op_mulW (pe_fld (pv 0) rfl) (pv 2)) (pe_op op_mulW (pv 1) (pe_fld (pv 0) rfl)) (nomark _)))))), ?_⟩
    have ft : (shf a b).lookup ("top" : Str) = some (.int a) := shf_top a b
    have fb : (shf a b).lookup ("bottom" : Str) = some (.int b) := shf_bottom a b
    refine ⟨_, rfl, .ref p, .ref (CS K), .ref (CS K), .ref (CS K), true, rfl, .own _, .base (.ins hp T.c_Share T.ha T.hn T.ht T.hm), T.k1, true, rfl, iteF ?_⟩
    refine ⟨_, rfl, p, _, dx, _, _, rfl, hp, T.c_Share, T.nT, ft, _, rfl, .inl ⟨⟨a, rfl⟩, true, rfl, iteF ?_⟩⟩
    refine ⟨_, rfl, p, _, dx, _, _, rfl, hp, T.c_Share, T.nB, fb, _, rfl, .inl ⟨⟨b, rfl⟩, true, rfl, iteF ?_⟩⟩
    have hb0 := nf.pos
    refine ⟨_, rfl, p, _, dx, _, _, rfl, hp, T.c_Share, T.nB, fb, b, 1, rfl, rfl, _, rfl, ite2 (fun h => absurd (of_decide_eq_true h) (by omega)) fun _ => ?_⟩
    refine ⟨_, rfl, p, _, dx, _, _, rfl, hp, T.c_Share, T.nT, ft, _, rfl, p, _, dx, _, _, rfl, hp, T.c_Share, T.nB, fb, a, b, rfl, hb, rfl, _, rfl, ?_⟩
    rw [nf.cop, decide_eq_true (show V.int ((1 : Nat) : Int) = V.int 1 from rfl)]
    refine iteF ⟨_, rfl, p, _, dx, _, _, rfl, hp, T.c_Share, T.nT, ft, _, rfl, a, u, rfl, rfl, ha.wm hu (by decide) (by decide) (by decide), _, rfl, _, rfl, p, _, dx, _, _, rfl, hp, T.c_Share, T.nB, fb, t, b, rfl, rfl, hT.wm hb (by decide) (by decide) (by decide), rfl, ?_⟩
    show Q (.bl (decide (V.int (a * u) = V.int (t * b)))) H
    rw [he, decide_eq_true (rfl : V.int (t * b) = V.int (t * b))]
    exact q
abbrev s_law_side : Stmt := top 17
theorem sc_law_side : FnScope ["_law_draw", "_law_cell_here"] ["_law_draw", "_law_cell_here"] (defScope s_law_side) := ⟨rfl, rfl, rfl, by decide +kernel, rfl, by decide +kernel, by decide +kernel⟩
-- slots: 0 _law_draw, 1 _law_cell_here
def spSide : Sp := fun vs H Q _ => ∃ (d : Addr) (n c : Int), vs = [.ref d, .int c] ∧ H d = some (.lst [.int n]) ∧ ∀ r m : Int, Bit 101 r → Q (.int r) (upd H d (.lst [.int m]))
theorem ok_law_side {fd : FuncData} (F : FnD K ("_law_side", none) "_law_side" "_law_side" s_law_side fd) (T : Txt K mg) (O_law_take : OkF P w K mg base CX0 1 "_law_take" ["_law_draw", "_law_size"] spTake) : OkF P w K mg base CX0 2 "_law_side" ["_law_draw", "_law_cell_here"] spSide := by
  refine okd F (F.ok sc_law_side (fun vs H Q E h => ?_) fun cdv A outer s H vs Q E hr h => ?_) fun _ _ _ _ _ _ us hl => match us, hl with | [_, _], _ => rfl
  · obtain ⟨d, n, c, rfl, _⟩ := h
    rfl
  · obtain ⟨d, n, c, rfl, hd, q⟩ := h
    refine ⟨_, PSs.nox (pss_cons (ps_if (pt_cmpR op_eq (c_fn O_law_take hr (by decide) T.g_law_take pass0 (pa_cons (pv 0) (pa_cons pe_int pa_nil))) pe_int (nomark _)) (pss_one (ps_ret (pe_op op_sub (pe_op op_mod (pe_callTy call_int1 (by rfl) T.z_int (by decide +kernel) (pa_cons (pv 1) pa_nil)) pe_int) pe_int)))
  pss_nil)
  (pss_one (ps_ret (pe_op op_sub (pe_op op_mod (pe_callTy call_int1 (by rfl) T.z_int (by decide +kernel) (pa_cons (pv 1) pa_nil)) (pe_op op_add (pe_op op_mul pe_int (pe_op op_pow pe_int pe_int)) pe_int)) (pe_op op_pow pe_int pe_int))))), ?_⟩
    refine ⟨_, rfl, d, n, 3, rfl, hd, by decide, by decide, fun r m r0 r1 => ⟨rfl, _, rfl, ite2 (fun _ => ?_) fun _ => ?_⟩⟩
    · refine ⟨_, rfl, .inl ⟨c, rfl, _, 13, rfl, rfl, (by show (0 : Int) < 13; decide), _, 6, rfl, rfl, q _ m ?_⟩⟩
      have h0 := Int.emod_nonneg c (b := 13) (by decide)
      have h1 := Int.emod_lt_of_pos c (b := 13) (by decide)
      unfold Bit
      have e : (2 : Nat) ^ 101 = 2535301200456458802993406410752 := by decide
      rw [e]
      show (c % 13 - 6).natAbs < _
      omega
    · refine ⟨_, rfl, .inl ⟨c, rfl, 10, 30, rfl, rfl, ⟨by decide, by decide, by decide⟩, 2, _, rfl, rfl, .inl ⟨by decide, by decide⟩, _, 1, rfl, rfl, _, _, rfl, rfl, (by show (0 : Int) < 2 * 10 ^ Int.toNat 30 + 1; decide), 10, 30, rfl, rfl, ⟨by decide, by decide, by decide⟩, _, _, rfl, rfl, q _ m ?_⟩⟩
      have h0 := Int.emod_nonneg c (b := 2000000000000000000000000000001) (by decide)
      have h1 := Int.emod_lt_of_pos c (b := 2000000000000000000000000000001) (by decide)
      unfold Bit
      have e : (2 : Nat) ^ 101 = 2535301200456458802993406410752 := by decide
      rw [e]
      show (c % 2000000000000000000000000000001 - 1000000000000000000000000000000).natAbs < _
      omega
abbrev s_law_text : Stmt := top 20
theorem sc_law_text : FnScope ["_law_top", "_law_bottom"] ["_law_top", "_law_bottom"] (defScope s_law_text) := ⟨rfl, rfl, rfl, by decide +kernel, rfl, by decide +kernel, by decide +kernel⟩
-- slots: 0 _law_top, 1 _law_bottom
def spTx : Sp := fun vs H Q _ => ∃ a b : Int, vs = [.int a, .int b] ∧ Bit 1000 a ∧ Bit 1000 b ∧ Q (.str (shStr a b)) H
theorem ok_law_text {fd : FuncData} (F : FnD K ("_law_text", none) "_law_text" "_law_text" s_law_text fd) (T : Txt K mg) : OkF P w K mg base CX0 1 "_law_text" ["_law_top", "_law_bottom"] spTx := by
  refine okd F (F.ok sc_law_text (fun vs H Q E h => ?_) fun cdv A outer s H vs Q E hr h => ?_) fun _ _ _ _ _ _ us hl => match us, hl with | [_, _], _ => rfl
  · obtain ⟨a, b, rfl, _⟩ := h
    rfl
  · obtain ⟨a, b, rfl, ha, hb, q⟩ := h
    have la : a.natAbs.log2 < 1920 := ha.log (by decide) (by decide)
    have lb : b.natAbs.log2 < 1920 := hb.log (by decide) (by decide)
    have l1 := len_str ha
    have l2 := len_str hb
    have hz : sizeLine = 16777216 := sizeLine_eq
    refine ⟨_, PSs.nox (pss_cons (ps_if (pt_cmpR op_eq (pv 1) pe_int (nomark _)) (pss_one (ps_ret (pe_callTy call_str_int (by rfl) T.z_str (by decide +kernel) (pa_cons (pv 0) pa_nil))))
  pss_nil)
  (pss_one (ps_ret (pe_op op_add_str (pe_op op_add_str (pe_callTy call_str_int (by rfl) T.z_str (by decide +kernel) (pa_cons (pv 0) pa_nil)) pe_str) (pe_callTy call_str_int (by rfl) T.z_str (by decide +kernel) (pa_cons (pv 1) pa_nil)))))), ?_⟩
    refine ⟨_, rfl, rfl, _, rfl, ite2 (fun h => ?_) fun h => ?_⟩
    · have e : b = 1 := V.int.inj (of_decide_eq_true h)
      refine ⟨_, rfl, a, rfl, la, ?_⟩
      have e2 : shStr a b = toString a := if_pos e
      rw [e2] at q
      exact q
    · have e : ¬ b = 1 := fun z => h (decide_eq_true (by rw [z]))
      refine ⟨_, rfl, a, rfl, la, _, _, rfl, rfl, ?_, _, rfl, b, rfl, lb, _, _, rfl, rfl, ?_, ?_⟩
      · rw [len_slash]
        omega
      · rw [len_app, len_slash]
        omega
      · have e2 : shStr a b = toString a ++ "/" ++ toString b := by
          unfold shStr
          rw [if_neg e, empty_app]
        rw [e2] at q
        exact q
theorem same_new {H : Hp} {p : Addr} {o : HO} (h : H p = none) : Same H (upd H p o) := fun b u e => by
  rw [upd_ne (ne_of_none e h)]
  exact e
theorem same_upd {H H' : Hp} {d : Addr} {o : HO} (s : Same H H') : Same (upd H d o) (upd H' d o) := fun b u e => by
  by_cases h : b = d
  · rw [h, upd_same] at e ⊢
    exact e
  · rw [upd_ne h] at e ⊢
    exact s _ _ e
theorem odd_upd {H : Hp} {x : V} {d : Addr} {ys zs : List V} (o : Odd H x) (hd : H d = some (.lst ys)) : Odd (L2.upd H d (.lst zs)) x := by
  cases o with
  | bl b => exact .bl b
  | non => exact .non
  | str z => exact .str z
  | @tup a xs h =>
    have n : a ≠ d := ne_of h hd (by intro q; cases q)
    exact .tup (by rw [upd_ne n]; exact h)
  | @lst a xs h =>
    by_cases n : a = d
    · rw [n]
      exact .lst upd_same
    · exact .lst (by rw [upd_ne n]; exact h)
  | @dic a kvs h =>
    have n : a ≠ d := ne_of h hd (by intro q; cases q)
    exact .dic (by rw [upd_ne n]; exact h)
abbrev s_law_odd : Stmt := top 18
theorem sc_law_odd : FnScope ["_law_draw"] ["_law_draw"] (defScope s_law_odd) := ⟨rfl, rfl, rfl, by decide +kernel, rfl, by decide +kernel, by decide +kernel⟩
-- slots: 0 _law_draw
def spOdd : Sp := fun vs H Q _ => ∃ (d : Addr) (n : Int), vs = [.ref d] ∧ H d = some (.lst [.int n]) ∧ ∀ (x : V) (m : Int) (H' : Hp), Odd H' x → Same (upd H d (.lst [.int m])) H' → Q x H'
theorem ok_law_odd {fd : FuncData} (F : FnD K ("_law_odd", none) "_law_odd" "_law_odd" s_law_odd fd) (T : Txt K mg) (O_law_take : OkF P w K mg base CX0 1 "_law_take" ["_law_draw", "_law_size"] spTake) : OkF P w K mg base CX0 2 "_law_odd" ["_law_draw"] spOdd := by
  refine okd F (F.ok sc_law_odd (fun vs H Q E h => ?_) fun cdv A outer s H vs Q E hr h => ?_) fun _ _ _ _ _ _ us hl => match us, hl with | [_], _ => rfl
  · obtain ⟨d, n, rfl, _⟩ := h
    rfl
  · obtain ⟨d, n, rfl, hd, k⟩ := h
    refine ⟨_, PSs.nox (pss_one (ps_ret (pe_ix ix_list (pe_lst (pa_cons pe_bl (pa_cons pe_non (pa_cons pe_str (pa_cons (pe_tup (pa_cons pe_int (pa_cons pe_int pa_nil))) (pa_cons (pe_lst (pa_cons pe_int pa_nil)) (pa_cons pe_dnewK (pa_cons pe_bl (pa_cons pe_str (pa_cons (pe_tup pa_nil) pa_nil)))))))))) (c_fn O_law_take hr (by decide) T.g_law_take pass0 (pa_cons (pv 0) (pa_cons pe_int pa_nil))) (fun _ _ => rfl)))), ?_⟩
    refine ⟨(by show 2 ≤ sizeLine; decide), fun p1 n1 => ⟨(by show 1 ≤ sizeLine; decide), fun p2 n2 => fun p3 n3 => ⟨(by show 0 ≤ sizeLine; decide), fun p4 n4 => ⟨(by show 9 ≤ sizeLine; decide), fun p5 n5 => ?_⟩⟩⟩⟩
    have e1 := same_new (o := .tup [.int 1, .int 2]) n1
    have e2 := same_new (o := .lst [.int 3]) n2
    have e3 := same_new (o := .dK []) n3
    have e4 := same_new (o := .tup []) n4
    have e5 := same_new (o := .lst [.bl true, .non, .str "3", .ref p1, .ref p2, .ref p3, .bl false, .str "", .ref p4]) n5
    have e35 := e4.trans e5
    have e25 := e3.trans e35
    have e15 := e2.trans e25
    have e05 := e1.trans e15
    have u1 := e15 _ _ (upd_same (H := H) (a := p1) (o := .tup [.int 1, .int 2]))
    refine ⟨_, rfl, d, n, 9, rfl, e05 _ _ hd, by decide, by decide, fun r m r0 r1 => ?_⟩
    have k2 : ∀ x, Odd (upd _ d (.lst [.int m])) x → Q x _ := fun x o => k x m _ o (same_upd e05)
    have hd1 := e1 _ _ hd
    have np : p5 ≠ d := (ne_of_none ((e1.trans (e2.trans (e3.trans e4))) _ _ hd) n5).symm
    have hl5 := upd_same (H := upd (upd (upd (upd H p1 (.tup [.int 1, .int 2])) p2 (.lst [.int 3])) p3 (.dK [])) p4 (.tup [])) (a := p5) (o := .lst [.bl true, .non, .str "3", .ref p1, .ref p2, .ref p3, .bl false, .str "", .ref p4])
    have hsq : ∀ (m : Int), (upd (upd (upd (upd (upd (upd H p1 (.tup [.int 1, .int 2])) p2 (.lst [.int 3])) p3 (.dK [])) p4 (.tup [])) p5 (.lst [.bl true, .non, .str "3", .ref p1, .ref p2, .ref p3, .bl false, .str "", .ref p4])) d (.lst [.int m])) p5 = some (.lst [.bl true, .non, .str "3", .ref p1, .ref p2, .ref p3, .bl false, .str "", .ref p4]) := fun m => by
      rw [upd_ne np]
      exact hl5
    have fin : ∀ (j : Nat) (x : V), r = (j : Int) → ([.bl true, .non, .str "3", .ref p1, .ref p2, .ref p3, .bl false, .str "", .ref p4] : List V)[j]? = some x → Odd (upd (upd (upd (upd (upd H p1 (.tup [.int 1, .int 2])) p2 (.lst [.int 3])) p3 (.dK [])) p4 (.tup [])) p5 (.lst [.bl true, .non, .str "3", .ref p1, .ref p2, .ref p3, .bl false, .str "", .ref p4])) x → _ := fun j x hj hx o =>
      (⟨p5, _, r, x, rfl, rfl, SqL.of (hsq m), by rw [hj]; exact atI_nat hx, k2 x (odd_upd o (e05 _ _ hd))⟩ : rIxL K (.ref p5) (.int r) (upd (upd (upd (upd (upd (upd H p1 (.tup [.int 1, .int 2])) p2 (.lst [.int 3])) p3 (.dK [])) p4 (.tup [])) p5 (.lst [.bl true, .non, .str "3", .ref p1, .ref p2, .ref p3, .bl false, .str "", .ref p4])) d (.lst [.int m])) Q)
    have hr9 : r = 0 ∨ r = 1 ∨ r = 2 ∨ r = 3 ∨ r = 4 ∨ r = 5 ∨ r = 6 ∨ r = 7 ∨ r = 8 := by omega
    rcases hr9 with h | h | h | h | h | h | h | h | h
    · exact fin 0 _ h rfl (.bl true)
    · exact fin 1 _ h rfl .non
    · exact fin 2 _ h rfl (.str _)
    · exact fin 3 _ h rfl (.tup u1)
    · exact fin 4 _ h rfl (.lst (e25 _ _ upd_same))
    · exact fin 5 _ h rfl (.dic (e35 _ _ upd_same))
    · exact fin 6 _ h rfl (.bl false)
    · exact fin 7 _ h rfl (.str _)
    · exact fin 8 _ h rfl (.tup (e5 _ _ upd_same))
abbrev s_law_made : Stmt := top 19
theorem sc_law_made : FnScope ["_law_top", "_law_bottom", "_law_share", "_law_outcome", "e"] ["_law_top", "_law_bottom"] (defScope s_law_made) := ⟨rfl, rfl, rfl, by decide +kernel, rfl, by decide +kernel, by decide +kernel⟩
-- slots: 0 _law_top, 1 _law_bottom, 2 _law_share, 3 _law_outcome, 4 e
def spMade (K : PySem.W.Frag) : Sp := fun vs H Q _ => ∃ x y : V, vs = [x, y] ∧
  ((∃ t b : Int, x = .int t ∧ y = .int b ∧ b ≠ 0 ∧ Bit 4000 b ∧ ∀ (H' : Hp) (o p : Addr), Same H H' → H' o = some (.tup [.str "made", .ref p]) → Sh (CS K) H' p (nT t b) (nB t b) → Q (.ref o) H') ∨
   (Odd H x ∧ ∀ (H' : Hp) (o : Addr), Same H H' → H' o = some (.tup [.str "refused", .str "top", .bl true, .bl false]) → Q (.ref o) H') ∨
   (∃ t : Int, x = .int t ∧ (Odd H y ∨ y = .int 0) ∧ ∀ (H' : Hp) (o : Addr), Same H H' → H' o = some (.tup [.str "refused", .str "bottom", .bl true, .bl false]) → Q (.ref o) H'))
theorem same_make {H : Hp} {x dx : Addr} {o1 o2 : HO} (nx : H x = none) (ndx : H dx = none) : Same H (upd (upd H dx o1) x o2) := fun b o e => by
  rw [upd_ne (ne_of_none e nx), upd_ne (ne_of_none e ndx)]
  exact e
theorem ok_law_made {fd : FuncData} (F : FnD K ("_law_made", none) "_law_made" "_law_made" s_law_made fd) (T : Txt K mg) (O_Share_init2 : OkD P w K mg base (L2.CX P w) 4 ("Share", some "__init__") ["self", "top", "bottom"] [] (spShI K)) : OkF P w K mg base CX0 6 "_law_made" ["_law_top", "_law_bottom"] (spMade K) := by
  refine okd F (F.ok sc_law_made (fun vs H Q E h => ?_) fun cdv A outer s H vs Q E hr h => ?_) fun _ _ _ _ _ _ us hl => match us, hl with | [_, _], _ => rfl
  · obtain ⟨x, y, rfl, _⟩ := h
    rfl
  · obtain ⟨x, y, rfl, h⟩ := h
    refine ⟨_, PSs.nox (pss_cons (ps_try_as (i := 4) (Wout := fun _ _ _ _ => False) rfl rfl sc_law_made.nd rfl rfl ⟨rfl, by decide, Or.inl T.g_BadShare⟩ takes0 (fun W pn xe tk _ => (pss_cons (ps_set (i := 2) sc_law_made.nd rfl (Or.inl rfl) (c_mk T.m_Share O_Share_init2 hr (by decide) T.g_Share (passAny 5 tk) (pa_cons (pv 0) (pa_cons (pv 1) pa_nil))))
  (pss_one (ps_set (i := 3) sc_law_made.nd rfl (Or.inl rfl) (pe_tup (pa_cons pe_str (pa_cons (pv 2) pa_nil))))))) (fun a oe cls d pn hz hf => (pss_one (ps_set (i := 3) sc_law_made.nd rfl (Or.inl rfl) (pe_tup (pa_cons pe_str (pa_cons (pe_xf T.xf T.x_BadShare.n hz hf (pv 4)) (pa_cons (pe_callB (call_isiE rfl T.x_BadShare.d T.hn T.ht hz hf) (by rfl) T.z_isinstance (by decide +kernel) (pa_cons (pv 4) (pa_cons (pe_cl T.g_SeenError) pa_nil))) (pa_cons (pe_callB (call_isiE rfl T.x_BadShare.d T.hn T.ht hz hf) (by rfl) T.z_isinstance (by decide +kernel) (pa_cons (pv 4) (pa_cons (pe_cl T.g_NoShare) pa_nil))) pa_nil)))))))))
  (pss_one (ps_ret (pv 3)))), ?_⟩
    have lk : ∀ v : V, List.lookup ("part" : Str) [(("part" : Str), v)] = some v := fun v => by simp [List.lookup]
    rcases h with ⟨t, b, rfl, rfl, hb, bb, k⟩ | ⟨o, k⟩ | ⟨t, rfl, o, k⟩
    · refine ⟨_, rfl, _, rfl, fun p dx np ndx ne => ⟨p, dx, .int t, .int b, rfl, upd_same, .inl ⟨t, b, rfl, rfl, hb, bb, rfl, _, rfl, (by show 2 ≤ sizeLine; decide), fun o no => ⟨_, rfl, ?_⟩⟩⟩⟩
      have sm := same_make (o1 := .own p) (o2 := .ins (CS K) dx (shf (nT t b) (nB t b))) np ndx
      have sn := same_new (o := .tup [.str "made", .ref p]) no
      rw [upd_upd] at no sn ⊢
      exact k _ o p (sm.trans sn) upd_same ⟨dx, sn _ _ upd_same⟩
    · refine ⟨_, rfl, _, rfl, fun p dx np ndx ne => ⟨p, dx, x, y, rfl, upd_same, .inr (.inl ⟨o.ext (same_make np ndx), fun d hd σ hσ => ⟨true, T.te, fun _ a na => ?_, fun q => Bool.noConfusion q⟩⟩)⟩⟩
      have sm := (same_make (o1 := .own p) (o2 := .ins (CS K) dx []) np ndx).trans (same_new (o := .xd [("part", .str "top")]) hd)
      have s4 : (σ.set 4 (some (V.ref a)))[4]? = some (some (V.ref a)) := List.getElem?_set_self (by omega)
      refine ⟨_, s4, rfl, rfl, d, _, _, rfl, upd_same, lk _, _, s4, _, _, true, rfl, rfl, .own _, T.k2, ⟨d, _, rfl, upd_same⟩, _, s4, _, _, false, rfl, rfl, .own _, T.k3, ⟨d, _, rfl, upd_same⟩, (by show 4 ≤ sizeLine; decide), fun q nq => ⟨_, ?_, k _ q (sm.trans (same_new nq)) upd_same⟩⟩
      rw [List.getElem?_set_ne (by decide), List.getElem?_set_self (by rw [List.length_set]; omega)]
    · refine ⟨_, rfl, _, rfl, fun p dx np ndx ne => ⟨p, dx, .int t, y, rfl, upd_same, .inr (.inr ⟨t, rfl, o.imp (fun o => o.ext (same_make np ndx)) id, fun d hd σ hσ => ⟨true, T.te, fun _ a na => ?_, fun q => Bool.noConfusion q⟩⟩)⟩⟩
      have sm := (same_make (o1 := .own p) (o2 := .ins (CS K) dx []) np ndx).trans (same_new (o := .xd [("part", .str "bottom")]) hd)
      have s4 : (σ.set 4 (some (V.ref a)))[4]? = some (some (V.ref a)) := List.getElem?_set_self (by omega)
      refine ⟨_, s4, rfl, rfl, d, _, _, rfl, upd_same, lk _, _, s4, _, _, true, rfl, rfl, .own _, T.k2, ⟨d, _, rfl, upd_same⟩, _, s4, _, _, false, rfl, rfl, .own _, T.k3, ⟨d, _, rfl, upd_same⟩, (by show 4 ≤ sizeLine; decide), fun q nq => ⟨_, ?_, k _ q (sm.trans (same_new nq)) upd_same⟩⟩
      rw [List.getElem?_set_ne (by decide), List.getElem?_set_self (by rw [List.length_set]; omega)]
end
end K1

set_option Elab.async false
set_option linter.all false
set_option maxRecDepth 100000
set_option maxHeartbeats 2000000
namespace K1
open PySem PySem.Spec PyProof.Rows L2 Vf
section
variable {P : Program} {w : World} {K : PySem.W.Frag} {mg : Str → Option Value} {base : Heap}
abbrev s_law : Stmt := top 21
theorem sc_law : FnScope ["_law_script", "_law_draw", "_law_spoil", "_law_factor", "_law_top", "_law_bottom", "_law_part", "_law_outcome", "_law_share", "_law_low", "_law_shown"] ["_law_script"] (defScope s_law) := ⟨rfl, rfl, rfl, by decide +kernel, rfl, by decide +kernel, by decide +kernel⟩
-- slots: 0 _law_script, 1 _law_draw, 2 _law_spoil, 3 _law_factor, 4 _law_top, 5 _law_bottom, 6 _law_part, 7 _law_outcome, 8 _law_share, 9 _law_low, 10 _law_shown
def spLaw (K : PySem.W.Frag) : Sp := fun vs H Q _ => ∃ (a : Addr) (ns : List Int), vs = [.ref a] ∧ SqL K H a (ns.map V.int) ∧ ns.length ≤ 63 ∧ ∀ H', Q (.bl true) H'
theorem two10 : (2 : Nat) ^ 10 = 1024 := by decide
theorem nC_one (t : Int) : nC t 1 = 1 := by
  unfold nC nG
  rw [if_neg (by decide), show (1 : Int).natAbs = 1 from rfl, Nat.gcd_one_right]
  rfl
theorem nT_one (t : Int) : nT t 1 = t := by
  have h := nT_mul t 1
  rw [nC_one, Int.mul_one] at h
  exact h
theorem nB_one (t : Int) : nB t 1 = 1 := by
  have h := nB_mul t 1
  rw [nC_one, Int.mul_one] at h
  exact h
theorem bit_div {n : Nat} {a b : Int} (h : Bit n a) (hb : 0 < b) : Bit n (a / b) := by
  refine h.le ?_
  have h1 := Int.ediv_mul_le a (b := b) (by omega)
  have h2 := Int.lt_ediv_add_one_mul_self a hb
  rcases (show 0 ≤ a / b ∨ a / b < 0 by omega) with q | q
  · have : a / b * 1 ≤ a / b * b := Int.mul_le_mul_of_nonneg_left (by omega) q
    omega
  · have : (a / b + 1) * b ≤ (a / b + 1) * 1 := Int.mul_le_mul_of_nonpos_left (by omega) (by omega)
    omega
/-- where the draws have led: x over y is to be made, part is what is refused -/
def Due (H : Hp) (x y : V) (part : Str) : Prop :=
  (part = "" ∧ ∃ t b : Int, x = .int t ∧ y = .int b ∧ b ≠ 0 ∧ Bit 200 t ∧ Bit 200 b) ∨ (part = "bottom" ∧ ∃ t : Int, x = .int t ∧ (Odd H y ∨ y = .int 0)) ∨ (part = "top" ∧ Odd H x)
theorem ok_law {fd : FuncData} (F : FnD K ("law", none) "law" "law" s_law fd) (T : Txt K mg) (O_law_cell : OkF P w K mg base CX0 1 "_law_cell" ["_law_script", "_law_k"] (Vf.spCell K)) (O_law_take : OkF P w K mg base CX0 1 "_law_take" ["_law_draw", "_law_size"] spTake)
    (O_law_is_integer : OkF P w K mg base CX0 1 "_law_is_integer" ["_law_value"] spIsInt) (O_law_is_share : OkF P w K mg base CX0 2 "_law_is_share" ["_law_value", "_law_top", "_law_bottom"] (spIsSh (CS K))) (O_law_side : OkF P w K mg base CX0 2 "_law_side" ["_law_draw", "_law_cell_here"] spSide)
    (O_law_odd : OkF P w K mg base CX0 2 "_law_odd" ["_law_draw"] spOdd) (O_law_made : OkF P w K mg base CX0 6 "_law_made" ["_law_top", "_law_bottom"] (spMade K)) (O_law_text : OkF P w K mg base CX0 1 "_law_text" ["_law_top", "_law_bottom"] spTx)
    (O_Share_init1 : OkD P w K mg base (L2.CX P w) 4 ("Share", some "__init__") ["self", "top", "bottom"] [.int 1] (spShI K)) (O_Share_floor : OkD P w K mg base CX0 1 ("Share", some "floor") ["self"] [] (spFloor (CS K))) (O_Share_str : OkD P w K mg base CX0 1 ("Share", some "__str__") ["self"] [] (spStr (CS K))) :
    FnOk P w K mg base CX0 8 (He.fAd K ("law", none)) fd ["_law_script"] (spLaw K) := by
  refine F.ok sc_law (fun vs H Q E h => ?_) fun cdv A outer s H vs Q E hr h => ?_
  · obtain ⟨a, ns, rfl, _⟩ := h
    rfl
  · obtain ⟨a, ns, rfl, hS, hlen, k⟩ := h
    refine ⟨_, PSs.nox (pss_cons (ps_set (i := 1) sc_law.nd rfl (Or.inl rfl) (pe_lst (pa_cons (c_fn O_law_cell hr (by decide) T.g_law_cell pass0 (pa_cons (pv 0) (pa_cons pe_int pa_nil))) pa_nil)))
  (pss_cons (ps_set (i := 2) sc_law.nd rfl (Or.inl rfl) (c_fn O_law_take hr (by decide) T.g_law_take pass0 (pa_cons (pv 1) (pa_cons pe_int pa_nil))))
  (pss_cons (ps_set (i := 3) sc_law.nd rfl (Or.inl rfl) (pe_op op_add pe_int (pe_op op_mulW (c_fn O_law_take hr (by decide) T.g_law_take pass0 (pa_cons (pv 1) (pa_cons pe_int pa_nil))) (c_fn O_law_take hr (by decide) T.g_law_take pass0 (pa_cons (pv 1) (pa_cons pe_int pa_nil))))))
  (pss_cons (ps_set (i := 4) sc_law.nd rfl (Or.inl rfl) (pe_op op_mulW (c_fn O_law_side hr (by decide) T.g_law_side pass0 (pa_cons (pv 1) (pa_cons (c_fn O_law_cell hr (by decide) T.g_law_cell pass0 (pa_cons (pv 0) (pa_cons pe_int pa_nil))) pa_nil))) (pv 3)))
  (pss_cons (ps_set (i := 5) sc_law.nd rfl (Or.inl rfl) (pe_op op_mulW (c_fn O_law_side hr (by decide) T.g_law_side pass0 (pa_cons (pv 1) (pa_cons (c_fn O_law_cell hr (by decide) T.g_law_cell pass0 (pa_cons (pv 0) (pa_cons pe_int pa_nil))) pa_nil))) (pv 3)))
  (pss_cons (ps_set (i := 6) sc_law.nd rfl (Or.inl rfl) pe_str)
  (C8.pss_cut (ps_if (pt_cmpR op_eq (pv 5) pe_int (nomark _)) (pss_one (ps_set (i := 6) sc_law.nd rfl (Or.inl rfl) pe_str))
  pss_nil)
  (C8.pss_cut (ps_if (PW.pt (pw_or (pt_cmpR op_eq (pv 2) pe_int (nomark _)) (pw_or1 (pt_cmpR op_eq (pv 2) pe_int (nomark _))))) (pss_cons (ps_set (i := 5) sc_law.nd rfl (Or.inl rfl) (c_fn O_law_odd hr (by decide) T.g_law_odd pass0 (pa_cons (pv 1) pa_nil)))
  (pss_one (ps_set (i := 6) sc_law.nd rfl (Or.inl rfl) pe_str)))
  pss_nil)
  (C8.pss_cut (ps_if (PW.pt (pw_or (pt_cmpR op_eq (pv 2) pe_int (nomark _)) (pw_or1 (pt_cmpR op_eq (pv 2) pe_int (nomark _))))) (pss_cons (ps_set (i := 4) sc_law.nd rfl (Or.inl rfl) (c_fn O_law_odd hr (by decide) T.g_law_odd pass0 (pa_cons (pv 1) pa_nil)))
  (pss_one (ps_set (i := 6) sc_law.nd rfl (Or.inl rfl) pe_str)))
  pss_nil)
  (pss_cons (ps_set (i := 7) sc_law.nd rfl (Or.inl rfl) (c_fn O_law_made hr (by decide) T.g_law_made pass0 (pa_cons (pv 4) (pa_cons (pv 5) pa_nil))))
  (pss_cons (ps_if (pt_cmpR op_ne (pv 6) pe_str (nomark _)) (pss_one (ps_ret (pe_cmpR (op_eqD hr.units) (pv 7) (pe_tup (pa_cons pe_str (pa_cons (pv 6) (pa_cons pe_bl (pa_cons pe_bl pa_nil))))) (nomark _))))
  pss_nil)
  (pss_cons (ps_if (pt_cmpR op_ne (pe_ix ix_tup (pv 7) pe_int (fun _ _ => rfl)) pe_str (nomark _)) (pss_one (ps_ret pe_bl))
  pss_nil)
  (pss_cons (ps_set (i := 8) sc_law.nd rfl (Or.inl rfl) (pe_ix ix_tup (pv 7) pe_int (fun _ _ => rfl)))
  (pss_cons (ps_if (PW.pt (pw_or (pt_not (pt_val (c_fn O_law_is_share hr (by decide) T.g_law_is_share pass0 (pa_cons (pv 8) (pa_cons (pv 4) (pa_cons (pv 5) pa_nil)))))) (pw_or1 (pt_not (pt_val (c_fn O_law_is_share hr (by decide) T.g_law_is_share pass0 (pa_cons (c_mk T.m_Share O_Share_init1 hr (by decide) T.g_Share passL (pa_cons (pv 4) pa_nil)) (pa_cons (pv 4) (pa_cons pe_int pa_nil))))))))) (pss_one (ps_ret pe_bl))
  pss_nil)
  (pss_cons (ps_set (i := 9) sc_law.nd rfl (Or.inl rfl) (c_me0 rfl (pv 8) T.c_Share T.me_Share_floor O_Share_floor hr (by decide) pass0))
  (pss_cons (ps_if (PW.pt (pw_or (pt_not (pt_val (c_fn O_law_is_integer hr (by decide) T.g_law_is_integer pass0 (pa_cons (pv 9) pa_nil)))) (pw_or (pt_cmpR op_gt (pe_op op_mulW (pv 9) (pe_fld (pv 8) rfl)) (pe_fld (pv 8) rfl) (nomark _)) (pw_or1 (pt_cmpR op_le (pe_op op_mulW (pe_op op_add (pv 9) pe_int) (pe_fld (pv 8) rfl)) (pe_fld (pv 8) rfl) (nomark _)))))) (pss_one (ps_ret pe_bl))
  pss_nil)
  (pss_cons (ps_set (i := 10) sc_law.nd rfl (Or.inl rfl) (pe_callTy (call_strO rfl T.me_Share_str O_Share_str hr (by decide)) (by rfl) T.z_str (by decide +kernel) (pa_cons (pv 8) pa_nil)))
  (pss_one (ps_ret (pe_and (pe_cmpR op_eq (pv 10) (c_fn O_law_text hr (by decide) T.g_law_text pass0 (pa_cons (pe_fld (pv 8) rfl) (pa_cons (pe_fld (pv 8) rfl) pa_nil))) (nomark _)) (pe_one (pe_cmpR op_eq (pe_callTy (call_strO rfl T.me_Share_str O_Share_str hr (by decide)) (by rfl) T.z_str (by decide +kernel) (pa_cons (c_mk T.m_Share O_Share_init1 hr (by decide) T.g_Share passL (pa_cons (pv 4) pa_nil)) pa_nil)) (pe_callTy call_str_int (by rfl) T.z_str (by decide +kernel) (pa_cons (pv 4) pa_nil)) (nomark _))))))))))))))))))))))), ?_⟩
    refine ⟨_, rfl, a, ns, 0, rfl, hS, by decide, fun n0 => ⟨(by show 1 ≤ sizeLine; decide), fun d nd => ?_⟩⟩
    have hS2 : ∀ n : Int, SqL K (upd H d (.lst [.int n])) a (ns.map V.int) := fun n => (same_new nd).seq hS
    refine ⟨_, rfl, d, n0, 12, rfl, upd_same, by decide, by decide, fun sp m1 sp0 sp1 => ?_⟩
    rw [upd_upd]
    refine ⟨_, rfl, d, m1, 2, rfl, upd_same, by decide, by decide, fun f1 m2 g0 g1 => ?_⟩
    rw [upd_upd]
    refine ⟨_, rfl, d, m2, 1000, rfl, upd_same, by decide, by decide, fun f2 m3 g2 g3 => ⟨f1, f2, rfl, rfl, Bit.wm (n := 10) (m := 10) (by unfold Bit; rw [two10]; omega) (by unfold Bit; rw [two10]; omega) (by decide) (by decide) (by decide), 1, _, rfl, rfl, ?_⟩⟩
    rw [upd_upd]
    have f01 : f1 = 0 ∨ f1 = 1 := by omega
    have hfb : 1 ≤ 1 + f1 * f2 ∧ 1 + f1 * f2 ≤ 1000 := by
      rcases f01 with e | e
      · rw [e]
        omega
      · rw [e]
        omega
    have bfa : Bit 10 (1 + f1 * f2) := by
      unfold Bit
      have e := two10
      omega
    refine ⟨_, rfl, _, rfl, a, ns, 1, rfl, hS2 _, by decide, fun c1 => ⟨d, m3, c1, rfl, upd_same, fun r1 m4 b1 => ⟨_, rfl, r1, _, rfl, rfl, b1.wm bfa (by decide) (by decide) (by decide), ?_⟩⟩⟩
    rw [upd_upd]
    refine ⟨_, rfl, _, rfl, a, ns, 2, rfl, hS2 _, by decide, fun c2 => ⟨d, m4, c2, rfl, upd_same, fun r2 m5 b2 => ⟨_, rfl, r2, _, rfl, rfl, b2.wm bfa (by decide) (by decide) (by decide), ?_⟩⟩⟩
    rw [upd_upd]
    have bt : Bit 200 (r1 * (1 + f1 * f2)) := (b1.mul bfa).mono (by decide)
    have bb : Bit 200 (r2 * (1 + f1 * f2)) := (b2.mul bfa).mono (by decide)
    -- if bottom == 0
    refine ⟨fun σ' H' => ∃ (fa t b : Int) (part : Str), H' = upd H d (.lst [.int m5]) ∧ Due H' (.int t) (.int b) part ∧ σ' = [some (.ref a), some (.ref d), some (.int sp), some (.int fa), some (.int t), some (.int b), some (.str part), none, none, none, none], ?_, ?_⟩
    · refine ⟨_, rfl, rfl, _, rfl, ite2 (fun h => ?_) fun h => ?_⟩
      · have e := V.int.inj (of_decide_eq_true h)
        exact ⟨_, _, _, "bottom", rfl, .inr (.inl ⟨rfl, _, rfl, .inr (by rw [e])⟩), rfl⟩
      · have e : r2 * (1 + f1 * f2) ≠ 0 := fun z => h (decide_eq_true (congrArg V.int z))
        exact ⟨_, _, _, "", rfl, .inl ⟨rfl, _, _, rfl, rfl, e, bt, bb⟩, rfl⟩
    rintro σ' H' ⟨fa, t, b, part, hH, hD, rfl⟩
    -- if spoil == 1 or spoil == 2
    refine ⟨fun σ' H' => ∃ (y : V) (part : Str) (m : Int), H' d = some (.lst [.int m]) ∧ Due H' (.int t) y part ∧ σ' = [some (.ref a), some (.ref d), some (.int sp), some (.int fa), some (.int t), some y, some (.str part), none, none, none, none], ?_, ?_⟩
    · have hd5 : H' d = some (.lst [.int m5]) := by rw [hH]; exact upd_same
      refine ⟨_, rfl, rfl, _, rfl, ite2 (fun h => ?_) fun h => ⟨_, rfl, rfl, _, rfl, ite2 (fun h => ?_) fun h => ?_⟩⟩
      · exact ⟨_, rfl, d, m5, rfl, hd5, fun y m H2 o sm => ⟨y, "bottom", m, sm _ _ upd_same, .inr (.inl ⟨rfl, t, rfl, .inl o⟩), rfl⟩⟩
      · exact ⟨_, rfl, d, m5, rfl, hd5, fun y m H2 o sm => ⟨y, "bottom", m, sm _ _ upd_same, .inr (.inl ⟨rfl, t, rfl, .inl o⟩), rfl⟩⟩
      · exact ⟨.int b, part, m5, hd5, hD, rfl⟩
    rintro σ' H' ⟨y, part, m, hd, hD, rfl⟩
    -- if spoil == 2 or spoil == 3
    refine ⟨fun σ' H' => ∃ (x y : V) (part : Str), Due H' x y part ∧ σ' = [some (.ref a), some (.ref d), some (.int sp), some (.int fa), some x, some y, some (.str part), none, none, none, none], ?_, ?_⟩
    · refine ⟨_, rfl, rfl, _, rfl, ite2 (fun h => ?_) fun h => ⟨_, rfl, rfl, _, rfl, ite2 (fun h => ?_) fun h => ?_⟩⟩
      · exact ⟨_, rfl, d, m, rfl, hd, fun x m H2 o sm => ⟨x, y, "top", .inr (.inr ⟨rfl, o⟩), rfl⟩⟩
      · exact ⟨_, rfl, d, m, rfl, hd, fun x m H2 o sm => ⟨x, y, "top", .inr (.inr ⟨rfl, o⟩), rfl⟩⟩
      · exact ⟨.int t, y, part, hD, rfl⟩
    clear hD hd
    rintro σ' H' ⟨x, y, part, hD, rfl⟩
    have fin : ∀ (z : Str) (H2 : Hp) (o q : Addr), SeqAt.shaped (.tuple [.str "refused", .str z, .bool true, .bool false]) = true → H2 o = some (.tup [.str "refused", .str z, .bl true, .bl false]) → H2 q = none →
        rEqD K (.ref o) (.ref q) (upd H2 q (.tup [.str "refused", .str z, .bl true, .bl false])) Q := fun z H2 o q sh ho nq => by
      have nq2 : o ≠ q := ne_of_none ho nq
      have dp : DpAll K (upd H2 q (.tup [.str "refused", .str z, .bl true, .bl false])) [.str "refused", .str z, .bl true, .bl false] [.str "refused", .str z, .bool true, .bool false] := .cons (.str _) (.cons (.str _) (.cons (.bl _) (.cons (.bl _) .nil)))
      refine ⟨_, _, .tup (SqT.of (by rw [upd_ne nq2]; exact ho)) dp, .tup (SqT.of upd_same) dp, sh, sh, ?_⟩
      rw [SeqAt.eqv_refl _ (SeqAt.canLay_of_shaped sh)]
      exact k _
    rcases hD with ⟨rfl, t, b, rfl, rfl, hb, bt, bb⟩ | ⟨rfl, t, rfl, o⟩ | ⟨rfl, o⟩
    · refine ⟨_, rfl, _, rfl, _, _, rfl, .inl ⟨t, b, rfl, rfl, hb, bb.mono (by decide), fun H2 o p sm ho hp => ?_⟩⟩
      refine ⟨_, rfl, rfl, _, rfl, ?_⟩
      rw [decide_eq_true (show V.str "" = V.str "" from rfl)]
      refine iteF ?_
      have nf := nf_of t hb
      have ba : Bit 200 (nT t b) := bt.le nf.le1
      have bc : Bit 200 (nB t b) := bb.le nf.le2
      have hpos := nf.pos
      have nf1 := nf_of t (b := 1) (by decide)
      have ba1 : Bit 200 (nT t 1) := bt.le nf1.le1
      have one : ∀ n : Nat, Bit (n + 1) 1 := fun n => Nat.one_lt_two_pow (by omega)
      refine ⟨_, rfl, o, _, 0, .str "made", rfl, rfl, SqT.of ho, atI0, rfl, _, rfl, ?_⟩
      rw [decide_eq_true (show V.str "made" = V.str "made" from rfl)]
      refine iteF ⟨_, rfl, o, _, 1, .ref p, rfl, rfl, SqT.of ho, atI1, ?_⟩
      refine ⟨_, rfl, _, rfl, _, rfl, p, _, _, t, b, rfl, hp, nf.toNf, bc.mono (by decide), ba.mono (by decide), bt.mono (by decide), bb.mono (by decide), nf.eq, true, rfl, iteF ?_⟩
      refine ⟨_, rfl, fun p2 dx2 np ndx ne => ⟨p2, dx2, .int t, .int 1, rfl, upd_same, .inl ⟨t, 1, rfl, rfl, by decide, one _, rfl, _, rfl, p2, _, _, t, 1, rfl, ⟨dx2, upd_same⟩, nf1.toNf, (by rw [nB_one]; exact one _), ba1.mono (by decide), bt.mono (by decide), one _, nf1.eq, true, rfl, iteF ?_⟩⟩⟩
      have sm := same_make (o1 := .own p2) (o2 := .ins (CS K) dx2 (shf (nT t 1) (nB t 1))) np ndx
      rw [upd_upd]
      have hp3 := hp.ext sm
      generalize (upd (upd H2 dx2 (.own p2)) p2 (.ins (CS K) dx2 (shf (nT t 1) (nB t 1)))) = H3 at hp3 ⊢
      obtain ⟨dx, hp4⟩ := id hp3
      refine ⟨_, rfl, p, dx, _, rfl, hp4, shf_no _ _ (by decide +kernel) (by decide +kernel), p, _, _, rfl, hp3, hpos, bc.mono (by decide), ?_⟩
      have bl := bit_div ba hpos
      have ft := shf_top (nT t b) (nB t b)
      have fb := shf_bottom (nT t b) (nB t b)
      have h1 := Int.ediv_mul_le (nT t b) (b := nB t b) (by omega)
      have h2 := Int.lt_ediv_add_one_mul_self (nT t b) hpos
      refine ⟨_, rfl, _, rfl, .inl ⟨⟨_, rfl⟩, true, rfl, iteF ?_⟩⟩
      refine ⟨_, rfl, _, rfl, p, _, dx, _, _, rfl, hp4, T.c_Share, T.nB, fb, _, _, rfl, rfl, bl.wm bc (by decide) (by decide) (by decide), _, rfl, p, _, dx, _, _, rfl, hp4, T.c_Share, T.nT, ft, _, _, rfl, rfl, _, rfl, ite2 (fun h => absurd (of_decide_eq_true h) (by omega)) fun _ => ?_⟩
      refine ⟨_, rfl, _, 1, rfl, rfl, _, rfl, p, _, dx, _, _, rfl, hp4, T.c_Share, T.nB, fb, _, _, rfl, rfl, (bl.add (one 199)).wm bc (by decide) (by decide) (by decide), _, rfl, p, _, dx, _, _, rfl, hp4, T.c_Share, T.nT, ft, _, _, rfl, rfl, _, rfl, ite2 (fun h => absurd (of_decide_eq_true h) (by omega)) fun _ => ?_⟩
      refine ⟨_, rfl, p, dx, _, rfl, hp4, p, _, _, rfl, hp3, ba.mono (by decide), bc.mono (by decide), _, rfl, ?_⟩
      refine ⟨_, rfl, _, rfl, p, _, dx, _, _, rfl, hp4, T.c_Share, T.nT, ft, _, rfl, p, _, dx, _, _, rfl, hp4, T.c_Share, T.nB, fb, _, _, rfl, ba.mono (by decide), bc.mono (by decide), rfl, _, rfl, ?_⟩
      rw [decide_eq_true (rfl : V.str (shStr (nT t b) (nB t b)) = V.str (shStr (nT t b) (nB t b)))]
      refine iteT ⟨_, rfl, fun p5 dx5 np5 ndx5 ne5 => ⟨p5, dx5, .int t, .int 1, rfl, upd_same, .inl ⟨t, 1, rfl, rfl, by decide, one _, rfl, p5, dx5, _, rfl, upd_same, p5, _, _, rfl, ⟨dx5, upd_same⟩, ba1.mono (by decide), (by rw [nB_one]; exact one _), _, rfl, _, rfl, t, rfl, bt.log (by decide) (by decide), rfl, ?_⟩⟩⟩
      have e : shStr (nT t 1) (nB t 1) = toString t := by
        rw [nT_one, nB_one]
        exact if_pos rfl
      rw [e, decide_eq_true (rfl : V.str (toString t) = V.str (toString t))]
      exact k _
    · refine ⟨_, rfl, _, rfl, _, _, rfl, .inr (.inr ⟨t, rfl, o, fun H2 o sm ho => ?_⟩)⟩
      refine ⟨_, rfl, rfl, _, rfl, ?_⟩
      rw [decide_eq_false (show ¬ (V.str "bottom" = V.str "") from by decide +kernel)]
      refine iteT ?_
      exact ⟨_, rfl, _, rfl, (by show 4 ≤ sizeLine; decide), fun q nq => fin _ _ _ _ (by decide +kernel) ho nq⟩
    · refine ⟨_, rfl, _, rfl, _, _, rfl, .inr (.inl ⟨o, fun H2 o sm ho => ?_⟩)⟩
      refine ⟨_, rfl, rfl, _, rfl, ?_⟩
      rw [decide_eq_false (show ¬ (V.str "top" = V.str "") from by decide +kernel)]
      refine iteT ?_
      exact ⟨_, rfl, _, rfl, (by show 4 ≤ sizeLine; decide), fun q nq => fin _ _ _ _ (by decide +kernel) ho nq⟩
end
end K1

set_option Elab.async false
set_option linter.all false
set_option maxRecDepth 100000
set_option maxHeartbeats 0
namespace K1
open PySem PySem.Spec PyProof.Rows L2 Vf
def dd (x : Str) (st : Stmt) : He.DefD := ⟨(x, none), x, x, defArgs st, defBody st, defScope st, [], []⟩
def dm (C m q : Str) (st : Stmt) (dfl : List He.Dv := []) : He.DefD := ⟨(C, some m), m, q, defArgs st, defBody st, defScope st, dfl, []⟩
def fn : List He.DefD := [dd "is_integer" s_is_integer, dd "_law_is_integer" s_law_is_integer, dd "_law_take" s_law_take, dd "_law_cell" s_law_cell, dd "_law_gcd" s_law_gcd, dm "BadShare" "__init__" "BadShare.__init__" s_BadShare_init,
  dm "Share" "__init__" "Share.__init__" s_Share_init [.int 1], dm "Share" "floor" "Share.floor" s_Share_floor, dm "Share" "__str__" "Share.__str__" s_Share_str, dd "_law_is_share" s_law_is_share, dd "_law_side" s_law_side, dd "_law_text" s_law_text, dd "_law_odd" s_law_odd, dd "_law_made" s_law_made, dd "law" s_law]
def fa : List He.Fa := [.free "len", .free "int", .free "bool", .free "str", .free "range", .free "abs", .free "isinstance",
  .glo "is_integer", .glo "_law_cell", .glo "_law_take", .glo "_law_is_integer", .glo "_law_gcd", .glo "_law_is_share", .glo "_law_side", .glo "_law_odd", .glo "_law_made", .glo "_law_text", .glo "Share", .glo "SeenError", .glo "NoShare", .glo "BadShare", .glo "law",
  .cls "Share", .mkr "Share", .noat "Share" "top", .noat "Share" "bottom", .meth "Share" "floor", .meth "Share" "__str__"]
def ex (K : PySem.W.Frag) : Bool := (fa.all fun f => f.ok K) && (exI K "BadShare" "part" && (He.eqO (PySem.W.nsIn K mainGlobals "gcd") (some (some (.builtin "math.gcd"))) &&
  (He.eqO (PySem.W.specialIn K (.builtin "object.__class__") "__get__") (some (some (.builtin "getset_descriptor.__get__"))) && (decide (PySem.W.takesIn K (.builtin "object.__class__") = some true) && (He.eqO (PySem.W.findIn K (.ref (He.ga K "Share")) "__class__") (some (some (.builtin "object.__class__"))) &&
  (decide (PySem.W.mroIn K (He.ga K "Share") (.type "object") = some true) && (decide (PySem.W.kitOne K (.ref (He.ga K "Share")) (.ref (He.ga K "Share")) = some true) && (decide (PySem.W.kitOne K (.ref (He.ga K "BadShare")) (.ref (He.ga K "SeenError")) = some true) &&
  (decide (PySem.W.kitOne K (.ref (He.ga K "BadShare")) (.ref (He.ga K "NoShare")) = some false) && decide (PySem.W.exmOne K (.ref (He.ga K "BadShare")) (.ref (He.ga K "BadShare")) = some true))))))))))
abbrev R : PySem.W.OpenRow := PySem.W.OpenLaw.row PySem.Challenge.rw_seenshares_k01_share_lowest_terms
abbrev hk : PySem.W.Hook := hookM 5 ex fn
def ob (s : PySem.W.SharedT) : AlM := obsMG 5 ex fn (HandSHeadRun.getT s)
theorem ob_eq (s : PySem.W.SharedT) : ob s = hk.obs s.abs := obsMG_eq (HandSHeadRun.getT_eq s)
def names : List Str := ["SeenError", "BadShare", "NoShare", "is_integer", "Share", "is_number", "parts", "_law_cell", "_law_take", "_law_is_integer", "_law_gcd", "_law_is_share", "_law_side", "_law_odd", "_law_made", "_law_text"]
theorem run (w : World) : HandSHeadRun.RunEqI R (PySem.W.view R.prog [0, 21]) hk ob 100000 names w := by
  unfold HandSHeadRun.RunEqI
  kernel_rfl
end K1

set_option Elab.async false
set_option linter.all false
set_option maxRecDepth 100000
set_option maxHeartbeats 2000000
namespace K1
open PySem PySem.Spec PyProof.Rows L2 Vf
section
variable {K : PySem.W.Frag} {h : Heap} {mg : Str → Option Value}
theorem txt_of (X : K.In h) (G : h.Ns mainGlobals mg) (c : ex K = true) : Txt K mg := by
  obtain ⟨a, c⟩ := He.ba c
  have fact : ∀ (i : Nat) {f : He.Fa}, fa[i]? = some f → f.ok K = true := fun i f e => List.all_eq_true.mp a f (List.mem_of_getElem? e)
  obtain ⟨c1, c⟩ := He.ba c
  obtain ⟨c2, c⟩ := He.ba c
  obtain ⟨c3, c⟩ := He.ba c
  obtain ⟨c4, c⟩ := He.ba c
  obtain ⟨c5, c⟩ := He.ba c
  obtain ⟨c6, c⟩ := He.ba c
  obtain ⟨c7, c⟩ := He.ba c
  obtain ⟨c8, c⟩ := He.ba c
  obtain ⟨c9, c10⟩ := He.ba c
  exact
  { z_len := He.free_ok X G (fact 0 (f := .free "len") rfl)
    z_int := He.free_ok X G (fact 1 (f := .free "int") rfl)
    z_bool := He.free_ok X G (fact 2 (f := .free "bool") rfl)
    z_str := He.free_ok X G (fact 3 (f := .free "str") rfl)
    z_range := He.free_ok X G (fact 4 (f := .free "range") rfl)
    z_abs := He.free_ok X G (fact 5 (f := .free "abs") rfl)
    z_isinstance := He.free_ok X G (fact 6 (f := .free "isinstance") rfl)
    gcd := PySem.W.mg_of X G (He.eqO_ok c2)
    g_is_integer := He.glo_ok X G (fact 7 (f := .glo "is_integer") rfl)
    g_law_cell := He.glo_ok X G (fact 8 (f := .glo "_law_cell") rfl)
    g_law_take := He.glo_ok X G (fact 9 (f := .glo "_law_take") rfl)
    g_law_is_integer := He.glo_ok X G (fact 10 (f := .glo "_law_is_integer") rfl)
    g_law_gcd := He.glo_ok X G (fact 11 (f := .glo "_law_gcd") rfl)
    g_law_is_share := He.glo_ok X G (fact 12 (f := .glo "_law_is_share") rfl)
    g_law_side := He.glo_ok X G (fact 13 (f := .glo "_law_side") rfl)
    g_law_odd := He.glo_ok X G (fact 14 (f := .glo "_law_odd") rfl)
    g_law_made := He.glo_ok X G (fact 15 (f := .glo "_law_made") rfl)
    g_law_text := He.glo_ok X G (fact 16 (f := .glo "_law_text") rfl)
    g_Share := He.glo_ok X G (fact 17 (f := .glo "Share") rfl)
    g_SeenError := He.glo_ok X G (fact 18 (f := .glo "SeenError") rfl)
    g_NoShare := He.glo_ok X G (fact 19 (f := .glo "NoShare") rfl)
    g_BadShare := He.glo_ok X G (fact 20 (f := .glo "BadShare") rfl)
    c_Share := cls_of (fact 22 (f := .cls "Share") rfl)
    m_Share := mk_of (fact 23 (f := .mkr "Share") rfl)
    nT := noat_of (fact 24 (f := .noat "Share" "top") rfl)
    nB := noat_of (fact 25 (f := .noat "Share" "bottom") rfl)
    me_Share_floor := meth_of (fact 26 (f := .meth "Share" "floor") rfl)
    me_Share_str := meth_of (fact 27 (f := .meth "Share" "__str__") rfl)
    x_BadShare := exI_ok c1
    hn := He.eqO_ok c3
    ht := of_decide_eq_true c4
    ha := He.eqO_ok c5
    hm := of_decide_eq_true c6
    k1 := of_decide_eq_true c7
    k2 := of_decide_eq_true c8
    k3 := of_decide_eq_true c9
    te := of_decide_eq_true c10 }
theorem facts {P : Program} {w : World} {f : Addr} (X : K.In h) (G : h.Ns mainGlobals mg) (hfa : mg ("law" : Str) = some (.ref f)) (c : SaysM ex fn K) :
    ∃ fd : FuncData, (∀ (s : Shared) (v : Value), BindsTo s fd ⟨[v], []⟩ [("_law_script", v)]) ∧ ∀ base : Heap, K.In base → base.Ns mainGlobals mg → FnOk P w K mg base CX0 8 f fd ["_law_script"] (spLaw K) := by
  have T := txt_of X G c.ex
  obtain ⟨d0, F0⟩ := c.fn 0 (d := dd "is_integer" s_is_integer)
  obtain ⟨d1, F1⟩ := c.fn 1 (d := dd "_law_is_integer" s_law_is_integer)
  obtain ⟨d2, F2⟩ := c.fn 2 (d := dd "_law_take" s_law_take)
  obtain ⟨d3, F3⟩ := c.fn 3 (d := dd "_law_cell" s_law_cell)
  obtain ⟨d4, F4⟩ := c.fn 4 (d := dd "_law_gcd" s_law_gcd)
  obtain ⟨d5, F5⟩ := c.fn 5 (d := dm "BadShare" "__init__" "BadShare.__init__" s_BadShare_init)
  obtain ⟨d6, F6⟩ := c.fn 6 (d := dm "Share" "__init__" "Share.__init__" s_Share_init [.int 1])
  obtain ⟨d7, F7⟩ := c.fn 7 (d := dm "Share" "floor" "Share.floor" s_Share_floor)
  obtain ⟨d8, F8⟩ := c.fn 8 (d := dm "Share" "__str__" "Share.__str__" s_Share_str)
  obtain ⟨d9, F9⟩ := c.fn 9 (d := dd "_law_is_share" s_law_is_share)
  obtain ⟨d10, F10⟩ := c.fn 10 (d := dd "_law_side" s_law_side)
  obtain ⟨d11, F11⟩ := c.fn 11 (d := dd "_law_text" s_law_text)
  obtain ⟨d12, F12⟩ := c.fn 12 (d := dd "_law_odd" s_law_odd)
  obtain ⟨d13, F13⟩ := c.fn 13 (d := dd "_law_made" s_law_made)
  obtain ⟨d14, F14⟩ := c.fn 14 (d := dd "law" s_law)
  have hl : He.ga K "law" = f := by
    have e := He.glo_ok X G (List.all_eq_true.mp (He.ba c.ex).1 (.glo "law") (List.mem_of_getElem? (i := 21) rfl))
    rw [hfa] at e
    cases e
    rfl
  have b := FunD.bindsA (ps := ["_law_script"]) F14 fun _ _ _ _ _ _ us hl => match us, hl with | [_], _ => rfl
  refine ⟨d14, fun s v => b s [v] rfl, fun base _ _ => ?_⟩
  have O0 := ok_is_integer (P := P) (w := w) (base := base) F0 T
  have O1 := ok_law_is_integer (P := P) (w := w) (base := base) F1 T
  have O2 := ok_law_take (P := P) (w := w) (base := base) F2 T
  have O3 := ok_law_cell (P := P) (w := w) (base := base) F3 T
  have O4 := ok_law_gcd (P := P) (w := w) (base := base) F4 T
  have O5 := ok_BadShare_init (P := P) (w := w) (mg := mg) (base := base) F5
  have G6 := ok_Share_init F6 T O0 O5
  have O7 := ok_Share_floor (P := P) (w := w) (base := base) F7 T
  have O8 := ok_Share_str (P := P) (w := w) (base := base) F8 T
  have r := ok_law F14 T O3 O2 O1 (ok_law_is_share F9 T O1 O4) (ok_law_side F10 T O2) (ok_law_odd F12 T O2) (ok_law_made F13 T (O_Share2 F6 G6)) (ok_law_text F11 T) (O_Share1 F6 G6) O7 O8
  rw [← hl]
  exact r
end
end K1
open PySem PySem.W PySem.Calls PyProof.Rows
theorem PySem.Challenge.cw_seenshares_k01_share_lowest_terms_holds : PySem.Challenge.rw_seenshares_k01_share_lowest_terms.Holds := by
  w_on; o_law
  refine HandSHeadRun.head_imp (r := OpenLaw.row PySem.Challenge.rw_seenshares_k01_share_lowest_terms) (q := view (OpenLaw.row PySem.Challenge.rw_seenshares_k01_share_lowest_terms).prog [0, 21]) (H := K1.hk) (ob := K1.ob) (M := 100000) (loose := K1.names)
    (d := HandSHeadRun.topDef (OpenLaw.row PySem.Challenge.rw_seenshares_k01_share_lowest_terms).prog 21) (kwd := []) K1.ob_eq K1.run (by kernel_rfl) (by kernel_rfl) (by kernel_rfl) (by rfl) (by first | assumption | decide +kernel) (by decide +kernel) ⟨rfl, rfl, rfl, rfl, rfl, by decide +kernel⟩ ?hw ?hc
  case hw => w_witness2
  case hc =>
    refine L2.walk_ofE (l := PySem.Challenge.rw_seenshares_k01_share_lowest_terms) (n := 63) (k := 8) (x := "_law_script") (CX := L2.CX0) rfl (by decide) (by kernel_rfl) ⟨rfl, by decide, by decide⟩ ?F (fun _ _ _ _ z => z)
    intro w mg fa h Y G hmg0
    obtain ⟨K, KX, c⟩ := Y
    have hmg : mg ("law" : PySem.Str) = some (.ref fa) := by
      have e : (HandSHeadRun.topDef (OpenLaw.row PySem.Challenge.rw_seenshares_k01_share_lowest_terms).prog 21).name = ("law" : PySem.Str) := by kernel_rfl
      rw [← e]
      exact hmg0
    obtain ⟨fd, hb, hF⟩ := K1.facts (P := (PySem.Challenge.rw_seenshares_k01_share_lowest_terms).prog) (w := w) KX G hmg c
    exact ⟨K, fd, K1.spLaw K, KX, hb, fun H a ns hl _ hS => ⟨a, ns, rfl, hS, hl, fun _ => rfl⟩, hF⟩
#print axioms PySem.Challenge.cw_seenshares_k01_share_lowest_terms_holds
