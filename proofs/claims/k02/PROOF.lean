import PyProof.Rows.All
import Wide.All
import OpenK.AllK
import Wide.FinOn
import HandS.ForMost
import HandS.ForExc
import HandS.Wide
import HandS.IsInst
import HandS.SortInts
import HandS.DictComp
import HandS.More
import HandS.Zip
import HandS.Evl
import HandS.Conv
import HandS.Rev
import KE.KDictList
import HandS.SortRule
import HandS.TupSets
import HandS.ExcIs
import HandS.ExcValue
import HandS.Deep
import HandS.Style
import KE.KDictZip
import PySem.Challenge.RW_pilenets_k02_no_nets
set_option Elab.async false
set_option linter.all false
set_option maxRecDepth 100000
set_option maxHeartbeats 4000000
namespace Px
open PySem PySem.Spec PyProof.Rows L2

/-! ### defs of the text, and their promises as callees -/
structure Dfn (K : PySem.W.Frag) (mg : Str → Option Value) (x : Str) (st : Stmt) : Prop where
  ex : ∃ (f : Addr) (fd : FuncData), mg x = some (.ref f) ∧ Fun K x x st f fd
structure Cal (P : Program) (w : World) (K : PySem.W.Frag) (mg : Str → Option Value) (base : Heap) (CX : CXT) (k : Nat) (x : Str) (ps : List Str) (sp : Sp) : Prop where
  ex : ∃ (f : Addr) (fd : FuncData), FnOk P w K mg base CX k f fd ps sp ∧ mg x = some (.ref f) ∧ PySem.W.keepIn K (.ref f) = true ∧ Binds K fd ps []
section
variable {P : Program} {w : World} {K : PySem.W.Frag} {mg : Str → Option Value} {base : Heap} {CX : CXT} {k : Nat} {x : Str} {ps N : List Str} {sp sp' : Sp} {st : Stmt}
theorem Cal.of (D : Dfn K mg x st)
    (hb : ∀ (kV doc pm : Value) (an : Option Addr) (cdv ct : Value) (us : List Value), us.length = ps.length → bindArgs (PySem.W.fnOf x x (defArgs st) (defBody st) (defScope st) .none kV doc pm an cdv ct) ⟨us, []⟩ = pure (ps.zip us))
    (h : ∀ f fd, Fun K x x st f fd → FnOk P w K mg base CX k f fd ps sp) : Cal P w K mg base CX k x ps sp := by
  obtain ⟨f, fd, hm, F⟩ := D.ex
  exact ⟨f, fd, h f fd F, hm, F.kp, F.binds hb⟩
theorem Cal.imp (C : Cal P w K mg base CX k x ps sp) (h : ∀ vs H Q E, sp' vs H Q E → sp vs H Q E) : Cal P w K mg base CX k x ps sp' := by
  obtain ⟨f, fd, F, a, b, c⟩ := C.ex
  exact ⟨f, fd, ⟨fun vs H Q E q => F.len vs H Q E (h vs H Q E q), fun A o s H ar us vs Q E hr e1 e2 e3 q => F.run A o s H ar us vs Q E hr e1 e2 e3 (h vs H Q E q)⟩, a, b, c⟩
theorem Cal.no (D : Dfn K mg x st) (hb : ∀ (kV doc pm : Value) (an : Option Addr) (cdv ct : Value) (us : List Value), us.length = ps.length → bindArgs (PySem.W.fnOf x x (defArgs st) (defBody st) (defScope st) .none kV doc pm an cdv ct) ⟨us, []⟩ = pure (ps.zip us))
    (no : ∀ vs H Q E, ¬ sp vs H Q E) : Cal P w K mg base CX k x ps sp :=
  Cal.of D hb fun f fd F => ⟨fun vs H Q E h => (no _ _ _ _ h).elim, fun _ _ _ _ _ _ _ _ _ _ _ _ _ h => (no _ _ _ _ h).elim⟩
theorem Cal.mono {j : Nat} (C : Cal P w K mg base CX j x ps sp) (h : j ≤ k) : Cal P w K mg base CX k x ps sp := by
  obtain ⟨f, fd, F, a, b, c⟩ := C.ex
  exact ⟨f, fd, F.mono h, a, b, c⟩
end
theorem dfn_mk {K : PySem.W.Frag} {mg : Str → Option Value} {h : Heap} {x : Str} {st : Stmt} {f : Addr} {oc : Value} {od an : Option Addr} {osl : Array (Option Value)} {kV doc pm cdv ct : Value} (X : K.In h) (G : h.Ns mainGlobals mg)
    (a : PySem.W.nsIn K mainGlobals x = some (some (.ref f))) (l : K.lookup f = some ⟨oc, od, .func (PySem.W.fnOf x x (defArgs st) (defBody st) (defScope st) .none kV doc pm an cdv ct), osl⟩)
    (c : PySem.W.codeIn K cdv x = true) (k : PySem.W.keepIn K (.ref f) = true) : Dfn K mg x st := ⟨f, _, PySem.W.mg_of X G a, fun_mk l c k⟩
theorem law_end {P : Program} {w : World} {K : PySem.W.Frag} {mg : Str → Option Value} {CX : CXT} {k : Nat} {x : Str} {sp : Sp} {st : Stmt} {fa : Addr} (D : Dfn K mg "law" st)
    (hb : ∀ (kV doc pm : Value) (an : Option Addr) (cdv ct : Value) (us : List Value), us.length = ([x] : List Str).length → bindArgs (PySem.W.fnOf "law" "law" (defArgs st) (defBody st) (defScope st) .none kV doc pm an cdv ct) ⟨us, []⟩ = pure (([x] : List Str).zip us))
    (h : ∀ base f fd, Fun K "law" "law" st f fd → FnOk P w K mg base CX k f fd [x] sp) (hfa : mg "law" = some (.ref fa)) :
    ∃ fd : FuncData, (∀ (s : Shared) (u : Value), BindsTo s fd ⟨[u], []⟩ [(x, u)]) ∧ ∀ base : Heap, K.In base → base.Ns mainGlobals mg → FnOk P w K mg base CX k fa fd [x] sp := by
  obtain ⟨f, fd, hm, F⟩ := D.ex
  have e := hfa.symm.trans hm
  cases e
  refine ⟨fd, fun s u => ?_, fun base _ _ => h base _ _ F⟩
  obtain ⟨oc, od, kV, doc, pm, an, cdv, ct, osl, rfl, _⟩ := F.ex
  exact .of_eq (hb kV doc pm an cdv ct [u] rfl)
/-- a call of a def of the text -/
def tCal (sp : Sp) (E : XK) (t : TA) : TE := fun σ H Q => t σ H fun vs H1 => sp vs H1 Q E
section
variable {X : Cx} {CX : CXT} {k : Nat} {x : Str} {ps : List Str} {sp : Sp} {E : XK} {p pos : Pos} {e : Expr} {es : List Expr} {t : TA}
theorem pe_cal (C : Cal X.prog X.w X.K X.mg X.base CX k x ps sp) (hr : Room k X.A) (hx : Passes CX X E) (ha : PA X (e :: es) t) (hg : Gl X x := by rfl) (hdb : (x == ("__debug__" : Str)) = false := by decide)
    (he : starEach (e :: es) X.env = (false, eval e X.env) :: starEach es X.env := by rfl) (hpl : (backTo pos (starEach es X.env)).any (·.1) = false := by rfl) :
    PE X (.Call (.Name x p) (e :: es) [] pos) (tCal sp E t) := by
  obtain ⟨f, fd, F, hm, hk, hb⟩ := C.ex
  have h := pe_call (dvs := []) (pos := pos) (p := p) F hr hg hm hk hb .nil hx ha hdb he hpl
  have e2 : tCall sp [] E t = tCal sp E t := by
    funext σ H Q
    show t σ H (fun vs H1 => sp (vs ++ []) H1 Q E) = t σ H (fun vs H1 => sp vs H1 Q E)
    congr 1
    funext vs H1
    rw [List.append_nil]
  rw [e2] at h
  exact h
end

theorem mul_lt_of {a b c d : Int} (a0 : 0 ≤ a) (ab : a < b) (c0 : 0 ≤ c) (cd : c < d) : a * c < b * d := by
  have h1 : a * c ≤ a * d := Int.mul_le_mul_of_nonneg_left (Int.le_of_lt cd) a0
  have h2 : a * d < b * d := Int.mul_lt_mul_of_pos_right ab (by omega)
  omega
/-! ### readings, step by step -/
theorem r_st {t : TS} {D : Ends} {σ σ' : L2.St} {H : Hp} (e : σ = σ') (q : t D σ' H) : t D σ H := e ▸ q
theorem r_fix {A B : Prop} (h : A) (e : A = B) : B := e ▸ h
theorem iteNF {A B : Prop} (h : A) : if (!false) = true then A else B := by
  rw [if_pos (by decide)]
  exact h
theorem iteNT {A B : Prop} (h : B) : if (!true) = true then A else B := by
  rw [if_neg (by decide)]
  exact h
section
variable {σ σ' : L2.St} {H : Hp} {Q : VK} {QT : Bool → Hp → Prop} {i : Nat} {v x y : V} {te ta tb tc : TE} {t t1 t2 u c : TT} {tl : TA} {D : Ends} {n b ct : L2.St → Hp → Prop} {rt : VK} {s1 s2 : TS}
theorem r_var (h : σ[i]? = some (some v)) (q : Q v H) : tVar i σ H Q := ⟨v, h, q⟩
theorem r_c (q : Q v H) : tC v σ H Q := q
theorem r_seq (q : s1 ⟨s2 ⟨n, rt, b, ct⟩, rt, b, ct⟩ σ H) : tSeq s1 s2 ⟨n, rt, b, ct⟩ σ H := q
theorem r_next (q : n σ H) : tNext ⟨n, rt, b, ct⟩ σ H := q
theorem r_brk (q : b σ H) : tBreak ⟨n, rt, b, ct⟩ σ H := q
theorem r_cont (q : ct σ H) : tCont ⟨n, rt, b, ct⟩ σ H := q
theorem r_set (q : te σ H fun x H1 => n (σ.set i (some x)) H1) : tAsg te (gName i) ⟨n, rt, b, ct⟩ σ H := q
theorem r_asg {g : TG} (q : te σ H fun x H1 => g x σ H1 n) : tAsg te g ⟨n, rt, b, ct⟩ σ H := q
theorem r_ret (q : te σ H rt) : tRet te ⟨n, rt, b, ct⟩ σ H := q
theorem r_retN (q : rt .non H) : tRetN ⟨n, rt, b, ct⟩ σ H := q
theorem r_drop (q : te σ H fun _ H1 => n σ H1) : tDrop te ⟨n, rt, b, ct⟩ σ H := q
theorem r_if {ts tu : TS} (q : c σ H fun k H1 => if k = true then ts ⟨n, rt, b, ct⟩ σ H1 else tu ⟨n, rt, b, ct⟩ σ H1) : tIfS c ts tu ⟨n, rt, b, ct⟩ σ H := q
theorem r_ifE (q : t σ H fun c H1 => if c = true then ta σ H1 Q else tb σ H1 Q) : tIf t ta tb σ H Q := q
theorem r_test (q : te σ H fun x H1 => ∃ k, x = .bl k ∧ QT k H1) : tTest te σ H QT := q
theorem r_tB (q : te σ H fun x H1 => ∃ k, x = .bl k ∧ QT k H1) : tB te σ H QT := q
theorem r_bl {k : Bool} {QB : Bool → Prop} (q : QB k) : ∃ k', V.bl k = .bl k' ∧ QB k' := ⟨k, rfl, q⟩
theorem r_and (q : t σ H fun c H1 => if c = true then u σ H1 QT else QT false H1) : tAnd t u σ H QT := q
theorem r_or (q : t σ H fun c H1 => if c = true then QT true H1 else u σ H1 QT) : tOr t u σ H QT := q
theorem r_not (q : t σ H fun c H1 => QT (!c) H1) : tNot t σ H QT := q
theorem r_andV (q : ta σ H fun x H1 => ∃ c, x = .bl c ∧ if c = true then tb σ H1 Q else Q (.bl false) H1) : tAndV ta tb σ H Q := q
theorem r_orV (q : ta σ H fun x H1 => ∃ c, x = .bl c ∧ if c = true then Q (.bl true) H1 else tb σ H1 Q) : tOrV ta tb σ H Q := q
theorem r_notV (q : ta σ H fun x H1 => ∃ c, x = .bl c ∧ Q (.bl (!c)) H1) : tNotV ta σ H Q := q
theorem r_chain {r r' : R2} {tc : TE} (q : ta σ H fun x H1 => tb σ H1 fun y H2 => r x y H2 fun z H3 => ∃ k, z = .bl k ∧ (if k = true then tc σ H3 fun w' H4 => r' y w' H4 Q else Q (.bl false) H3)) : tChain r r' ta tb tc σ H Q := q
theorem r_op {r : R2} (q : ta σ H fun x H1 => tb σ H1 fun y H2 => r x y H2 Q) : tOp r ta tb σ H Q := q
theorem r_un {r : V → Hp → VK → Prop} (q : ta σ H fun x H1 => r x H1 Q) : tUn r ta σ H Q := q
theorem r_I0 {g : Int → Int → V} {i j : Int} (q : Q (g i j) H) : rI0 g (.int i) (.int j) H Q := ⟨i, j, rfl, rfl, q⟩
theorem r_I {C : Int → Int → Prop} {g : Int → Int → V} {i j : Int} (q : Q (g i j) H) (hc : C i j) : rI C g (.int i) (.int j) H Q := ⟨i, j, rfl, rfl, hc, q⟩
theorem r_U {g : Int → V} {i : Int} (q : Q (g i) H) : rU g (.int i) H Q := ⟨i, rfl, q⟩
theorem r_eqI {i j : Int} (q : Q (.bl (decide (i = j))) H) : rEq (.int i) (.int j) H Q := ⟨rfl, by rw [show decide (V.int i = V.int j) = decide (i = j) from by simp]; exact q⟩
theorem r_neI {i j : Int} (q : Q (.bl (!decide (i = j))) H) : rNe (.int i) (.int j) H Q := ⟨rfl, by rw [show decide (V.int i = V.int j) = decide (i = j) from by simp]; exact q⟩
theorem r_eqB {i j : Bool} (q : Q (.bl (decide (i = j))) H) : rEq (.bl i) (.bl j) H Q := ⟨rfl, by rw [show decide (V.bl i = V.bl j) = decide (i = j) from by simp]; exact q⟩
theorem r_neB {i j : Bool} (q : Q (.bl (!decide (i = j))) H) : rNe (.bl i) (.bl j) H Q := ⟨rfl, by rw [show decide (V.bl i = V.bl j) = decide (i = j) from by simp]; exact q⟩
theorem r_eqS {i j : Str} (q : Q (.bl (decide (i = j))) H) : rEq (.str i) (.str j) H Q := ⟨rfl, by rw [show decide (V.str i = V.str j) = decide (i = j) from by simp]; exact q⟩
theorem r_neS {i j : Str} (q : Q (.bl (!decide (i = j))) H) : rNe (.str i) (.str j) H Q := ⟨rfl, by rw [show decide (V.str i = V.str j) = decide (i = j) from by simp]; exact q⟩
theorem r_lst (q : tl σ H fun xs H1 => xs.length ≤ sizeLine ∧ ∀ p, H1 p = none → Q (.ref p) (upd H1 p (.lst xs))) : tLst tl σ H Q := q
theorem r_tup (q : tl σ H fun xs H1 => xs.length ≤ sizeLine ∧ ∀ p, H1 p = none → Q (.ref p) (upd H1 p (.tup xs))) : tTup tl σ H Q := q
theorem r_nil {Q : List V → Hp → Prop} (q : Q [] H) : tNil σ H Q := q
theorem r_cons {Q : List V → Hp → Prop} {tr : TA} (q : ta σ H fun x H1 => tr σ H1 fun xs H2 => Q (x :: xs) H2) : tCons ta tr σ H Q := q
theorem r_cal {sp : Sp} {E : XK} (q : tl σ H fun vs H1 => sp vs H1 Q E) : tCal sp E tl σ H Q := q
theorem r_CB {r : List V → Hp → VK → Prop} (q : tl σ H fun vs H1 => r vs H1 Q) : tCB r tl σ H Q := q
theorem r_BM {K : PySem.W.Frag} {T : String} {r : V → List V → Hp → VK → Prop} (q : ta σ H fun x H1 => tyV K T x H1 ∧ tl σ H1 fun xs H2 => r x xs H2 Q) : tBM K T r ta tl σ H Q := q
theorem r_BM0 {K : PySem.W.Frag} {T : String} {r : V → List V → Hp → VK → Prop} (q : ta σ H fun x H1 => tyV K T x H1 ∧ r x [] H1 Q) : tBM0 K T r ta σ H Q := q
theorem r_gName {Q : L2.St → Hp → Prop} (q : Q (σ.set i (some v)) H) : gName i v σ H Q := q
theorem r_small {n : Nat} (h : n ≤ 16777216) : n ≤ sizeLine := by rw [sizeLine_eq]; exact h
theorem r_smalll {n : Nat} (h : n < 16777216) : n < sizeLine := by rw [sizeLine_eq]; exact h
theorem r_ixL {K : PySem.W.Frag} {p : Addr} {xs : List V} {i : Int} (h : SqL K H p xs) (ha : atI xs i = some v) (q : Q v H) : rIxL K (.ref p) (.int i) H Q := ⟨p, xs, i, v, rfl, rfl, h, ha, q⟩
theorem r_ixT {K : PySem.W.Frag} {p : Addr} {xs : List V} {i : Int} (h : SqT K H p xs) (ha : atI xs i = some v) (q : Q v H) : rIxT K (.ref p) (.int i) H Q := ⟨p, xs, i, v, rfl, rfl, h, ha, q⟩
theorem r_setL {p : Addr} {xs : List V} {k : Int} {j : Nat} {Q : Hp → Prop} (h : H p = some (.lst xs)) (hj : ixN xs.length k = some j) (q : Q (upd H p (.lst (xs.set j v)))) : rSetL (.ref p) (.int k) v H Q := ⟨p, xs, k, j, rfl, rfl, h, hj, q⟩
end
local macro_rules | `(tactic| walk_at "rd1") => `(tactic| first
  | (with_reducible refine r_var ?_ ?_; exact rfl) | with_reducible refine r_c ?_ | with_reducible refine r_seq ?_ | with_reducible refine r_next ?_ | with_reducible refine r_set ?_
  | with_reducible refine r_ret ?_ | with_reducible refine r_retN ?_ | with_reducible refine r_drop ?_ | with_reducible refine r_if ?_ | with_reducible refine r_test ?_ | with_reducible refine r_bl ?_
  | with_reducible refine r_op ?_ | with_reducible refine r_I0 ?_ | with_reducible refine r_I ?_ ?_ | with_reducible refine r_eqI ?_ | with_reducible refine r_neI ?_ | with_reducible refine r_nil ?_ | with_reducible refine r_cons ?_
  | with_reducible refine r_cal ?_ | with_reducible refine r_CB ?_ | with_reducible refine r_BM ?_ | with_reducible refine r_BM0 ?_ | with_reducible refine r_un ?_ | with_reducible refine r_U ?_
  | with_reducible refine r_and ?_ | with_reducible refine r_or ?_ | with_reducible refine r_not ?_ | with_reducible refine r_lst ?_ | with_reducible refine r_tup ?_ | with_reducible refine r_brk ?_ | with_reducible refine r_cont ?_ | with_reducible refine r_ifE ?_ | with_reducible refine r_tB ?_ | with_reducible refine r_gName ?_
  | with_reducible refine iteT ?_ | with_reducible refine iteF ?_ | with_reducible refine r_asg ?_)
/-! ### the layer's rules, the written part by its name (so that they stand in comprehensions too) -/
section
variable {X : Cx} {a b o e l : Expr} {es : List Expr} {ta tb te tl : TE} {t : TA} {pos p2 p tpos apos cpos : Pos} {lo hi : Option Expr} {tlo thi : TO} {name : Str} {T id : String} {r : V → List V → Hp → VK → Prop} {tg : Expr}
theorem pixL (K : PySem.W.Frag) (hK : X.K = K) (ha : PE X a ta) (hb : PE X b tb) (hs : PlainIx b) : PE X (.Subscript a b pos) (tOp (rIxL K) ta tb) := hK ▸ pe_ix ix_list ha hb hs
theorem pixT (K : PySem.W.Frag) (hK : X.K = K) (ha : PE X a ta) (hb : PE X b tb) (hs : PlainIx b) : PE X (.Subscript a b pos) (tOp (rIxT K) ta tb) := hK ▸ pe_ix ix_tup ha hb hs
theorem pslL (K : PySem.W.Frag) (hK : X.K = K) (he : PE X e te) (hl : PO X lo tlo) (hu : PO X hi thi) : PE X (.Subscript e (.Slice lo hi none p2) pos) (tSl (rSlL K) te tlo thi) := hK ▸ pe_slice sl_list he hl hu
theorem pslT (K : PySem.W.Frag) (hK : X.K = K) (he : PE X e te) (hl : PO X lo tlo) (hu : PO X hi thi) : PE X (.Subscript e (.Slice lo hi none p2) pos) (tSl (rSlT K) te tlo thi) := hK ▸ pe_slice sl_tup he hl hu
theorem opIn (K : PySem.W.Frag) (hK : X.K = K) : OpR X (compareOp .In) (rIn K false) := hK ▸ op_in_seq
theorem opNotIn (K : PySem.W.Frag) (hK : X.K = K) : OpR X (compareOp .NotIn) (rIn K true) := hK ▸ op_notIn_seq
theorem opEqD (K : PySem.W.Frag) (hK : X.K = K) (hu : X.A.units + 64 < cLine) : OpR X (compareOp .Eq) (rEqD K) := hK ▸ op_eqD hu
theorem opNeD (K : PySem.W.Frag) (hK : X.K = K) (hu : X.A.units + 64 < cLine) : OpR X (compareOp .NotEq) (rNeD K) := hK ▸ op_neD hu
theorem opCatT (K : PySem.W.Frag) (hK : X.K = K) : OpR X (binaryOp .Add) (rCatT K) := hK ▸ op_catT
def rLen (K : PySem.W.Frag) : List V → Hp → VK → Prop := fun xs H Q => ∃ p ys, xs = [.ref p] ∧ (SqL K H p ys ∨ SqT K H p ys) ∧ Q (.int ys.length) H
theorem crLen (K : PySem.W.Frag) (hK : X.K = K) : CallR X (.builtin "len") (rLen K) := hK ▸ call_len_seq
def rLst (K : PySem.W.Frag) : List V → Hp → VK → Prop := fun xs H Q => ∃ p ys, xs = [.ref p] ∧ (SqL K H p ys ∨ SqT K H p ys) ∧ ∀ l, H l = none → Q (.ref l) (upd H l (.lst ys))
theorem crLst (K : PySem.W.Frag) (hK : X.K = K) : CallR X (.type "list") (rLst K) := hK ▸ call_list_of
theorem crIsi (K : PySem.W.Frag) (hK : X.K = K) : CallR X (.builtin "isinstance") (rIsi K) := hK ▸ call_isi
theorem crIsiT (K : PySem.W.Frag) (hK : X.K = K) : CallR X (.builtin "isinstance") (rIsiT K) := hK ▸ call_isiT
theorem crSrt (K : PySem.W.Frag) (hK : X.K = K) : CallR X (.builtin "sorted") (rSortedI K) := hK ▸ cr_sortedI
theorem crSum (K : PySem.W.Frag) (hK : X.K = K) (hc : X.calm = true) : CallR X (.builtin "sum") (rSum K) := hK ▸ cr_sum hc
theorem crMax (K : PySem.W.Frag) (hK : X.K = K) (hc : X.calm = true) : CallR X (.builtin "max") (rMax K) := hK ▸ cr_max hc
theorem crMin (K : PySem.W.Frag) (hK : X.K = K) (hc : X.calm = true) : CallR X (.builtin "min") (rMin K) := hK ▸ cr_min hc
theorem pbm (K : PySem.W.Frag) (hK : X.K = K) (pa : PlainAttrs T) (slot : Slot T name id) (hty : typeOf (.builtin id) = pure (.type "method_descriptor")) (hm : MtR X id r) (ho : PE X o te) (ha : PA X (e :: es) t)
    (hbase : attributeBase o name X.env (eval o X.env) = eval o X.env := by rfl)
    (hfew : ((backTo cpos (starEach (e :: es) X.env)).all (fun x => !x.1) && (backToKw cpos (keywordEach [] X.env)).all (fun x => x.1.isSome)
      && decide ((e :: es).length + ([] : List Keyword).length + (if ([] : List Keyword).isEmpty then 0 else 1) < 30)) = true := by rfl)
    (hline : (apos.endLine == cpos.line) = true := by rfl) (hs : starEach (e :: es) X.env = (false, eval e X.env) :: starEach es X.env := by rfl) (hplain : (backTo cpos (starEach es X.env)).any (·.1) = false := by rfl) :
    PE X (.Call (.Attribute o name apos) (e :: es) [] cpos) (tBM K T r te t) := hK ▸ pe_bm pa slot hty hm ho ha hbase hfew hline hs hplain
theorem pbm0 (K : PySem.W.Frag) (hK : X.K = K) (pa : PlainAttrs T) (slot : Slot T name id) (hty : typeOf (.builtin id) = pure (.type "method_descriptor")) (hm : MtR X id r) (ho : PE X o te)
    (hbase : attributeBase o name X.env (eval o X.env) = eval o X.env := by rfl) (hline : (apos.endLine == cpos.line) = true := by rfl) : PE X (.Call (.Attribute o name apos) [] [] cpos) (tBM0 K T r te) := hK ▸ pe_bm0 pa slot hty hm ho hbase hline
theorem piL (K : PySem.W.Frag) (hK : X.K = K) (hl : PE X l tl) : PI X tg l (iList K tl) := hK ▸ pi_list hl
theorem piT (K : PySem.W.Frag) (hK : X.K = K) (hl : PE X l tl) : PI X tg l (iTup K tl) := hK ▸ pi_tup hl
theorem piE (K : PySem.W.Frag) (hK : X.K = K) {elts : List Expr} {kk : Nat} (hg : Gl X "enumerate") (hm : X.mg "enumerate" = none) (ha : PA X [e] t) (hs : starEach [e] X.env = [(false, eval e X.env)] := by rfl) :
    PI X (.Tuple elts kk tpos) (.Call (.Name "enumerate" p) [e] [] pos) (iEnum K t) := hK ▸ pi_enum hg hm ha hs
theorem piRv (K : PySem.W.Frag) (hK : X.K = K) (hg : Gl X "reversed") (hm : X.mg "reversed" = none) (ha : PA X [e] t) (hs : starEach [e] X.env = [(false, eval e X.env)] := by rfl) : PI X tg (.Call (.Name "reversed" p) [e] [] pos) (iRev K t) := hK ▸ pi_reversed hg hm ha hs
theorem piZ (K : PySem.W.Frag) (hK : X.K = K) {e2 : Expr} {elts : List Expr} {kk : Nat} (hg : Gl X "zip") (hm : X.mg "zip" = none) (ha : PA X [e, e2] t)
    (hs : starEach [e, e2] X.env = (false, eval e X.env) :: starEach [e2] X.env := by rfl) (hpl : (backTo pos (starEach [e2] X.env)).any (·.1) = false := by rfl) :
    PI X (.Tuple elts kk tpos) (.Call (.Name "zip" p) [e, e2] [] pos) (iZip K t) := hK ▸ pi_zip hg hm ha hs hpl
theorem pgT (K : PySem.W.Frag) (hK : X.K = K) {k n : Nat} {ts : TGs} (hc : X.calm = true) (h : PGs X es ts)
    (hn : (assignEach es X.env).length = n := by rfl) (hst : (assignEach es X.env).findIdx? (·.1) = none := by rfl) : PG X (.Tuple es k pos) (gTup K n ts) := hK ▸ pg_tup hc h hn hst
def tTru (K : PySem.W.Frag) (ta : TE) : TT := fun σ H Q => ta σ H fun x H' => ∃ k, TruV K x H' k ∧ Q k H'
theorem ptTru (K : PySem.W.Frag) (hK : X.K = K) (ha : PE X a ta) (he : ∀ whole, isTrue a X.env whole = (do let v ← whole; standAt a.pos; holding [v] (truthy v))) : PT X a (tTru K ta) := hK ▸ pt_truth ha he
end
/-! ### heaps -/
def Upto (p : Addr) (H H' : Hp) : Prop := ∀ b o, b ≠ p → H b = some o → H' b = some o
theorem Upto.refl (p : Addr) (H : Hp) : Upto p H H := fun _ _ _ h => h
theorem Upto.trans {p : Addr} {H H1 H2 : Hp} (a : Upto p H H1) (b : Upto p H1 H2) : Upto p H H2 := fun c o n h => b c o n (a c o n h)
theorem same_upto {p : Addr} {H H' : Hp} (a : Same H H') : Upto p H H' := fun c o _ h => a c o h
theorem same_new {H : Hp} {p : Addr} {o : HO} (h : H p = none) : Same H (upd H p o) := fun b x e => by
  rw [upd_ne (ne_of_none e h)]
  exact e
theorem upto_upd {p : Addr} {H : Hp} {o : HO} : Upto p H (upd H p o) := fun b x n e => by
  rw [upd_ne n]
  exact e
/-- a list that is new to H may change -/
theorem same_mut {H H' : Hp} {p : Addr} {o : HO} (e : Same H H') (h : H p = none) : Same H (upd H' p o) := fun a u ha => by
  rw [upd_ne (ne_of_none ha h)]
  exact e a u ha
theorem upto_mut {H H' : Hp} {p l : Addr} {o : HO} (e : Upto p H H') (h : H l = none) : Upto p H (upd H' l o) := fun a u n ha => by
  rw [upd_ne (ne_of_none ha h)]
  exact e a u n ha
theorem upto_free {p : Addr} {H H' : Hp} (e : Upto p H H') {l : Addr} {o : HO} (hp : H' p = some o) (h : H' l = none) : H l = none := by
  cases q : H l with
  | none => rfl
  | some u =>
    have n : l ≠ p := fun z => by
      rw [z, hp] at h
      cases h
    rw [e l u n q] at h
    cases h
theorem upto_seq {K : PySem.W.Frag} {p : Addr} {H H' : Hp} {a : Addr} {xs : List V} (e : Upto p H H') (n : a ≠ p) (h : SqL K H a xs) : SqL K H' a xs := by
  rcases h with (h | ⟨o, h⟩) | h
  · exact .inl (.inl (e _ _ n h))
  · exact .inl (.inr ⟨o, e _ _ n h⟩)
  · exact .inr h
theorem seq_of {K : PySem.W.Frag} {H : Hp} {a : Addr} {xs : List V} (h : H a = some (.lst xs)) : SqL K H a xs := .inl (.inl h)
/-- the deck: a list of one number from 0 on -/
def Dk (H : Hp) (p : Addr) : Prop := ∃ d : Int, 0 ≤ d ∧ H p = some (.lst [.int d])
theorem Dk.ne {H : Hp} {p q : Addr} (d : Dk H p) (h : H q = none) : p ≠ q := by
  obtain ⟨_, _, e⟩ := d
  exact ne_of_none e h
theorem Dk.same {H H' : Hp} {p : Addr} (d : Dk H p) (e : Same H H') : Dk H' p := by
  obtain ⟨x, h, q⟩ := d
  exact ⟨x, h, e _ _ q⟩
theorem Dk.free {H H' : Hp} {p l : Addr} (d : Dk H' p) (e : Upto p H H') (h : H' l = none) : H l = none := by
  obtain ⟨x, _, q⟩ := d
  exact upto_free e q h
theorem Dk.upd {H : Hp} {p q : Addr} {o : HO} (d : Dk H p) (n : p ≠ q) : Dk (upd H q o) p := by
  obtain ⟨x, h, e⟩ := d
  exact ⟨x, h, by rw [upd_ne n]; exact e⟩
abbrev intL (ns : List Int) : List V := ns.map V.int
theorem at0 {v : V} {r : List V} : atI (v :: r) 0 = some v := atI_nat (xs := v :: r) (j := 0) rfl
theorem at_nat {xs : List V} {i : Int} {v : V} (h0 : 0 ≤ i) (h : xs[i.toNat]? = some v) : atI xs i = some v := by
  have e : i = ((i.toNat : Nat) : Int) := by omega
  rw [e]
  exact atI_nat h
theorem lt_of_at {α : Type} {xs : List α} {j : Nat} {v : α} (h : xs[j]? = some v) : j < xs.length := (List.getElem?_eq_some_iff.mp h).1
theorem tyV_list {K : PySem.W.Frag} {H : Hp} {a : Addr} {xs : List V} (h : SqL K H a xs) : tyV K "list" (.ref a) H := .inl ⟨rfl, _, h⟩
theorem r_append {H : Hp} {Q : VK} {l : Addr} {xs : List V} {y : V} (h : H l = some (.lst xs)) (hz : xs.length < 16777216) (q : Q .non (upd H l (.lst (xs ++ [y])))) : rAppend (.ref l) [y] H Q :=
  ⟨l, xs, y, rfl, rfl, h, r_smalll hz, q⟩
/-! ### data -/
mutual
theorem dp_same {K : PySem.W.Frag} {H H' : Hp} (e : Same H H') : ∀ {v : V} {d : PyData}, Dp K H v d → Dp K H' v d
  | _, _, .non => .non
  | _, _, .bl b => .bl b
  | _, _, .int i => .int i
  | _, _, .str x => .str x
  | _, _, .lst h t => .lst (e.seq h) (dpAll_same e t)
  | _, _, .tup h t => .tup (by
      rcases h with (h | ⟨o, h⟩) | h
      · exact .inl (.inl (e _ _ h))
      · exact .inl (.inr ⟨o, e _ _ h⟩)
      · exact .inr h) (dpAll_same e t)
theorem dpAll_same {K : PySem.W.Frag} {H H' : Hp} (e : Same H H') : ∀ {v : List V} {d : List PyData}, DpAll K H v d → DpAll K H' v d
  | _, _, .nil => .nil
  | _, _, .cons h t => .cons (dp_same e h) (dpAll_same e t)
end
theorem dpAll_ints {K : PySem.W.Frag} {H : Hp} : ∀ ns : List Int, DpAll K H (intL ns) (ns.map PyData.int)
  | [] => .nil
  | n :: r => .cons (.int n) (dpAll_ints r)
theorem dp_ints {K : PySem.W.Frag} {H : Hp} {a : Addr} {ns : List Int} (h : SqL K H a (intL ns)) : Dp K H (.ref a) (.list (ns.map PyData.int)) := .lst h (dpAll_ints ns)
theorem canLay_ints : ∀ ns : List Int, PyData.canLayAll0 (ns.map PyData.int) = true
  | [] => rfl
  | n :: r => by
    show (PyData.canLay0 (.int n) && PyData.canLayAll0 (r.map PyData.int)) = true
    rw [canLay_ints r]
    rfl
theorem depth_ints : ∀ ns : List Int, PyData.depthAll (ns.map PyData.int) = 0
  | [] => rfl
  | n :: r => by
    show max (PyData.depth (.int n)) (PyData.depthAll (r.map PyData.int)) = 0
    rw [depth_ints r]
    rfl
theorem shaped_ints (ns : List Int) : SeqAt.shaped (.list (ns.map PyData.int)) = true := by
  unfold SeqAt.shaped
  have h1 : PyData.canLay0 (.list (ns.map PyData.int)) = true := by
    simp only [PyData.canLay0]
    exact canLay_ints ns
  have h2 : PyData.depth (.list (ns.map PyData.int)) = 1 := by
    show PyData.depthAll (ns.map PyData.int) + 1 = 1
    rw [depth_ints]
  rw [h1, h2]
  rfl
theorem eqv_ints (ns : List Int) : PyData.eqv (.list (ns.map PyData.int)) (.list (ns.map PyData.int)) = true := SeqAt.eqv_refl _ (by
  simp only [PyData.canLay0]
  exact canLay_ints ns)
theorem hu64 {A : Around} {k : Nat} (hr : Room k A) : A.units + 64 < cLine := by
  have := hr.un
  omega
/-! ### loops -/
def lpR (g : TG) (tb : TS) (D : Ends) (lo : Int) (n : Nat) : L2.St → Hp → Prop := fun σ H1 => ∃ W : Nat → Nat → L2.St → Hp → Prop, (∃ m, W 0 m σ H1) ∧ ∀ i m σ H, W i m σ H →
  ((Itr lo n).stop i H ∧ D.nx σ H) ∨ ((Itr lo n).go i H ∧ ∃ N : L2.St → Hp → Prop, (∀ σ' H', N σ' H' → ∃ m', m' < m ∧ W (i + 1) m' σ' H') ∧ ∀ x H', (Itr lo n).yld i H x H' → g x σ H' fun σ2 H2 => tb { D with nx := N, ct := N, bk := D.nx } σ2 H2)
section
variable {σ : L2.St} {H : Hp} {g : TG} {tb : TS} {D : Ends} {ta : TA} {n b ct : L2.St → Hp → Prop} {rt : VK} {i : Nat}
theorem r_forR1 (q : ta σ H fun vs H1 => ∃ j : Int, vs = [.int j] ∧ -(2 ^ 62) ≤ j ∧ j < 2 ^ 62 ∧ lpR g tb D 0 j.toNat σ H1) : tFor (iRng1 ta) g tb D σ H := q
theorem r_forR2 (q : ta σ H fun vs H1 => ∃ i j : Int, vs = [.int i, .int j] ∧ (-(2 ^ 62) ≤ i ∧ i < 2 ^ 62 ∧ -(2 ^ 62) ≤ j ∧ j < 2 ^ 62) ∧ lpR g tb D i (j - i).toNat σ H1) : tFor (iRng2 ta) g tb D σ H := q
/-- for x in range(n): the turn's number is i -/
theorem r_rng1 {m : Nat} {z : Int} (hz : z = (m : Int)) (hm : m < 2 ^ 62) (Pv : Nat → L2.St → Hp → Prop) (h0 : Pv 0 σ H)
    (hs : ∀ i' σ' H', i' < m → Pv i' σ' H' → tb ⟨Pv (i' + 1), rt, n, Pv (i' + 1)⟩ (σ'.set i (some (.int (i' : Nat)))) H')
    (hd : ∀ σ' H', Pv m σ' H' → n σ' H') : ∃ j : Int, [V.int z] = [.int j] ∧ -(2 ^ 62) ≤ j ∧ j < 2 ^ 62 ∧ lpR (gName i) tb ⟨n, rt, b, ct⟩ 0 j.toNat σ H := by
  subst hz
  refine ⟨m, rfl, by omega, by omega, ?_⟩
  rw [show (m : Int).toNat = m from Int.toNat_natCast m]
  exact for_range (g := gName i) (tb := tb) (D := ⟨n, rt, b, ct⟩) (lo := 0) (n := m) Pv h0 (fun i' σ' H' hi p => by
    have e : (0 : Int) + (i' : Int) = (i' : Int) := Int.zero_add _
    show tb _ (σ'.set i (some (.int ((0 : Int) + (i' : Int))))) H'
    rw [e]
    exact hs i' σ' H' hi p) hd
end
/-! ### comprehensions -/
def lcJ (J : It) (g : TG) (tt : TT) (te : TE) (vs : List Nat) (σ : L2.St) (H1 : Hp) (Q : VK) : Prop := ∀ D, H1 D = none → ∃ W : Nat → Nat → Hp → Prop, (∃ m, W 0 m (upd H1 D (.lst []))) ∧ ∀ i m H, W i m H →
  (J.stop i H ∧ Q (.ref D) H) ∨ (J.go i H ∧ ∃ Nx : Hp → Prop, (∀ H', Nx H' → ∃ m', m' < m ∧ W (i + 1) m' H') ∧ ∀ x H', J.yld i H x H' → g x (wipe σ vs) H' fun σ2 H2 => wipe σ2 vs = wipe σ vs ∧ tt σ2 H2 fun b H3 =>
    if b = true then te σ2 H3 fun y H4 => ∃ acc, H4 D = some (.lst acc) ∧ acc.length < sizeLine ∧ Nx (upd H4 D (.lst (acc ++ [y]))) else Nx H3)
section
variable {K : PySem.W.Frag} {σ : L2.St} {H : Hp} {Q : VK} {tl te : TE} {tt : TT} {g : TG} {vs : List Nat} {a : Addr} {xs : List V} {ta : TA}
theorem r_lcL (q : tl σ H fun x H1 => ∃ a, x = .ref a ∧ (∃ xs, SqL K H1 a xs) ∧ lcJ (Itl K a) g tt te vs σ H1 Q) : tLc (iList K tl) g tt te vs σ H Q := q
theorem r_lcL1 (h : SqL K H a xs) (q : lcJ (Itl K a) g tt te vs σ H Q) : ∃ b, V.ref a = .ref b ∧ (∃ xs, SqL K H b xs) ∧ lcJ (Itl K b) g tt te vs σ H Q := ⟨a, rfl, ⟨xs, h⟩, q⟩
theorem r_lcR (q : ta σ H fun vs1 H1 => ∃ j : Int, vs1 = [.int j] ∧ -(2 ^ 62) ≤ j ∧ j < 2 ^ 62 ∧ lcJ (Itr 0 j.toNat) g tt te vs σ H1 Q) : tLc (iRng1 ta) g tt te vs σ H Q := q
theorem r_lcR1 {z : Int} {m : Nat} (hz : z = (m : Int)) (hm : m < 2 ^ 62) (q : lcJ (Itr 0 m) g tt te vs σ H Q) : ∃ j : Int, [V.int z] = [.int j] ∧ -(2 ^ 62) ≤ j ∧ j < 2 ^ 62 ∧ lcJ (Itr 0 j.toNat) g tt te vs σ H Q := by
  subst hz
  exact ⟨m, rfl, by omega, by omega, by rw [Int.toNat_natCast]; exact q⟩
theorem r_yes {QT : Bool → Hp → Prop} (q : QT true H) : tYes σ H QT := q
end
/-! ### list(range(n)), list(reversed(xs)) -/
section
variable {σ : L2.St} {H : Hp} {Q : VK} {ta tb : TE}
theorem r_lrg1 (q : ta σ H fun x H1 => ∃ n, x = .int n ∧ RgOk 0 n ∧ ∀ p, H1 p = none → Q (.ref p) (upd H1 p (.lst (rgV 0 n)))) : tLstRg (tRg1 ta) σ H Q := by
  have e : (tLstRg (tRg1 ta) σ H Q) = (ta σ H fun x H1 => ∃ n, x = .int n ∧ RgOk 0 n ∧ ∀ p, H1 p = none → Q (.ref p) (upd H1 p (.lst (rgV 0 n)))) := rfl
  rw [e]
  exact q
theorem rgV_nat (n : Nat) : rgV 0 (n : Int) = (List.range n).map fun (k : Nat) => V.int (k : Int) := by
  unfold rgV
  rw [show ((n : Int) - 0).toNat = n by omega]
  congr 1
  funext k
  rw [Int.zero_add]
theorem r_lrange {z : Int} {m : Nat} (hz : z = (m : Int)) (hm : m < 100000) (q : ∀ p, H p = none → Q (.ref p) (upd H p (.lst ((List.range m).map fun (k : Nat) => V.int (k : Int))))) :
    RgOk 0 z ∧ ∀ p, H p = none → Q (.ref p) (upd H p (.lst (rgV 0 z))) := by
  subst hz
  exact ⟨RgOk.of_le (by omega) (by omega) (by omega) (by omega), by rw [rgV_nat]; exact q⟩
end
/-! ### len(set(xs)) of ints -/
def distinct (ns : List Int) : List Int := PyProof.Rows.firstMet (fun i => ns.getD i 0) ns.length
theorem distinct_nodup {ns : List Int} (h : ns.Nodup) : distinct ns = ns := by
  unfold distinct
  rw [RZ.firstMet_nodup h ns.length (Nat.le_refl _), List.take_length]
def tLenSet (K : PySem.W.Frag) (ta : TE) : TE := fun σ H Q => ta σ H fun x H1 => ∃ (l : Addr) (ns : List Int), x = .ref l ∧ SqL K H1 l (ns.map V.int) ∧ ns.length ≤ 4000 ∧ Q (.int ((distinct ns).length : Nat)) H1
theorem peLenSet (K : PySem.W.Frag) {X : Cx} (hK : X.K = K) {a : Expr} {ta : TE} {p p2 q pos : Pos} (hg : Gl X "len") (hm : X.mg "len" = none) (hg2 : Gl X "set") (hm2 : X.mg "set" = none) (ha : PE X a ta) (hc : X.calm = true := by rfl)
    (na : starEach [a] X.env = (false, eval a X.env) :: starEach [] X.env := by rfl) : PE X (.Call (.Name "len" p) [.Call (.Name "set" p2) [a] [] q] [] pos) (tLenSet K ta) := by
  subst hK
  refine ⟨fun pins s σ H Q I h => ?_⟩
  refine Call_ (ld_blt I hg hm boot_len ?_)
  refine PyProof.Rows.callWith_builtin1 (PyProof.Rows.args_cons ?_ rfl) rfl rfl
  refine Call_ (ld_blt I hg2 hm2 boot_set ?_)
  refine PyProof.Rows.callWith_type1 (PyProof.Rows.args_cons (thn (ha.run pins s σ H _ I h) fun v s1 ⟨x, H1, I1, r1, q1⟩ => PyProof.Rows.args_nil ?_) na) na rfl
  obtain ⟨l, ns, rfl, hq, hl, q1⟩ := q1
  cases r1
  obtain ⟨its, r, pl, hz⟩ := I1.list hq
  have hlen : its.toArray.size = ns.length := by rw [List.size_toArray, ← r.length, List.length_map]
  refine call_set_list (I1.ok.hd hc) pl.isList (by simpa using RZ.intsAre_vals r) (by rw [hlen]; unfold scanBound; omega) fun h' tk hS hk => ?_
  refine PyProof.Rows.args_nil ?_
  have e1 : PyProof.Rows.firstMet (fun i => ns.getD i 0) its.toArray.size = distinct ns := by
    unfold distinct
    rw [hlen]
  rw [e1] at hS
  have hle : (distinct ns).length ≤ ns.length := PyProof.Rows.firstMet_length_le _ _
  obtain ⟨o, es, ep, t, ho, hex, hd, _, _, _, hf, hn⟩ := hS
  have I2 : Inv X pins σ H1 { s1 with heap := h', toks := tk } := I1.kept fun b o e => hk b o (Heap.lt_size e) e
  exact call_len_set ho hex hd hf (by rw [hn] <;> omega) ⟨.int ((distinct ns).length : Nat), H1, I2.tok _, ⟨_, by rw [hn]⟩, q1⟩
theorem r_lenSet {K : PySem.W.Frag} {σ : L2.St} {H : Hp} {Q : VK} {ta : TE} (q : ta σ H fun x H1 => ∃ (l : Addr) (ns : List Int), x = .ref l ∧ SqL K H1 l (ns.map V.int) ∧ ns.length ≤ 4000 ∧ Q (.int ((distinct ns).length : Nat)) H1) : tLenSet K ta σ H Q := q
/-! ### enumerate -/
section
variable {K : PySem.W.Frag} {a : Addr} {xs : List V} {g : TG} {tt : TT} {te tk tv : TE} {vs : List Nat} {σ : L2.St} {H H1 : Hp} {D : Addr} {Qd : Hp → Prop} {Q : VK} {tl : TA} {tb : TS} {n b ct : L2.St → Hp → Prop} {rt : VK}
def dcJ (J : It) (g : TG) (tt : TT) (tk tv : TE) (vs : List Nat) (σ : L2.St) (H1 : Hp) (Q : VK) : Prop := ∀ D, H1 D = none → ∃ W : Nat → Nat → Hp → Prop, (∃ m, W 0 m (upd H1 D (.dK []))) ∧ ∀ i m H, W i m H →
  (J.stop i H ∧ Q (.ref D) H) ∨ (J.go i H ∧ ∃ Nx : Hp → Prop, (∀ H', Nx H' → ∃ m', m' < m ∧ W (i + 1) m' H') ∧ ∀ x H', J.yld i H x H' → g x (wipe σ vs) H' fun σ2 H2 => wipe σ2 vs = wipe σ vs ∧ tt σ2 H2 fun b H3 =>
    if b = true then tk σ2 H3 fun y H4 => tv σ2 H4 fun z H5 => ∃ kvs k, y = kV k ∧ H5 D = some (.dK kvs) ∧ kvs.length < sizeLine ∧ Nx (upd H5 D (.dK (putK kvs k z))) else Nx H3)
theorem r_dcE (q : tl σ H fun vs1 H1 => ∃ a xs, vs1 = [.ref a] ∧ SqL K H1 a xs ∧ dcJ (Ite K a) g tt tk tv vs σ H1 Q) : tDc (iEnum K tl) g tt tk tv vs σ H Q := q
theorem dc_enum (Pv : Nat → Hp → Prop) (h0 : Pv 0 (upd H1 D (.dK []))) (hl : ∀ i H, i ≤ xs.length → Pv i H → SqL K H a xs)
    (hs : ∀ i x H T, xs[i]? = some x → Pv i H → H T = none → g (.ref T) (wipe σ vs) (upd H T (.tup [.int (i : Nat), x])) fun σ2 H2 => wipe σ2 vs = wipe σ vs ∧ tt σ2 H2 fun b H3 =>
      if b = true then tk σ2 H3 fun y H4 => tv σ2 H4 fun z H5 => ∃ kvs k, y = kV k ∧ H5 D = some (.dK kvs) ∧ kvs.length < sizeLine ∧ Pv (i + 1) (upd H5 D (.dK (putK kvs k z))) else Pv (i + 1) H3) (hd : ∀ H, Pv xs.length H → Qd H) :
    ∃ W : Nat → Nat → Hp → Prop, (∃ m, W 0 m (upd H1 D (.dK []))) ∧ ∀ i m H, W i m H →
      ((Ite K a).stop i H ∧ Qd H) ∨ ((Ite K a).go i H ∧ ∃ Nx : Hp → Prop, (∀ H', Nx H' → ∃ m', m' < m ∧ W (i + 1) m' H') ∧ ∀ x H', (Ite K a).yld i H x H' → g x (wipe σ vs) H' fun σ2 H2 => wipe σ2 vs = wipe σ vs ∧ tt σ2 H2 fun b H3 =>
        if b = true then tk σ2 H3 fun y H4 => tv σ2 H4 fun z H5 => ∃ kvs k, y = kV k ∧ H5 D = some (.dK kvs) ∧ kvs.length < sizeLine ∧ Nx (upd H5 D (.dK (putK kvs k z))) else Nx H3) := by
  refine ⟨fun i m H => m = xs.length - i ∧ i ≤ xs.length ∧ Pv i H, ⟨xs.length, by simp, Nat.zero_le _, h0⟩, ?_⟩
  rintro i m H ⟨rfl, hi, p⟩
  have q := hl i H hi p
  by_cases hlt : i < xs.length
  · refine .inr ⟨⟨xs, xs[i], q, by simp [hlt]⟩, Pv (i + 1), fun H' p' => ⟨xs.length - (i + 1), by omega, rfl, hlt, p'⟩, fun x H' y => ?_⟩
    obtain ⟨T, x, e0, nT, e, y⟩ := y
    subst e
    subst e0
    exact hs i x H T (y xs q) p nT
  · have e : i = xs.length := by omega
    subst e
    exact .inl ⟨⟨xs, q, Nat.le_refl _⟩, hd H p⟩
def lpJ (J : It) (g : TG) (tb : TS) (D : Ends) (σ : L2.St) (H1 : Hp) : Prop := ∃ W : Nat → Nat → L2.St → Hp → Prop, (∃ m, W 0 m σ H1) ∧ ∀ i m σ H, W i m σ H →
  (J.stop i H ∧ D.nx σ H) ∨ (J.go i H ∧ ∃ N : L2.St → Hp → Prop, (∀ σ' H', N σ' H' → ∃ m', m' < m ∧ W (i + 1) m' σ' H') ∧ ∀ x H', J.yld i H x H' → g x σ H' fun σ2 H2 => tb { D with nx := N, ct := N, bk := D.nx } σ2 H2)
theorem r_forE {D : Ends} (q : tl σ H fun vs1 H1 => ∃ a xs, vs1 = [.ref a] ∧ SqL K H1 a xs ∧ lpJ (Ite K a) g tb D σ H1) : tFor (iEnum K tl) g tb D σ H := q
theorem r_forL {D : Ends} {te : TE} (q : te σ H fun x H1 => ∃ a, x = .ref a ∧ (∃ xs, SqL K H1 a xs) ∧ lpJ (Itl K a) g tb D σ H1) : tFor (iList K te) g tb D σ H := q
theorem r_forL1 {j : Nat} (h : SqL K H a xs) (Pv : Nat → L2.St → Hp → Prop) (h0 : Pv 0 σ H) (hl : ∀ i σ H, i ≤ xs.length → Pv i σ H → SqL K H a xs)
    (hs : ∀ i x σ H, xs[i]? = some x → Pv i σ H → tb ⟨Pv (i + 1), rt, n, Pv (i + 1)⟩ (σ.set j (some x)) H) (hd : ∀ σ H, Pv xs.length σ H → n σ H) :
    ∃ b', V.ref a = .ref b' ∧ (∃ xs, SqL K H b' xs) ∧ lpJ (Itl K b') (gName j) tb ⟨n, rt, b, ct⟩ σ H :=
  ⟨a, rfl, ⟨xs, h⟩, for_list (K := K) (a := a) (xs := xs) (g := gName j) (tb := tb) (D := ⟨n, rt, b, ct⟩) Pv h0 hl hs hd⟩
theorem r_forE1 (h : SqL K H a xs) (Pv : Nat → L2.St → Hp → Prop) (h0 : Pv 0 σ H) (hl : ∀ i σ H, i ≤ xs.length → Pv i σ H → SqL K H a xs)
    (hs : ∀ i x σ H T, xs[i]? = some x → Pv i σ H → H T = none → g (.ref T) σ (upd H T (.tup [.int (i : Nat), x])) fun σ2 H2 => tb ⟨Pv (i + 1), rt, n, Pv (i + 1)⟩ σ2 H2)
    (hd : ∀ σ H, Pv xs.length σ H → n σ H) : ∃ a' xs', [V.ref a] = [.ref a'] ∧ SqL K H a' xs' ∧ lpJ (Ite K a') g tb ⟨n, rt, b, ct⟩ σ H := by
  refine ⟨a, xs, rfl, h, fun i m σ H => m = xs.length - i ∧ i ≤ xs.length ∧ Pv i σ H, ⟨xs.length, by simp, Nat.zero_le _, h0⟩, ?_⟩
  rintro i m σ H ⟨rfl, hi, p⟩
  have q := hl i σ H hi p
  by_cases hlt : i < xs.length
  · refine .inr ⟨⟨xs, xs[i], q, by simp [hlt]⟩, Pv (i + 1), fun σ' H' p' => ⟨xs.length - (i + 1), by omega, rfl, hlt, p'⟩, fun x H' y => ?_⟩
    obtain ⟨T, x, e0, nT, e, y⟩ := y
    subst e
    subst e0
    exact hs i x σ H T (y xs q) p nT
  · have e : i = xs.length := by omega
    subst e
    exact .inl ⟨⟨xs, q, Nat.le_refl _⟩, hd σ H p⟩
/-- a, b = the pair at T -/
theorem r_gTup2 {T : Addr} {x y : V} {i j : Nat} {Q : L2.St → Hp → Prop} (h : SqT K H T [x, y]) (q : Q ((σ.set i (some x)).set j (some y)) H) : gTup K 2 (gCons (gName i) (gCons (gName j) gNil)) (.ref T) σ H Q :=
  ⟨T, [x, y], rfl, h, rfl, x, [y], rfl, y, [], rfl, rfl, q⟩
end
theorem r_dget {σ : L2.St} {H : Hp} {Q : VK} {td ty : TE} (q : td σ H fun x H1 => ty σ H1 fun y H2 => ∃ a v, x = .ref a ∧ DGet H2 a y (some v) ∧ Q v H2) : tDGet td ty σ H Q := q
theorem r_eqV {x y : V} {H : Hp} {Q : VK} (h : scal x y = true) (q : Q (.bl (decide (x = y))) H) : rEq x y H Q := ⟨h, q⟩
theorem r_len {K : PySem.W.Frag} {H : Hp} {Q : VK} {a : Addr} {xs : List V} (h : SqL K H a xs ∨ SqT K H a xs) (q : Q (.int xs.length) H) : rLen K [.ref a] H Q := ⟨a, xs, rfl, h, q⟩
theorem r_isi {K : PySem.W.Frag} {H : Hp} {Q : VK} {x : V} {t n : String} {b : Bool} (ty : TyX K H x (.type t)) (hk : kitB t n = some b) (q : Q (.bl b) H) : rIsi K [x, .ty n] H Q :=
  ⟨x, .ty n, _, _, b, rfl, .ty n, ty, kit_ty hk, q⟩
theorem r_isiT2 {K : PySem.W.Frag} {H : Hp} {Q : VK} {x : V} {tp : Addr} {t n m : String} {b c r : Bool} (ht : H tp = some (.tup [.ty n, .ty m])) (ty : TyX K H x (.type t)) (hb : kitB t n = some b) (hc : kitB t m = some c) (e : (b || c) = r) (q : Q (.bl r) H) : rIsiT K [x, .ref tp] H Q := by
  subst e
  exact ⟨x, tp, _, _, [.type n, .type m], b || c, rfl, ht, .cons (.ty n) (.cons (.ty m) .nil), ty, kitAny_cons (kit_ty hb) (fun e => by
    rw [e, Bool.false_or]
    exact kitAny_cons (kit_ty hc) (fun e2 => by rw [e2]; exact kitAny_nil) (fun e2 => e2)) (fun e => by rw [e]; rfl), q⟩
theorem tyx_L {K : PySem.W.Frag} {H : Hp} {a : Addr} {xs : List V} (h : SqL K H a xs) : TyX K H (.ref a) (.type "list") := by
  rcases h with (h | ⟨o, h⟩) | ⟨o, _, _, h, c, _⟩
  · exact .base (.lst h)
  · exact .base (.frz h)
  · exact .kList h c
theorem tyx_T {K : PySem.W.Frag} {H : Hp} {a : Addr} {xs : List V} (h : SqT K H a xs) : TyX K H (.ref a) (.type "tuple") := by
  rcases h with (h | ⟨o, h⟩) | ⟨o, _, _, h, c, _⟩
  · exact .base (.tup h)
  · exact .fTuple h
  · exact .kTuple h c
theorem TyX.same {K : PySem.W.Frag} {H H' : Hp} {x : V} {t : String} (e : Same H H') (h : TyX K H x (.type t)) : TyX K H' x (.type t) := by
  cases h with
  | base b =>
    cases b with
    | non => exact .base .non
    | bl x => exact .base (.bl x)
    | int i => exact .base (.int i)
    | str x => exact .base (.str x)
    | flt x => exact .base (.flt x)
    | lst h => exact .base (.lst (e _ _ h))
    | frz h => exact .base (.frz (e _ _ h))
    | tup h => exact .base (.tup (e _ _ h))
    | dK h => exact .base (.dK (e _ _ h))
    | dT h => exact .base (.dT (e _ _ h))
  | byt b => exact .byt b
  | set h => exact .set (e _ _ h)
  | kList h c => exact .kList h c
  | kTuple h c => exact .kTuple h c
  | kDict h c => exact .kDict h c
  | fTuple h => exact .fTuple (e _ _ h)
  | fDict h => exact .fDict (e _ _ h)
theorem dpAll_len {K : PySem.W.Frag} {H : Hp} : ∀ {xs : List V} {ds : List PyData}, DpAll K H xs ds → xs.length = ds.length
  | _, _, .nil => rfl
  | _, _, .cons _ t => by rw [List.length_cons, List.length_cons, dpAll_len t]
theorem dpAll_get {K : PySem.W.Frag} {H : Hp} : ∀ {xs : List V} {ds : List PyData} {i : Nat} {d : PyData}, DpAll K H xs ds → ds[i]? = some d → ∃ x, xs[i]? = some x ∧ Dp K H x d
  | _, _, _, _, .nil, h => by simp at h
  | _, _, 0, _, .cons h t, e => by
    simp at e
    subst e
    exact ⟨_, rfl, h⟩
  | _, _, i + 1, _, .cons h t, e => dpAll_get (i := i) t (by simpa using e)
/-- a[i], a a list or a tuple -/
def rIxQ (K : PySem.W.Frag) : R2 := fun x y H Q => rIxL K x y H Q ∨ rIxT K x y H Q
theorem pixQ (K : PySem.W.Frag) {X : Cx} (hK : X.K = K) {a b : Expr} {ta tb : TE} {pos : Pos} (ha : PE X a ta) (hb : PE X b tb) (hs : PlainIx b) : PE X (.Subscript a b pos) (tOp (rIxQ K) ta tb) := hK ▸ pe_ix (ix_list.or ix_tup) ha hb hs
/-! ints, texts, bools, lists and tuples of such: data that may be compared -/
mutual
def plainD : PyData → Bool
  | .int _ | .bool _ | .str _ => true
  | .list xs | .tuple xs => decide (xs.length ≤ 100000) && plainAll xs
  | _ => false
def plainAll : List PyData → Bool
  | [] => true
  | x :: xs => plainD x && plainAll xs
end
theorem plainAll_get : ∀ {ds : List PyData} {i : Nat} {d : PyData}, plainAll ds = true → ds[i]? = some d → plainD d = true
  | [], _, _, _, e => by simp at e
  | x :: r, 0, d, h, e => by
    simp at e
    subst e
    have h' : (plainD x && plainAll r) = true := by simpa [plainAll] using h
    exact (Bool.and_eq_true_iff.mp h').1
  | x :: r, i + 1, d, h, e => by
    have h' : (plainD x && plainAll r) = true := by simpa [plainAll] using h
    exact plainAll_get (i := i) (Bool.and_eq_true_iff.mp h').2 (by simpa using e)
theorem plain_len {ds : List PyData} (h : plainD (.list ds) = true) : ds.length ≤ 100000 := by
  have h' : (decide (ds.length ≤ 100000) && plainAll ds) = true := by simpa [plainD] using h
  exact of_decide_eq_true (Bool.and_eq_true_iff.mp h').1
theorem plain_all {ds : List PyData} (h : plainD (.list ds) = true) : plainAll ds = true := by
  have h' : (decide (ds.length ≤ 100000) && plainAll ds) = true := by simpa [plainD] using h
  exact (Bool.and_eq_true_iff.mp h').2
theorem plain_lenT {ds : List PyData} (h : plainD (.tuple ds) = true) : ds.length ≤ 100000 := by
  have h' : (decide (ds.length ≤ 100000) && plainAll ds) = true := by simpa [plainD] using h
  exact of_decide_eq_true (Bool.and_eq_true_iff.mp h').1
theorem plain_allT {ds : List PyData} (h : plainD (.tuple ds) = true) : plainAll ds = true := by
  have h' : (decide (ds.length ≤ 100000) && plainAll ds) = true := by simpa [plainD] using h
  exact (Bool.and_eq_true_iff.mp h').2
theorem depthAll_get : ∀ {ds : List PyData} {i : Nat} {d : PyData}, ds[i]? = some d → d.depth ≤ PyData.depthAll ds
  | [], _, _, e => by simp at e
  | x :: r, 0, d, e => by
    simp at e
    subst e
    show x.depth ≤ max x.depth (PyData.depthAll r)
    omega
  | x :: r, i + 1, d, e => by
    have := depthAll_get (ds := r) (i := i) (d := d) (by simpa using e)
    show d.depth ≤ max x.depth (PyData.depthAll r)
    omega
theorem plain_ints : ∀ ns : List Int, plainAll (ns.map PyData.int) = true
  | [] => rfl
  | n :: r => by
    show (plainD (.int n) && plainAll (r.map PyData.int)) = true
    rw [plain_ints r]
    rfl
theorem same_seqT {K : PySem.W.Frag} {H H' : Hp} {a : Addr} {xs : List V} (e : Same H H') (h : SqT K H a xs) : SqT K H' a xs := by
  rcases h with (h | ⟨o, h⟩) | h
  · exact .inl (.inl (e _ _ h))
  · exact .inl (.inr ⟨o, e _ _ h⟩)
  · exact .inr h
theorem same_of_upto {p : Addr} {H0 H H' : Hp} (s : Same H0 H) (n : H0 p = none) (u : Upto p H H') : Same H0 H' := fun b o e => u b o (ne_of_none e n) (s b o e)
theorem r_neInts {K : PySem.W.Frag} {H : Hp} {Q : VK} {a b : Addr} {ns : List Int} (h : SqL K H a (intL ns)) (h' : SqL K H b (intL ns)) (q : Q (.bl false) H) : rNeD K (.ref a) (.ref b) H Q :=
  ⟨_, _, dp_ints h, dp_ints h', shaped_ints ns, shaped_ints ns, by rw [eqv_ints]; exact q⟩
theorem r_eqInts {K : PySem.W.Frag} {H : Hp} {Q : VK} {a b : Addr} {ns : List Int} (h : SqL K H a (intL ns)) (h' : SqL K H b (intL ns)) (q : Q (.bl true) H) : rEqD K (.ref a) (.ref b) H Q :=
  ⟨_, _, dp_ints h, dp_ints h', shaped_ints ns, shaped_ints ns, by rw [eqv_ints]; exact q⟩
theorem cut_ints (ns : List Int) (lo hi : Option Int) : ∃ cs : List Int, cutV (intL ns) lo hi = intL cs := by
  unfold cutV
  refine ⟨(ns.drop (HT.sIx (intL ns).length 0 lo)).take (HT.sIx (intL ns).length (intL ns).length hi - HT.sIx (intL ns).length 0 lo), ?_⟩
  show _ = List.map V.int _
  rw [List.map_take, List.map_drop]
theorem int_at {ns : List Int} {i : Nat} {x : V} (h : (intL ns)[i]? = some x) : ∃ z, ns[i]? = some z ∧ x = V.int z := by
  rw [List.getElem?_map] at h
  cases e : ns[i]? with
  | none =>
    rw [e] at h
    cases h
  | some z =>
    rw [e] at h
    exact ⟨z, rfl, (Option.some.inj h).symm⟩
theorem r_cat {H : Hp} {Q : VK} {l b : Addr} {xs zs : List V} (h : H l = some (.lst xs)) (h' : H b = some (.lst zs)) (hz : xs.length + zs.length ≤ 16777216) (q : ∀ p, H p = none → Q (.ref p) (upd H p (.lst (xs ++ zs)))) : rCat (.ref l) (.ref b) H Q :=
  ⟨l, b, xs, zs, rfl, rfl, h, h', r_small hz, q⟩
theorem r_slice {te : TE} {tl th : TO} {σ : L2.St} {H : Hp} {Q : VK} {r : V → Option Int → Option Int → Hp → VK → Prop} (q : te σ H fun x H1 => tl σ H1 fun l H2 => th σ H2 fun u H3 => r x l u H3 Q) : tSl r te tl th σ H Q := q
theorem r_noPart {σ : L2.St} {H : Hp} {Q : Option Int → Hp → Prop} (q : Q none H) : tNoPart σ H Q := q
theorem r_part {t : TE} {σ : L2.St} {H : Hp} {Q : Option Int → Hp → Prop} (q : t σ H fun x H1 => ∃ i, x = .int i ∧ Q (some i) H1) : tPart t σ H Q := q
theorem r_int {i : Int} {QB : Int → Prop} (q : QB i) : ∃ i', V.int i = .int i' ∧ QB i' := ⟨i, rfl, q⟩
theorem r_slL {K : PySem.W.Frag} {lo hi : Option Int} {H : Hp} {Q : VK} {a : Addr} {xs : List V} (h : SqL K H a xs) (q : ∀ p, H p = none → Q (.ref p) (upd H p (.lst (cutV xs lo hi)))) : rSlL K (.ref a) lo hi H Q := ⟨a, xs, rfl, h, q⟩
theorem r_lst1 {K : PySem.W.Frag} {H : Hp} {Q : VK} {a : Addr} {xs : List V} (h : SqL K H a xs ∨ SqT K H a xs) (q : ∀ l, H l = none → Q (.ref l) (upd H l (.lst xs))) : rLst K [.ref a] H Q := ⟨a, xs, rfl, h, q⟩
theorem plain_listI {ns : List Int} (h : ns.length ≤ 100000) : plainD (.list (ns.map PyData.int)) = true := by
  simp only [plainD, List.length_map, plain_ints, Bool.and_true]
  exact decide_eq_true h
theorem depth_listI (ns : List Int) : PyData.depth (.list (ns.map PyData.int)) = 1 := by
  show PyData.depthAll (ns.map PyData.int) + 1 = 1
  rw [depth_ints]
theorem tup_of {K : PySem.W.Frag} {H : Hp} {a : Addr} {xs : List V} (h : H a = some (.tup xs)) : SqT K H a xs := .inl (.inl h)
end Px

set_option Elab.async false
set_option linter.all false
set_option maxRecDepth 100000
set_option maxHeartbeats 4000000
namespace Px
open RT
open PySem PySem.Spec PyProof.Rows L2
/-! ### list(reversed(xs)) -/
section
variable {prog : Program} {w : World} {A : Around} {E : Value → Shared → Prop} {s : Shared}
theorem init_rev {it l S : Addr} {items : Array Value} {R : Result → Shared → Prop} (hh : A.handled = none) (hit : s.heap.IsRevIter it l ((items.size : Int) - 1)) (hl : s.heap.IsList l items) (hne : l ≠ it) (hn : items.size ≤ sizeLine)
    (hSi : S ≠ it) (hSl : S ≠ l) (hS : s.heap.get? S = some { cls := .type "list", data := .seq #[] })
    (hR : ∀ h' tk acc c, (∀ b o, b ≠ S → b ≠ it → s.heap.get? b = some o → h'.get? b = some o) → h'.get? S = some { cls := .type "list", dict := none, data := .seq acc c, slots := #[] } →
      ItemsOf (fun i v => items[items.size - 1 - i]? = some v) acc items.size → R (.ok (.ret .none)) { s with heap := h', toks := tk }) :
    wpAny (model prog w) A.in1 (Builtin.«list.__init__» ⟨[.ref S, .ref it], []⟩)
      (fun fin s' => match fin with | .done f => R (.ok f) s' | .again c' => c'.quiet = true ∧ codeAny (model prog w) A c' R s') (fun e s' => R (.error e) s') s := by
  show wpAny _ _ (do let old ← Builtin.List.listItems (.ref S); Builtin.List.listUpdate (.ref S) (fun _ => #[]); letGo old.toList.reverse; Builtin.List.listExtendWith (.ref S) (.ref it) .none) _ _ s
  refine wpAny_bind ?_
  unfold Builtin.List.listItems
  refine wpAny_bind (wpAny_seqItems hS rfl (wpAny_pure ?_))
  show wpAny _ _ (updateSeq S (fun _ => #[]) >>= fun _ => letGo (#[] : Array Value).toList.reverse >>= fun _ => Builtin.List.listExtendWith (.ref S) (.ref it) .none) _ _ s
  refine wpAny_bind (wpAny_updateSeq hS rfl ?_)
  have hS₂ := Heap.get?_update_self (Obj.mapSeq (fun _ => (#[] : Array Value))) hS rfl
  have oth : ∀ b o, b ≠ S → s.heap.get? b = some o → (s.heap.update S (Obj.mapSeq (fun _ => (#[] : Array Value)))).get? b = some o :=
    fun b o hb e => (Heap.get?_update_other _ _ (Ne.symm hb)).trans e
  refine wpAny_bind (wpAny_letGo ?_)
  generalize hh2 : s.heap.update S (Obj.mapSeq (fun _ => (#[] : Array Value))) = h2 at oth hS₂ ⊢
  have hit1 : h2.IsRevIter it l ((items.size : Int) - 1) := hit.at fun o e => oth it o (Ne.symm hSi) e
  have hl1 : h2.IsList l items := hl.at fun o e => oth l o (Ne.symm hSl) e
  have W := (Walks.listRev (prog := prog) (w := w) (A := A.in1) hh it l hne items).toS
  have hSf : S ∉ [it, l] := by simp only [List.mem_cons, List.not_mem_nil, or_false, not_or]; exact ⟨hSi, hSl⟩
  have hT : ({ s with heap := h2 } : Shared).TypeIs (.ref it) "list_reverseiterator" := Heap.IsRevIter.typeIs (s := { s with heap := h2 }) hit1
  have h1 : Builtin.List.listSameRef (.ref S) (.ref it) = false := by simp [Builtin.List.listSameRef, hSi]
  unfold Builtin.List.listExtendWith
  refine wpAny_bind (wpAny_typeOf hT ?_)
  rw [if_neg (by rw [h1]; decide)]
  refine wpAny_bind (wpAny_pyIter_revIter (s := { s with heap := h2 }) hit1 ?_)
  refine wpAny_bind (wpAny_holding ?_)
  unfold Builtin.List.listLengthHint
  refine wpAny_bind (wpAny_specialOf hT nolen_lri ?_)
  show wpAny _ A.in1 (specialOf (Value.ref it) (Str.ofString "__length_hint__") >>= _) _ _ _
  refine wpAny_bind (wpAny_specialOf hT hint_lri ?_)
  generalize hid : ("list_reverseiterator.__length_hint__" : String) = id0
  wp_delta
  rw [show splitId id0 = some ("list_reverseiterator", "__length_hint__") from by subst hid; decide +kernel]
  subst hid
  refine wpAny_bind (wpAny_isInstance (b := true) hT (by rw [isSubtype_type]; kernel_rfl) ?_)
  refine wpAny_pure ?_
  rw [if_neg (by decide)]
  have e0 : ((items.size : Nat) : Int) - 1 - ((0 : Nat) : Int) = (items.size : Int) - 1 := by omega
  refine wpAny_pure ⟨plainId_quiet F.plain_extend_loop _, codeAny_extend_loopS W hn _ hSf _ items.size 0 _ _ _ rfl (Nat.zero_le _) ⟨Nat.zero_le _, by rw [e0]; exact hit1, hl1⟩ hS₂ (ItemsOf.nil _) fun s' acc' c' hm hS' hacc => ?_⟩
  rw [Moved.eq_with hm]
  refine hR s'.heap s'.toks acc' c' (fun b o hb hb2 e => hm.heap b o (fun hmem => ?_) (oth b o hb e)) hS' hacc
  rcases List.mem_cons.mp hmem with e' | hmem
  · exact hb e'
  · exact hb2 (List.mem_singleton.mp hmem)
theorem call_list_rev {it l : Addr} {items : Array Value} {Q : Value → Shared → Prop} (hh : A.handled = none) (hit : s.heap.IsRevIter it l ((items.size : Int) - 1)) (hl : s.heap.IsList l items) (hne : l ≠ it) (hn : items.size ≤ sizeLine)
    (hQ : ∀ h' tk acc c, (∀ b o, b ≠ it → s.heap.get? b = some o → h'.get? b = some o) → h'.get? s.heap.objs.size = some { cls := .type "list", dict := none, data := .seq acc c, slots := #[] } →
      ItemsOf (fun i v => items[items.size - 1 - i]? = some v) acc items.size → Q (.ref s.heap.objs.size) { s with heap := h', toks := tk }) :
    wpAny (model prog w) A (call (.type "list") [.ref it]) Q E s := by
  refine callType_codes (Q₁ := fun obj s₁ => obj = .ref s.heap.objs.size ∧ s₁ = { s with heap := s.heap.push { cls := .type "list", data := .seq #[] } }) PySem.F.called_list (PySem.F.typeCall_list_1 _) PySem.F.entry_list_init
    (code_list_new _ ⟨rfl, rfl⟩) fun obj s₁ h₁ => ?_
  obtain ⟨rfl, rfl⟩ := h₁
  obtain ⟨oi, hoi, _⟩ := id hit
  obtain ⟨ol, hol, _⟩ := id hl
  have hSi : s.heap.objs.size ≠ it := Nat.ne_of_gt (Heap.lt_size hoi)
  have hSl : s.heap.objs.size ≠ l := Nat.ne_of_gt (Heap.lt_size hol)
  have hS : (s.heap.push { cls := .type "list", data := .seq #[] }).get? s.heap.objs.size = some { cls := .type "list", data := .seq #[] } := Heap.get?_push_size _ rfl
  refine ⟨⟨_, hS, rfl⟩, PySem.F.args_list_init_2 _ _, init_rev (A := A.in1) (s := { s with heap := s.heap.push { cls := .type "list", data := .seq #[] } }) hh (hit.at fun o e => Heap.get?_push_of_some _ e) (hl.push _) hne hn hSi hSl hS (fun h' tk acc' c' hk hS' hacc => ?_)⟩
  exact ⟨rfl, hQ h' tk acc' c' (fun b o hb e => hk b o (Nat.ne_of_lt (Heap.lt_size e)) hb (Heap.get?_push_of_some _ e)) hS' hacc⟩
end
def tLRev (K : PySem.W.Frag) (te : TE) : TE := fun σ H Q => te σ H fun v H1 => ∃ (a : Addr) (xs : List V), v = .ref a ∧ SqL K H1 a xs ∧ ∀ q, H1 q = none → Q (.ref q) (upd H1 q (.lst xs.reverse))
theorem r_lrev {K : PySem.W.Frag} {te : TE} {σ : L2.St} {H : Hp} {Q : VK} (q : te σ H fun v H1 => ∃ (a : Addr) (xs : List V), v = .ref a ∧ SqL K H1 a xs ∧ ∀ q, H1 q = none → Q (.ref q) (upd H1 q (.lst xs.reverse))) : tLRev K te σ H Q := q
theorem peLRev (K : PySem.W.Frag) {X : Cx} (hK : X.K = K) {e : Expr} {te : TE} {p p2 pos pos2 : Pos} (hg : Gl X "list") (hm : X.mg "list" = none) (hg2 : Gl X "reversed") (hm2 : X.mg "reversed" = none) (he : PE X e te) (hc : X.calm = true := by rfl)
    (hs : starEach [e] X.env = (false, eval e X.env) :: starEach [] X.env := by rfl)
    (hs2 : starEach [.Call (.Name "reversed" p2) [e] [] pos2] X.env = (false, eval (.Call (.Name "reversed" p2) [e] [] pos2) X.env) :: starEach [] X.env := by rfl) :
    PE X (.Call (.Name "list" p) [.Call (.Name "reversed" p2) [e] [] pos2] [] pos) (tLRev K te) := by
  subst hK
  refine ⟨fun pins s σ H Q I h => ?_⟩
  refine Call_ (ld_blt I hg hm boot_list (PyProof.Rows.callWith_type1 (args_cons (Call_ (ld_blt I hg2 hm2 PyProof.Rows.boot_reversed (PyProof.Rows.callWith_type1 (args_cons (thn (he.run pins s σ H _ I h) fun u s1 ⟨v, H1, I1, r1, q1⟩ => args_nil ?_) hs) hs rfl))) hs2) hs2 rfl))
  obtain ⟨a, xs, ev, hq, q⟩ := q1
  subst ev
  obtain rfl : u = Value.ref a := r1
  obtain ⟨its, rv, p', hz⟩ := I1.list hq
  refine call_reversed_list p'.isList (args_nil ?_)
  have k0 : ∀ b o, s1.heap.get? b = some o → (s1.heap.push (revObj a ((its.toArray.size : Int) - 1))).get? b = some o := fun b o e => Heap.get?_push_of_some _ e
  have I2 : Inv X pins σ H1 { s1 with heap := s1.heap.push (revObj a ((its.toArray.size : Int) - 1)) } := I1.kept (t' := s1.toks) k0
  obtain ⟨f0, f1, f2, f3, f4, f5⟩ := I1.fpOk (H' := H1) (b := s1.heap.objs.size) (Nat.le_refl _) (I1.hok.fresh (Nat.le_refl _))
  have hl := p'.isList
  obtain ⟨ol, hol, _⟩ := id hl
  have hne : a ≠ s1.heap.objs.size := Nat.ne_of_lt (Heap.lt_size hol)
  have hn : its.toArray.size ≤ sizeLine := by rw [List.size_toArray, ← rv.length]; exact hz
  refine call_list_rev (s := { s1 with heap := s1.heap.push (revObj a ((its.toArray.size : Int) - 1)) }) (I1.ok.hd hc) ⟨_, Heap.get?_push_size _ rfl, rfl, rfl⟩ (hl.push _) hne hn fun h' tk acc c hk hS hi => ?_
  have nit : (s1.heap.push (revObj a ((its.toArray.size : Int) - 1))).objs.size ≠ s1.heap.objs.size := by rw [Heap.size_push]; omega
  have hfo : ∀ b ∈ [s1.heap.objs.size], FpOk X pins H1 b := fun b hb => by
    rw [List.mem_singleton.mp hb]
    exact ⟨f0, f1, f2, f3, f4, f5⟩
  have hok : ObjOk X.prog X.w (upd H1 (s1.heap.push (revObj a ((its.toArray.size : Int) - 1))).objs.size (.lst xs.reverse)) h' (s1.heap.push (revObj a ((its.toArray.size : Int) - 1))).objs.size (.lst xs.reverse) :=
    ⟨by rw [List.length_reverse]; exact hz, acc.toList, c, vals_rev rv hi, by rw [Array.toArray_toList]; exact hS⟩
  refine ⟨.ref (s1.heap.push (revObj a ((its.toArray.size : Int) - 1))).objs.size, _, I2.turnedNew (t' := tk) (ch := [s1.heap.objs.size]) (fun b o hb e => hk b o (fun z => hb (by rw [z]; exact List.mem_singleton.mpr rfl)) e) hfo (Nat.le_refl _) hok, rfl, q _ (I1.hok.fresh ?_)⟩
  rw [Heap.size_push]
  omega
end Px

set_option Elab.async false
set_option linter.all false
set_option maxRecDepth 100000
set_option maxHeartbeats 4000000
namespace Px
open PySem PySem.Spec PyProof.Rows L2
/-! ### orders of the numbers below n -/
def ntL (ns : List Nat) : List V := ns.map fun (k : Nat) => V.int (k : Int)
theorem ntL_int (ns : List Nat) : ntL ns = intL (ns.map fun (k : Nat) => (k : Int)) := by
  unfold ntL
  show _ = List.map V.int _
  rw [List.map_map]
  rfl
theorem ntL_length (ns : List Nat) : (ntL ns).length = ns.length := List.length_map _
theorem ntL_snoc (ns : List Nat) (k : Nat) : ntL (ns ++ [k]) = ntL ns ++ [V.int (k : Int)] := by
  unfold ntL
  rw [List.map_append]
  rfl
theorem ntL_at {ns : List Nat} {i : Nat} {x : V} (h : (ntL ns)[i]? = some x) : ∃ k, ns[i]? = some k ∧ x = V.int (k : Int) := by
  unfold ntL at h
  rw [List.getElem?_map] at h
  cases e : ns[i]? with
  | none =>
    rw [e] at h
    cases h
  | some z =>
    rw [e] at h
    exact ⟨z, rfl, (Option.some.inj h).symm⟩
theorem ntL_get {ns : List Nat} {i k : Nat} (h : ns[i]? = some k) : (ntL ns)[i]? = some (V.int (k : Int)) := by
  unfold ntL
  rw [List.getElem?_map, h]
  rfl
theorem ntL_range (n : Nat) : ntL (List.range n) = (List.range n).map fun (k : Nat) => V.int (k : Int) := rfl
theorem ntL_insert (xs : List Nat) (r i : Nat) : (ntL xs).take r ++ [V.int (i : Int)] ++ (ntL xs).drop r = ntL (xs.take r ++ [i] ++ xs.drop r) := by
  unfold ntL
  simp only [List.map_append, List.map_take, List.map_drop, List.map_cons, List.map_nil]
theorem rise_natlist {xs : List Nat} (h : xs.Pairwise (· < ·)) : (xs.map fun (k : Nat) => (k : Int)).Pairwise (· ≤ ·) := by
  rw [List.pairwise_map]
  exact h.imp fun h => by omega
/-- sorted of an order is the range -/
theorem sorted_order {ss : List Int} {os : List Nat} (pm : os.Perm (List.range os.length)) (h : ss.Perm (os.map fun (k : Nat) => (k : Int))) (hs : ss.Pairwise (· ≤ ·)) :
    ss = (List.range os.length).map fun (k : Nat) => (k : Int) :=
  List.Perm.eq_of_pairwise (fun a b _ _ h1 h2 => by omega) hs (rise_natlist List.pairwise_lt_range) (h.trans (pm.map _))
theorem perm_range_of {xs : List Nat} (nd : xs.Nodup) (h : ∀ x ∈ xs, x < xs.length) : xs.Perm (List.range xs.length) := by
  refine (List.perm_ext_iff_of_nodup nd List.nodup_range).mpr fun a => ⟨fun ha => List.mem_range.mpr (h a ha), fun ha => ?_⟩
  refine Classical.byContradiction fun hn => ?_
  have h1 : (a :: xs).Nodup := List.nodup_cons.mpr ⟨hn, nd⟩
  have h2 : (a :: xs) ⊆ List.range xs.length := fun b hb => by
    rcases List.mem_cons.mp hb with rfl | hb
    · exact ha
    · exact List.mem_range.mpr (h b hb)
  have h3 := h1.length_le_of_subset h2
  rw [List.length_cons, List.length_range] at h3
  omega
theorem order_nodup {os : List Nat} (pm : os.Perm (List.range os.length)) : os.Nodup := pm.nodup_iff.mpr List.nodup_range
theorem order_lt {os : List Nat} (pm : os.Perm (List.range os.length)) {k : Nat} (h : k ∈ os) : k < os.length := List.mem_range.mp (pm.mem_iff.mp h)
theorem order_mem {os : List Nat} (pm : os.Perm (List.range os.length)) {k : Nat} (h : k < os.length) : k ∈ os := pm.mem_iff.mpr (List.mem_range.mpr h)
/-- at each place the place at which that number stands -/
def undo (os : List Nat) : List Nat := (List.range os.length).map fun k => os.idxOf k
theorem undo_length (os : List Nat) : (undo os).length = os.length := by
  unfold undo
  rw [List.length_map, List.length_range]
theorem idxOf_of {os : List Nat} (nd : os.Nodup) {i k : Nat} (h : os[i]? = some k) : os.idxOf k = i := by
  obtain ⟨hi, e⟩ := List.getElem?_eq_some_iff.mp h
  rw [← e]
  exact nd.idxOf_getElem i hi
theorem get_idxOf {os : List Nat} {k : Nat} (h : k ∈ os) : os[os.idxOf k]? = some k := by
  have hl := List.idxOf_lt_length_of_mem h
  rw [List.getElem?_eq_getElem hl, List.getElem_idxOf hl]
theorem undo_get {os : List Nat} {k : Nat} (h : k < os.length) : (undo os)[k]? = some (os.idxOf k) := by
  unfold undo
  rw [List.getElem?_map, List.getElem?_range h]
  rfl
theorem undo_perm {os : List Nat} (pm : os.Perm (List.range os.length)) : (undo os).Perm (List.range (undo os).length) := by
  refine perm_range_of ?_ fun x hx => ?_
  · unfold undo List.Nodup
    rw [List.pairwise_map]
    refine List.Pairwise.imp_of_mem (fun {a b} ha hb hab e => hab ?_) List.nodup_range
    have h1 := get_idxOf (order_mem pm (List.mem_range.mp ha))
    have h2 := get_idxOf (order_mem pm (List.mem_range.mp hb))
    rw [e, h2] at h1
    exact (Option.some.inj h1).symm
  · rw [undo_length]
    obtain ⟨k, hk, rfl⟩ := List.mem_map.mp hx
    exact List.idxOf_lt_length_of_mem (order_mem pm (List.mem_range.mp hk))
/-! ### dicts of places -/
def rkv : List Int → Nat → List (Key × V)
  | [], _ => []
  | x :: r, i => (.inl x, .int (i : Nat)) :: rkv r (i + 1)
theorem rkv_length : ∀ (ss : List Int) (i : Nat), (rkv ss i).length = ss.length
  | [], _ => rfl
  | x :: r, i => by
    show (rkv r (i + 1)).length + 1 = r.length + 1
    rw [rkv_length r]
theorem rkv_snoc : ∀ (ss : List Int) (x : Int) (i : Nat), rkv (ss ++ [x]) i = rkv ss i ++ [(.inl x, .int ((i + ss.length : Nat) : Int))]
  | [], x, i => rfl
  | y :: r, x, i => by
    show (Sum.inl y, V.int (i : Nat)) :: rkv (r ++ [x]) (i + 1) = (Sum.inl y, V.int (i : Nat)) :: (rkv r (i + 1) ++ _)
    rw [rkv_snoc r x (i + 1)]
    have e : i + 1 + r.length = i + (y :: r).length := by rw [List.length_cons]; omega
    rw [e]
theorem rkv_any : ∀ (ss : List Int) (x : Int) (i : Nat), x ∉ ss → ((rkv ss i).any fun kv => decide (kv.1 = (Sum.inl x : Key))) = false
  | [], _, _, _ => rfl
  | y :: r, x, i, h => by
    show (decide ((Sum.inl y : Key) = Sum.inl x) || (rkv r (i + 1)).any _) = false
    rw [rkv_any r x (i + 1) fun z => h (List.mem_cons_of_mem _ z), Bool.or_false]
    refine decide_eq_false fun e => h ?_
    cases e
    exact List.mem_cons_self
theorem rkv_put {ss : List Int} {x : Int} {i : Nat} (h : x ∉ ss) : putK (rkv ss i) (.inl x) (.int ((i + ss.length : Nat) : Int)) = rkv (ss ++ [x]) i := by
  unfold putK
  rw [rkv_any ss x i h, if_neg Bool.false_ne_true, rkv_snoc]
theorem rkv_at : ∀ (ss : List Int) (x : Int) (i j : Nat), ss.Nodup → ss[j]? = some x → valV (rkv ss i) (.inl x) = some (.int ((i + j : Nat) : Int))
  | [], _, _, _, _, h => by simp at h
  | y :: r, x, i, 0, _, h => by
    simp at h
    subst h
    exact valV_pos rfl
  | y :: r, x, i, j + 1, hn, h => by
    have hn1 := List.nodup_cons.mp hn
    have h2 : r[j]? = some x := by simpa using h
    have e : ¬ y = x := fun e => hn1.1 (by rw [e]; exact List.mem_of_getElem? h2)
    have ih := rkv_at r x (i + 1) j hn1.2 h2
    show valV ((Sum.inl y, V.int (i : Nat)) :: rkv r (i + 1)) (Sum.inl x) = _
    rw [valV_neg (fun q => e (by cases q; rfl)), ih]
    congr 3
    omega
/-- the next number goes behind -/
theorem rkv_step {ss : List Int} {i : Nat} {z : Int} (nd : ss.Nodup) (hz : ss[i]? = some z) : putK (rkv (ss.take i) 0) (.inl z) (.int (i : Nat)) = rkv (ss.take (i + 1)) 0 := by
  have hi := lt_of_at hz
  have hz2 : z ∉ ss.take i := fun hm => by
    obtain ⟨j, hj⟩ := List.mem_iff_getElem?.mp hm
    rw [List.getElem?_take] at hj
    by_cases hji : j < i
    · rw [if_pos hji] at hj
      have := nd_ix nd hj hz
      omega
    · rw [if_neg hji] at hj
      cases hj
  have e5 : ss.take (i + 1) = ss.take i ++ [z] := by
    rw [List.take_add_one, hz]
    rfl
  have e6 : (ss.take i).length = i := by rw [List.length_take]; omega
  have e7 := rkv_put (ss := ss.take i) (x := z) (i := 0) hz2
  rw [e6, Nat.zero_add] at e7
  rw [e5, ← e7]
/-! ### ranks -/
def below (ns : List Int) (x : Int) : Nat := (ns.filter fun y => decide (y < x)).length
def ranksN (ns : List Int) : List Nat := ns.map fun x => below ns x
def ranks (ns : List Int) : List Int := ns.map fun x => (below ns x : Int)
theorem ranks_nat (ns : List Int) : intL (ranks ns) = ntL (ranksN ns) := by
  unfold ranks ranksN ntL
  show List.map V.int (List.map _ _) = _
  rw [List.map_map, List.map_map]
  rfl
theorem sorted_strict {ss : List Int} (h : ss.Pairwise (· ≤ ·)) (n : ss.Nodup) : ss.Pairwise (· < ·) := by
  refine List.Pairwise.imp_of_mem (S := (· < ·)) (fun {a b} _ _ hab => ?_) (h.and n)
  omega
theorem below_perm {ss ns : List Int} (p : ss.Perm ns) (x : Int) : (ss.filter fun y => decide (y < x)).length = below ns x := (p.filter _).length_eq
theorem sorted_below : ∀ {ss : List Int} {j : Nat} {x : Int}, ss.Pairwise (· < ·) → ss[j]? = some x → (ss.filter fun y => decide (y < x)).length = j
  | [], _, _, _, h => by simp at h
  | y :: r, 0, x, hs, h => by
    simp at h
    subst h
    have hs1 := List.pairwise_cons.mp hs
    have z : ((y :: r).filter fun z => decide (z < y)) = [] := by
      rw [List.filter_eq_nil_iff]
      intro z hz
      rcases List.mem_cons.mp hz with rfl | hz
      · simp
      · have := hs1.1 z hz
        simp
        omega
    rw [z]
    rfl
  | y :: r, j + 1, x, hs, h => by
    have hs1 := List.pairwise_cons.mp hs
    have h2 : r[j]? = some x := by simpa using h
    have ih := sorted_below hs1.2 h2
    have hy := hs1.1 x (List.mem_of_getElem? h2)
    rw [List.filter_cons, if_pos (decide_eq_true hy), List.length_cons, ih]
/-! ### lists told -/
theorem rev_ints (ns : List Int) : (intL ns).reverse = intL ns.reverse := by
  show (List.map V.int ns).reverse = List.map V.int ns.reverse
  rw [List.map_reverse]
theorem mtIndex (K : PySem.W.Frag) {X : Cx} (hK : X.K = K) : MtR X "list.index" (rIndex K) := hK ▸ mt_index
theorem r_index {K : PySem.W.Frag} {H : Hp} {Q : VK} {a : Addr} {os : List Nat} {k : Nat} (h : SqL K H a (ntL os)) (hk : k ∈ os) (q : Q (.int (os.idxOf k : Nat)) H) : rIndex K (.ref a) [.int (k : Int)] H Q := by
  refine ⟨a, ntL os, .int (k : Int), os.idxOf k, .int (k : Int), rfl, rfl, h, rfl, ?_, ntL_get (get_idxOf hk), ?_, fun m z' hm hz => ?_, q⟩
  · rw [List.all_eq_true]
    intro x hx
    unfold ntL at hx
    obtain ⟨y, _, rfl⟩ := List.mem_map.mp hx
    rfl
  · show ((k : Int) == (k : Int)) = true
    exact beq_self_eq_true _
  · obtain ⟨y, hy, rfl⟩ := ntL_at hz
    show ((y : Int) == (k : Int)) = false
    refine beq_eq_false_iff_ne.mpr fun e => ?_
    have e2 : y = k := by omega
    subst e2
    have h1 := lt_of_at hy
    have := List.not_of_lt_findIdx (xs := os) (p := fun x => x == y) (i := m) (by unfold List.idxOf at hm; exact hm)
    obtain ⟨_, e3⟩ := List.getElem?_eq_some_iff.mp hy
    rw [e3] at this
    simp at this
/-- a def that a local name holds -/
structure HeldF (P : Program) (w : World) (K : PySem.W.Frag) (mg : Str → Option Value) (base : Heap) (k : Nat) (f : Addr) (sp : Sp) : Prop where
  ex : ∃ (fd : FuncData) (ps : List Str), FnOk P w K mg base CX0 k f fd ps sp ∧ PySem.W.keepIn K (.ref f) = true ∧ Binds K fd ps []
def tCalH (P : Program) (w : World) (K : PySem.W.Frag) (mg : Str → Option Value) (base : Heap) (k i : Nat) (t : TA) : TE := fun σ H Q => ∃ f sp, σ[i]? = some (some (.ref f)) ∧ HeldF P w K mg base k f sp ∧ t σ H fun vs H1 => sp vs H1 Q E0
theorem r_calH {P : Program} {w : World} {K : PySem.W.Frag} {mg : Str → Option Value} {base : Heap} {k i : Nat} {t : TA} {σ : L2.St} {H : Hp} {Q : VK} (q : ∃ f sp, σ[i]? = some (some (.ref f)) ∧ HeldF P w K mg base k f sp ∧ t σ H fun vs H1 => sp vs H1 Q E0) : tCalH P w K mg base k i t σ H Q := q
theorem pe_calH {X : Cx} {k i : Nat} {x : Str} {p pos : Pos} {e : Expr} {es : List Expr} {t : TA} (hr : Room k X.A) (hN : X.N[i]? = some x) (hv : Vis X.env.scope x) (ha : PA X (e :: es) t)
    (hdb : (x == ("__debug__" : Str)) = false := by decide) (hcd : (x == ("__classdict__" : Str)) = false := by decide)
    (he : starEach (e :: es) X.env = (false, eval e X.env) :: starEach es X.env := by rfl) (hpl : (backTo pos (starEach es X.env)).any (·.1) = false := by rfl) : PE X (.Call (.Name x p) (e :: es) [] pos) (tCalH X.prog X.w X.K X.mg X.base k i t) := by
  refine ⟨fun pins s σ H Q I h => ?_⟩
  obtain ⟨f, sp, hs, hS, ht⟩ := h
  obtain ⟨fd, ps, F, hk, hb⟩ := hS.ex
  refine wpAny_Call_Name_kw (thn ((pe_var (pos := p) hN hv hdb hcd).run pins s σ H (fun v H1 => v = .ref f ∧ H1 = H) I ⟨.ref f, hs, rfl, rfl⟩) fun u s1 ⟨v, H1, I1, r1, q1⟩ => ?_)
  obtain ⟨rfl, rfl⟩ := q1
  cases r1
  refine PySem.W.callWith_K (h₀ := X.base) I.ok.mod.kin hk (thn (ha.run pos pins s1 σ _ _ I1 ht) fun us s2 ⟨vs, H2, I2, r, q⟩ => ⟨I2.kIn, ?_⟩) he hpl
  exact run_fn (dvs := []) (ds := []) F hr hb .nil pass0 I2 r (by rw [List.append_nil]; exact q)
end Px

set_option Elab.async false
set_option linter.all false
set_option maxRecDepth 100000
set_option maxHeartbeats 4000000
namespace Px
open PySem PySem.Spec PyProof.Rows L2
/-! ### comprehensions that change nothing: what they build -/
section
variable {K : PySem.W.Frag} {σ : L2.St} {H : Hp} {Q : VK} {te : TE} {tt : TT} {vs : List Nat} {j n : Nat} {a : Addr} {xs : List V} {ta : TA}
theorem r_lcR2 {g : TG} (q : ta σ H fun vs1 H1 => ∃ i j : Int, vs1 = [.int i, .int j] ∧ (-(2 ^ 62) ≤ i ∧ i < 2 ^ 62 ∧ -(2 ^ 62) ≤ j ∧ j < 2 ^ 62) ∧ lcJ (Itr i (j - i).toNat) g tt te vs σ H1 Q) : tLc (iRng2 ta) g tt te vs σ H Q := q
theorem r_lcR21 {g : TG} {z y lo : Int} {m : Nat} (hz : z = lo) (hy : y = lo + (m : Int)) (h1 : -1000000000 ≤ lo) (h2 : lo ≤ 1000000000) (hm : m ≤ 1000000000) (q : lcJ (Itr lo m) g tt te vs σ H Q) :
    ∃ i j : Int, [V.int z, V.int y] = [.int i, .int j] ∧ (-(2 ^ 62) ≤ i ∧ i < 2 ^ 62 ∧ -(2 ^ 62) ≤ j ∧ j < 2 ^ 62) ∧ lcJ (Itr i (j - i).toNat) g tt te vs σ H Q := by
  subst hz hy
  refine ⟨z, z + m, rfl, ⟨by omega, by omega, by omega, by omega⟩, ?_⟩
  rw [show (z + (m : Int) - z).toNat = m by omega]
  exact q
/-- over a range: f of each turn -/
theorem lcR_map {lo : Int} (f : Nat → V) (hn : n ≤ 100000) (hw : ∀ x, wipe ((wipe σ vs).set j (some x)) vs = wipe σ vs)
    (hs : ∀ (i : Nat) (H' : Hp) (R : VK), i < n → Same H H' → (∀ H'', Same H' H'' → R (f i) H'') → te ((wipe σ vs).set j (some (.int (lo + (i : Nat))))) H' R)
    (q : ∀ D H', H D = none → Same H H' → H' D = some (.lst ((List.range n).map f)) → Q (.ref D) H') : lcJ (Itr lo n) (gName j) tYes te vs σ H Q := fun D hD =>
  lc_range (n := n) (fun i H' => Same H H' ∧ H' D = some (.lst ((List.range i).map f))) ⟨same_new hD, upd_same⟩ (fun i H' hi ⟨s4, e4⟩ => ⟨hw _, by
    refine r_yes (iteT ?_)
    refine hs i H' _ hi s4 fun H'' s5 => ⟨_, s5 _ _ e4, r_smalll (by rw [List.length_map, List.length_range]; omega), same_mut (s4.trans s5) hD, ?_⟩
    rw [upd_same, List.range_succ, List.map_append]
    rfl⟩) fun H' ⟨s4, e4⟩ => q D H' hD s4 e4
/-- over a range, some left out -/
theorem lcR_filter {lo : Int} (p : Nat → Bool) (f : Nat → V) (hn : n ≤ 100000) (hw : ∀ x, wipe ((wipe σ vs).set j (some x)) vs = wipe σ vs)
    (ht : ∀ (i : Nat) (H' : Hp) (R : Bool → Hp → Prop), i < n → Same H H' → (∀ H'', Same H' H'' → R (p i) H'') → tt ((wipe σ vs).set j (some (.int (lo + (i : Nat))))) H' R)
    (hs : ∀ (i : Nat) (H' : Hp) (R : VK), i < n → p i = true → Same H H' → (∀ H'', Same H' H'' → R (f i) H'') → te ((wipe σ vs).set j (some (.int (lo + (i : Nat))))) H' R)
    (q : ∀ D H', H D = none → Same H H' → H' D = some (.lst (((List.range n).filter p).map f)) → Q (.ref D) H') : lcJ (Itr lo n) (gName j) tt te vs σ H Q := fun D hD =>
  lc_range (n := n) (fun i H' => Same H H' ∧ H' D = some (.lst (((List.range i).filter p).map f))) ⟨same_new hD, upd_same⟩ (fun i H' hi ⟨s4, e4⟩ => ⟨hw _, by
    have e5 : (List.range (i + 1)).filter p = (List.range i).filter p ++ [i].filter p := by rw [List.range_succ, List.filter_append]
    refine ht i H' _ hi s4 fun H2 s5 => ?_
    cases hp : p i with
    | true =>
      refine iteT ?_
      have hl := List.length_filter_le p (List.range i)
      rw [List.length_range] at hl
      refine hs i H2 _ hi hp (s4.trans s5) fun H'' s6 => ⟨_, s6 _ _ (s5 _ _ e4), r_smalll (by rw [List.length_map]; omega), same_mut ((s4.trans s5).trans s6) hD, ?_⟩
      rw [upd_same, e5, List.filter_cons, if_pos hp, List.filter_nil, List.map_append]
      rfl
    | false =>
      refine iteF ?_
      refine ⟨s4.trans s5, ?_⟩
      rw [e5, List.filter_cons, if_neg (by rw [hp]; exact Bool.false_ne_true), List.filter_nil, List.append_nil]
      exact s5 _ _ e4⟩) fun H' ⟨s4, e4⟩ => q D H' hD s4 e4
/-- over a list: f of each item -/
theorem lcL_map (f : V → V) (hx : SqL K H a xs) (hn : xs.length ≤ 100000) (hw : ∀ x, wipe ((wipe σ vs).set j (some x)) vs = wipe σ vs)
    (hs : ∀ (i : Nat) (x : V) (H' : Hp) (R : VK), xs[i]? = some x → Same H H' → (∀ H'', Same H' H'' → R (f x) H'') → te ((wipe σ vs).set j (some x)) H' R)
    (q : ∀ D H', H D = none → Same H H' → H' D = some (.lst (xs.map f)) → Q (.ref D) H') : lcJ (Itl K a) (gName j) tYes te vs σ H Q := fun D hD =>
  lc_list (xs := xs) (fun i H' => Same H H' ∧ H' D = some (.lst ((xs.take i).map f))) ⟨same_new hD, upd_same⟩ (fun i H' _ p => p.1.seq hx) (fun i x H' hi ⟨s4, e4⟩ => ⟨hw _, by
    refine r_yes (iteT ?_)
    have hi2 := lt_of_at hi
    refine hs i x H' _ hi s4 fun H'' s5 => ⟨_, s5 _ _ e4, r_smalll (by rw [List.length_map, List.length_take]; omega), same_mut (s4.trans s5) hD, ?_⟩
    rw [upd_same, List.take_add_one, hi, List.map_append]
    rfl⟩) fun H' ⟨s4, e4⟩ => q D H' hD s4 (by rw [List.take_length] at e4; exact e4)
/-- over a list, some left out -/
theorem lcL_filter (p : V → Bool) (f : V → V) (hx : SqL K H a xs) (hn : xs.length ≤ 100000) (hw : ∀ x, wipe ((wipe σ vs).set j (some x)) vs = wipe σ vs)
    (ht : ∀ (i : Nat) (x : V) (H' : Hp) (R : Bool → Hp → Prop), xs[i]? = some x → Same H H' → (∀ H'', Same H' H'' → R (p x) H'') → tt ((wipe σ vs).set j (some x)) H' R)
    (hs : ∀ (i : Nat) (x : V) (H' : Hp) (R : VK), xs[i]? = some x → p x = true → Same H H' → (∀ H'', Same H' H'' → R (f x) H'') → te ((wipe σ vs).set j (some x)) H' R)
    (q : ∀ D H', H D = none → Same H H' → H' D = some (.lst ((xs.filter p).map f)) → Q (.ref D) H') : lcJ (Itl K a) (gName j) tt te vs σ H Q := fun D hD =>
  lc_list (xs := xs) (fun i H' => Same H H' ∧ H' D = some (.lst (((xs.take i).filter p).map f))) ⟨same_new hD, upd_same⟩ (fun i H' _ p => p.1.seq hx) (fun i x H' hi ⟨s4, e4⟩ => ⟨hw _, by
    have hi2 := lt_of_at hi
    have e5 : (xs.take (i + 1)).filter p = (xs.take i).filter p ++ [x].filter p := by
      rw [List.take_add_one, hi, List.filter_append]
      rfl
    refine ht i x H' _ hi s4 fun H2 s5 => ?_
    cases hp : p x with
    | true =>
      refine iteT ?_
      have hl := List.length_filter_le p (xs.take i)
      rw [List.length_take] at hl
      refine hs i x H2 _ hi hp (s4.trans s5) fun H'' s6 => ⟨_, s6 _ _ (s5 _ _ e4), r_smalll (by rw [List.length_map]; omega), same_mut ((s4.trans s5).trans s6) hD, ?_⟩
      rw [upd_same, e5, List.filter_cons, if_pos hp, List.filter_nil, List.map_append]
      rfl
    | false =>
      refine iteF ?_
      refine ⟨s4.trans s5, ?_⟩
      rw [e5, List.filter_cons, if_neg (by rw [hp]; exact Bool.false_ne_true), List.filter_nil, List.append_nil]
      exact s5 _ _ e4⟩) fun H' ⟨s4, e4⟩ => q D H' hD s4 (by rw [List.take_length] at e4; exact e4)
end
end Px

set_option Elab.async false
set_option linter.all false
set_option maxRecDepth 100000
set_option maxHeartbeats 4000000
namespace Px
open PySem PySem.Spec PyProof.Rows L2
/-! ### xs[i] += e -/
def rGetL (K : PySem.W.Frag) : V → V → Hp → VK → Prop := fun o i H Q => ∃ p xs k v, o = .ref p ∧ i = .int k ∧ SqL K H p xs ∧ 0 ≤ k ∧ k < 1000000000 ∧ xs[k.toNat]? = some v ∧ Q v H
theorem getL (K : PySem.W.Frag) {X : Cx} (hK : X.K = K) : PGet X (rGetL K) := by
  subst hK
  intro pins s σ H o i ov iv Q I ro ri h
  obtain ⟨p, xs, k, v, rfl, rfl, hs, h0, h1, hv, q⟩ := h
  cases ro
  obtain ⟨t, rfl⟩ := ri
  obtain ⟨its, r, pl, hz⟩ := I.list hs
  obtain ⟨w, ew, rw'⟩ := r.get hv
  exact wpAny_getItem_list pl.isList h0 (by omega) (by simpa using ew) ⟨v, H, I, rw', q⟩
theorem r_augS {to ti te : TE} {tget : V → V → Hp → VK → Prop} {tip : TIp} {tset : TSet} {σ : L2.St} {H : Hp} {n b ct : L2.St → Hp → Prop} {rt : VK}
    (q : to σ H fun o H1 => ti σ H1 fun i H2 => tget o i H2 fun x H3 => te σ H3 fun y H4 => tip x y H4 fun z H5 => tset o i z H5 fun H6 => n σ H6) : tAugS to ti te tget tip tset ⟨n, rt, b, ct⟩ σ H := q
theorem r_getL {K : PySem.W.Frag} {H : Hp} {Q : VK} {p : Addr} {xs : List V} {k : Int} {v : V} (hs : SqL K H p xs) (h0 : 0 ≤ k) (h1 : k < 1000000000) (hv : xs[k.toNat]? = some v) (q : Q v H) : rGetL K (.ref p) (.int k) H Q := ⟨p, xs, k, v, rfl, rfl, hs, h0, h1, hv, q⟩
theorem r_ipI {f : Int → Int → Int} {i j : Int} {H : Hp} {Q : VK} (q : Q (.int (f i j)) H) : ipI f (.int i) (.int j) H Q := ⟨i, j, rfl, rfl, q⟩
theorem r_aug {i : Nat} {te : TE} {ti : TIp} {σ : L2.St} {H : Hp} {n b ct : L2.St → Hp → Prop} {rt : VK} {x : V} (h : σ[i]? = some (some x)) (q : te σ H fun y H1 => ti x y H1 fun z H2 => n (σ.set i (some z)) H2) : tAug i te ti ⟨n, rt, b, ct⟩ σ H := ⟨x, h, q⟩
theorem ixN_nat {n : Nat} {k : Int} (h0 : 0 ≤ k) (h : k < n) : ixN n k = some k.toNat := by
  unfold ixN
  rw [if_pos h0, if_pos h]
/-! ### lists of pairs -/
/-- the values xs are tuples of the pairs ws -/
inductive Wl (H : Hp) : List V → List (Int × Int) → Prop where
  | nil : Wl H [] []
  | cons {t : Addr} {a b : Int} {xs : List V} {ws : List (Int × Int)} (h : H t = some (.tup [.int a, .int b])) (r : Wl H xs ws) : Wl H (.ref t :: xs) ((a, b) :: ws)
theorem Wl.same {H H' : Hp} (e : Same H H') : ∀ {xs : List V} {ws : List (Int × Int)}, Wl H xs ws → Wl H' xs ws
  | _, _, .nil => .nil
  | _, _, .cons h r => .cons (e _ _ h) (Wl.same e r)
theorem Wl.upto {p : Addr} {H H' : Hp} (d : Dk H p) (e : Upto p H H') : ∀ {xs : List V} {ws : List (Int × Int)}, Wl H xs ws → Wl H' xs ws
  | _, _, .nil => .nil
  | _, _, .cons (t := t) h r => .cons (e _ _ (fun z => by
      obtain ⟨x, _, q⟩ := d
      rw [z, q] at h
      cases h) h) (Wl.upto d e r)
theorem Wl.mut {H H' : Hp} (e : ∀ t xs, H t = some (.tup xs) → H' t = some (.tup xs)) : ∀ {xs : List V} {ws : List (Int × Int)}, Wl H xs ws → Wl H' xs ws
  | _, _, .nil => .nil
  | _, _, .cons h r => .cons (e _ _ h) (Wl.mut e r)
theorem Wl.len {H : Hp} : ∀ {xs : List V} {ws : List (Int × Int)}, Wl H xs ws → xs.length = ws.length
  | _, _, .nil => rfl
  | _, _, .cons _ r => by rw [List.length_cons, List.length_cons, r.len]
theorem Wl.get {H : Hp} : ∀ {xs : List V} {ws : List (Int × Int)} {i : Nat} {w : Int × Int}, Wl H xs ws → ws[i]? = some w → ∃ t, xs[i]? = some (.ref t) ∧ H t = some (.tup [.int w.1, .int w.2])
  | _, _, _, _, .nil, h => by simp at h
  | _, _, 0, _, .cons h r, e => by
    simp at e
    subst e
    exact ⟨_, rfl, h⟩
  | _, _, i + 1, _, .cons h r, e => r.get (i := i) (by simpa using e)
theorem Wl.at {H : Hp} : ∀ {xs : List V} {ws : List (Int × Int)} {i : Nat} {x : V}, Wl H xs ws → xs[i]? = some x → ∃ t w, x = .ref t ∧ ws[i]? = some w ∧ H t = some (.tup [.int w.1, .int w.2])
  | _, _, _, _, .nil, h => by simp at h
  | _, _, 0, _, .cons h r, e => by
    simp at e
    subst e
    exact ⟨_, _, rfl, rfl, h⟩
  | _, _, i + 1, _, .cons h r, e => by
    obtain ⟨t, w, h1, h2, h3⟩ := r.at (i := i) (by simpa using e)
    exact ⟨t, w, h1, by simpa using h2, h3⟩
theorem Wl.append {H : Hp} : ∀ {xs ys : List V} {ws us : List (Int × Int)}, Wl H xs ws → Wl H ys us → Wl H (xs ++ ys) (ws ++ us)
  | _, _, _, _, .nil, r => r
  | _, _, _, _, .cons h r, r2 => .cons h (r.append r2)
theorem Wl.take {H : Hp} : ∀ {xs : List V} {ws : List (Int × Int)} (n : Nat), Wl H xs ws → Wl H (xs.take n) (ws.take n)
  | _, _, 0, _ => .nil
  | _, _, n + 1, .nil => .nil
  | _, _, n + 1, .cons h r => .cons h (Wl.take n r)
theorem Wl.drop {H : Hp} : ∀ {xs : List V} {ws : List (Int × Int)} (n : Nat), Wl H xs ws → Wl H (xs.drop n) (ws.drop n)
  | _, _, 0, r => r
  | _, _, n + 1, .nil => .nil
  | _, _, n + 1, .cons h r => Wl.drop n r
theorem Wl.eraseIdx {H : Hp} : ∀ {xs : List V} {ws : List (Int × Int)} (n : Nat), Wl H xs ws → Wl H (xs.eraseIdx n) (ws.eraseIdx n)
  | _, _, _, .nil => by simpa using Wl.nil
  | _, _, 0, .cons h r => r
  | _, _, n + 1, .cons h r => .cons h (Wl.eraseIdx n r)
theorem Wl.perm {H : Hp} {xs ys : List V} (p : xs.Perm ys) : ∀ {ws : List (Int × Int)}, Wl H xs ws → ∃ us, Wl H ys us ∧ us.Perm ws := by
  induction p with
  | nil => intro ws h; exact ⟨ws, h, List.Perm.refl _⟩
  | cons x _ ih =>
    intro ws h
    cases h with
    | cons h r =>
      obtain ⟨us, h1, h2⟩ := ih r
      exact ⟨_, .cons h h1, h2.cons _⟩
  | swap x y l =>
    intro ws h
    cases h with
    | cons h r =>
      cases r with
      | cons h' r' => exact ⟨_, .cons h' (.cons h r'), List.Perm.swap _ _ _⟩
  | trans _ _ ih1 ih2 =>
    intro ws h
    obtain ⟨us, h1, h2⟩ := ih1 h
    obtain ⟨vs, h3, h4⟩ := ih2 h1
    exact ⟨vs, h3, h4.trans h2⟩
def pairD (w : Int × Int) : PyData := .tuple [.int w.1, .int w.2]
theorem dp_pair {K : PySem.W.Frag} {H : Hp} {t : Addr} {w : Int × Int} (h : H t = some (.tup [.int w.1, .int w.2])) : Dp K H (.ref t) (pairD w) := .tup (tup_of h) (.cons (.int _) (.cons (.int _) .nil))
theorem Wl.dp {K : PySem.W.Frag} {H : Hp} : ∀ {xs : List V} {ws : List (Int × Int)}, Wl H xs ws → DpAll K H xs (ws.map pairD)
  | _, _, .nil => .nil
  | _, _, .cons h r => .cons (dp_pair h) r.dp
theorem Wl.dpL {K : PySem.W.Frag} {H : Hp} {a : Addr} {xs : List V} {ws : List (Int × Int)} (h : SqL K H a xs) (r : Wl H xs ws) : Dp K H (.ref a) (.list (ws.map pairD)) := .lst h r.dp
/-- the pair that a value is -/
def pairOf (H : Hp) (x : V) : Int × Int := match x with
  | .ref t => match H t with
    | some (.tup [.int a, .int b]) => (a, b)
    | _ => (0, 0)
  | _ => (0, 0)
theorem pairOf_of {H : Hp} {t : Addr} {a b : Int} (h : H t = some (.tup [.int a, .int b])) : pairOf H (.ref t) = (a, b) := by
  show (match H t with | some (.tup [.int a, .int b]) => (a, b) | _ => ((0 : Int), (0 : Int))) = (a, b)
  rw [h]
theorem Wl.map {H : Hp} : ∀ {xs : List V} {ws : List (Int × Int)}, Wl H xs ws → xs.map (pairOf H) = ws
  | _, _, .nil => rfl
  | _, _, .cons h r => by rw [List.map_cons, pairOf_of h, r.map]
theorem Wl.mem {H : Hp} {xs : List V} {ws : List (Int × Int)} (h : Wl H xs ws) {x : V} (hx : x ∈ xs) : ∃ t, x = .ref t ∧ H t = some (.tup [.int (pairOf H x).1, .int (pairOf H x).2]) := by
  obtain ⟨i, hi⟩ := List.mem_iff_getElem?.mp hx
  obtain ⟨t, w, rfl, _, e⟩ := h.at hi
  refine ⟨t, rfl, ?_⟩
  rw [pairOf_of e]
  exact e
/-- pairs in order -/
def leW (a b : Int × Int) : Prop := a.1 < b.1 ∨ (a.1 = b.1 ∧ a.2 ≤ b.2)
theorem leW_anti {a b : Int × Int} (h1 : leW a b) (h2 : leW b a) : a = b := by
  unfold leW at h1 h2
  have e1 : a.1 = b.1 := by omega
  have e2 : a.2 = b.2 := by omega
  exact Prod.ext e1 e2
theorem sortedW_unique {ws us : List (Int × Int)} (h1 : ws.Pairwise leW) (h2 : us.Pairwise leW) (p : ws.Perm us) : ws = us := List.Perm.eq_of_pairwise (fun a b _ _ h h' => leW_anti h h') h1 h2 p
theorem crSrtP (K : PySem.W.Frag) {X : Cx} (hK : X.K = K) : CallR X (.builtin "sorted") (rSortedPO K) := hK ▸ cr_sortedPO
theorem r_srtP {K : PySem.W.Frag} {H : Hp} {Q : VK} {a : Addr} {xs : List V} {ws : List (Int × Int)} (h : SqL K H a xs) (hw : Wl H xs ws)
    (q : ∀ (ys : List V) (us : List (Int × Int)) (p : Addr), Wl H ys us → us.Perm ws → us.Pairwise leW → H p = none → Q (.ref p) (upd H p (.lst ys))) : rSortedPO K [.ref a] H Q := by
  refine ⟨a, xs, pairOf H, rfl, h, fun x hx => hw.mem hx, fun ys p hs hb hp => ?_⟩
  obtain ⟨us, hu, pu⟩ := hw.perm hb.perm.symm
  refine q ys us p hu pu ?_ hp
  have e := hu.map
  rw [← e, List.pairwise_map]
  refine List.Pairwise.imp (fun {x y} h => ?_) hs
  have := SrtO.lexB_no.mp h
  unfold leW
  omega
/-! ### len(set(xs)) of pairs -/
def w2 (w : Int × Int) : List Int := [w.1, w.2]
theorem w2_inj {w u : Int × Int} (h : w2 w = w2 u) : w = u := by
  unfold w2 at h
  simp only [List.cons.injEq, and_true] at h
  exact Prod.ext h.1 h.2
def tLenSetP (K : PySem.W.Frag) (ta : TE) : TE := fun σ H Q => ta σ H fun x H1 => ∃ (l : Addr) (xs : List V) (ws : List (Int × Int)), x = .ref l ∧ SqL K H1 l xs ∧ Wl H1 xs ws ∧ ws.length < 64 ∧ ∀ n : Nat, (ws.Nodup ↔ n = ws.length) → Q (.int (n : Nat)) H1
theorem r_lenSetP {K : PySem.W.Frag} {ta : TE} {σ : L2.St} {H : Hp} {Q : VK} (q : ta σ H fun x H1 => ∃ (l : Addr) (xs : List V) (ws : List (Int × Int)), x = .ref l ∧ SqL K H1 l xs ∧ Wl H1 xs ws ∧ ws.length < 64 ∧ ∀ n : Nat, (ws.Nodup ↔ n = ws.length) → Q (.int (n : Nat)) H1) : tLenSetP K ta σ H Q := q
theorem Wl.keys {K : PySem.W.Frag} {H : Hp} : ∀ {xs : List V} {ws : List (Int × Int)}, Wl H xs ws → ∃ ks : List (Addr × List Int), (ks.map fun p => V.ref p.1) = xs ∧ ks.map (·.2) = ws.map w2 ∧ ∀ p ∈ ks, SqT K H p.1 (p.2.map V.int)
  | _, _, .nil => ⟨[], rfl, rfl, fun _ h => by cases h⟩
  | _, _, .cons (t := t) (a := a) (b := b) h r => by
    obtain ⟨ks, h1, h2, h3⟩ := r.keys (K := K)
    refine ⟨(t, [a, b]) :: ks, ?_, ?_, fun p hp => ?_⟩
    · rw [List.map_cons, h1]
    · rw [List.map_cons, List.map_cons, h2]
      rfl
    · rcases List.mem_cons.mp hp with rfl | hp
      · exact tup_of h
      · exact h3 p hp
theorem perm_of_sub : ∀ {A B : List (List Int)}, A.Nodup → A ⊆ B → B.length ≤ A.length → A.Perm B
  | [], B, _, _, h => by
    cases B with
    | nil => exact List.Perm.refl _
    | cons b r => simp at h
  | a :: A, B, nd, sub, h => by
    have hn := List.nodup_cons.mp nd
    have ha : a ∈ B := sub List.mem_cons_self
    have pb := List.perm_cons_erase ha
    have sub2 : A ⊆ B.erase a := fun x hx => by
      have hxa : x ≠ a := fun e => hn.1 (by rw [← e]; exact hx)
      exact (List.mem_erase_of_ne hxa).2 (sub (List.mem_cons_of_mem _ hx))
    have hl := pb.length_eq
    rw [List.length_cons] at hl h
    exact (List.Perm.cons a (perm_of_sub hn.2 sub2 (by omega))).trans pb.symm
theorem set_count {ks L : List (Addr × List Int)} (nd : (L.map (·.2)).Nodup) (h1 : ∀ p ∈ L, p ∈ ks) (h2 : ∀ p ∈ ks, p.2 ∈ L.map (·.2)) : (ks.map (·.2)).Nodup ↔ L.length = ks.length := by
  have sub1 : L.map (·.2) ⊆ ks.map (·.2) := fun x hx => by
    obtain ⟨p, hp, rfl⟩ := List.mem_map.mp hx
    exact List.mem_map_of_mem (h1 p hp)
  have sub2 : ks.map (·.2) ⊆ L.map (·.2) := fun x hx => by
    obtain ⟨p, hp, rfl⟩ := List.mem_map.mp hx
    exact h2 p hp
  have l1 := nd.length_le_of_subset sub1
  rw [List.length_map, List.length_map] at l1
  constructor
  · intro h
    have l2 := h.length_le_of_subset sub2
    rw [List.length_map, List.length_map] at l2
    omega
  · intro h
    have pm : (L.map (·.2)).Perm (ks.map (·.2)) := perm_of_sub nd sub1 (by rw [List.length_map, List.length_map]; omega)
    exact pm.nodup_iff.mp nd
theorem peLenSetP (K : PySem.W.Frag) {X : Cx} (hK : X.K = K) {a : Expr} {ta : TE} {p p2 q pos : Pos} (hu : X.A.units + 64 < cLine) (hg : Gl X "len") (hm : X.mg "len" = none) (hg2 : Gl X "set") (hm2 : X.mg "set" = none) (ha : PE X a ta) (hc : X.calm = true := by rfl)
    (na : starEach [a] X.env = (false, eval a X.env) :: starEach [] X.env := by rfl) : PE X (.Call (.Name "len" p) [.Call (.Name "set" p2) [a] [] q] [] pos) (tLenSetP K ta) := by
  subst hK
  refine ⟨fun pins s σ H Q I h => ?_⟩
  refine Call_ (ld_blt I hg hm boot_len ?_)
  refine PyProof.Rows.callWith_builtin1 (PyProof.Rows.args_cons ?_ rfl) rfl rfl
  refine Call_ (ld_blt I hg2 hm2 boot_set ?_)
  refine PyProof.Rows.callWith_type1 (PyProof.Rows.args_cons (thn (ha.run pins s σ H _ I h) fun v s1 ⟨x, H1, I1, r1, q1⟩ => PyProof.Rows.args_nil ?_) na) na rfl
  obtain ⟨l, xs, ws, rfl, hq, hw, hl, q1⟩ := q1
  cases r1
  obtain ⟨ks, e1, e2, e3⟩ := hw.keys (K := X.K)
  subst e1
  obtain ⟨its, r, pl, hz⟩ := I1.list hq
  have hlk : ks.length = ws.length := by
    have h1 := congrArg List.length e2
    rw [List.length_map, List.length_map] at h1
    exact h1
  refine call_set_tups (P := X.prog) (w := X.w) ks (I1.ok.hd hc) pl.isList (by simpa using refs_of_vals r) (fun p hp => I1.isT (e3 p hp)) (by omega) (by omega) fun h' tk L es ep t R g k => ?_
  refine PyProof.Rows.args_nil ?_
  obtain ⟨o, ho, hex, hd⟩ := R.ob
  have I2 : Inv X pins σ H1 { s1 with heap := h', toks := tk } := I1.kept (t' := tk) k
  have hs := SetTR.size (s := { s1 with heap := h', toks := tk }) R
  have hf := R.few
  have hn : (ws.Nodup ↔ L.length = ws.length) := by
    have h1 := set_count (ks := ks) (L := L) R.nd (fun p hp => List.mem_of_mem_take (g.sub p hp)) (fun p hp => g.all p (by rw [List.take_length]; exact hp))
    rw [e2, hlk] at h1
    refine ⟨fun h => h1.mp ?_, fun h => ?_⟩
    · unfold List.Nodup
      rw [List.pairwise_map]
      exact h.imp fun hne e => hne (w2_inj e)
    · have h2 := h1.mpr h
      unfold List.Nodup at h2
      rw [List.pairwise_map] at h2
      exact h2.imp fun hne e => hne (by rw [e])
  exact call_len_set ho hex hd (SetTR.fits (s := { s1 with heap := h', toks := tk }) R) (by rw [hs] <;> omega) ⟨.int (L.length : Nat), H1, I2.tok _, ⟨_, by rw [hs]⟩, q1 _ hn⟩
end Px

set_option Elab.async false
set_option linter.all false
set_option maxRecDepth 100000
set_option maxHeartbeats 4000000
namespace Px
open PySem PySem.Spec PyProof.Rows L2
/-! ### stations freed one by one -/
def inner (w : Int × Int) : Bool := !decide (w.1 = -1) && !decide (w.2 = -2)
def succ (ws : List (Int × Int)) (v : Int) : List Int := (ws.filter fun w => inner w && decide (w.1 = v)).map (·.2)
def inCnt (ws : List (Int × Int)) (P : List Int) (v : Int) : Int := ((ws.filter fun w => inner w && (decide (w.2 = v) && !decide (w.1 ∈ P))).length : Nat)
def Acyc (ws : List (Int × Int)) : Prop := ∃ pos : Int → Nat, ∀ w ∈ ws, inner w = true → pos w.1 < pos w.2
def Cyc (m : Nat) (ws : List (Int × Int)) : Prop := ∃ C : Int → Prop, (∃ v, C v ∧ 0 ≤ v ∧ v < m) ∧ ∀ v, C v → ∃ w ∈ ws, inner w = true ∧ w.2 = v ∧ C w.1
theorem inCnt_cons {st : Int} {P : List Int} (h : st ∉ P) (v : Int) : ∀ ws : List (Int × Int), inCnt ws (st :: P) v = inCnt ws P v - ((succ ws st).count v : Nat)
  | [] => rfl
  | w :: r => by
    have ih := inCnt_cons h v r
    unfold inCnt succ at ih ⊢
    rw [List.filter_cons, List.filter_cons, List.filter_cons]
    by_cases hi : inner w = true
    · simp only [hi, Bool.true_and]
      by_cases hv : w.2 = v
      · simp only [hv, decide_true, Bool.true_and]
        by_cases hs : w.1 = st
        · have e1 : decide (st ∈ st :: P) = true := decide_eq_true List.mem_cons_self
          have e2 : decide (st ∈ P) = false := decide_eq_false h
          simp only [hs, e1, e2, Bool.not_true, Bool.not_false, decide_true, if_true, List.map_cons, List.count_cons, hv, beq_self_eq_true, List.length_cons]
          try simp only [Bool.false_eq_true, if_false]
          omega
        · have e1 : decide (w.1 ∈ st :: P) = decide (w.1 ∈ P) := by
            rw [decide_eq_decide]
            exact ⟨fun q => (List.mem_cons.mp q).resolve_left hs, fun q => List.mem_cons_of_mem _ q⟩
          simp only [e1, hs, decide_false, Bool.false_eq_true, if_false]
          by_cases hp : (!decide (w.1 ∈ P)) = true
          · simp only [hp, if_true, List.length_cons]
            omega
          · have hp := Bool.eq_false_iff.mpr hp
            simp only [hp, Bool.false_eq_true, if_false]
            exact ih
      · simp only [hv, decide_false, Bool.false_and, Bool.false_eq_true, if_false]
        by_cases hs : w.1 = st
        · have hv2 : ¬ (w.2 == v) = true := fun q => hv (eq_of_beq q)
          simp only [hs, decide_true, if_true, List.map_cons, List.count_cons, hv2, if_false]
          exact ih
        · simp only [hs, decide_false, Bool.false_eq_true, if_false]
          exact ih
    · have hi := Bool.eq_false_iff.mpr hi
      simp only [hi, Bool.false_and, Bool.false_eq_true, if_false]
      exact ih
theorem inCnt_ne {ws : List (Int × Int)} {P : List Int} {v : Int} (h : inCnt ws P v ≠ 0) : ∃ w ∈ ws, inner w = true ∧ w.2 = v ∧ w.1 ∉ P := by
  unfold inCnt at h
  cases e : ws.filter fun w => inner w && (decide (w.2 = v) && !decide (w.1 ∈ P)) with
  | nil =>
    rw [e] at h
    exact absurd rfl h
  | cons w r =>
    have hw : w ∈ ws.filter fun w => inner w && (decide (w.2 = v) && !decide (w.1 ∈ P)) := by rw [e]; exact List.mem_cons_self
    obtain ⟨h1, h2⟩ := List.mem_filter.mp hw
    simp only [Bool.and_eq_true, decide_eq_true_eq, Bool.not_eq_true', decide_eq_false_iff_not] at h2
    exact ⟨w, h1, h2.1, h2.2.1, h2.2.2⟩
theorem inCnt_of {ws : List (Int × Int)} {P : List Int} {w : Int × Int} (hw : w ∈ ws) (hi : inner w = true) (hp : w.1 ∉ P) : 1 ≤ inCnt ws P w.2 := by
  unfold inCnt
  have hm : w ∈ ws.filter fun u => inner u && (decide (u.2 = w.2) && !decide (u.1 ∈ P)) := List.mem_filter.mpr ⟨hw, by simp [hi, hp]⟩
  have := List.length_pos_of_mem hm
  omega
theorem inCnt_nonneg (ws : List (Int × Int)) (P : List Int) (v : Int) : 0 ≤ inCnt ws P v := by
  unfold inCnt
  omega
theorem succ_count {ws : List (Int × Int)} {st v : Int} {P : List Int} (h : st ∉ P) : ((succ ws st).count v : Nat) ≤ inCnt ws P v := by
  have h1 := inCnt_cons h v ws
  have h2 := inCnt_nonneg ws (st :: P) v
  omega
theorem mem_succ {ws : List (Int × Int)} {st v : Int} (h : v ∈ succ ws st) : ∃ w ∈ ws, inner w = true ∧ w.1 = st ∧ w.2 = v := by
  unfold succ at h
  obtain ⟨w, hw, rfl⟩ := List.mem_map.mp h
  obtain ⟨h1, h2⟩ := List.mem_filter.mp hw
  simp only [Bool.and_eq_true, decide_eq_true_eq] at h2
  exact ⟨w, h1, h2.1, h2.2, rfl⟩
/-- all stations are freed -/
theorem all_freed {ws : List (Int × Int)} {P : List Int} {m : Nat} (ac : Acyc ws) (hb : ∀ w ∈ ws, inner w = true → 0 ≤ w.1 ∧ w.1 < m) (hf : ∀ v : Int, 0 ≤ v → v < m → v ∉ P → inCnt ws P v ≠ 0) : m ≤ P.length := by
  obtain ⟨pos, hpos⟩ := ac
  have key : ∀ n : Nat, ∀ v : Int, 0 ≤ v → v < m → pos v = n → v ∈ P := by
    intro n
    induction n using Nat.strongRecOn with
    | ind n ih =>
      intro v h0 h1 hn
      refine Classical.byContradiction fun hv => ?_
      obtain ⟨w, hw, hi, e, hp⟩ := inCnt_ne (hf v h0 h1 hv)
      have hlt := hpos w hw hi
      obtain ⟨b0, b1⟩ := hb w hw hi
      rw [e, hn] at hlt
      exact hp (ih (pos w.1) hlt w.1 b0 b1 rfl)
  have sub : ((List.range m).map fun (k : Nat) => (k : Int)) ⊆ P := fun x hx => by
    obtain ⟨k, hk, rfl⟩ := List.mem_map.mp hx
    have := List.mem_range.mp hk
    exact key _ (k : Int) (by omega) (by omega) rfl
  have nd : ((List.range m).map fun (k : Nat) => (k : Int)).Nodup := by
    unfold List.Nodup
    rw [List.pairwise_map]
    exact List.nodup_range.imp fun h e => h (by omega)
  have h := nd.length_le_of_subset sub
  rw [List.length_map, List.length_range] at h
  exact h
/-- a station on a round is never freed -/
theorem some_held {P : List Int} {m : Nat} {v : Int} (nd : P.Nodup) (hP : ∀ u ∈ P, 0 ≤ u ∧ u < m) (hv : v ∉ P) (h0 : 0 ≤ v) (h1 : v < m) : P.length < m := by
  have sub : (v :: P) ⊆ ((List.range m).map fun (k : Nat) => (k : Int)) := fun x hx => by
    have hb : 0 ≤ x ∧ x < m := by
      rcases List.mem_cons.mp hx with rfl | hx
      · exact ⟨h0, h1⟩
      · exact hP x hx
    exact List.mem_map.mpr ⟨x.toNat, List.mem_range.mpr (by omega), by omega⟩
  have h := (List.nodup_cons.mpr ⟨hv, nd⟩).length_le_of_subset sub
  rw [List.length_map, List.length_range, List.length_cons] at h
  omega
/-! ### tables -/
def tab (m : Nat) (f : Int → Int) : List V := (List.range m).map fun (k : Nat) => V.int (f (k : Int))
theorem tab_length (m : Nat) (f : Int → Int) : (tab m f).length = m := by
  unfold tab
  rw [List.length_map, List.length_range]
theorem tab_get {m : Nat} {f : Int → Int} {v : Int} (h0 : 0 ≤ v) (h1 : v < m) : (tab m f)[v.toNat]? = some (.int (f v)) := by
  unfold tab
  rw [List.getElem?_map, List.getElem?_range (by omega)]
  show some (V.int (f ((v.toNat : Nat) : Int))) = _
  rw [Int.toNat_of_nonneg h0]
theorem tab_set {m : Nat} {f : Int → Int} {v x : Int} (h0 : 0 ≤ v) (h1 : v < m) : (tab m f).set v.toNat (.int x) = tab m fun u => if u = v then x else f u := by
  apply List.ext_getElem?
  intro i
  unfold tab
  by_cases hi : i < m
  · by_cases e : i = v.toNat
    · subst e
      rw [List.getElem?_set_self (by rw [List.length_map, List.length_range]; exact hi), List.getElem?_map, List.getElem?_range hi]
      show _ = some (V.int (if ((v.toNat : Nat) : Int) = v then x else _))
      rw [if_pos (Int.toNat_of_nonneg h0)]
    · rw [List.getElem?_set_ne (fun q => e q.symm), List.getElem?_map, List.getElem?_map, List.getElem?_range hi]
      show some (V.int (f (i : Int))) = some (V.int (if (i : Int) = v then x else f (i : Int)))
      rw [if_neg (by omega)]
  · rw [List.getElem?_eq_none (by rw [List.length_set, List.length_map, List.length_range]; omega), List.getElem?_eq_none (by rw [List.length_map, List.length_range]; omega)]
theorem tab_congr {m : Nat} {f g : Int → Int} (h : ∀ v : Int, 0 ≤ v → v < m → f v = g v) : tab m f = tab m g := by
  unfold tab
  refine List.map_congr_left fun k hk => ?_
  rw [h k (by omega) (by have := List.mem_range.mp hk; omega)]
theorem rep_tab (m : Nat) : (List.replicate m [V.int 0]).flatten = tab m fun _ => 0 := by
  unfold tab
  induction m with
  | zero => rfl
  | succ n ih =>
    rw [List.replicate_succ', List.flatten_append, ih, List.range_succ, List.map_append]
    rfl
theorem r_rep {H : Hp} {Q : VK} {l : Addr} {xs : List V} {m : Nat} {z : Int} (hz : z = (m : Int)) (hm : m ≤ 100000) (h : H l = some (.lst xs)) (hx : xs.length ≤ 100) (q : ∀ p, H p = none → Q (.ref p) (upd H p (.lst (List.replicate m xs).flatten))) : rRep (.ref l) (.int z) H Q := by
  subst hz
  refine ⟨l, m, xs, rfl, rfl, h, by omega, by omega, r_small ?_, by rw [Int.toNat_natCast]; exact q⟩
  rw [Int.toNat_natCast]
  have := Nat.mul_le_mul hx hm
  omega
/-! ### while -/
theorem r_while {c : TT} {tb : TS} {σ : L2.St} {H : Hp} {n b ct : L2.St → Hp → Prop} {rt : VK} (Pv : Nat → L2.St → Hp → Prop) (k0 : Nat) (h0 : Pv k0 σ H)
    (hs : ∀ k σ' H', Pv k σ' H' → c σ' H' fun t H1 => if t = true then ∃ N : L2.St → Hp → Prop, (∀ σ2 H2, N σ2 H2 → ∃ k', k' < k ∧ Pv k' σ2 H2) ∧ tb ⟨N, rt, n, N⟩ σ' H1 else n σ' H1) : tWhile c tb ⟨n, rt, b, ct⟩ σ H :=
  ⟨Pv, ⟨k0, h0⟩, hs⟩
theorem r_tru {K : PySem.W.Frag} {ta : TE} {σ : L2.St} {H : Hp} {QT : Bool → Hp → Prop} (q : ta σ H fun x H' => ∃ k, TruV K x H' k ∧ QT k H') : tTru K ta σ H QT := q
theorem r_truL {K : PySem.W.Frag} {H : Hp} {QB : Bool → Prop} {a : Addr} {xs : List V} (h : SqL K H a xs) (q : QB (!xs.isEmpty)) : ∃ k, TruV K (.ref a) H k ∧ QB k := ⟨_, .inl ⟨xs, h, rfl⟩, q⟩
theorem r_pop {H : Hp} {Q : VK} {l : Addr} {xs : List V} {y : V} (h : H l = some (.lst (xs ++ [y]))) (q : Q y (upd H l (.lst xs))) : rPop (.ref l) [] H Q := by
  refine ⟨l, xs ++ [y], y, rfl, rfl, h, by simp, ?_⟩
  rw [List.dropLast_concat]
  exact q
end Px

set_option Elab.async false
set_option linter.all false
set_option maxRecDepth 100000
set_option maxHeartbeats 4000000
namespace Px
open PySem PySem.Spec PyProof.Rows L2
/-! ### comprehensions that draw from the deck -/
section
variable {K : PySem.W.Frag} {σ : L2.St} {H : Hp} {Q : VK} {te : TE} {tt : TT} {vs : List Nat} {j n : Nat} {p : Addr}
theorem lcR_deck {lo : Int} (R : Nat → List V → Hp → Prop) (hn : n ≤ 100000) (hd : Dk H p) (hw : ∀ x, wipe ((wipe σ vs).set j (some x)) vs = wipe σ vs)
    (hR : ∀ i acc H1 H2, (∀ t xs, H1 t = some (.tup xs) → H2 t = some (.tup xs)) → R i acc H1 → R i acc H2) (hl : ∀ i acc H', R i acc H' → acc.length ≤ i) (h0 : R 0 [] H)
    (hs : ∀ (i : Nat) (acc : List V) (H' : Hp) (C : VK) (N : Hp → Prop), i < n → Upto p H H' → Dk H' p → R i acc H' → (∀ y H4, Upto p H' H4 → Dk H4 p → R (i + 1) (acc ++ [y]) H4 → C y H4) → (∀ H3, Upto p H' H3 → Dk H3 p → R (i + 1) acc H3 → N H3) →
      tt ((wipe σ vs).set j (some (.int (lo + (i : Nat))))) H' fun b H3 => if b = true then te ((wipe σ vs).set j (some (.int (lo + (i : Nat))))) H3 C else N H3)
    (q : ∀ D H' acc, H D = none → Upto p H H' → Dk H' p → H' D = some (.lst acc) → R n acc H' → Q (.ref D) H') : lcJ (Itr lo n) (gName j) tt te vs σ H Q := fun D hD => by
  have hpD : D ≠ p := (hd.ne hD).symm
  have tupk : ∀ (H' : Hp) (acc acc' : List V), H' D = some (.lst acc) → ∀ t xs, H' t = some (.tup xs) → upd H' D (.lst acc') t = some (.tup xs) := fun H' acc acc' e t xs h => by
    rw [upd_ne (fun z => by rw [z, e] at h; cases h)]
    exact h
  have hD0 : ∀ t xs, H t = some (.tup xs) → upd H D (.lst []) t = some (.tup xs) := fun t xs h => same_new hD _ _ h
  refine lc_range (n := n) (fun i H' => ∃ acc, H' D = some (.lst acc) ∧ Upto p H H' ∧ Dk H' p ∧ R i acc H') ⟨[], upd_same, same_upto (same_new hD), hd.upd hpD.symm, hR 0 [] H _ hD0 h0⟩ (fun i H' hi ⟨acc, e, u, d, r⟩ => ⟨hw _, ?_⟩)
    fun H' ⟨acc, e, u, d, r⟩ => q D H' acc hD u d e r
  refine hs i acc H' _ _ hi u d r (fun y H4 u4 d4 r4 => ?_) fun H3 u3 d3 r3 => ⟨acc, u3 _ _ hpD e, u.trans u3, d3, r3⟩
  have e4 := u4 _ _ hpD e
  have hla := hl _ _ _ r
  exact ⟨acc, e4, r_smalll (by omega), acc ++ [y], upd_same, upto_mut (u.trans u4) hD, d4.upd hpD.symm, hR _ _ H4 _ (tupk H4 acc _ e4) r4⟩
end
/-! ### a net as data -/
def word (s : Str) : Prop := s = "pile" ∨ s = "line"
def netD (ss : List Str) (ws : List (Int × Int)) : PyData := .tuple [.list (ss.map .str), .list (ws.map pairD)]
theorem dpAll_strs {K : PySem.W.Frag} {H : Hp} : ∀ ss : List Str, DpAll K H (ss.map V.str) (ss.map PyData.str)
  | [] => .nil
  | s :: r => .cons (.str s) (dpAll_strs r)
theorem dp_net {K : PySem.W.Frag} {H : Hp} {t s w : Addr} {ss : List Str} {xs : List V} {ws : List (Int × Int)} (ht : H t = some (.tup [.ref s, .ref w])) (hs : SqL K H s (ss.map V.str)) (hw : SqL K H w xs) (r : Wl H xs ws) : Dp K H (.ref t) (netD ss ws) :=
  .tup (tup_of ht) (.cons (.lst hs (dpAll_strs ss)) (.cons (.lst hw r.dp) .nil))
theorem plain_strs : ∀ ss : List Str, plainAll (ss.map PyData.str) = true
  | [] => rfl
  | s :: r => by
    show (plainD (.str s) && plainAll (r.map PyData.str)) = true
    rw [plain_strs r]
    rfl
theorem plain_pairs : ∀ ws : List (Int × Int), plainAll (ws.map pairD) = true
  | [] => rfl
  | w :: r => by
    show (plainD (pairD w) && plainAll (r.map pairD)) = true
    rw [plain_pairs r]
    rfl
theorem plain_net {ss : List Str} {ws : List (Int × Int)} (h1 : ss.length ≤ 100000) (h2 : ws.length ≤ 100000) : plainD (netD ss ws) = true := by
  unfold netD
  simp only [plainD, plainAll, plain_strs, plain_pairs, List.length_map, List.length_cons, List.length_nil, Bool.and_true, Bool.and_eq_true, decide_eq_true_eq]
  exact ⟨by omega, h1, h2⟩
theorem depth_strs : ∀ ss : List Str, PyData.depthAll (ss.map PyData.str) = 0
  | [] => rfl
  | s :: r => by
    show max (PyData.depth (.str s)) (PyData.depthAll (r.map PyData.str)) = 0
    rw [depth_strs r]
    rfl
theorem depth_pairs : ∀ ws : List (Int × Int), PyData.depthAll (ws.map pairD) ≤ 1
  | [] => by decide
  | w :: r => by
    show max (PyData.depth (pairD w)) (PyData.depthAll (r.map pairD)) ≤ 1
    have h1 := depth_pairs r
    have h2 : PyData.depth (pairD w) = 1 := rfl
    omega
theorem depth_net (ss : List Str) (ws : List (Int × Int)) : (netD ss ws).depth ≤ 3 := by
  have h1 := depth_strs ss
  have h2 := depth_pairs ws
  show max (PyData.depthAll (ss.map PyData.str) + 1) (max (PyData.depthAll (ws.map pairD) + 1) 0) + 1 ≤ 3
  omega
theorem lay_strs : ∀ {ss : List Str}, (∀ s ∈ ss, word s) → PyData.canLayAll0 (ss.map PyData.str) = true
  | [], _ => rfl
  | s :: r, h => by
    show (PyData.canLay0 (.str s) && PyData.canLayAll0 (r.map PyData.str)) = true
    rw [lay_strs fun x hx => h x (List.mem_cons_of_mem _ hx), Bool.and_true]
    rcases h s List.mem_cons_self with rfl | rfl
    · decide +kernel
    · decide +kernel
theorem lay_pairs : ∀ ws : List (Int × Int), PyData.canLayAll0 (ws.map pairD) = true
  | [] => rfl
  | w :: r => by
    show (PyData.canLay0 (pairD w) && PyData.canLayAll0 (r.map pairD)) = true
    rw [lay_pairs r]
    rfl
theorem lay_net {ss : List Str} (h : ∀ s ∈ ss, word s) (ws : List (Int × Int)) : PyData.canLay0 (netD ss ws) = true := by
  unfold netD
  simp only [PyData.canLay0, PyData.canLayAll0, lay_strs h, lay_pairs, Bool.and_true]
theorem shaped_net {ss : List Str} (h : ∀ s ∈ ss, word s) (ws : List (Int × Int)) : SeqAt.shaped (netD ss ws) = true := by
  unfold SeqAt.shaped
  rw [lay_net h, Bool.true_and]
  have := depth_net ss ws
  exact decide_eq_true (by omega)
theorem r_neSame {K : PySem.W.Frag} {H : Hp} {Q : VK} {x y : V} {d : PyData} (h : Dp K H x d) (h' : Dp K H y d) (s : SeqAt.shaped d = true) (q : Q (.bl false) H) : rNeD K x y H Q :=
  ⟨d, d, h, h', s, s, by
    rw [SeqAt.eqv_refl d (Bool.and_eq_true_iff.mp s).1]
    exact q⟩
theorem r_eqSame {K : PySem.W.Frag} {H : Hp} {Q : VK} {x y : V} {d : PyData} (h : Dp K H x d) (h' : Dp K H y d) (s : SeqAt.shaped d = true) (q : Q (.bl true) H) : rEqD K x y H Q :=
  ⟨d, d, h, h', s, s, by
    rw [SeqAt.eqv_refl d (Bool.and_eq_true_iff.mp s).1]
    exact q⟩
theorem r_popAt {H : Hp} {Q : VK} {l : Addr} {xs : List V} {i : Int} {y : V} (h0 : 0 ≤ i) (h1 : i < 1000000000) (h : H l = some (.lst xs)) (hy : xs[i.toNat]? = some y) (q : Q y (upd H l (.lst (xs.eraseIdx i.toNat)))) : rPopAt (.ref l) [.int i] H Q :=
  ⟨l, xs, i, i.toNat, y, rfl, rfl, h, by omega, by omega, seqIndex_of h0 (by have := lt_of_at hy; omega), hy, q⟩
theorem r_clear {H : Hp} {Q : VK} {l : Addr} {xs : List V} (h : H l = some (.lst xs)) (q : Q .non (upd H l (.lst []))) : rClear (.ref l) [] H Q := ⟨l, xs, rfl, rfl, h, q⟩
theorem erase_perm {α : Type} : ∀ {l : List α} {i : Nat} {x : α}, l[i]? = some x → l.Perm (x :: l.eraseIdx i)
  | [], i, _, h => by cases i <;> cases h
  | a :: t, 0, x, h => by
    cases h
    exact .refl _
  | a :: t, i + 1, x, h => ((erase_perm (l := t) (i := i) h).cons a).trans (.swap x a _)
end Px

set_option Elab.async false
set_option linter.all false
set_option maxRecDepth 100000
set_option maxHeartbeats 4000000
namespace Px
open PySem PySem.Spec PyProof.Rows L2
/-! ### errors that are kept behind their suite -/
/-- an error of the class cls that was caught, at a -/
def ErO (cls : Value) (a : Addr) : HO := .ext fun h => ∃ (oe : Obj) (vs : Array Value), h.get? a = some oe ∧ Zc cls none oe ∧ oe.data = .fields vs
theorem erO_ok {P : Program} {w : World} {H : Hp} {h : Heap} {a : Addr} {cls : Value} {oe : Obj} {vs : Array Value} (e : h.get? a = some oe) (z : Zc cls none oe) (d : oe.data = .fields vs) : ObjOk P w H h a (ErO cls a) :=
  ⟨⟨oe, vs, e, z, d⟩, ⟨oe, e⟩, fun _ _ ⟨o, v, q, r⟩ k => ⟨o, v, k o q, r⟩⟩
section
variable {X : Cx} {pins : List (Addr × Obj)} {σ : L2.St} {H : Hp} {s : Shared}
theorem keepEr {a : Addr} {cls : Value} {oe : Obj} {vs : Array Value} (I : Inv X pins σ H s) (ha : s.heap.get? a = some oe) (z : Zc cls none oe) (d : oe.data = .fields vs) (na : H a = none) (n0 : X.s_0.heap.get? a = none) (nL : a ≠ X.env.locals)
    (np : ∀ p ∈ X.pn ++ pins, p.1 ≠ a) : Inv X pins σ (upd H a (ErO cls a)) s := by
  have old : ∀ b o, X.s_0.heap.get? b = some o → b ≠ a := fun b o e q => by
    rw [q, n0] at e
    cases e
  have on : ∀ b, H b = none → b ≠ a → upd H a (ErO cls a) b = none := fun b e q => by
    rw [upd_ne q]
    exact e
  have st : ∀ b o, H b = some o → upd H a (ErO cls a) b = some o := fun b o e => by
    rw [upd_ne (ne_of_none e na)]
    exact e
  have nc : ∀ x c, X.env.cells.lookup x = some c → c ≠ a := fun x c e q => by
    obtain ⟨v, o, ho, hd⟩ := I.cell x c e
    rw [q, ha] at ho
    cases ho
    rw [d] at hd
    cases hd
  refine ⟨I.ok, I.os, I.bare, ⟨I.base.keep, I.base.slot, fun b o e n hx => on b (I.base.free b o e n hx) (old b o e), I.base.there, fun b xs e => st _ _ (I.base.tups b xs e), fun b o u e => st _ _ (I.base.frzs b o u e), fun b ps e => ?_⟩,
    I.loc, I.cell, on _ I.free (Ne.symm nL), fun x c e => on _ (I.freeC x c e) (nc x c e), fun p hp => ?_, HOk.laidN I.hok (fun _ _ q => q) na (erO_ok ha z d), I.len⟩
  · obtain ⟨more, q⟩ := I.base.tbls b ps e
    exact ⟨more, st _ _ q⟩
  · obtain ⟨e, n, r⟩ := I.pin p hp
    exact ⟨e, on _ n (np p hp), r⟩
end
/-- what is wished of the body's error where the clause catches it and keeps it: slot i is the clause's name, slot j the keeper -/
def wKeep (K : PySem.W.Frag) (cv : Value) (i j : Nat) (D : Ends) : WX := fun cls d σ H =>
  PySem.W.exmOne K cls cv = some true ∧ d = none ∧ ∀ a, H a = none → D.nx (((σ.set i (some (.ref a))).set j (some (.ref a))).set i none) (upd H a (ErO cls a))
theorem ps_keep {X : Cx} {x n : Str} {cv : Value} {i j : Nat} {body : List Stmt} {st : Stmt} {np pos pos' : Pos} {tb : WX → TS} (hs : X.stack = X.env :: X.outer) (hf : X.env.frame = some X.env.locals) (hex : X.ex = []) (hN : X.N.Nodup) (hi : X.N[i]? = some n) (hln : X.env.kindOf n = some .local)
    (hc : Names X x cv) (hb : ∀ (W : WX) (pn : List (Addr × Obj)) (xe : Value → Shared → Prop), Takes (X.tr pn xe) W → PassesOwn (model X.prog X.w) X.A X.env xe → PSs (X.tr pn xe) body (tb W))
    (hsu : ∀ (a : Addr) (oe : Obj) (cls : Value) (d : Option Addr) (pn : List (Addr × Obj)), Zc cls d oe → (∃ vs, oe.data = .fields vs) → PSs (X.suite a ((a, oe) :: pn)) [st] (tAsg (tVar i) (gName j))) :
    PS X (.Try body [.ExceptHandler (some (.Name x np)) (some n) [st] pos'] [] [] pos) (fun D σ H => tb (wKeep X.K cv i j D) D σ H) := by
  refine ⟨fun pins s σ H D I h => wpAny_Try_except (wpAny_mono ((hb (wKeep X.K cv i j D) (X.pn ++ pins) _ (fun u s' q => ?_) PassesOwn.looking).run [] s σ H D (I.toTry _) h) (fun f s1 q => ?_) fun e s1 q => q)⟩
  · -- the error is there
    obtain ⟨a, B, sI, pins', σ', H', cls, d, rfl, J', nb, up, sky, na, os, ag, hm, rfl, hD⟩ := q
    have ok := I.ok
    have J : Inv X pins σ' H' sI := J'.ofTry ok
    have hfr : X.A.frames = some (X.env :: X.outer) := by rw [ok.frames, hs]
    rw [hs] at sky
    show wpAny (model X.prog X.w) X.A (noteFrame (.ref a) X.env) _ _ _
    refine Sky.land Zc.steady hfr hf sky fun h3 fl3 up3 => ?_
    have J3 : Inv X pins σ' H' { s' with heap := h3 } := J.landed nb fl3.1 (up.trans up3) os ag
    obtain ⟨oe3, vs3, he3, hz3, hd3⟩ := fl3.there
    have nfr : a ∉ frs X.stack := fun hmem => by
      rw [hs] at hmem
      obtain ⟨_, o', e', hnf⟩ := fl3.2.2.1.mem hmem
      rw [he3] at e'
      cases e'
      exact hnf _ hd3
    have nL : a ≠ X.env.locals := fun z => nfr (by rw [hs]; exact List.mem_filterMap.mpr ⟨X.env, List.mem_cons_self, by rw [hf, z]⟩)
    have nF : a ∉ X.fs := fun hmem => by
      obtain ⟨e, he, q⟩ := List.mem_filterMap.mp hmem
      exact nfr (by rw [hs]; exact List.mem_filterMap.mpr ⟨e, List.mem_cons_of_mem _ he, q⟩)
    have nB : ∀ b o, sI.heap.get? b = some o → b ∉ frs X.stack → b ≠ a := fun b o e hb z => by
      have := nb b o e hb
      rw [z, fl3.2.1] at this
      cases this
    have n0 : X.s_0.heap.get? a = none := by
      cases e : X.s_0.heap.get? a with
      | none => rfl
      | some o =>
        obtain ⟨o', q⟩ := J.base.there a o e (by rw [hex]; exact fun z => nomatch z)
        exact absurd rfl (nB a o' q nfr)
    have apart : ∀ p ∈ X.pn ++ pins, p.1 ≠ a := fun p hp => by
      obtain ⟨e, _, h1, h2, _⟩ := J.pin p hp
      refine nB p.1 p.2 e fun z => ?_
      rcases List.mem_cons.mp (J.stkSub _ z) with z | z
      · exact h1 z
      · exact h2 z
    have S3 := J3.suite he3 hd3 na nL nF
    refine wpAny_handleBy_cons (codeAny_handlers_test ?_) (by intro q; cases q)
    have LT : PySem.W.Looks (model X.prog X.w) h3 (typeOf (.ref a)) cls := fun A Q E s k q => wpAny_typeOf_ref (k _ _ he3) (by rw [hz3.1]; exact q)
    have LM := PySem.W.exm_one (M := model X.prog X.w) (J3.kIn) LT hm
    have name : ∀ {Q : Value → Shared → Prop} {E : Value → Shared → Prop}, Q cv { s' with heap := h3 } → wpAny (model X.prog X.w) (X.A.mark (some (.ref a))) (eval (.Name x np) X.env) Q E { s' with heap := h3 } := fun {Q E} q => by
      obtain ⟨hg, hdb, hm | ⟨hm, hv, hn⟩⟩ := hc
      · exact ld_glob (X := X.suite a ((a, oe3) :: (X.pn ++ pins))) S3 hg hm q hdb
      · exact ld_blt (X := X.suite a ((a, oe3) :: (X.pn ++ pins))) S3 hg hm hv q hn hdb
    refine name (LM.here ?_)
    refine codeAny_handlers_suite_as ?_
    refine HandSPX.lands_againZ fl3 fun h4 fl4 up4 => ?_
    have J4 : Inv X pins σ' H' { s' with heap := h4 } := J.landed nb fl4.1 ((up.trans up3).trans up4) os ag
    obtain ⟨oe4, vs4, he4, hz4, hd4⟩ := fl4.there
    have S4 := J4.suite he4 hd4 na nL nF
    refine store_ok (X := X.suite a ((a, oe4) :: (X.pn ++ pins))) (v := .ref a) S4 hN hi (Or.inl hln) rfl (fun s5 S5 => ?_) (.inr hln)
    have hlt : i < σ'.length := by
      rw [J.len]
      exact (List.getElem?_eq_some_iff.mp hi).1
    refine wpAny_mono ((hsu a oe4 cls none (X.pn ++ pins) hz4 ⟨_, hd4⟩).run [] s5 _ H' { nx := fun σ6 H6 => σ6 = (σ'.set i (some (.ref a))).set j (some (.ref a)) ∧ H6 = H', rt := fun _ _ => False } S5 ⟨.ref a, List.getElem?_set_self hlt, rfl, rfl⟩) (fun f s6 q => ?_) (fun _ _ z => False.elim z)
    cases f with
    | next =>
      obtain ⟨σ6, H6, S6, rfl, rfl⟩ := q
      obtain ⟨e6, _⟩ := S6.pin (a, oe4) (List.mem_append_left _ List.mem_cons_self)
      exact gone_ok (keepEr (S6.unsuite ok) e6 hz4 hd4 na n0 nL apart) hN hi hln fun s7 J7 => ⟨_, _, J7, hD a na⟩
    | brk =>
      obtain ⟨_, _, _, z⟩ := q
      exact False.elim z
    | cont =>
      obtain ⟨_, _, _, z⟩ := q
      exact False.elim z
    | ret u =>
      obtain ⟨_, _, _, _, _, z⟩ := q
      exact False.elim z
  · cases f with
    | next =>
      obtain ⟨σ', H', J', q⟩ := q
      exact wpAny_execs_nil ⟨σ', H', J'.ofTry I.ok, q⟩
    | brk =>
      obtain ⟨σ', H', J', q⟩ := q
      exact ⟨σ', H', J'.ofTry I.ok, q⟩
    | cont =>
      obtain ⟨σ', H', J', q⟩ := q
      exact ⟨σ', H', J'.ofTry I.ok, q⟩
    | ret u =>
      obtain ⟨v, σ', H', J', r, q⟩ := q
      exact ⟨v, σ', H', J'.ofTry I.ok, r, q⟩
/-! ### isinstance of a kept error -/
def rIsEr (K : PySem.W.Frag) : List V → Hp → VK → Prop := fun xs H Q => ∃ (a D : Addr) (c : V) (cv : Value) (b : Bool), xs = [.ref a, c] ∧ H a = some (ErO (.ref D) a) ∧ ExcC K D ∧ ClsV c cv ∧ PySem.W.kitOne K (.ref D) cv = some b ∧ Q (.bl b) H
def rIsErT (K : PySem.W.Frag) : List V → Hp → VK → Prop := fun xs H Q => ∃ (a D tp : Addr) (cs : List V) (us : List Value) (b : Bool), xs = [.ref a, .ref tp] ∧ H a = some (ErO (.ref D) a) ∧ ExcC K D ∧ H tp = some (.tup cs) ∧ Paired ClsV cs us ∧ PySem.W.kitAny K (.ref D) us = some b ∧ Q (.bl b) H
theorem instEr {a D : Addr} {h : Heap} (q : ∃ (oe : Obj) (vs : Array Value), h.get? a = some oe ∧ Zc (.ref D) none oe ∧ oe.data = .fields vs) : ∃ oe, PySem.W.InstAt h a oe D none := by
  obtain ⟨⟨oc, od, oda, osl⟩, vs, e, ⟨h1, h2⟩, hv⟩ := q
  dsimp only at h1 h2 hv
  subst h1 h2 hv
  exact ⟨_, e, rfl, rfl, trivial⟩
theorem crIsEr (K : PySem.W.Frag) {X : Cx} (hK : X.K = K) : CallR X (.builtin "isinstance") (rIsEr K) := by
  subst hK
  intro pins s σ H xs us Q I r h
  obtain ⟨a, D, c, cv, b, rfl, he, C, k, e, q⟩ := h
  obtain ⟨u1, u2, rfl, r1, r2⟩ := vals2 r
  cases (show u1 = Value.ref a from r1)
  have ec := k.eq r2
  subst ec
  obtain ⟨oe, J⟩ := instEr (I.hok a _ he).1
  exact PySem.W.kia_one (PySem.W.handS_kitx_exc C.hg C.hk C.hs C.hd C.ha C.hn C.ht C.hm) I.kIn J e (fun z => nomatch z) fun tk => ⟨.bl b, H, I.tok tk, rfl, q⟩
theorem crIsErT (K : PySem.W.Frag) {X : Cx} (hK : X.K = K) : CallR X (.builtin "isinstance") (rIsErT K) := by
  subst hK
  intro pins s σ H xs us Q I r h
  obtain ⟨a, D, tp, cs, ws, b, rfl, he, C, hT, k, e, q⟩ := h
  obtain ⟨u1, u2, rfl, r1, r2⟩ := vals2 r
  cases (show u1 = Value.ref a from r1)
  cases (show u2 = Value.ref tp from r2)
  obtain ⟨_, its, rv, o, h1, h2, n, h3⟩ := (show ObjOk X.prog X.w H s.heap tp (.tup cs) from I.hok tp _ hT)
  have e3 := ClsV.all k rv
  subst e3
  obtain ⟨oc, od, dt, sl⟩ := o
  simp only at h2 h3
  subst h2 h3
  obtain ⟨oe, J⟩ := instEr (I.hok a _ he).1
  exact PySem.W.kia_tup (PySem.W.handS_kitx_exc C.hg C.hk C.hs C.hd C.ha C.hn C.ht C.hm) I.kIn J h1 e (fun z => nomatch z) fun tk => ⟨.bl b, H, I.tok tk, rfl, q⟩
theorem r_isEr {K : PySem.W.Frag} {H : Hp} {Q : VK} {a D : Addr} {c : V} {cv : Value} {b : Bool} (he : H a = some (ErO (.ref D) a)) (C : ExcC K D) (k : ClsV c cv) (e : PySem.W.kitOne K (.ref D) cv = some b) (q : Q (.bl b) H) : rIsEr K [.ref a, c] H Q := ⟨a, D, c, cv, b, rfl, he, C, k, e, q⟩
theorem r_isErT {K : PySem.W.Frag} {H : Hp} {Q : VK} {a D tp : Addr} {cs : List V} {us : List Value} {b : Bool} (he : H a = some (ErO (.ref D) a)) (C : ExcC K D) (ht : H tp = some (.tup cs)) (k : Paired ClsV cs us) (e : PySem.W.kitAny K (.ref D) us = some b) (q : Q (.bl b) H) : rIsErT K [.ref a, .ref tp] H Q := ⟨a, D, tp, cs, us, b, rfl, he, C, ht, k, e, q⟩
/-! ### own error classes -/
/-- the class x of the text, at C -/
structure ECls (K : PySem.W.Frag) (mg : Str → Option Value) (x : Str) (C : Addr) : Prop where
  g : mg x = some (.ref C)
  ic : PySem.W.isClsIn K C = true
  ty : PySem.W.typeIn K (.ref C) = some (.type "type")
  kp : PySem.W.keepIn K (.ref C) = true
  sb : PySem.W.subIn K (.ref C) (.type "BaseException") = some true
  sv : PySem.W.subIn K (.ref C) (.type "ValueError") = some true
  se : PySem.W.subIn K (.ref C) (.ref C) = some true
  ex : PySem.W.excIn K C [.type "ValueError", .type "Exception", .type "BaseException", .type "object"] "ValueError.__new__" = true
  is_ : ExcC K C
theorem kit_sub {K : PySem.W.Frag} {mg : Str → Option Value} {x y : Str} {C D : Addr} {b : Bool} (c : ECls K mg x C) (d : ECls K mg y D) (h : PySem.W.subIn K (.ref D) (.ref C) = some b) : PySem.W.kitOne K (.ref D) (.ref C) = some b := by
  unfold PySem.W.kitOne
  by_cases e : D = C
  · subst e
    rw [d.se] at h
    cases h
    rw [if_pos (beq_self_eq_true _)]
  · rw [if_neg (fun z => e (Value.ref.inj (beq_iff_eq.mp z)))]
    show (if ((PySem.W.clsIn K C).isSome && PySem.W.typeIn K (.ref C) == some (.type "type")) = true then PySem.W.subIn K (.ref D) (.ref C) else none) = some b
    have h1 : (PySem.W.clsIn K C).isSome = true := c.ic
    rw [h1, c.ty, if_pos (by rfl), h]
theorem kit_val {K : PySem.W.Frag} {mg : Str → Option Value} {y : Str} {D : Addr} (d : ECls K mg y D) : PySem.W.kitOne K (.ref D) (.type "ValueError") = some true := by
  unfold PySem.W.kitOne
  have h0 : (Value.ref D == Value.type "ValueError") = false := by simp
  rw [h0, if_neg Bool.false_ne_true]
  show (if PySem.W.kitMeta "ValueError" = true then PySem.W.subIn K (.ref D) (.type "ValueError") else none) = some true
  rw [if_pos (by decide +kernel), d.sv]
theorem exm_sub {K : PySem.W.Frag} {mg : Str → Option Value} {x : Str} {C D : Addr} {b : Bool} (c : ECls K mg x C) (h : PySem.W.subIn K (.ref D) (.ref C) = some b) : PySem.W.exmOne K (.ref D) (.ref C) = some b := PySem.W.exm_ref c.sb c.is_.hd c.ty h
theorem ecls_mk {K : PySem.W.Frag} {mg : Str → Option Value} {h : Heap} {x : Str} {C : Addr} (X : K.In h) (G : h.Ns mainGlobals mg) (a : PySem.W.nsIn K mainGlobals x = some (some (.ref C))) (ic : PySem.W.isClsIn K C = true) (ty : PySem.W.typeIn K (.ref C) = some (.type "type")) (kp : PySem.W.keepIn K (.ref C) = true)
    (sb : PySem.W.subIn K (.ref C) (.type "BaseException") = some true) (sv : PySem.W.subIn K (.ref C) (.type "ValueError") = some true) (se : PySem.W.subIn K (.ref C) (.ref C) = some true)
    (ex : PySem.W.excIn K C [.type "ValueError", .type "Exception", .type "BaseException", .type "object"] "ValueError.__new__" = true)
    (e1 : PySem.W.findIn K (.ref C) "__getattribute__" = some (some (.builtin "BaseException.__getattribute__"))) (e2 : PySem.W.findIn K (.ref C) "__getattr__" = some none) (e3 : PySem.W.hasDictIn K C = true) (e4 : PySem.W.findIn K (.ref C) "__class__" = some (some (.builtin "object.__class__")))
    (e5 : PySem.W.specialIn K (.builtin "object.__class__") "__get__" = some (some (.builtin "getset_descriptor.__get__"))) (e6 : PySem.W.takesIn K (.builtin "object.__class__") = some true) (e7 : PySem.W.mroIn K C (.type "object") = some true) : ∃ C, ECls K mg x C :=
  ⟨C, PySem.W.mg_of X G a, ic, ty, kp, sb, sv, se, ex, ⟨e1, e2, sb, e3, e4, e5, e6, e7⟩⟩
/-- y's class stands (or not) above x's -/
def ESub (K : PySem.W.Frag) (mg : Str → Option Value) (x y : Str) (b : Bool) : Prop := ∃ C D, mg x = some (.ref C) ∧ mg y = some (.ref D) ∧ PySem.W.subIn K (.ref C) (.ref D) = some b
theorem esub_mk {K : PySem.W.Frag} {mg : Str → Option Value} {h : Heap} {x y : Str} {C D : Addr} {r : Bool} (X : K.In h) (G : h.Ns mainGlobals mg) (a : PySem.W.nsIn K mainGlobals x = some (some (.ref C))) (b : PySem.W.nsIn K mainGlobals y = some (some (.ref D)))
    (s : PySem.W.subIn K (.ref C) (.ref D) = some r) : ESub K mg x y r := ⟨C, D, PySem.W.mg_of X G a, PySem.W.mg_of X G b, s⟩
theorem ESub.at {K : PySem.W.Frag} {mg : Str → Option Value} {x y : Str} {C D : Addr} {r : Bool} (s : ESub K mg x y r) (c : ECls K mg x C) (d : ECls K mg y D) : PySem.W.subIn K (.ref C) (.ref D) = some r := by
  obtain ⟨C', D', h1, h2, h3⟩ := s
  have e1 := c.g.symm.trans h1
  have e2 := d.g.symm.trans h2
  cases e1
  cases e2
  exact h3
theorem ESub.kit {K : PySem.W.Frag} {mg : Str → Option Value} {x y : Str} {C D : Addr} {r : Bool} (s : ESub K mg x y r) (c : ECls K mg x C) (d : ECls K mg y D) : PySem.W.kitOne K (.ref C) (.ref D) = some r := kit_sub d c (s.at c d)
theorem kit_self {K : PySem.W.Frag} {C : Addr} : PySem.W.kitOne K (.ref C) (.ref C) = some true := by
  unfold PySem.W.kitOne
  rw [if_pos (beq_self_eq_true _)]
theorem kits_no {K : PySem.W.Frag} {t c : Value} {cs : List Value} (h : PySem.W.kitOne K t c = some false) (r : PySem.W.kitAny K t cs = some false) : PySem.W.kitAny K t (c :: cs) = some false := kitAny_cons h (fun _ => r) fun z => nomatch z
theorem kits_nil {K : PySem.W.Frag} {t : Value} : PySem.W.kitAny K t [] = some false := rfl
/-! ### a call that may let an error out, in a try -/
section
variable {X : Cx} {CX : CXT} {k : Nat} {x : Str} {ps : List Str} {sp : Sp} {E : L2.St → XK} {p pos : Pos} {e : Expr} {es : List Expr} {t : TA}
theorem pe_calS (C : Cal X.prog X.w X.K X.mg X.base CX k x ps sp) (hr : Room k X.A) (hx : ∀ σ, PassesAt CX X σ (E σ)) (ha : PA X (e :: es) t) (hg : Gl X x := by rfl) (hdb : (x == ("__debug__" : Str)) = false := by decide)
    (he : starEach (e :: es) X.env = (false, eval e X.env) :: starEach es X.env := by rfl) (hpl : (backTo pos (starEach es X.env)).any (·.1) = false := by rfl) :
    PE X (.Call (.Name x p) (e :: es) [] pos) (tCallS sp E t) := by
  obtain ⟨f, fd, F, hm, hk, hb⟩ := C.ex
  exact pe_callS F hr hg hm hk hb hx ha hdb he hpl
end
theorem r_calS {sp : Sp} {E : L2.St → XK} {t : TA} {σ : L2.St} {H : Hp} {Q : VK} (q : t σ H fun vs H1 => sp vs H1 Q (E σ)) : tCallS sp E t σ H Q := q
end Px

set_option Elab.async false
set_option linter.all false
set_option maxRecDepth 100000
set_option maxHeartbeats 4000000
namespace Px
open PySem PySem.Spec PyProof.Rows L2
/-! ### slices that are known -/
theorem cut_take (xs : List V) {k : Nat} (h : k ≤ xs.length) : cutV xs none (some (k : Int)) = xs.take k := by
  unfold cutV
  have e1 : HT.sIx xs.length 0 none = 0 := rfl
  have e2 : HT.sIx xs.length xs.length (some (k : Int)) = k := by
    rw [HT.sIx_nat]
    omega
  rw [e1, e2, List.drop_zero, Nat.sub_zero]
theorem cut_drop (xs : List V) {k : Nat} (h : k ≤ xs.length) : cutV xs (some (k : Int)) none = xs.drop k := by
  unfold cutV
  have e1 : HT.sIx xs.length xs.length none = xs.length := rfl
  have e2 : HT.sIx xs.length 0 (some (k : Int)) = k := by
    rw [HT.sIx_nat]
    omega
  rw [e1, e2]
  exact List.take_of_length_le (by rw [List.length_drop]; omega)
/-! ### nets of any words that can be laid -/
def lay (s : Str) : Prop := PyData.canLay0 (.str s) = true
theorem lay_word {s : Str} (h : word s) : lay s := by
  rcases h with rfl | rfl
  · show PyData.canLay0 _ = true
    decide +kernel
  · show PyData.canLay0 _ = true
    decide +kernel
theorem lay_strs2 : ∀ {ss : List Str}, (∀ s ∈ ss, lay s) → PyData.canLayAll0 (ss.map PyData.str) = true
  | [], _ => rfl
  | s :: r, h => by
    show (PyData.canLay0 (.str s) && PyData.canLayAll0 (r.map PyData.str)) = true
    rw [lay_strs2 fun x hx => h x (List.mem_cons_of_mem _ hx), Bool.and_true]
    exact h s List.mem_cons_self
theorem shaped_net2 {ss : List Str} (h : ∀ s ∈ ss, lay s) (ws : List (Int × Int)) : SeqAt.shaped (netD ss ws) = true := by
  unfold SeqAt.shaped
  have e : PyData.canLay0 (netD ss ws) = true := by
    unfold netD
    simp only [PyData.canLay0, PyData.canLayAll0, lay_strs2 h, lay_pairs, Bool.and_true]
  rw [e, Bool.true_and]
  have := depth_net ss ws
  exact decide_eq_true (by omega)
theorem shaped_pairs (ws : List (Int × Int)) : SeqAt.shaped (.list (ws.map pairD)) = true := by
  unfold SeqAt.shaped
  have e : PyData.canLay0 (.list (ws.map pairD)) = true := by
    simp only [PyData.canLay0, lay_pairs]
  rw [e, Bool.true_and]
  have h := depth_pairs ws
  have h2 : (PyData.list (ws.map pairD)).depth = PyData.depthAll (ws.map pairD) + 1 := rfl
  exact decide_eq_true (by omega)
theorem shaped_pair (w : Int × Int) : SeqAt.shaped (pairD w) = true := rfl
theorem eqv_pair (w u : Int × Int) : PyData.eqv (pairD w) (pairD u) = decide (w = u) := by
  show ((w.1 == u.1) && ((w.2 == u.2) && true)) = decide (w = u)
  rw [Bool.and_true]
  by_cases e : w = u
  · subst e
    simp
  · rw [decide_eq_false e]
    rcases Bool.eq_false_or_eq_true ((w.1 == u.1) && (w.2 == u.2)) with h | h
    · rw [Bool.and_eq_true] at h
      exact absurd (Prod.ext (beq_iff_eq.mp h.1) (beq_iff_eq.mp h.2)) e
    · exact h
theorem any_pair (ws : List (Int × Int)) (w : Int × Int) : ((ws.map pairD).any fun z => PyData.eqv z (pairD w)) = decide (w ∈ ws) := by
  rw [List.any_map]
  have e : ((fun z => PyData.eqv z (pairD w)) ∘ pairD) = fun u => decide (u = w) := by
    funext u
    exact eqv_pair u w
  rw [e]
  by_cases h : w ∈ ws
  · rw [decide_eq_true h]
    exact List.any_eq_true.mpr ⟨w, h, by simp⟩
  · rw [decide_eq_false h]
    refine List.any_eq_false.mpr fun u hu => ?_
    simp only [decide_eq_true_eq]
    exact fun z => h (z ▸ hu)
theorem opNotInD (K : PySem.W.Frag) {X : Cx} (hK : X.K = K) (hu : X.A.units + 65 < cLine) : OpR X (compareOp .NotIn) (rNotInD K) := hK ▸ op_notInD hu
theorem r_notInP {K : PySem.W.Frag} {H : Hp} {Q : VK} {t l : Addr} {w : Int × Int} {xs : List V} {ws : List (Int × Int)} (ht : H t = some (.tup [.int w.1, .int w.2])) (hl : SqL K H l xs) (hw : Wl H xs ws) (q : Q (.bl (!decide (w ∈ ws))) H) : rNotInD K (.ref t) (.ref l) H Q :=
  ⟨pairD w, ws.map pairD, dp_pair ht, .lst hl hw.dp, shaped_pair w, shaped_pairs ws, by
    rw [any_pair]
    exact q⟩
/-- ways != [] -/
theorem r_neNil {K : PySem.W.Frag} {H : Hp} {Q : VK} {l e : Addr} {xs : List V} {ws : List (Int × Int)} (hl : SqL K H l xs) (hw : Wl H xs ws) (he : SqL K H e []) (q : Q (.bl (!decide (ws = []))) H) : rNeD K (.ref l) (.ref e) H Q :=
  ⟨.list (ws.map pairD), .list [], .lst hl hw.dp, .lst he .nil, shaped_pairs ws, rfl, by
    have h : PyData.eqv (.list (ws.map pairD)) (.list []) = decide (ws = []) := by
      cases ws with
      | nil => rfl
      | cons a r => rfl
    rw [h]
    exact q⟩
theorem peRevL (K : PySem.W.Frag) {X : Cx} (hK : X.K = K) {e : Expr} {te : TE} {k : Nat} {p1 p2 p3 pos : Pos} (he : PE X e te) : PE X (.Subscript e (.Slice none none (some (.UnaryOp .USub (.Constant (.int 1) k p1) p2)) p3) pos) (tRevL K te) := hK ▸ pe_revL he
theorem r_revL {K : PySem.W.Frag} {te : TE} {σ : L2.St} {H : Hp} {Q : VK} (q : te σ H fun x H1 => ∃ a xs, x = .ref a ∧ SqL K H1 a xs ∧ ∀ p, H1 p = none → Q (.ref p) (upd H1 p (.lst xs.reverse))) : tRevL K te σ H Q := q
theorem hu65 {A : Around} {k : Nat} (hr : Room k A) : A.units + 65 < cLine := by
  have := hr.un
  omega
/-! ### comprehensions over zip of two lists of ints, the target a name -/
theorem r_lcZ {K : PySem.W.Frag} {g : TG} {tt : TT} {te : TE} {vs : List Nat} {σ : L2.St} {H : Hp} {Q : VK} {ta : TA} (q : ta σ H fun vs1 H1 => ∃ a b xs ys, vs1 = [.ref a, .ref b] ∧ SqL K H1 a xs ∧ SqL K H1 b ys ∧ lcJ (Itz K a b) g tt te vs σ H1 Q) : tLc (iZip K ta) g tt te vs σ H Q := q
theorem lcZ {K : PySem.W.Frag} {tt : TT} {te : TE} {vs : List Nat} {j : Nat} {σ : L2.St} {H : Hp} {Q : VK} {a b : Addr} {xs ys : List Int} (p : Int × Int → Bool) (hl : xs.length = ys.length) (hn : xs.length ≤ 1000) (hx : SqL K H a (intL xs)) (hy : SqL K H b (intL ys))
    (hw : ∀ x, wipe ((wipe σ vs).set j (some x)) vs = wipe σ vs)
    (ht : ∀ (w : Int × Int) (T : Addr) (H' : Hp) (R : Bool → Hp → Prop), Same H H' → H' T = some (.tup [.int w.1, .int w.2]) → R (p w) H' → tt ((wipe σ vs).set j (some (.ref T))) H' R)
    (hs : ∀ (T : Addr) (H' : Hp) (R : VK), R (.ref T) H' → te ((wipe σ vs).set j (some (.ref T))) H' R)
    (q : ∀ (D : Addr) (H' : Hp) (zs : List V), H D = none → Same H H' → H' D = some (.lst zs) → Wl H' zs ((xs.zip ys).filter p) → Q (.ref D) H') : lcJ (Itz K a b) (gName j) tt te vs σ H Q := fun D hD => by
  have hzl : (xs.zip ys).length = xs.length := by rw [List.length_zip]; omega
  refine ⟨fun i m H' => m = xs.length - i ∧ i ≤ xs.length ∧ Same H H' ∧ ∃ zs, H' D = some (.lst zs) ∧ zs.length ≤ i ∧ Wl H' zs (((xs.zip ys).take i).filter p), ⟨_, rfl, Nat.zero_le _, same_new hD, [], upd_same, Nat.le_refl _, .nil⟩, ?_⟩
  rintro i m H' ⟨rfl, hi, s1, zs, e1, hz, w1⟩
  have hx' := s1.seq hx
  have hy' := s1.seq hy
  by_cases h : i < xs.length
  · refine .inr ⟨⟨_, _, V.int xs[i], V.int (ys[i]'(by omega)), hx', hy', by simp [h], by simp [show i < ys.length by omega]⟩,
      fun H' => i + 1 ≤ xs.length ∧ Same H H' ∧ ∃ zs, H' D = some (.lst zs) ∧ zs.length ≤ i + 1 ∧ Wl H' zs (((xs.zip ys).take (i + 1)).filter p), fun H' ⟨h1, h2⟩ => ⟨xs.length - (i + 1), by omega, rfl, h1, h2⟩, ?_⟩
    rintro x H2 ⟨T, x1, y1, rfl, hT, rfl, hx1, hy1⟩
    have ex := hx1 _ hx'
    have ey := hy1 _ hy'
    rw [List.getElem?_map, List.getElem?_eq_getElem h] at ex
    rw [List.getElem?_map, List.getElem?_eq_getElem (show i < ys.length by omega)] at ey
    have ex := (Option.some.inj ex).symm
    have ey := (Option.some.inj ey).symm
    subst ex
    subst ey
    have s2 := s1.trans (same_new (o := .tup [.int xs[i], .int (ys[i]'(by omega))]) hT)
    have nDT : D ≠ T := ne_of_none e1 hT
    have e2 : upd H' T (.tup [.int xs[i], .int (ys[i]'(by omega))]) D = some (.lst zs) := by rw [upd_ne nDT]; exact e1
    have w2 := w1.same (same_new (o := .tup [.int xs[i], .int (ys[i]'(by omega))]) hT)
    have hzi : (xs.zip ys)[i]? = some (xs[i], ys[i]'(by omega)) := by
      rw [List.getElem?_eq_getElem (by omega), List.getElem_zip]
    have et : ((xs.zip ys).take (i + 1)).filter p = ((xs.zip ys).take i).filter p ++ [(xs[i], ys[i]'(by omega))].filter p := by
      rw [List.take_add_one, hzi, List.filter_append]
      rfl
    refine ⟨hw _, ht (xs[i], ys[i]'(by omega)) T _ _ s2 upd_same ?_⟩
    cases hp : p (xs[i], ys[i]'(by omega)) with
    | true =>
      refine iteT (hs _ _ _ ⟨zs, e2, r_smalll (by omega), by omega, same_mut s2 hD, zs ++ [.ref T], upd_same, by rw [List.length_append]; show zs.length + 1 ≤ i + 1; omega, ?_⟩)
      rw [et, List.filter_cons, if_pos hp, List.filter_nil]
      refine Wl.mut (fun t ys e => ?_) (w2.append (.cons upd_same .nil))
      rw [upd_ne (fun z => by rw [z, e2] at e; cases e)]
      exact e
    | false =>
      refine iteF ⟨by omega, s2, zs, e2, by omega, ?_⟩
      rw [et, List.filter_cons, if_neg (by rw [hp]; exact Bool.false_ne_true), List.filter_nil, List.append_nil]
      exact w2
  · refine .inl ⟨⟨_, _, hx', hy', .inl (by rw [List.length_map]; omega)⟩, q D H' zs hD s1 e1 ?_⟩
    rw [List.take_of_length_le (by omega)] at w1
    exact w1
end Px

set_option Elab.async false
set_option linter.all false
set_option maxRecDepth 100000
set_option maxHeartbeats 4000000
namespace Px
open PySem PySem.Spec PyProof.Rows L2
/-! ### zip of two lists, the target a name: the pair that came last may be gone by the next turn, or not -/
abbrev IsZ (h : Heap) (z TI TO : Addr) (f0 : Value) (f : Bool) : Prop :=
  h.get? z = some { cls := .type "zip", dict := none, data := .fields #[f0, .bool f, .bool false, .ref TI, .ref TO], slots := #[] }
section
variable {prog : Program} {w : World} {A : Around} {E : Value → Shared → Prop} {s : Shared}
/-- the pair that the zip keeps isn't there any more -/
theorem gone_free {z TI TO T : Addr} {f : Bool} {Q : Bool → Shared → Prop} (hz : IsZ s.heap z TI TO (rawInt T) f) (hT : s.heap.get? T = none) (h : Q true s) : wpAny (model prog w) A (Builtin.SmallTypes.ownedTupleIsFree (.ref z)) Q E s := by
  unfold Builtin.SmallTypes.ownedTupleIsFree
  refine wpAny_bind (wpAny_field hz rfl (x := rawInt T) rfl ?_)
  show wpAny _ _ (loadIfAlive ((T : Int).toNat) >>= _) _ _ _
  rw [Int.toNat_natCast]
  refine wpAny_bind ?_
  have al : ∀ {R : Option Obj → Shared → Prop}, R none s → wpAny (model prog w) A (loadIfAlive T) R E s := fun {R} r => by
    have r' : R (s.heap.get? T) s := by rw [hT]; exact r
    exact fun _ _ _ => r'
  refine al ?_
  simp only [Option.isNone_none, if_true]
  exact wpAny_pure h
variable {z TI TO i1 i2 l1 l2 : Addr} {f0 : Value} {f : Bool} {k1 k2 : Nat} {xs ys : Array Value} {x y a b : Value}
/-- one step where the zip may fill its own tuple anew -/
theorem free_item {Q : Value → Shared → Prop} (D : ZipApart z TI TO i1 i2 l1 l2) (hz : IsZ s.heap z TI TO f0 f) (hfree : ∀ {Q : Bool → Shared → Prop}, Q true s → wpAny (model prog w) A (Builtin.SmallTypes.ownedTupleIsFree (.ref z)) Q E s)
    (hTI : IsPair s.heap TI (.ref i1) (.ref i2)) (hTO : IsPair s.heap TO a b) (h1 : s.heap.IsListIter i1 l1 k1) (h2 : s.heap.IsListIter i2 l2 k2) (hl1 : s.heap.IsList l1 xs) (hl2 : s.heap.IsList l2 ys) (hx : xs[k1]? = some x) (hy : ys[k2]? = some y)
    (hQ : ∀ h', IsZ h' z TI TO (rawInt s.heap.objs.size) false → IsPair h' TO x y → h'.IsListIter i1 l1 (k1 + 1) → h'.IsListIter i2 l2 (k2 + 1) → IsPair h' s.heap.objs.size x y → h'.objs.size = s.heap.objs.size + 1 →
      (∀ c o, c ≠ z → c ≠ TO → c ≠ i1 → c ≠ i2 → s.heap.get? c = some o → h'.get? c = some o) → Q (.ref s.heap.objs.size) { s with heap := h' }) :
    wpAny (model prog w) A (Builtin.«zip.__next__» ⟨[.ref z], []⟩) (fun fin s' => ∃ v, fin = .done (.ret v) ∧ Q v s') E s := by
  show wpAny _ _ (field (.ref z) 2 >>= _) _ _ _
  refine wpAny_bind (wpAny_field hz rfl (x := .bool false) rfl ?_)
  show wpAny _ _ (field (.ref z) 3 >>= _) _ _ _
  refine wpAny_bind (wpAny_field hz rfl (x := .ref TI) rfl (wpAny_bind (wpAny_seqItems hTI rfl ?_)))
  show wpAny _ _ (Builtin.SmallTypes.ownedTupleIsFree (.ref z) >>= _) _ _ _
  refine wpAny_bind (hfree ?_)
  simp only [if_true]
  refine wpAny_bind (wpAny_rule (wpAny_bind (wpAny_field hz rfl (x := .ref TO) rfl (wpAny_bind (wpAny_setField_rec hz (by simp) fun g1 z1 b1 => ?_)))))
  replace z1 : IsZ g1 z TI TO .ellipsis f := z1
  refine wpAny_bind ?_
  simp only [List.zipIdx_cons, List.zipIdx_nil, List.forIn_cons, List.forIn_nil]
  -- the left one
  refine wpAny_bind (wpAny_bind (wpAny_onRaise ?_))
  show wpAny _ _ (Builtin.SmallTypes.nextOf (.ref i1) >>= _) _ _ _
  refine wpAny_bind (wpAny_nextOf_list_item (h1.extBut b1.extBut D.i1z) (hl1.extBut b1.extBut D.l1z) hx fun g2 j1 b2 => wpAny_pure ?_)
  have p2 : IsPair g2 TO a b := b2.extBut _ _ D.TOi1 (b1.extBut _ _ D.TOz hTO)
  refine wpAny_bind (wpAny_seqItems p2 rfl (wpAny_bind (wpAny_updateSeq_pair p2 fun g3 p3 b3 => ?_)))
  replace p3 : IsPair g3 TO x b := p3
  refine wpAny_bind (wpAny_letGo (wpAny_pure ?_))
  -- the right one
  refine wpAny_bind (wpAny_bind (wpAny_onRaise ?_))
  show wpAny _ _ (Builtin.SmallTypes.nextOf (.ref i2) >>= _) _ _ _
  have h2' : g3.IsListIter i2 l2 k2 := ((h2.extBut b1.extBut D.i2z).extBut b2.extBut D.i12.symm).extBut b3.extBut D.TOi2.symm
  have hl2' : g3.IsList l2 ys := ((hl2.extBut b1.extBut D.l2z).extBut b2.extBut D.l2i1).extBut b3.extBut D.l2TO
  refine wpAny_bind (wpAny_nextOf_list_item h2' hl2' hy fun g4 j2 b4 => wpAny_pure ?_)
  have p4 : IsPair g4 TO x b := b4.extBut _ _ D.TOi2 p3
  refine wpAny_bind (wpAny_seqItems p4 rfl (wpAny_bind (wpAny_updateSeq_pair p4 fun g5 p5 b5 => ?_)))
  replace p5 : IsPair g5 TO x y := p5
  refine wpAny_bind (wpAny_letGo (wpAny_pure (wpAny_pure ?_)))
  -- the new pair
  refine wpAny_bind (wpAny_seqItems p5 rfl (wpAny_bind (wpAny_newTuple ?_)))
  have sz : g5.objs.size = s.heap.objs.size := by rw [b5.1, b4.1, b3.1, b2.1, b1.1]
  have z5 : IsZ g5 z TI TO .ellipsis f := b5.extBut _ _ D.TOz.symm (b4.extBut _ _ D.i2z.symm (b3.extBut _ _ D.TOz.symm (b2.extBut _ _ D.i1z.symm z1)))
  have k5 : ∀ c o, c ≠ z → c ≠ TO → c ≠ i1 → c ≠ i2 → s.heap.get? c = some o → g5.get? c = some o := fun c o c1 c2 c3 c4 e =>
    b5.extBut _ _ c2 (b4.extBut _ _ c4 (b3.extBut _ _ c2 (b2.extBut _ _ c3 (b1.extBut _ _ c1 e))))
  have q1 : g5.IsListIter i1 l1 (k1 + 1) := ((j1.extBut b3.extBut D.TOi1.symm).extBut b4.extBut D.i12).extBut b5.extBut D.TOi1.symm
  have q2 : g5.IsListIter i2 l2 (k2 + 1) := j2.extBut b5.extBut D.TOi2.symm
  have lz : z < g5.objs.size := Heap.lt_size z5
  show wpAny _ _ (Builtin.SmallTypes.ownedTupleHandOut (.ref z) (.ref g5.objs.size) >>= _) _ _ _
  refine wpAny_bind ?_
  unfold Builtin.SmallTypes.ownedTupleHandOut
  have z6 : IsZ (g5.push { cls := .type "tuple", data := .seq #[x, y] }) z TI TO .ellipsis f := Heap.get?_push_of_some _ z5
  refine wpAny_bind (wpAny_setField_rec z6 (by simp) fun g7 z7 b7 => ?_)
  replace z7 : IsZ g7 z TI TO (rawInt g5.objs.size) f := z7
  refine wpAny_setField_rec z7 (by simp) fun g8 z8 b8 => ?_
  replace z8 : IsZ g8 z TI TO (rawInt g5.objs.size) false := z8
  have up : ∀ c o, c ≠ z → g5.get? c = some o → g8.get? c = some o := fun c o c1 e => b8.extBut _ _ c1 (b7.extBut _ _ c1 (Heap.get?_push_of_some _ e))
  have t8 : IsPair g8 g5.objs.size x y := b8.extBut _ _ (Nat.ne_of_gt lz) (b7.extBut _ _ (Nat.ne_of_gt lz) (Heap.get?_push_size _ rfl))
  have s8 : g8.objs.size = g5.objs.size + 1 := by rw [b8.1, b7.1, Heap.size_push]
  rw [sz] at z8 t8 s8
  refine wpAny_pure ⟨_, rfl, ?_⟩
  show Q (.ref g5.objs.size) _
  rw [sz]
  exact hQ g8 z8 (up _ _ D.TOz p5) (q1.at fun o e => up _ o D.i1z e) (q2.at fun o e => up _ o D.i2z e) t8 s8 fun c o c1 c2 c3 c4 e => up c o c1 (k5 c o c1 c2 c3 c4 e)
/-- .. where one of the lists has ended -/
theorem free_end {Q : Fin → Shared → Prop} (hh : A.handled = none) (D : ZipApart z TI TO i1 i2 l1 l2) (hz : IsZ s.heap z TI TO f0 f) (hfree : ∀ {Q : Bool → Shared → Prop}, Q true s → wpAny (model prog w) A (Builtin.SmallTypes.ownedTupleIsFree (.ref z)) Q E s)
    (hTI : IsPair s.heap TI (.ref i1) (.ref i2)) (hTO : IsPair s.heap TO a b) (h1 : s.heap.IsListIter i1 l1 k1) (h2 : s.heap.IsListIter i2 l2 k2) (hl1 : s.heap.IsList l1 xs) (hl2 : s.heap.IsList l2 ys) (hend : xs[k1]? = none ∨ ys[k2]? = none)
    (hE : ∀ h' e, (∀ c o, c ≠ z → c ≠ TO → c ≠ i1 → c ≠ i2 → s.heap.get? c = some o → h'.get? c = some o) → (∃ o, h'.get? e = some o ∧ o.cls = .type "StopIteration") → E (.ref e) { s with heap := h' }) :
    wpAny (model prog w) A (Builtin.«zip.__next__» ⟨[.ref z], []⟩) Q E s := by
  show wpAny _ _ (field (.ref z) 2 >>= _) _ _ _
  refine wpAny_bind (wpAny_field hz rfl (x := .bool false) rfl ?_)
  show wpAny _ _ (field (.ref z) 3 >>= _) _ _ _
  refine wpAny_bind (wpAny_field hz rfl (x := .ref TI) rfl (wpAny_bind (wpAny_seqItems hTI rfl ?_)))
  show wpAny _ _ (Builtin.SmallTypes.ownedTupleIsFree (.ref z) >>= _) _ _ _
  refine wpAny_bind (hfree ?_)
  simp only [if_true]
  refine wpAny_bind (wpAny_rule (wpAny_bind (wpAny_field hz rfl (x := .ref TO) rfl (wpAny_bind (wpAny_setField_rec hz (by simp) fun g1 z1 b1 => ?_)))))
  replace z1 : IsZ g1 z TI TO .ellipsis f := z1
  refine wpAny_bind ?_
  simp only [List.zipIdx_cons, List.zipIdx_nil, List.forIn_cons, List.forIn_nil]
  refine wpAny_bind (wpAny_bind (wpAny_onRaise ?_))
  show wpAny _ _ (Builtin.SmallTypes.nextOf (.ref i1) >>= _) _ _ _
  cases hx : xs[k1]? with
  | none =>
    refine wpAny_bind (wpAny_nextOf_list_end hh (h1.extBut b1.extBut D.i1z) (hl1.extBut b1.extBut D.l1z) hx fun g2 e b2 ⟨oe, ho, hc⟩ => ?_)
    have z2 : IsZ g2 z TI TO .ellipsis f := b2 _ _ D.i1z.symm z1
    have ne : e ≠ z := fun q => by
      rw [q, z2] at ho
      cases ho
      simp at hc
    exact wpAny_setField_rec z2 (by simp) fun g3 _ b3 => hE g3 e (fun c o c1 _ c3 _ q => b3.extBut _ _ c1 (b2 _ _ c3 (b1.extBut _ _ c1 q))) ⟨oe, b3.extBut _ _ ne ho, hc⟩
  | some x =>
    have hy : ys[k2]? = none := hend.resolve_left fun q => by rw [hx] at q; cases q
    refine wpAny_bind (wpAny_nextOf_list_item (h1.extBut b1.extBut D.i1z) (hl1.extBut b1.extBut D.l1z) hx fun g2 j1 b2 => wpAny_pure ?_)
    have p2 : IsPair g2 TO a b := b2.extBut _ _ D.TOi1 (b1.extBut _ _ D.TOz hTO)
    refine wpAny_bind (wpAny_seqItems p2 rfl (wpAny_bind (wpAny_updateSeq_pair p2 fun g3 p3 b3 => ?_)))
    refine wpAny_bind (wpAny_letGo (wpAny_pure ?_))
    refine wpAny_bind (wpAny_bind (wpAny_onRaise ?_))
    show wpAny _ _ (Builtin.SmallTypes.nextOf (.ref i2) >>= _) _ _ _
    have h2' : g3.IsListIter i2 l2 k2 := ((h2.extBut b1.extBut D.i2z).extBut b2.extBut D.i12.symm).extBut b3.extBut D.TOi2.symm
    have hl2' : g3.IsList l2 ys := ((hl2.extBut b1.extBut D.l2z).extBut b2.extBut D.l2i1).extBut b3.extBut D.l2TO
    refine wpAny_bind (wpAny_nextOf_list_end hh h2' hl2' hy fun g4 e b4 ⟨oe, ho, hc⟩ => ?_)
    have z4 : IsZ g4 z TI TO .ellipsis f := b4 _ _ D.i2z.symm (b3.extBut _ _ D.TOz.symm (b2.extBut _ _ D.i1z.symm z1))
    have ne : e ≠ z := fun q => by
      rw [q, z4] at ho
      cases ho
      simp at hc
    exact wpAny_setField_rec z4 (by simp) fun g5 _ b5 => hE g5 e (fun c o c1 c2 c3 c4 q => b5.extBut _ _ c1 (b4 _ _ c4 (b3.extBut _ _ c2 (b2.extBut _ _ c3 (b1.extBut _ _ c1 q))))) ⟨oe, b5.extBut _ _ ne ho, hc⟩
/-- a zip whose two lists stand at k -/
def Zst (z TI TO i1 i2 l1 l2 : Addr) (k : Nat) (h : Heap) : Prop :=
  ∃ f0 f, IsZ h z TI TO f0 f ∧ ((f0 = .none ∧ f = false) ∨ ∃ T : Addr, f0 = rawInt T) ∧ IsPair h TI (.ref i1) (.ref i2) ∧ (∃ a b, IsPair h TO a b) ∧ h.IsListIter i1 l1 k ∧ h.IsListIter i2 l2 k
theorem none_free {Q : Bool → Shared → Prop} (hz : IsZ s.heap z TI TO .none f) (h : Q true s) : wpAny (model prog w) A (Builtin.SmallTypes.ownedTupleIsFree (.ref z)) Q E s := by
  unfold Builtin.SmallTypes.ownedTupleIsFree
  exact wpAny_bind (wpAny_field hz rfl (x := .none) rfl (wpAny_pure h))
theorem next_free {k : Nat} {Q : Option Value → Shared → Prop} (D : ZipApart z TI TO i1 i2 l1 l2) (hz : IsZ s.heap z TI TO f0 f) (hfree : ∀ {A : Around} {E : Value → Shared → Prop} {Q : Bool → Shared → Prop}, Q true s → wpAny (model prog w) A (Builtin.SmallTypes.ownedTupleIsFree (.ref z)) Q E s)
    (hTI : IsPair s.heap TI (.ref i1) (.ref i2)) (hTO : IsPair s.heap TO a b) (h1 : s.heap.IsListIter i1 l1 k) (h2 : s.heap.IsListIter i2 l2 k) (hl1 : s.heap.IsList l1 xs) (hl2 : s.heap.IsList l2 ys) (hx : xs[k]? = some x) (hy : ys[k]? = some y)
    (hQ : ∀ h', Zst z TI TO i1 i2 l1 l2 (k + 1) h' → IsPair h' s.heap.objs.size x y → (∀ c o, c ≠ z → c ≠ TO → c ≠ i1 → c ≠ i2 → s.heap.get? c = some o → h'.get? c = some o) → Q (some (.ref s.heap.objs.size)) { s with heap := h' }) :
    wpAny (model prog w) A (pyNext (.ref z)) Q E s := by
  have hT : s.TypeIs (.ref z) "zip" := ⟨_, hz, rfl⟩
  unfold pyNext
  refine wpAny_bind (wpAny_attempt (wpAny_callSpecial?_slot (name := Str.ofString "__next__") hT F.slot_zip_next (wpAny_call_entry F.slot_zip_next hT F.entry_zip_next
    (free_item D hz hfree hTI hTO h1 h2 hl1 hl2 hx hy fun h' a1 a2 a3 a4 a5 a6 a7 => wpAny_pure (hQ h' ⟨_, _, a1, .inr ⟨_, rfl⟩, a7 _ _ D.TIz D.TITO D.TIi1 D.TIi2 hTI, ⟨_, _, a2⟩, a3, a4⟩ a5 a7)) (F.args_zip_next_1 _))))
theorem next_item {k : Nat} {Q : Option Value → Shared → Prop} (D : ZipApart z TI TO i1 i2 l1 l2) (st : Zst z TI TO i1 i2 l1 l2 k s.heap) (hl1 : s.heap.IsList l1 xs) (hl2 : s.heap.IsList l2 ys) (hx : xs[k]? = some x) (hy : ys[k]? = some y)
    (hQ : ∀ h', Zst z TI TO i1 i2 l1 l2 (k + 1) h' → IsPair h' s.heap.objs.size x y → (∀ c o, c ≠ z → c ≠ TO → c ≠ i1 → c ≠ i2 → s.heap.get? c = some o → h'.get? c = some o) → Q (some (.ref s.heap.objs.size)) { s with heap := h' }) :
    wpAny (model prog w) A (pyNext (.ref z)) Q E s := by
  obtain ⟨f0, f, hz, hf, hTI, ⟨a, b, hTO⟩, h1, h2⟩ := st
  rcases hf with ⟨rfl, rfl⟩ | ⟨T, rfl⟩
  · exact next_free D hz (fun q => none_free hz q) hTI hTO h1 h2 hl1 hl2 hx hy hQ
  · cases hT : s.heap.get? T with
    | none => exact next_free D hz (fun q => gone_free hz hT q) hTI hTO h1 h2 hl1 hl2 hx hy hQ
    | some oT =>
      exact wpAny_pyNext_zip_item_held D hz hT hTI h1 h2 hl1 hl2 hx hy fun h' a1 a3 a4 a5 _ a7 =>
        hQ h' ⟨_, _, a1, .inr ⟨_, rfl⟩, a7 _ _ D.TIz D.TIi1 D.TIi2 hTI, ⟨a, b, a7 _ _ D.TOz D.TOi1 D.TOi2 hTO⟩, a3, a4⟩ a5 fun c o c1 _ c3 c4 e => a7 c o c1 c3 c4 e
theorem end_free {k : Nat} {Q : Option Value → Shared → Prop} (hh : A.handled = none) (D : ZipApart z TI TO i1 i2 l1 l2) (hz : IsZ s.heap z TI TO f0 f) (hfree : ∀ {A : Around} {E : Value → Shared → Prop} {Q : Bool → Shared → Prop}, Q true s → wpAny (model prog w) A (Builtin.SmallTypes.ownedTupleIsFree (.ref z)) Q E s)
    (hTI : IsPair s.heap TI (.ref i1) (.ref i2)) (hTO : IsPair s.heap TO a b) (h1 : s.heap.IsListIter i1 l1 k) (h2 : s.heap.IsListIter i2 l2 k) (hl1 : s.heap.IsList l1 xs) (hl2 : s.heap.IsList l2 ys) (hend : xs[k]? = none ∨ ys[k]? = none)
    (hQ : ∀ h', (∀ c o, c ≠ z → c ≠ TO → c ≠ i1 → c ≠ i2 → s.heap.get? c = some o → h'.get? c = some o) → Q none { s with heap := h' }) : wpAny (model prog w) A (pyNext (.ref z)) Q E s := by
  have hT : s.TypeIs (.ref z) "zip" := ⟨_, hz, rfl⟩
  unfold pyNext
  refine wpAny_bind (wpAny_attempt (wpAny_callSpecial?_slot (name := Str.ofString "__next__") hT F.slot_zip_next
    (wpAny_call_entry F.slot_zip_next hT F.entry_zip_next (free_end hh D hz hfree hTI hTO h1 h2 hl1 hl2 hend fun h' e hk he => ?_) (F.args_zip_next_1 _))))
  exact wpAny_bind (wpAny_isInstance (T := "StopIteration") (b := true) he isSubtype_stop (wpAny_pure (hQ _ hk)))
theorem next_end {k : Nat} {Q : Option Value → Shared → Prop} (hh : A.handled = none) (D : ZipApart z TI TO i1 i2 l1 l2) (st : Zst z TI TO i1 i2 l1 l2 k s.heap) (hl1 : s.heap.IsList l1 xs) (hl2 : s.heap.IsList l2 ys) (hend : xs[k]? = none ∨ ys[k]? = none)
    (hQ : ∀ h', (∀ c o, c ≠ z → c ≠ TO → c ≠ i1 → c ≠ i2 → s.heap.get? c = some o → h'.get? c = some o) → Q none { s with heap := h' }) : wpAny (model prog w) A (pyNext (.ref z)) Q E s := by
  obtain ⟨f0, f, hz, hf, hTI, ⟨a, b, hTO⟩, h1, h2⟩ := st
  rcases hf with ⟨rfl, rfl⟩ | ⟨T, rfl⟩
  · exact end_free hh D hz (fun q => none_free hz q) hTI hTO h1 h2 hl1 hl2 hend hQ
  · cases hT : s.heap.get? T with
    | none => exact end_free hh D hz (fun q => gone_free hz hT q) hTI hTO h1 h2 hl1 hl2 hend hQ
    | some oT => exact wpAny_pyNext_zip_end_held hh D hz hT hTI h1 h2 hl1 hl2 hend fun h' k7 => hQ h' fun c o c1 _ c3 c4 e => k7 c o c1 c3 c4 e
theorem self_zip {Q : Value → Shared → Prop} (hz : IsZ s.heap z TI TO f0 f) (h : Q (.ref z) s) : wpAny (model prog w) A (pyIter (.ref z)) Q E s := by
  have hT : s.TypeIs (.ref z) "zip" := ⟨_, hz, rfl⟩
  refine wpAny_pyIter_slot hT F.slot_zip_iter (wpAny_call_entry F.slot_zip_iter hT F.entry_zip_iter ?_ (F.args_zip_iter_1 _))
  show wpAny _ _ (ret (.ref z)) _ _ s
  exact wpAny_pure ⟨_, rfl, "zip", _, hT, F.slot_zip_next.lookup, h⟩
end
theorem turnN {P : Program} {w : World} {K : PySem.W.Frag} {n : Str} {p0 : Pos} {a b z TI TO i1 i2 : Addr} (D : ZipApart z TI TO i1 i2 a b) : Turn P w K (.Name n p0) (Itz K a b) [z, TI, TO, i1, i2] z (fun i h => Zst z TI TO i1 i2 a b i h) where
  mem := by simp
  obj := fun i h st c hc => by
    obtain ⟨f0, f, hz, _, hTI, ⟨x, y, hTO⟩, ⟨o1, e1, _, d1⟩, ⟨o2, e2, _, d2⟩⟩ := st
    have e' : c = z ∨ c = TI ∨ c = TO ∨ c = i1 ∨ c = i2 := by simpa using hc
    rcases e' with rfl | rfl | rfl | rfl | rfl
    · exact ⟨_, hz, fun v q => nomatch q⟩
    · exact ⟨_, hTI, fun v q => nomatch q⟩
    · exact ⟨_, hTO, fun v q => nomatch q⟩
    · exact ⟨o1, e1, fun v q => by rw [d1] at q; cases q⟩
    · exact ⟨o2, e2, fun v q => by rw [d2] at q; cases q⟩
  keep := fun i h h' st k => by
    obtain ⟨f0, f, hz, hf, hTI, ⟨x, y, hTO⟩, h1, h2⟩ := st
    exact ⟨f0, f, k z (by simp) _ hz, hf, k TI (by simp) _ hTI, ⟨x, y, k TO (by simp) _ hTO⟩, h1.at fun o q => k i1 (by simp) o q, h2.at fun o q => k i2 (by simp) o q⟩
  item := by
    intro X hP hw hK hc i pins s σ H E I hf st hg
    subst hP hw hK
    obtain ⟨xs, ys, x, y, hqx, hqy, hx, hy⟩ := hg
    obtain ⟨its, rv, p, _⟩ := I.list hqx
    obtain ⟨its2, rv2, p2, _⟩ := I.list hqy
    obtain ⟨u, hu, ru⟩ := rv.get hx
    obtain ⟨u2, hu2, ru2⟩ := rv2.get hy
    refine next_item D st p.isList p2.isList (x := u) (y := u2) (by simpa using hu) (by simpa using hu2) fun h' st' hT hk => ⟨_, rfl, ?_⟩
    have new : ObjOk X.prog X.w (upd H s.heap.objs.size (.tup [x, y])) h' s.heap.objs.size (.tup [x, y]) :=
      ⟨by show 2 ≤ sizeLine; decide, [u, u2], .cons ru (.cons ru2 .nil), ⟨_, hT, rfl, _, rfl⟩⟩
    have I1 : Inv X pins σ (upd H s.heap.objs.size (.tup [x, y])) { s with heap := h' } :=
      I.turnedNew (t' := s.toks) (ch := [z, TI, TO, i1, i2]) (fun c o hb q => hk c o (fun z => hb (by simp [z])) (fun z => hb (by simp [z])) (fun z => hb (by simp [z])) (fun z => hb (by simp [z])) q) hf (Nat.le_refl _) new
    show wpAny _ _ (letOwnedTupleGo (.Name n p0) (.ref z) _) _ _ _
    unfold letOwnedTupleGo
    refine wpAny_pure ⟨.ref s.heap.objs.size, _, I1, rfl, ⟨_, x, y, rfl, I.hok.fresh (Nat.le_refl _), rfl, fun l hl => by rw [I.list_inj hl hqx]; exact hx, fun l hl => by rw [I.list_inj hl hqy]; exact hy⟩, st', fun c hcm => ?_⟩
    have hlt : c < s.heap.objs.size := by
      obtain ⟨f0, f, hz, _, hTI, ⟨_, _, hTO⟩, ⟨_, e1, _⟩, ⟨_, e2, _⟩⟩ := st
      have e' : c = z ∨ c = TI ∨ c = TO ∨ c = i1 ∨ c = i2 := by simpa using hcm
      rcases e' with rfl | rfl | rfl | rfl | rfl
      · exact Heap.lt_size hz
      · exact Heap.lt_size hTI
      · exact Heap.lt_size hTO
      · exact Heap.lt_size e1
      · exact Heap.lt_size e2
    rw [upd_ne (Nat.ne_of_lt hlt)]
    exact (hf c hcm).1
  done := by
    intro X hP hw hK hc i pins s σ H E I hf st hg
    subst hP hw hK
    obtain ⟨xs, ys, hqx, hqy, hend⟩ := hg
    obtain ⟨its, rv, p, _⟩ := I.list hqx
    obtain ⟨its2, rv2, p2, _⟩ := I.list hqy
    have l1 := rv.length
    have l2 := rv2.length
    have he : its.toArray[i]? = none ∨ its2.toArray[i]? = none := hend.elim (fun q => .inl (by simp; omega)) fun q => .inr (by simp; omega)
    exact next_end (I.ok.hd hc) D st p.isList p2.isList he fun h' hk => ⟨rfl, I.turnedL (t' := s.toks) (ch := [z, TI, TO, i1, i2]) (fun c o hb q => hk c o (fun z => hb (by simp [z])) (fun z => hb (by simp [z])) (fun z => hb (by simp [z])) (fun z => hb (by simp [z])) q) hf⟩
  self := fun A i s Q E ⟨_, _, hz, _⟩ h => self_zip hz h
theorem pi_zipN {X : Cx} {e e2 : Expr} {ta : TA} {n : Str} {p0 p pos : Pos} (hg : Gl X "zip") (hm : X.mg "zip" = none) (ha : PA X [e, e2] ta)
    (hs : starEach [e, e2] X.env = (false, eval e X.env) :: starEach [e2] X.env := by rfl) (hpl : (backTo pos (starEach [e2] X.env)).any (·.1) = false := by rfl) :
    PI X (.Name n p0) (.Call (.Name "zip" p) [e, e2] [] pos) (iZip X.K ta) := by
  refine ⟨fun pins s σ H R I h => Call_ (ld_blt I hg hm PyProof.Rows.boot_zip (PyProof.Rows.callWith_type1 (thn (ha.run pos pins s σ H _ I h) fun us s1 ⟨vs, H1, I1, r1, a, b, xs, ys, ex, hqx, hqy, q⟩ => ?_) hs hpl))⟩
  subst ex
  obtain ⟨u1, u2, rfl, ra, rb⟩ := vals2 r1
  cases (show u1 = Value.ref a from ra)
  cases (show u2 = Value.ref b from rb)
  obtain ⟨its, rv, p1, _⟩ := I1.list hqx
  obtain ⟨its2, rv2, p2, _⟩ := I1.list hqy
  refine call_zip_2 p1.isList p2.isList fun h' hz hTI hTO h1 h2 hsz hk => wpAny_pyIter_zip hz ?_
  have I2 : Inv X pins σ H1 { s1 with heap := h' } := I1.kept (t' := s1.toks) hk
  refine ⟨s1.heap.objs.size + 4, [s1.heap.objs.size + 4, s1.heap.objs.size + 2, s1.heap.objs.size + 3, s1.heap.objs.size, s1.heap.objs.size + 1], _, _, H1, rfl, I2, turnN (PySem.W.ktu_apart s1.heap.objs.size a b p1.lt p2.lt), ⟨_, _, hz, .inl ⟨rfl, rfl⟩, hTI, ⟨_, _, hTO⟩, h1, h2⟩, fun c hcm => ?_, q⟩
  have hle : s1.heap.objs.size ≤ c := by
    have e' : c = s1.heap.objs.size + 4 ∨ c = s1.heap.objs.size + 2 ∨ c = s1.heap.objs.size + 3 ∨ c = s1.heap.objs.size ∨ c = s1.heap.objs.size + 1 := by simpa using hcm
    simp only [Addr] at *
    omega
  exact I1.fpOk hle (I1.hok.fresh hle)
theorem piZN (K : PySem.W.Frag) {X : Cx} (hK : X.K = K) {e e2 : Expr} {ta : TA} {n : Str} {p0 p pos : Pos} (hg : Gl X "zip") (hm : X.mg "zip" = none) (ha : PA X [e, e2] ta)
    (hs : starEach [e, e2] X.env = (false, eval e X.env) :: starEach [e2] X.env := by rfl) (hpl : (backTo pos (starEach [e2] X.env)).any (·.1) = false := by rfl) :
    PI X (.Name n p0) (.Call (.Name "zip" p) [e, e2] [] pos) (iZip K ta) := hK ▸ pi_zipN hg hm ha hs hpl
end Px

set_option Elab.async false
set_option linter.all false
set_option maxRecDepth 100000
set_option maxHeartbeats 4000000
namespace K02
open PySem PySem.Spec PyProof.Rows L2 Px
def topS (i : Nat) : Stmt := PySem.Challenge.pw_pilenets_k02_no_nets.main.body.getD i (.Pass ⟨0, 0, 0, 0⟩)
abbrev s_net_of : Stmt := topS 18
theorem sc_net_of : FnScope ["stations", "ways", "word", "many", "way"] ["stations", "ways"] (defScope s_net_of) := ⟨rfl, rfl, rfl, by decide +kernel, rfl, by decide +kernel, by decide +kernel⟩
abbrev s_is_whole : Stmt := topS 19
theorem sc_is_whole : FnScope ["thing"] ["thing"] (defScope s_is_whole) := ⟨rfl, rfl, rfl, by decide +kernel, rfl, by decide +kernel, by decide +kernel⟩
abbrev s_is_way : Stmt := topS 20
theorem sc_is_way : FnScope ["thing", "many", "a", "b", "begins", "ends"] ["thing", "many"] (defScope s_is_way) := ⟨rfl, rfl, rfl, by decide +kernel, rfl, by decide +kernel, by decide +kernel⟩
abbrev s_leads_round_about : Stmt := topS 21
theorem sc_leads_round_about : FnScope ["ways", "many", "behind", "left", "a", "b", "free", "freed", "station", "later", "number"] ["ways", "many"] (defScope s_leads_round_about) := ⟨rfl, rfl, rfl, by decide +kernel, rfl, by decide +kernel, by decide +kernel⟩
abbrev s__law_stir : Stmt := topS 23
theorem sc__law_stir : FnScope ["cell", "k", "number"] ["cell", "k"] (defScope s__law_stir) := ⟨rfl, rfl, rfl, by decide +kernel, rfl, by decide +kernel, by decide +kernel⟩
abbrev s__law_deck : Stmt := topS 24
theorem sc__law_deck : FnScope ["cell"] ["cell"] (defScope s__law_deck) := ⟨rfl, rfl, rfl, by decide +kernel, rfl, by decide +kernel, by decide +kernel⟩
abbrev s__law_take : Stmt := topS 25
theorem sc__law_take : FnScope ["deck", "many", "taken"] ["deck", "many"] (defScope s__law_take) := ⟨rfl, rfl, rfl, by decide +kernel, rfl, by decide +kernel, by decide +kernel⟩
abbrev s__law_net : Stmt := topS 26
theorem sc__law_net : FnScope ["deck", "most", "many", "k", "stations", "order", "ways", "j"] ["deck", "most"] (defScope s__law_net) := ⟨rfl, rfl, rfl, by decide +kernel, rfl, by decide +kernel, by decide +kernel⟩
abbrev s__law_spoilt : Stmt := topS 27
theorem sc__law_spoilt : FnScope ["deck", "stations", "ways", "many", "way", "far", "near", "word", "at", "round_about", "new", "some", "k", "pair"] ["deck", "stations", "ways"] (defScope s__law_spoilt) := ⟨rfl, rfl, rfl, by decide +kernel, rfl, by decide +kernel, by decide +kernel⟩
abbrev s__law_refused : Stmt := topS 28
theorem sc__law_refused : FnScope ["stations", "ways", "caught", "e"] ["stations", "ways"] (defScope s__law_refused) := ⟨rfl, rfl, rfl, by decide +kernel, rfl, by decide +kernel, by decide +kernel⟩
abbrev s_law : Stmt := topS 29
theorem sc_law : FnScope ["script", "cell", "deck", "stations", "ways", "turn", "bad", "handed"] ["script"] (defScope s_law) := ⟨rfl, rfl, rfl, by decide +kernel, rfl, by decide +kernel, by decide +kernel⟩
structure Top (K : PySem.W.Frag) (mg : Str → Option Value) : Prop where
  d_net_of : Dfn K mg "net_of" s_net_of
  d_is_whole : Dfn K mg "is_whole" s_is_whole
  d_is_way : Dfn K mg "is_way" s_is_way
  d_leads_round_about : Dfn K mg "leads_round_about" s_leads_round_about
  d__law_stir : Dfn K mg "_law_stir" s__law_stir
  d__law_deck : Dfn K mg "_law_deck" s__law_deck
  d__law_take : Dfn K mg "_law_take" s__law_take
  d__law_net : Dfn K mg "_law_net" s__law_net
  d__law_spoilt : Dfn K mg "_law_spoilt" s__law_spoilt
  d__law_refused : Dfn K mg "_law_refused" s__law_refused
  d_law : Dfn K mg "law" s_law
  b_len : mg "len" = none
  b_list : mg "list" = none
  b_sorted : mg "sorted" = none
  b_set : mg "set" = none
  b_isinstance : mg "isinstance" = none
  b_int : mg "int" = none
  b_bool : mg "bool" = none
  b_tuple : mg "tuple" = none
  b_range : mg "range" = none
  b_zip : mg "zip" = none
  b_ValueError : mg "ValueError" = none
  c_NoNet : ∃ C, ECls K mg "NoNet" C
  c_PileError : ∃ C, ECls K mg "PileError" C
  c_NoDoing : ∃ C, ECls K mg "NoDoing" C
  c_NoForm : ∃ C, ECls K mg "NoForm" C
  c_NoMark : ∃ C, ECls K mg "NoMark" C
  c_NoMove : ∃ C, ECls K mg "NoMove" C
  c_NoneYet : ∃ C, ECls K mg "NoneYet" C
  c_NoNumber : ∃ C, ECls K mg "NoNumber" C
  c_NoPlace : ∃ C, ECls K mg "NoPlace" C
  c_NoRow : ∃ C, ECls K mg "NoRow" C
  c_NoText : ∃ C, ECls K mg "NoText" C
  c_TooMany : ∃ C, ECls K mg "TooMany" C
  p_NoNet_PileError : ESub K mg "NoNet" "PileError" true
  p_NoNet_NoDoing : ESub K mg "NoNet" "NoDoing" false
  p_NoNet_NoForm : ESub K mg "NoNet" "NoForm" false
  p_NoNet_NoMark : ESub K mg "NoNet" "NoMark" false
  p_NoNet_NoMove : ESub K mg "NoNet" "NoMove" false
  p_NoNet_NoneYet : ESub K mg "NoNet" "NoneYet" false
  p_NoNet_NoNumber : ESub K mg "NoNet" "NoNumber" false
  p_NoNet_NoPlace : ESub K mg "NoNet" "NoPlace" false
  p_NoNet_NoRow : ESub K mg "NoNet" "NoRow" false
  p_NoNet_NoText : ESub K mg "NoNet" "NoText" false
  p_NoNet_TooMany : ESub K mg "NoNet" "TooMany" false
  g_PILE : ∃ t, mg "PILE" = some (Value.str "pile" t)
  g_LINE : ∃ t, mg "LINE" = some (Value.str "line" t)
  g_IN : ∃ t, mg "IN" = some (Value.int (-1) t)
  g_OUT : ∃ t, mg "OUT" = some (Value.int (-2) t)
local macro_rules | `(tactic| walk_at "rd1") => `(tactic| first
  | ((with_reducible apply r_var); exact rfl) | with_reducible refine r_c ?_ | with_reducible refine r_seq ?_ | with_reducible refine r_next ?_ | with_reducible refine r_set ?_
  | with_reducible refine r_ret ?_ | with_reducible refine r_retN ?_ | with_reducible refine r_drop ?_ | with_reducible refine r_if ?_ | with_reducible refine r_test ?_ | with_reducible refine r_bl ?_
  | with_reducible refine r_op ?_ | with_reducible refine r_I0 ?_ | with_reducible refine r_I ?_ ?_ | with_reducible refine r_eqI ?_ | with_reducible refine r_neI ?_ | with_reducible refine r_eqB ?_ | with_reducible refine r_neB ?_ | with_reducible refine r_eqS ?_ | with_reducible refine r_neS ?_ | with_reducible refine r_andV ?_ | with_reducible refine r_orV ?_ | with_reducible refine r_notV ?_ | with_reducible refine r_nil ?_ | with_reducible refine r_cons ?_
  | with_reducible refine r_cal ?_ | with_reducible refine r_CB ?_ | with_reducible refine r_BM ?_ | with_reducible refine r_BM0 ?_ | with_reducible refine r_un ?_ | with_reducible refine r_U ?_
  | with_reducible refine r_and ?_ | with_reducible refine r_or ?_ | with_reducible refine r_not ?_ | with_reducible refine r_lst ?_ | with_reducible refine r_tup ?_ | with_reducible refine r_brk ?_ | with_reducible refine r_cont ?_ | with_reducible refine r_ifE ?_ | with_reducible refine r_tB ?_ | with_reducible refine r_gName ?_
  | with_reducible refine iteNF ?_ | with_reducible refine iteNT ?_ | with_reducible refine iteT ?_ | with_reducible refine iteF ?_ | with_reducible refine r_asg ?_ | with_reducible refine r_lrg1 ?_ | with_reducible refine r_yes ?_ | with_reducible refine r_lenSet ?_ | with_reducible refine r_dget ?_ | with_reducible refine r_slice ?_ | with_reducible refine r_noPart ?_ | with_reducible refine r_part ?_ | with_reducible refine r_int ?_ | with_reducible refine r_lrev ?_ | with_reducible refine r_calH ?_ | with_reducible refine r_chain ?_ | with_reducible refine r_lenSetP ?_ | with_reducible refine r_augS ?_ | with_reducible refine r_ipI ?_)
local macro_rules | `(tactic| walk_at "rd") => `(tactic| repeat' walk_at "rd1")
local macro_rules | `(tactic| walk_at "nn") => `(tactic| try simp only [Int.reduceToNat, Int.reducePow, Int.reduceAdd, Int.reduceMul, Int.reduceSub, Int.reduceNeg])
local macro_rules | `(tactic| walk_at "nns") => `(tactic| try simp only [Int.reduceToNat, Int.reducePow, Int.reduceAdd, Int.reduceMul, Int.reduceSub, Int.reduceNeg] at *)
local macro_rules | `(tactic| walk_at "pw") => `(tactic| exact ⟨by decide, by decide, by decide⟩)
local macro_rules | `(tactic| walk_at "sz") => `(tactic| exact r_small (by simp only [List.length_cons, List.length_nil, List.length_map]; omega))
local macro_rules | `(tactic| walk_at "bn") => `(tactic| simp only [decide_true, decide_false, Bool.not_true, Bool.not_false, Bool.or_false, Bool.false_or, Bool.or_true, Bool.true_or, Bool.and_true, Bool.true_and, Bool.and_false, Bool.false_and])

section
variable {P : Program} {w : World} {K : PySem.W.Frag} {mg : Str → Option Value} {base : Heap}
def spStir : Sp := fun vs H Q _ => ∃ c k : Int, vs = [.int c, .int k] ∧ (k = 1 ∨ k = 2 ∨ k = 3) ∧ ∀ r : Int, 0 ≤ r → r < 10 ^ 61 → Q (.int r) H
theorem ok_stir (T : Top K mg) : Cal P w K mg base CX0 1 "_law_stir" ["cell", "k"] spStir := Cal.of T.d__law_stir (fun _ _ _ _ _ _ us hl => match us, hl with | [_, _], _ => rfl) fun f fd F => by
  refine F.ok sc__law_stir (fun vs H Q E h => ?_) (fun cdv A outer s H vs Q E hr h => ?_)
  · obtain ⟨c, k, rfl, _⟩ := h
    rfl
  · obtain ⟨c, k, rfl, hk, q⟩ := h
    refine ⟨_, (Evl.pss_cut (ps_set (i := 2) sc__law_stir.nd rfl (by first | exact Or.inl rfl | exact Or.inr rfl) (pe_op op_add (pe_op op_add (pe_op op_mulW (pe_op op_mod (pv 0) (pe_op op_pow pe_int pe_int)) pe_int) (pe_op op_mulW (pe_op op_mulW (pe_op op_pow pe_int pe_int) (pe_op op_add (pv 1) pe_int)) (pe_op op_add (pv 1) pe_int))) (pv 1)))
      (Evl.pss_cut (ps_set (i := 2) sc__law_stir.nd rfl (by first | exact Or.inl rfl | exact Or.inr rfl) (pe_op op_add (pe_op op_mulW (pv 2) (pv 2)) (pe_op op_mulW pe_int (pv 2))))
      (pss_one (ps_ret (pe_op op_fdivW (pe_op op_mod (pe_op op_mulW (pv 2) (pv 2)) (pe_op op_add (pe_op op_pow pe_int pe_int) pe_int)) pe_int))))), ?_⟩
    refine r_st (σ' := [some (.int c), some (.int k), none]) rfl ?_
    refine Evl.q_cut (M := fun σ H' => ∃ n : Int, 0 ≤ n ∧ n < 10 ^ 50 ∧ σ = [some (.int c), some (.int k), some (.int n)] ∧ H = H') ?_ ?_
    · walk_at "rd"
      · refine ⟨_, ?_, ?_, rfl, rfl⟩
        · rcases hk with rfl | rfl | rfl <;> walk_at "nn" <;> omega
        · rcases hk with rfl | rfl | rfl <;> walk_at "nn" <;> omega
      · rcases hk with rfl | rfl | rfl <;> exact wide_mul (a := 200) (b := 100) (by walk_at "nns" <;> omega) (by walk_at "nns" <;> omega) (by omega) (by omega) (by omega)
      · rcases hk with rfl | rfl | rfl <;> exact wide_mul (a := 200) (b := 100) (by walk_at "nns" <;> omega) (by walk_at "nns" <;> omega) (by omega) (by omega) (by omega)
      · walk_at "pw"
      · exact wide_mul (a := 200) (b := 100) (by walk_at "nns" <;> omega) (by walk_at "nns" <;> omega) (by omega) (by omega) (by omega)
      · walk_at "nn" <;> omega
      · walk_at "pw"
    rintro _ _ ⟨n, n0, n1, rfl, rfl⟩
    refine Evl.q_cut (M := fun σ H' => ∃ m : Int, 0 ≤ m ∧ m < 10 ^ 101 ∧ σ = [some (.int c), some (.int k), some (.int m)] ∧ H = H') ?_ ?_
    · have hm : n * n < 10 ^ 100 := by
        have := mul_lt_of n0 n1 n0 n1
        walk_at "nns"
        walk_at "nn"
        omega
      have h0 : 0 ≤ n * n := Int.mul_nonneg n0 n0
      walk_at "rd"
      · refine ⟨_, ?_, ?_, rfl, rfl⟩
        · omega
        · walk_at "nns" <;> walk_at "nn" <;> walk_at "nns" <;> omega
      · exact wide_mul (a := 200) (b := 200) (by omega) (by walk_at "nns" <;> omega) (by omega) (by omega) (by omega)
      · exact wide_mul (a := 200) (b := 200) (by walk_at "nns" <;> omega) (by walk_at "nns" <;> omega) (by omega) (by omega) (by omega)
    rintro _ _ ⟨m, m0, m1, rfl, rfl⟩
    walk_at "rd"
    · refine q _ ?_ ?_
      · refine Int.ediv_nonneg (Int.emod_nonneg _ ?_) (by decide)
        walk_at "nn"
        omega
      · have := Int.emod_lt_of_pos (m * m) (b := 10 ^ Int.toNat 61 + 7) (by walk_at "nns" <;> omega)
        walk_at "nns"
        walk_at "nn"
        omega
    · exact wide_div (b := 10) (by decide) (by decide) (by decide) (by decide)
    · walk_at "nn" <;> omega
    · walk_at "pw"
    · exact wide_mul (a := 400) (b := 400) (by walk_at "nns" <;> omega) (by walk_at "nns" <;> omega) (by omega) (by omega) (by omega)

def spDeck : Sp := fun vs H Q _ => ∃ c : Int, vs = [.int c] ∧ ∀ p H', H p = none → Same H H' → Dk H' p → Q (.ref p) H'
theorem ok_deck (T : Top K mg) : Cal P w K mg base CX0 2 "_law_deck" ["cell"] spDeck := Cal.of T.d__law_deck (fun _ _ _ _ _ _ us hl => match us, hl with | [_], _ => rfl) fun f fd F => by
  have C__law_stir : Cal P w K mg base CX0 1 "_law_stir" _ _ := ok_stir T
  refine F.ok sc__law_deck (fun vs H Q E h => ?_) (fun cdv A outer s H vs Q E hr h => ?_)
  · obtain ⟨c, rfl, _⟩ := h
    rfl
  · obtain ⟨c, rfl, q⟩ := h
    refine ⟨_, (pss_cons (ps_if (pt_cmpR op_ge (pv 0) (pe_op op_pow pe_int pe_int) (nomark _)) (pss_one (ps_ret (pe_lst (pa_cons (pe_op op_sub (pv 0) (pe_op op_pow pe_int pe_int)) pa_nil)))) pss_nil)
      (pss_one (ps_ret (pe_lst (pa_cons (pe_op op_add (pe_op op_mulW (pe_op op_add (pe_op op_mulW (pe_cal C__law_stir (hr.mono (by first | decide | omega)) pass0 (pa_cons (pv 0) (pa_cons pe_int pa_nil))) (pe_op op_pow pe_int pe_int)) (pe_cal C__law_stir (hr.mono (by first | decide | omega)) pass0 (pa_cons (pv 0) (pa_cons pe_int pa_nil)))) (pe_op op_pow pe_int pe_int)) (pe_cal C__law_stir (hr.mono (by first | decide | omega)) pass0 (pa_cons (pv 0) (pa_cons pe_int pa_nil)))) pa_nil))))), ?_⟩
    refine r_st (σ' := [some (.int c)]) rfl ?_
    walk_at "rd"
    · refine ite2 (fun hc => ?_) (fun hc => ?_)
      · have hc := of_decide_eq_true hc
        walk_at "nns"
        walk_at "rd"
        · exact ⟨by walk_at "sz", fun p hp => q p _ hp (same_new hp) ⟨_, by walk_at "nns" <;> omega, upd_same⟩⟩
        · walk_at "pw"
      · walk_at "rd"
        refine ⟨_, _, rfl, .inl rfl, fun a a0 a1 => ?_⟩
        walk_at "rd"
        · refine ⟨_, _, rfl, .inr (.inl rfl), fun b b0 b1 => ?_⟩
          walk_at "rd"
          · refine ⟨_, _, rfl, .inr (.inr rfl), fun c c0 c1 => ?_⟩
            walk_at "rd"
            exact ⟨by walk_at "sz", fun p hp => q p _ hp (same_new hp) ⟨_, by walk_at "nns" <;> omega, upd_same⟩⟩
          · exact wide_mul (a := 500) (b := 250) (by walk_at "nns" <;> omega) (by walk_at "nns" <;> omega) (by omega) (by omega) (by omega)
          · walk_at "pw"
        · exact wide_mul (a := 250) (b := 250) (by walk_at "nns" <;> omega) (by walk_at "nns" <;> omega) (by omega) (by omega) (by omega)
        · walk_at "pw"
    · walk_at "pw"

def spTake : Sp := fun vs H Q _ => ∃ (p : Addr) (m : Int), vs = [.ref p, .int m] ∧ Dk H p ∧ 0 < m ∧ m < 10 ^ 70 ∧ ∀ (r : Int) (H' : Hp), 0 ≤ r → r < m → Upto p H H' → Dk H' p → Q (.int r) H'
theorem ok_take (T : Top K mg) : Cal P w K mg base CX0 1 "_law_take" ["deck", "many"] spTake := Cal.of T.d__law_take (fun _ _ _ _ _ _ us hl => match us, hl with | [_, _], _ => rfl) fun f fd F => by
  refine F.ok sc__law_take (fun vs H Q E h => ?_) (fun cdv A outer s H vs Q E hr h => ?_)
  · obtain ⟨p, m, rfl, _⟩ := h
    rfl
  · obtain ⟨p, m, rfl, ⟨d, d0, hd⟩, m0, m1, q⟩ := h
    refine ⟨_, (pss_cons (ps_set (i := 2) sc__law_take.nd rfl (by first | exact Or.inl rfl | exact Or.inr rfl) (pe_op op_mod (pixL K (by rfl) (pv 0) pe_int (fun _ _ => rfl)) (pv 1)))
      (pss_cons (ps_asg (pe_op op_fdivW (pixL K (by rfl) (pv 0) pe_int (fun _ _ => rfl)) (pv 1)) (pg_sub (pv 0) pe_int set_list))
      (pss_one (ps_ret (pv 2))))), ?_⟩
    refine r_st (σ' := [some (.ref p), some (.int m), none]) rfl ?_
    walk_at "rd"
    refine r_ixL (seq_of hd) at0 ?_
    walk_at "rd"
    · refine r_ixL (seq_of hd) at0 ?_
      walk_at "rd"
      · show tVar 0 _ _ _
        walk_at "rd"
        refine r_setL hd rfl ?_
        walk_at "rd"
        exact q _ _ (Int.emod_nonneg _ (by omega)) (Int.emod_lt_of_pos _ m0) upto_upd ⟨_, Int.ediv_nonneg d0 (by omega), upd_same⟩
      · exact wide_div (b := 300) m0 (by walk_at "nns" <;> omega) (by omega) (by omega)
    · exact m0

def spWhole : Sp := fun vs H Q _ => ∃ i : Int, vs = [.int i] ∧ Q (.bl true) H
theorem ok_whole (T : Top K mg) : Cal P w K mg base CX0 1 "is_whole" ["thing"] spWhole := Cal.of T.d_is_whole (fun _ _ _ _ _ _ us hl => match us, hl with | [_], _ => rfl) fun f fd F => by
  refine F.ok sc_is_whole (fun vs H Q E h => ?_) (fun cdv A outer s H vs Q E hr h => ?_)
  · obtain ⟨i, rfl, _⟩ := h
    rfl
  · obtain ⟨i, rfl, q⟩ := h
    refine ⟨_, (pss_one (ps_ret (pe_and (pe_callB (crIsi K (by rfl)) (by rfl) T.b_isinstance (by decide +kernel) (pa_cons (pv 0) (pa_cons (pe_bltn (v := .ty "int") (u := .type "int") (by rfl) T.b_int (by decide +kernel) rfl) pa_nil))) (pe_one (pe_not (pe_callB (crIsi K (by rfl)) (by rfl) T.b_isinstance (by decide +kernel) (pa_cons (pv 0) (pa_cons (pe_bltn (v := .ty "bool") (u := .type "bool") (by rfl) T.b_bool (by decide +kernel) rfl) pa_nil)))))))), ?_⟩
    refine r_st (σ' := [some (.int i)]) rfl ?_
    walk_at "rd"
    refine r_isi (.base (.int i)) (b := true) (by decide +kernel) ?_
    walk_at "rd"
    refine r_isi (.base (.int i)) (b := false) (by decide +kernel) ?_
    walk_at "rd"
    exact q
/-- (a, b) is a way of a net of so many stations -/
def wayB (m a b : Int) : Bool := (decide (a = -1) || (decide (0 ≤ a) && decide (a < m))) && (decide (b = -2) || (decide (0 ≤ b) && decide (b < m))) && !decide (a = b)
def spWay : Sp := fun vs H Q _ => ∃ (t : Addr) (m a b : Int), vs = [.ref t, .int m] ∧ H t = some (.tup [.int a, .int b]) ∧ Q (.bl (wayB m a b)) H
theorem ok_way (T : Top K mg) : Cal P w K mg base CX0 2 "is_way" ["thing", "many"] spWay := Cal.of T.d_is_way (fun _ _ _ _ _ _ us hl => match us, hl with | [_, _], _ => rfl) fun f fd F => by
  have C_is_whole : Cal P w K mg base CX0 1 "is_whole" _ _ := ok_whole T
  obtain ⟨t_IN, G_IN⟩ := T.g_IN
  obtain ⟨t_OUT, G_OUT⟩ := T.g_OUT
  refine F.ok sc_is_way (fun vs H Q E h => ?_) (fun cdv A outer s H vs Q E hr h => ?_)
  · obtain ⟨t, m, a, b, rfl, _⟩ := h
    rfl
  · obtain ⟨t, m, a, b, rfl, ht, q⟩ := h
    refine ⟨_, (pss_cons (ps_if (PW.pt (pw_or (pt_not (pt_val (pe_callB (crIsi K (by rfl)) (by rfl) T.b_isinstance (by decide +kernel) (pa_cons (pv 0) (pa_cons (pe_bltn (v := .ty "tuple") (u := .type "tuple") (by rfl) T.b_tuple (by decide +kernel) rfl) pa_nil))))) (pw_or1 (pt_cmpR op_ne (pe_callB (crLen K (by rfl)) (by rfl) T.b_len PySem.boot_len (pa_cons (pv 0) pa_nil)) pe_int (nomark _))))) (pss_one (ps_ret pe_bl)) pss_nil)
      (pss_cons (ps_asg (pv 0) (pgT K (by rfl) (by rfl) (pgs_cons (pg_name (i := 2) sc_is_way.nd rfl (by first | exact Or.inl rfl | exact Or.inr rfl)) (pgs_cons (pg_name (i := 3) sc_is_way.nd rfl (by first | exact Or.inl rfl | exact Or.inr rfl)) pgs_nil))))
      (pss_cons (ps_if (PW.pt (pw_or (pt_not (pt_val (pe_cal C_is_whole (hr.mono (by first | decide | omega)) pass0 (pa_cons (pv 2) pa_nil)))) (pw_or1 (pt_not (pt_val (pe_cal C_is_whole (hr.mono (by first | decide | omega)) pass0 (pa_cons (pv 3) pa_nil))))))) (pss_one (ps_ret pe_bl)) pss_nil)
      (Evl.pss_cut (ps_set (i := 4) sc_is_way.nd rfl (by first | exact Or.inl rfl | exact Or.inr rfl) (pe_or (pe_cmpR op_eq (pv 2) (pe_glob (v := .int (-1)) (by rfl) G_IN ⟨_, rfl⟩) (nomark _)) (pe_one (pe_chain op_le op_lt pe_int (pv 2) (pv 1)))))
      (Evl.pss_cut (ps_set (i := 5) sc_is_way.nd rfl (by first | exact Or.inl rfl | exact Or.inr rfl) (pe_or (pe_cmpR op_eq (pv 3) (pe_glob (v := .int (-2)) (by rfl) G_OUT ⟨_, rfl⟩) (nomark _)) (pe_one (pe_chain op_le op_lt pe_int (pv 3) (pv 1)))))
      (pss_one (ps_ret (pe_and (pv 4) (pe_and (pv 5) (pe_one (pe_cmpR op_ne (pv 2) (pv 3) (nomark _)))))))))))), ?_⟩
    refine r_st (σ' := [some (.ref t), some (.int m), none, none, none, none]) rfl ?_
    walk_at "rd"
    refine r_isi (tyx_T (tup_of ht)) (b := true) (by decide +kernel) ?_
    walk_at "rd"
    refine r_len (.inr (tup_of ht)) ?_
    walk_at "rd"
    refine iteF ?_
    walk_at "rd"
    refine r_gTup2 (tup_of ht) ?_
    walk_at "rd"
    refine ⟨a, rfl, ?_⟩
    walk_at "rd"
    refine ⟨b, rfl, ?_⟩
    walk_at "rd"
    refine Evl.q_cut (M := fun σ H' => σ = [some (.ref t), some (.int m), some (.int a), some (.int b), some (.bl (decide (a = -1) || (decide (0 ≤ a) && decide (a < m)))), none] ∧ H = H') ?_ ?_
    · walk_at "rd"
      refine ite2 (fun h => ?_) (fun h => ?_)
      · walk_at "rd"
        rw [h]
        exact ⟨rfl, rfl⟩
      · walk_at "rd"
        have h := Bool.eq_false_iff.mpr h
        refine ite2 (fun h2 => ?_) (fun h2 => ?_)
        · walk_at "rd"
          rw [h, h2]
          exact ⟨rfl, rfl⟩
        · have h2 := Bool.eq_false_iff.mpr h2
          walk_at "rd"
          rw [h, h2]
          exact ⟨rfl, rfl⟩
    rintro _ _ ⟨rfl, rfl⟩
    refine Evl.q_cut (M := fun σ H' => σ = [some (.ref t), some (.int m), some (.int a), some (.int b), some (.bl (decide (a = -1) || (decide (0 ≤ a) && decide (a < m)))), some (.bl (decide (b = -2) || (decide (0 ≤ b) && decide (b < m))))] ∧ H = H') ?_ ?_
    · walk_at "rd"
      refine ite2 (fun h => ?_) (fun h => ?_)
      · walk_at "rd"
        rw [h]
        exact ⟨rfl, rfl⟩
      · walk_at "rd"
        have h := Bool.eq_false_iff.mpr h
        refine ite2 (fun h2 => ?_) (fun h2 => ?_)
        · walk_at "rd"
          rw [h, h2]
          exact ⟨rfl, rfl⟩
        · have h2 := Bool.eq_false_iff.mpr h2
          walk_at "rd"
          rw [h, h2]
          exact ⟨rfl, rfl⟩
    rintro _ _ ⟨rfl, rfl⟩
    walk_at "rd"
    unfold wayB at q
    refine ite2 (fun h => ?_) (fun h => ?_)
    · walk_at "rd"
      rw [h] at q
      refine ite2 (fun h2 => ?_) (fun h2 => ?_)
      · walk_at "rd"
        rw [h2] at q
        exact q
      · have h2 := Bool.eq_false_iff.mpr h2
        rw [h2] at q
        exact q
    · have h := Bool.eq_false_iff.mpr h
      rw [h] at q
      exact q

def spRound (K : PySem.W.Frag) : Sp := fun vs H Q _ => ∃ (l : Addr) (xs : List V) (ws : List (Int × Int)) (m : Nat), vs = [.ref l, .int m] ∧ SqL K H l xs ∧ Wl H xs ws ∧ m ≤ 1000 ∧ ws.length ≤ 10000 ∧ (∀ w ∈ ws, inner w = true → (0 ≤ w.1 ∧ w.1 < m) ∧ (0 ≤ w.2 ∧ w.2 < m) ∧ w.1 ≠ w.2) ∧
  ∀ (b : Bool) (H' : Hp), Same H H' → (Acyc ws → b = false) → (Cyc m ws → b = true) → Q (.bl b) H'
/-- the lists of what stands behind each station: the list at B holds the addresses as -/
structure BehindAt (H0 H : Hp) (B : Addr) (as : List Addr) (m : Nat) (ws : List (Int × Int)) : Prop where
  ob : H B = some (.lst (as.map V.ref))
  len : as.length = m
  at_ : ∀ (v : Int) (t : Addr), 0 ≤ v → v < m → as[v.toNat]? = some t → H t = some (.lst (intL (succ ws v)))
theorem BehindAt.mem {H0 H : Hp} {B : Addr} {as : List Addr} {m : Nat} {ws : List (Int × Int)} (b : BehindAt H0 H B as m ws) {v : Int} (h0 : 0 ≤ v) (h1 : v < m) : ∃ t, as[v.toNat]? = some t ∧ (as.map V.ref)[v.toNat]? = some (.ref t) := by
  have hl : v.toNat < as.length := by rw [b.len]; omega
  exact ⟨_, List.getElem?_eq_getElem hl, by rw [List.getElem?_map, List.getElem?_eq_getElem hl]; rfl⟩
theorem succ_snoc (ws : List (Int × Int)) (w : Int × Int) (v : Int) : succ (ws ++ [w]) v = if inner w = true ∧ w.1 = v then succ ws v ++ [w.2] else succ ws v := by
  unfold succ
  rw [List.filter_append, List.map_append, List.filter_cons]
  by_cases h : inner w = true ∧ w.1 = v
  · rw [if_pos h, if_pos (by rw [h.1, h.2]; simp)]
    rfl
  · rw [if_neg h, if_neg (by simpa using h)]
    exact List.append_nil _
theorem inCnt_snoc (ws : List (Int × Int)) (w : Int × Int) (v : Int) : inCnt (ws ++ [w]) [] v = if inner w = true ∧ w.2 = v then inCnt ws [] v + 1 else inCnt ws [] v := by
  unfold inCnt
  rw [List.filter_append, List.length_append, List.filter_cons]
  by_cases h : inner w = true ∧ w.2 = v
  · rw [if_pos h, if_pos (by rw [h.1, h.2]; simp)]
    simp
  · rw [if_neg h, if_neg (by simpa using h)]
    simp
theorem ok_round (T : Top K mg) : Cal P w K mg base CX0 2 "leads_round_about" ["ways", "many"] (spRound K) := Cal.of T.d_leads_round_about (fun _ _ _ _ _ _ us hl => match us, hl with | [_, _], _ => rfl) fun f fd F => by
  obtain ⟨t_IN, G_IN⟩ := T.g_IN
  obtain ⟨t_OUT, G_OUT⟩ := T.g_OUT
  refine F.ok sc_leads_round_about (fun vs H Q E h => ?_) (fun cdv A outer s H vs Q E hr h => ?_)
  · obtain ⟨l, xs, ws, m, rfl, _⟩ := h
    rfl
  · obtain ⟨l, xs, ws, m, rfl, hl, hw, hm, hwl, hok, q⟩ := h
    refine ⟨_, (pss_cons (ps_setLc (i := 2) (own := [("number", 10)]) (g := (gName 10)) (by rfl) sc_leads_round_about.nd rfl rfl (sw_true rfl rfl rfl (by decide +kernel)) (pi_range1 (by rfl) T.b_range (pa_cons (pv 1) pa_nil)) (blkOk_by (own := [("number", 10)]) (by kernel_rfl)) (fun _ _ _ _ _ => (pg_name (i := 10) sc_leads_round_about.nd rfl (by first | exact Or.inl rfl | exact Or.inr rfl))) (fun _ _ _ _ _ => pts_nil) (fun _ _ _ _ _ => (pe_lst pa_nil)))
      (pss_cons (ps_set (i := 3) sc_leads_round_about.nd rfl (by first | exact Or.inl rfl | exact Or.inr rfl) (pe_op op_rep (pe_lst (pa_cons pe_int pa_nil)) (pv 1)))
      (Evl.pss_cut (ps_for PassesOwn.never rfl (piL K (by rfl) (pv 0)) (pgT K (by rfl) (by rfl) (pgs_cons (pg_name (i := 4) sc_leads_round_about.nd rfl (by first | exact Or.inl rfl | exact Or.inr rfl)) (pgs_cons (pg_name (i := 5) sc_leads_round_about.nd rfl (by first | exact Or.inl rfl | exact Or.inr rfl)) pgs_nil))) (pss_one (ps_if (PW.pt (pw_and (pt_cmpR op_ne (pv 4) (pe_glob (v := .int (-1)) (by rfl) G_IN ⟨_, rfl⟩) (nomark _)) (pw_and1 (pt_cmpR op_ne (pv 5) (pe_glob (v := .int (-2)) (by rfl) G_OUT ⟨_, rfl⟩) (nomark _))))) (pss_cons (ps_expr (pbm K (by rfl) PySem.F.plainAttrs_list PySem.F.slot_list_append PySem.F.type_list_append mt_append (pixL K (by rfl) (pv 2) (pv 4) (fun _ _ => rfl)) (pa_cons (pv 5) pa_nil)))
      (pss_one (ps_augS (pv 3) (pv 5) (getL K (by rfl)) pe_int ip_add set_list))) pss_nil)))
      (Evl.pss_cut (ps_setLc (i := 6) (own := [("number", 10)]) (g := (gName 10)) (by rfl) sc_leads_round_about.nd rfl rfl (sw_true rfl rfl rfl (by decide +kernel)) (pi_range1 (by rfl) T.b_range (pa_cons (pv 1) pa_nil)) (blkOk_by (own := [("number", 10)]) (by kernel_rfl)) (fun _ _ _ _ _ => (pg_name (i := 10) sc_leads_round_about.nd rfl (by first | exact Or.inl rfl | exact Or.inr rfl))) (fun _ _ _ _ _ => (pts_one (pt_cmpR op_eq (pixL K (by rfl) (pv 3) (pv 10) (fun _ _ => rfl)) pe_int (nomark _)))) (fun _ _ _ _ _ => (pv 10)))
      (pss_cons (ps_set (i := 7) sc_leads_round_about.nd rfl (by first | exact Or.inl rfl | exact Or.inr rfl) pe_int)
      (pss_cons (ps_while PassesOwn.never (ptTru K (by rfl) (pv 6) (by intro _; rfl)) (pss_cons (ps_set (i := 8) sc_leads_round_about.nd rfl (by first | exact Or.inl rfl | exact Or.inr rfl) (pbm0 K (by rfl) PySem.F.plainAttrs_list PySem.F.slot_list_pop PySem.F.type_list_pop mt_pop (pv 6)))
      (pss_cons (ps_aug (i := 7) sc_leads_round_about.nd rfl (by first | exact Or.inl rfl | exact Or.inr rfl) pe_int ip_add)
      (pss_one (ps_for PassesOwn.never rfl (piL K (by rfl) (pixL K (by rfl) (pv 2) (pv 8) (fun _ _ => rfl))) (pg_name (i := 9) sc_leads_round_about.nd rfl (by first | exact Or.inl rfl | exact Or.inr rfl)) (pss_cons (ps_augS (pv 3) (pv 9) (getL K (by rfl)) pe_int ip_sub set_list)
      (pss_one (ps_if (pt_cmpR op_eq (pixL K (by rfl) (pv 3) (pv 9) (fun _ _ => rfl)) pe_int (nomark _)) (pss_one (ps_expr (pbm K (by rfl) PySem.F.plainAttrs_list PySem.F.slot_list_append PySem.F.type_list_append mt_append (pv 6) (pa_cons (pv 9) pa_nil)))) pss_nil))))))))
      (pss_one (ps_ret (pe_cmpR op_lt (pv 7) (pv 1) (nomark _)))))))))), ?_⟩
    refine r_st (σ' := [some (.ref l), some (.int m), none, none, none, none, none, none, none, none, none]) rfl ?_
    -- behind
    walk_at "rd"
    refine r_lcR ?_
    walk_at "rd"
    refine r_lcR1 (m := m) rfl (by omega) fun B hB => ?_
    refine lc_range (lo := 0) (n := m) (fun i H' => Same H H' ∧ ∃ as : List Addr, H' B = some (.lst (as.map V.ref)) ∧ as.length = i ∧ as.Nodup ∧ (∀ t ∈ as, H t = none ∧ t ≠ B ∧ H' t = some (.lst [])))
      ⟨same_new hB, [], upd_same, rfl, List.nodup_nil, fun t ht => by cases ht⟩ ?_ ?_
    · rintro i H' hi ⟨s1, as, e1, hlen, nd, hat⟩
      walk_at "rd"
      refine ⟨rfl, ?_⟩
      walk_at "rd"
      refine ⟨by walk_at "sz", fun t ht => ?_⟩
      have nB : B ≠ t := ne_of_none e1 ht
      refine ⟨_, by rw [upd_ne nB]; exact e1, r_smalll (by rw [List.length_map]; omega), same_mut (s1.trans (same_new ht)) hB, as ++ [t], ?_, by rw [List.length_append, hlen]; rfl, ?_, fun u hu => ?_⟩
      · rw [upd_same, List.map_append]
        rfl
      · refine List.nodup_append.mpr ⟨nd, by simp, fun x hx y hy e => ?_⟩
        rw [List.mem_singleton.mp hy] at e
        subst e
        have := (hat x hx).2.2
        rw [ht] at this
        cases this
      · rcases List.mem_append.mp hu with hu | hu
        · obtain ⟨h1, h2, h3⟩ := hat u hu
          exact ⟨h1, h2, by rw [upd_ne h2, upd_ne (ne_of_none h3 ht)]; exact h3⟩
        · rw [List.mem_singleton.mp hu]
          exact ⟨s1.free ht, nB.symm, by rw [upd_ne nB.symm, upd_same]⟩
    · rintro H1 ⟨s1, as, e1, hlen, nd, hat⟩
      -- left
      walk_at "rd"
      refine ⟨by walk_at "sz", fun z hz => ?_⟩
      walk_at "rd"
      refine r_rep (m := m) rfl (by omega) upd_same (by decide) fun L hL => ?_
      rw [rep_tab]
      have s2 : Same H1 (upd (upd H1 z (.lst [V.int 0])) L (.lst (tab m fun _ => 0))) := (same_new hz).trans (same_new hL)
      have eL : (upd (upd H1 z (.lst [V.int 0])) L (.lst (tab m fun _ => 0))) L = some (.lst (tab m fun _ => 0)) := upd_same
      have hL1 : H1 L = none := (same_new hz).free hL
      generalize upd (upd H1 z (.lst [V.int 0])) L (.lst (tab m fun _ => 0)) = H2 at s2 eL ⊢
      have hLH : H L = none := s1.free hL1
      have hBL : B ≠ L := ne_of_none e1 hL1
      have hasL : ∀ t ∈ as, t ≠ L := fun t ht => ne_of_none (hat t ht).2.2 hL1
      -- the ways
      refine Evl.q_cut (M := fun σ H' => (∃ v4 v5 : Option V, σ = [some (.ref l), some (.int m), some (.ref B), some (.ref L), v4, v5, none, none, none, none, none]) ∧ Same H H' ∧ BehindAt H H' B as m ws ∧ H' L = some (.lst (tab m (inCnt ws [])))) ?_ ?_
      · refine r_forL ?_
        walk_at "rd"
        refine ⟨l, rfl, ⟨_, (s1.trans s2).seq hl⟩, for_list (K := K) (a := l) (xs := xs) (fun i σ H' => (∃ v4 v5 : Option V, σ = [some (.ref l), some (.int m), some (.ref B), some (.ref L), v4, v5, none, none, none, none, none]) ∧ Same H H' ∧ BehindAt H H' B as m (ws.take i) ∧ H' L = some (.lst (tab m (inCnt (ws.take i) []))))
          ⟨⟨_, _, rfl⟩, s1.trans s2, ⟨s2 _ _ e1, hlen, fun v t h0 h1 ht => s2 _ _ (hat t (List.mem_of_getElem? ht)).2.2⟩, eL⟩ (fun i σ H' _ p => p.2.1.seq hl) ?_ ?_⟩
        · rintro i x σ H' hx ⟨⟨v4, v5, rfl⟩, s3, hb, eL3⟩
          obtain ⟨t, ⟨a, b⟩, rfl, hwi, ht⟩ := hw.at hx
          have hwm : (a, b) ∈ ws := List.mem_of_getElem? hwi
          have etk : ws.take (i + 1) = ws.take i ++ [(a, b)] := by rw [List.take_add_one, hwi]; rfl
          refine r_gTup2 (tup_of (s3 _ _ ht)) ?_
          have keep : inner (a, b) = false → BehindAt H H' B as m (ws.take (i + 1)) ∧ H' L = some (.lst (tab m (inCnt (ws.take (i + 1)) []))) := fun hin => by
            refine ⟨⟨hb.ob, hb.len, fun v t h0 h1 ht => ?_⟩, ?_⟩
            · rw [etk, succ_snoc, if_neg (by rw [hin]; simp)]
              exact hb.at_ v t h0 h1 ht
            · rw [eL3]
              congr 2
              refine tab_congr fun v h0 h1 => ?_
              rw [etk, inCnt_snoc, if_neg (by rw [hin]; simp)]
          walk_at "rd"
          by_cases ha : a = -1
          · rw [decide_eq_true ha]
            walk_at "rd"
            obtain ⟨k1, k2⟩ := keep (by unfold inner; simp [ha])
            exact ⟨⟨_, _, rfl⟩, s3, k1, k2⟩
          rw [decide_eq_false ha]
          walk_at "rd"
          by_cases hbq : b = -2
          · rw [decide_eq_true hbq]
            walk_at "rd"
            obtain ⟨k1, k2⟩ := keep (by unfold inner; simp [hbq])
            exact ⟨⟨_, _, rfl⟩, s3, k1, k2⟩
          rw [decide_eq_false hbq]
          walk_at "rd"
          have hin : inner (a, b) = true := by unfold inner; simp [ha, hbq]
          obtain ⟨⟨a0, a1⟩, ⟨b0, b1⟩, _⟩ := hok _ hwm hin
          obtain ⟨u, hu, hu2⟩ := hb.mem (v := a) a0 a1
          have hum := List.mem_of_getElem? hu
          have eu := hb.at_ a u a0 a1 hu
          refine r_ixL (seq_of hb.ob) (at_nat a0 hu2) ?_
          refine ⟨tyV_list (seq_of eu), ?_⟩
          walk_at "rd"
          have hsl : (succ (ws.take i) a).length ≤ i := by
            unfold succ
            rw [List.length_map]
            have h1 := List.length_filter_le (fun w => inner w && decide (w.1 = a)) (ws.take i)
            rw [List.length_take] at h1
            omega
          have hi2 := lt_of_at hwi
          refine r_append eu (by rw [List.length_map]; omega) ?_
          have nuL : L ≠ u := (hasL u hum).symm
          have nuB : B ≠ u := ((hat u hum).2.1).symm
          walk_at "rd"
          refine r_getL (v := .int (inCnt (ws.take i) [] b)) (seq_of (by rw [upd_ne nuL]; exact eL3)) b0 (by omega) (tab_get b0 b1) ?_
          walk_at "rd"
          refine r_setL (j := b.toNat) (by rw [upd_ne nuL]; exact eL3) (ixN_nat b0 (by rw [tab_length]; exact b1)) ?_
          rw [tab_set b0 b1]
          refine ⟨⟨_, _, rfl⟩, same_mut (same_mut s3 (hat u hum).1) hLH, ⟨?_, hb.len, fun v t h0 h1 ht => ?_⟩, ?_⟩
          · rw [upd_ne hBL, upd_ne nuB]
            exact hb.ob
          · have htm := List.mem_of_getElem? ht
            rw [upd_ne (hasL t htm), etk, succ_snoc]
            by_cases hv : a = v
            · subst hv
              have e : u = t := Option.some.inj (hu.symm.trans ht)
              subst e
              rw [if_pos ⟨hin, rfl⟩, upd_same]
              show _ = some (HO.lst (List.map V.int (_ ++ _)))
              rw [List.map_append]
              rfl
            · have hut : t ≠ u := fun e => by
                subst e
                have := nd_ix nd hu ht
                omega
              rw [if_neg (fun h => hv h.2), upd_ne hut]
              exact hb.at_ v t h0 h1 ht
          · rw [upd_same]
            congr 2
            refine tab_congr fun v h0 h1 => ?_
            rw [etk, inCnt_snoc]
            by_cases hv : v = b
            · subst hv
              rw [if_pos rfl, if_pos ⟨hin, rfl⟩]
            · rw [if_neg hv, if_neg (fun h => hv h.2.symm)]
        · rintro σ H' ⟨⟨v4, v5, rfl⟩, s3, hb, eL3⟩
          rw [hw.len, List.take_length] at hb eL3
          exact ⟨⟨_, _, rfl⟩, s3, hb, eL3⟩
      · rintro _ H3 ⟨⟨v4, v5, rfl⟩, s3, hb, eL3⟩
        -- free
        refine Evl.q_cut (M := fun σ H' => ∃ Fa : Addr, σ = [some (.ref l), some (.int m), some (.ref B), some (.ref L), v4, v5, some (.ref Fa), none, none, none, none] ∧ Same H3 H' ∧ H3 Fa = none ∧ H' Fa = some (.lst (((List.range m).filter fun (k : Nat) => decide (inCnt ws [] (k : Int) = 0)).map fun (k : Nat) => V.int (k : Int)))) ?_ ?_
        · walk_at "rd"
          refine r_lcR ?_
          walk_at "rd"
          refine r_lcR1 (m := m) rfl (by omega) ?_
          refine lcR_filter (fun (k : Nat) => decide (inCnt ws [] (k : Int) = 0)) (fun (k : Nat) => V.int (k : Int)) (by omega) (fun _ => rfl) (fun i H' R hi s4 hR => ?_) (fun i H' R hi _ s4 hR => ?_) fun D H' hD s4 e4 => ?_
          · rw [Int.zero_add]
            walk_at "rd"
            refine r_ixL (seq_of (s4 _ _ eL3)) (at_nat (by omega) (tab_get (by omega) (by omega))) ?_
            walk_at "rd"
            exact hR _ (Same.refl _)
          · rw [Int.zero_add]
            walk_at "rd"
            exact hR _ (Same.refl _)
          · walk_at "rd"
            exact ⟨D, rfl, s4, hD, e4⟩
        · rintro _ H4 ⟨Fa, rfl, s4, hF3, eF⟩
          have hFH : H Fa = none := s3.free hF3
          have nLF : L ≠ Fa := ne_of_none eL3 hF3
          have nBF : B ≠ Fa := ne_of_none hb.ob hF3
          have nasF : ∀ (v : Int) (t : Addr), 0 ≤ v → v < m → as[v.toNat]? = some t → t ≠ Fa := fun v t h0 h1 ht => ne_of_none (hb.at_ v t h0 h1 ht) hF3
          walk_at "rd"
          refine r_while (fun k σ H' => ∃ (Pd F : List Int) (g : Int → Int) (v4 v5 v8 v9 : Option V), σ = [some (.ref l), some (.int m), some (.ref B), some (.ref L), v4, v5, some (.ref Fa), some (.int (Pd.length : Nat)), v8, v9, none] ∧
              k = m - Pd.length ∧ Pd.length ≤ m ∧ Same H H' ∧ BehindAt H H' B as m ws ∧ H' L = some (.lst (tab m g)) ∧ H' Fa = some (.lst (intL F)) ∧
              Pd.Nodup ∧ (∀ v ∈ Pd, 0 ≤ v ∧ v < m) ∧ (∀ v : Int, 0 ≤ v → v < m → g v = inCnt ws Pd v) ∧ F.Nodup ∧ (∀ v ∈ F, (0 ≤ v ∧ v < m) ∧ v ∉ Pd ∧ g v = 0) ∧
              (∀ v : Int, 0 ≤ v → v < m → v ∉ Pd → g v = 0 → v ∈ F) ∧ (∀ C : Int → Prop, (∀ v, C v → ∃ w ∈ ws, inner w = true ∧ w.2 = v ∧ C w.1) → ∀ v ∈ Pd, ¬ C v) ∧ (∀ v ∈ Pd, inCnt ws Pd v = 0)) m
            ⟨[], ((List.range m).filter fun (k : Nat) => decide (inCnt ws [] (k : Int) = 0)).map fun (k : Nat) => (k : Int), inCnt ws [], _, _, _, _, rfl, rfl, Nat.zero_le _, s3.trans s4,
              ⟨s4 _ _ hb.ob, hb.len, fun v t h0 h1 ht => s4 _ _ (hb.at_ v t h0 h1 ht)⟩, s4 _ _ eL3, ?_, List.nodup_nil, (fun v hv => by cases hv), (fun v _ _ => rfl), ?_, (fun v hv => ?_), (fun v h0 h1 _ hg => ?_), (fun C hC v hv => by cases hv), fun v hv => by cases hv⟩ ?_
          · rw [eF]
            show _ = some (HO.lst (List.map V.int (List.map _ _)))
            rw [List.map_map]
            rfl
          · unfold List.Nodup
            rw [List.pairwise_map]
            exact (List.nodup_range.filter _).imp fun h e => h (by omega)
          · obtain ⟨k, hk, rfl⟩ := List.mem_map.mp hv
            obtain ⟨h1, h2⟩ := List.mem_filter.mp hk
            have := List.mem_range.mp h1
            exact ⟨⟨by omega, by omega⟩, by simp, of_decide_eq_true h2⟩
          · exact List.mem_map.mpr ⟨v.toNat, List.mem_filter.mpr ⟨List.mem_range.mpr (by omega), decide_eq_true (by rw [Int.toNat_of_nonneg h0]; exact hg)⟩, by omega⟩
          · rintro k σ H5 ⟨Pd, F, g, v4, v5, v8, v9, rfl, rfl, hPm, s5, hb5, eL5, eF5, ndP, hP, hg, ndF, hF, hFc, hC, hZ⟩
            refine r_tru ?_
            walk_at "rd"
            refine r_truL (seq_of eF5) ?_
            rcases List.eq_nil_or_concat F with rfl | ⟨F1, st, rfl⟩
            · -- nothing is free: the end
              rw [show (!(intL ([] : List Int)).isEmpty) = false from rfl]
              refine iteF ?_
              walk_at "rd"
              refine q _ _ s5 (fun ac => ?_) fun hcy => ?_
              · have := all_freed (P := Pd) (m := m) ac (fun w hw hi => (hok w hw hi).1) fun v h0 h1 hv hc => by
                  have := hFc v h0 h1 hv (by rw [hg v h0 h1]; exact hc)
                  cases this
                exact decide_eq_false (by omega)
              · obtain ⟨C, ⟨v, hv, h0, h1⟩, hcl⟩ := hcy
                have := some_held (m := m) ndP hP (fun hm => hC C hcl v hm hv) h0 h1
                exact decide_eq_true (by omega)
            · have hne : (!(intL (F1 ++ [st])).isEmpty) = true := by
                show (!(List.map V.int (F1 ++ [st])).isEmpty) = true
                rw [List.map_append]
                simp
              rw [List.concat_eq_append] at *
              rw [hne]
              refine iteT ⟨_, fun _ _ h => h, ?_⟩
              have hst := hF st (by simp)
              obtain ⟨⟨st0, st1⟩, stP, stg⟩ := hst
              have eF6 : H5 Fa = some (.lst (intL F1 ++ [V.int st])) := by
                rw [eF5]
                show some (HO.lst (List.map V.int (_ ++ _))) = _
                rw [List.map_append]
                rfl
              walk_at "rd"
              refine ⟨tyV_list (seq_of eF6), ?_⟩
              refine r_pop eF6 ?_
              walk_at "rd"
              refine r_aug rfl ?_
              walk_at "rd"
              have s6 : Same H (upd H5 Fa (.lst (intL F1))) := same_mut s5 hFH
              have eL6 : (upd H5 Fa (.lst (intL F1))) L = some (.lst (tab m g)) := by rw [upd_ne nLF]; exact eL5
              have eF7 : (upd H5 Fa (.lst (intL F1))) Fa = some (.lst (intL F1)) := upd_same
              have hb6 : BehindAt H (upd H5 Fa (.lst (intL F1))) B as m ws := ⟨by rw [upd_ne nBF]; exact hb5.ob, hb5.len, fun v t h0 h1 ht => by rw [upd_ne (nasF v t h0 h1 ht)]; exact hb5.at_ v t h0 h1 ht⟩
              generalize upd H5 Fa (.lst (intL F1)) = H6 at s6 eL6 eF7 hb6 ⊢
              obtain ⟨u, hu, hu2⟩ := hb6.mem (v := st) st0 st1
              have eu := hb6.at_ st u st0 st1 hu
              have nuL : u ≠ L := hasL u (List.mem_of_getElem? hu)
              have nuF : u ≠ Fa := nasF st u st0 st1 hu
              have ndF1 : F1.Nodup := (List.nodup_append.mp ndF).1
              have stF1 : st ∉ F1 := fun h => (List.nodup_append.mp ndF).2.2 st h st (by simp) rfl
              refine r_forL ?_
              walk_at "rd"
              refine r_ixL (seq_of hb6.ob) (at_nat st0 hu2) ?_
              refine r_forL1 (xs := intL (succ ws st)) (seq_of eu) (fun i σ H' => ∃ (F : List Int) (g' : Int → Int) (v9 : Option V), σ = [some (.ref l), some (.int m), some (.ref B), some (.ref L), v4, v5, some (.ref Fa), some (.int ((Pd.length : Int) + 1)), some (.int st), v9, none] ∧
                  Same H H' ∧ BehindAt H H' B as m ws ∧ H' L = some (.lst (tab m g')) ∧ H' Fa = some (.lst (intL F)) ∧
                  (∀ v : Int, 0 ≤ v → v < m → g' v = inCnt ws Pd v - (((succ ws st).take i).count v : Nat)) ∧ F.Nodup ∧ (∀ v ∈ F, (0 ≤ v ∧ v < m) ∧ v ∉ st :: Pd ∧ g' v = 0) ∧ (∀ v : Int, 0 ≤ v → v < m → v ∉ st :: Pd → g' v = 0 → v ∈ F))
                ⟨F1, g, _, rfl, s6, hb6, eL6, eF7, (fun v h0 h1 => by rw [hg v h0 h1]; simp), ndF1, (fun v hv => ?_), fun v h0 h1 hv hg0 => ?_⟩ (fun i σ H' _ ⟨_, _, _, _, _, hb', _⟩ => seq_of (hb'.at_ st u st0 st1 hu)) ?_ ?_
              · obtain ⟨h1, h2, h3⟩ := hF v (List.mem_append_left _ hv)
                exact ⟨h1, fun h => (List.mem_cons.mp h).elim (fun e => stF1 (by rw [← e]; exact hv)) h2, h3⟩
              · have h2 := hFc v h0 h1 (fun h => hv (List.mem_cons_of_mem _ h)) hg0
                rcases List.mem_append.mp h2 with h2 | h2
                · exact h2
                · exact absurd (List.mem_cons.mpr (.inl (List.mem_singleton.mp h2))) hv
              · rintro i x σ H7 hx ⟨F, g', v9, rfl, s7, hb7, eL7, eF8, hg', ndF', hF', hFc'⟩
                obtain ⟨y, hy, rfl⟩ := int_at hx
                obtain ⟨wy, hwy, hwi, hw1, hw2⟩ := mem_succ (List.mem_of_getElem? hy)
                obtain ⟨_, ⟨y0, y1⟩, yne⟩ := hok wy hwy hwi
                rw [hw2] at y0 y1 yne
                rw [hw1] at yne
                have etk : (succ ws st).take (i + 1) = (succ ws st).take i ++ [y] := by rw [List.take_add_one, hy]; rfl
                have hle : (((succ ws st).take (i + 1)).count y : Nat) ≤ inCnt ws Pd y := by
                  have h1 : ((succ ws st).take (i + 1)).count y ≤ (succ ws st).count y := (List.take_sublist _ _).count_le _
                  have h2 := succ_count (ws := ws) (v := y) stP
                  omega
                have hc1 : ((succ ws st).take (i + 1)).count y = ((succ ws st).take i).count y + 1 := by
                  rw [etk, List.count_append, List.count_cons, List.count_nil]
                  simp
                have hyP : y ∉ Pd := fun hyp => by
                  have := inCnt_of (P := Pd) hwy hwi (by rw [hw1]; exact stP)
                  rw [hw2] at this
                  have := hZ y hyp
                  omega
                have hgy := hg' y y0 y1
                walk_at "rd"
                refine r_getL (v := .int (g' y)) (seq_of eL7) y0 (by omega) (tab_get y0 y1) ?_
                walk_at "rd"
                refine r_setL (j := y.toNat) eL7 (ixN_nat y0 (by rw [tab_length]; exact y1)) ?_
                rw [tab_set y0 y1]
                have s8 : Same H (upd H7 L (.lst (tab m fun u => if u = y then g' y - 1 else g' u))) := same_mut s7 hLH
                have eL8 : (upd H7 L (.lst (tab m fun u => if u = y then g' y - 1 else g' u))) L = some (.lst (tab m fun u => if u = y then g' y - 1 else g' u)) := upd_same
                have eF9 : (upd H7 L (.lst (tab m fun u => if u = y then g' y - 1 else g' u))) Fa = some (.lst (intL F)) := by rw [upd_ne nLF.symm]; exact eF8
                have hb8 : BehindAt H (upd H7 L (.lst (tab m fun u => if u = y then g' y - 1 else g' u))) B as m ws := ⟨by rw [upd_ne hBL]; exact hb7.ob, hb7.len, fun v t h0 h1 ht => by rw [upd_ne (hasL t (List.mem_of_getElem? ht))]; exact hb7.at_ v t h0 h1 ht⟩
                generalize upd H7 L (.lst (tab m fun u => if u = y then g' y - 1 else g' u)) = H8 at s8 eL8 eF9 hb8 ⊢
                have hcount : ∀ v : Int, 0 ≤ v → v < m → (if v = y then g' y - 1 else g' v) = inCnt ws Pd v - (((succ ws st).take (i + 1)).count v : Nat) := fun v h0 h1 => by
                  by_cases hv : v = y
                  · subst hv
                    rw [if_pos rfl, hgy, hc1]
                    omega
                  · rw [if_neg hv, hg' v h0 h1, etk, List.count_append, List.count_cons, List.count_nil]
                    have : (y == v) = false := beq_eq_false_iff_ne.mpr fun q => hv q.symm
                    simp only [this, Bool.false_eq_true, if_false]
                    omega
                have hyF : y ∉ F := fun h => by
                  have := (hF' y h).2.2
                  omega
                walk_at "rd"
                refine r_ixL (seq_of eL8) (at_nat y0 (tab_get y0 y1)) ?_
                walk_at "rd"
                rw [if_pos rfl]
                by_cases h0 : g' y - 1 = 0
                · rw [decide_eq_true h0]
                  walk_at "rd"
                  refine ⟨tyV_list (seq_of eF9), ?_⟩
                  walk_at "rd"
                  have hFl : F.length ≤ m := by
                    have sub : F ⊆ ((List.range m).map fun (k : Nat) => (k : Int)) := fun x hx => by
                      have := (hF' x hx).1
                      exact List.mem_map.mpr ⟨x.toNat, List.mem_range.mpr (by omega), by omega⟩
                    have h := ndF'.length_le_of_subset sub
                    rw [List.length_map, List.length_range] at h
                    exact h
                  refine r_append eF9 (by rw [List.length_map]; omega) ?_
                  refine ⟨F ++ [y], _, _, rfl, same_mut s8 hFH, ⟨by rw [upd_ne nBF]; exact hb8.ob, hb8.len, fun v t h0 h1 ht => by rw [upd_ne (nasF v t h0 h1 ht)]; exact hb8.at_ v t h0 h1 ht⟩, by rw [upd_ne nLF]; exact eL8, ?_, hcount, ?_, fun v hv => ?_, fun v h1 h2 h3 h4 => ?_⟩
                  · rw [upd_same]
                    show _ = some (HO.lst (List.map V.int (_ ++ _)))
                    rw [List.map_append]
                    rfl
                  · refine List.nodup_append.mpr ⟨ndF', by simp, fun x1 h1 x2 h2 e => hyF ?_⟩
                    rw [← List.mem_singleton.mp h2, ← e]
                    exact h1
                  · rcases List.mem_append.mp hv with hv | hv
                    · obtain ⟨h5, h6, h7⟩ := hF' v hv
                      refine ⟨h5, h6, ?_⟩
                      rw [if_neg (fun e => hyF (by rw [← e]; exact hv))]
                      exact h7
                    · rw [List.mem_singleton.mp hv]
                      refine ⟨⟨y0, y1⟩, fun h => (List.mem_cons.mp h).elim (fun e => yne e.symm) hyP, ?_⟩
                      rw [if_pos rfl]
                      exact h0
                  · by_cases hvy : v = y
                    · rw [hvy]
                      simp
                    · rw [if_neg hvy] at h4
                      exact List.mem_append_left _ (hFc' v h1 h2 h3 h4)
                · rw [decide_eq_false h0]
                  walk_at "rd"
                  refine ⟨F, _, _, rfl, s8, hb8, eL8, eF9, hcount, ndF', fun v hv => ?_, fun v h1 h2 h3 h4 => ?_⟩
                  · obtain ⟨h5, h6, h7⟩ := hF' v hv
                    refine ⟨h5, h6, ?_⟩
                    rw [if_neg (fun e => hyF (by rw [← e]; exact hv))]
                    exact h7
                  · by_cases hvy : v = y
                    · rw [if_pos hvy] at h4
                      exact absurd h4 h0
                    · rw [if_neg hvy] at h4
                      exact hFc' v h1 h2 h3 h4
              · rintro σ H7 ⟨F, g', v9, rfl, s7, hb7, eL7, eF8, hg', ndF', hF', hFc'⟩
                rw [List.length_map, List.take_length] at hg'
                have hPl := some_held (m := m) ndP hP stP st0 st1
                have e8 : ((Pd.length : Int) + 1) = (((st :: Pd).length : Nat) : Int) := by rw [List.length_cons]; omega
                have hgc : ∀ v : Int, 0 ≤ v → v < m → g' v = inCnt ws (st :: Pd) v := fun v h0 h1 => by rw [hg' v h0 h1, inCnt_cons stP]
                refine ⟨m - (st :: Pd).length, by rw [List.length_cons]; omega, st :: Pd, F, g', _, _, _, _, by rw [e8], rfl, by rw [List.length_cons]; omega, s7, hb7, eL7, eF8, List.nodup_cons.mpr ⟨stP, ndP⟩, fun v hv => ?_, hgc, ndF', hF', hFc', fun C hcl v hv hCv => ?_, fun v hv => ?_⟩
                · rcases List.mem_cons.mp hv with rfl | hv
                  · exact ⟨st0, st1⟩
                  · exact hP v hv
                · rcases List.mem_cons.mp hv with rfl | hv
                  · obtain ⟨wv, hw1, hw2, hw3, hw4⟩ := hcl v hCv
                    have h1 := inCnt_of (P := Pd) hw1 hw2 (fun h => hC C hcl _ h hw4)
                    rw [hw3, ← hg v st0 st1] at h1
                    omega
                  · exact hC C hcl v hv hCv
                · have h1 := inCnt_nonneg ws (st :: Pd) v
                  have h2 := inCnt_cons stP v ws
                  rcases List.mem_cons.mp hv with rfl | hv
                  · rw [← hg v st0 st1, stg] at h2
                    omega
                  · rw [hZ v hv] at h2
                    omega

theorem inner_way {m : Nat} {w : Int × Int} (h : wayB m w.1 w.2 = true) (hi : inner w = true) : (0 ≤ w.1 ∧ w.1 < m) ∧ (0 ≤ w.2 ∧ w.2 < m) ∧ w.1 ≠ w.2 := by
  unfold wayB at h
  unfold inner at hi
  simp only [Bool.and_eq_true, Bool.or_eq_true, Bool.not_eq_true', decide_eq_true_eq, decide_eq_false_iff_not] at h hi
  omega
def spNet (K : PySem.W.Frag) : Sp := fun vs H Q _ => ∃ (l1 l2 : Addr) (ss : List Str) (xs : List V) (ws : List (Int × Int)), vs = [.ref l1, .ref l2] ∧ SqL K H l1 (ss.map V.str) ∧ SqL K H l2 xs ∧ Wl H xs ws ∧ ss.length ≤ 1000 ∧ ws.length < 64 ∧
  (∀ s ∈ ss, word s) ∧ (∀ w ∈ ws, wayB ss.length w.1 w.2 = true) ∧ ws.Nodup ∧ Acyc ws ∧
  ∀ (p s' w' : Addr) (xs' : List V) (ws' : List (Int × Int)) (H' : Hp), H p = none → H s' = none → H w' = none → s' ≠ w' → Same H H' → H' p = some (.tup [.ref s', .ref w']) → H' s' = some (.lst (ss.map V.str)) → H' w' = some (.lst xs') → Wl H' xs' ws' → ws'.Perm ws → ws'.Pairwise leW → Q (.ref p) H'
theorem ok_net (T : Top K mg) : Cal P w K mg base CX0 3 "net_of" ["stations", "ways"] (spNet K) := Cal.of T.d_net_of (fun _ _ _ _ _ _ us hl => match us, hl with | [_, _], _ => rfl) fun f fd F => by
  have C_is_way : Cal P w K mg base CX0 2 "is_way" _ _ := ok_way T
  have C_leads_round_about : Cal P w K mg base CX0 2 "leads_round_about" _ _ := ok_round T
  obtain ⟨t_PILE, G_PILE⟩ := T.g_PILE
  obtain ⟨t_LINE, G_LINE⟩ := T.g_LINE
  refine F.ok sc_net_of (fun vs H Q E h => ?_) (fun cdv A outer s H vs Q E hr h => ?_)
  · obtain ⟨l1, l2, ss, xs, ws, rfl, _⟩ := h
    rfl
  · obtain ⟨l1, l2, ss, xs, ws, rfl, h1, h2, hw, hss, hws, hwd, hwy, hnd, hac, q⟩ := h
    refine ⟨_, (pss_cons (ps_for PassesOwn.never rfl (piL K (by rfl) (pv 0)) (pg_name (i := 2) sc_net_of.nd rfl (by first | exact Or.inl rfl | exact Or.inr rfl)) (pss_one (ps_if (PW.pt (pw_and (pt_cmpR op_ne (pv 2) (pe_glob (v := .str "pile") (by rfl) G_PILE ⟨_, rfl⟩) (nomark _)) (pw_and1 (pt_cmpR op_ne (pv 2) (pe_glob (v := .str "line") (by rfl) G_LINE ⟨_, rfl⟩) (nomark _))))) (pss_one ps_never) pss_nil)))
      (pss_cons (ps_set (i := 3) sc_net_of.nd rfl (by first | exact Or.inl rfl | exact Or.inr rfl) (pe_callB (crLen K (by rfl)) (by rfl) T.b_len PySem.boot_len (pa_cons (pv 0) pa_nil)))
      (pss_cons (ps_for PassesOwn.never rfl (piL K (by rfl) (pv 1)) (pg_name (i := 4) sc_net_of.nd rfl (by first | exact Or.inl rfl | exact Or.inr rfl)) (pss_one (ps_if (pt_not (pt_val (pe_cal C_is_way (hr.mono (by first | decide | omega)) pass0 (pa_cons (pv 4) (pa_cons (pv 3) pa_nil))))) (pss_one ps_never) pss_nil)))
      (pss_cons (ps_if (pt_cmpR op_ne (peLenSetP K (by rfl) (hu64 hr) (by rfl) T.b_len (by rfl) T.b_set (pv 1)) (pe_callB (crLen K (by rfl)) (by rfl) T.b_len PySem.boot_len (pa_cons (pv 1) pa_nil)) (nomark _)) (pss_one ps_never) pss_nil)
      (pss_cons (ps_if (pt_val (pe_cal C_leads_round_about (hr.mono (by first | decide | omega)) pass0 (pa_cons (pv 1) (pa_cons (pv 3) pa_nil)))) (pss_one ps_never) pss_nil)
      (pss_one (ps_ret (pe_tup (pa_cons (pe_callTy (crLst K (by rfl)) (by rfl) T.b_list (by decide +kernel) (pa_cons (pv 0) pa_nil)) (pa_cons (pe_callB (crSrtP K (by rfl)) (by rfl) T.b_sorted (by decide +kernel) (pa_cons (pv 1) pa_nil)) pa_nil)))))))))), ?_⟩
    refine r_st (σ' := [some (.ref l1), some (.ref l2), none, none, none]) rfl ?_
    refine r_seq ?_
    refine r_forL ?_
    walk_at "rd"
    refine r_forL1 h1 (fun i σ H' => (∃ v2 : Option V, σ = [some (.ref l1), some (.ref l2), v2, none, none]) ∧ H = H') ⟨⟨_, rfl⟩, rfl⟩ (fun i σ H' _ p => p.2 ▸ h1) ?_ ?_
    · rintro i x σ H' hx ⟨⟨v2, rfl⟩, rfl⟩
      obtain ⟨z, hz, rfl⟩ : ∃ z, ss[i]? = some z ∧ x = V.str z := by
        rw [List.getElem?_map] at hx
        cases e : ss[i]? with
        | none =>
          rw [e] at hx
          cases hx
        | some z =>
          rw [e] at hx
          exact ⟨z, rfl, (Option.some.inj hx).symm⟩
      have hzw := hwd z (List.mem_of_getElem? hz)
      walk_at "rd"
      rcases hzw with hzw | hzw
      · rw [decide_eq_true hzw]
        walk_at "rd"
        exact ⟨⟨_, rfl⟩, rfl⟩
      · have hne : ¬ z = "pile" := by
          rw [hzw]
          decide
        rw [decide_eq_false hne]
        walk_at "rd"
        rw [decide_eq_true hzw]
        walk_at "rd"
        exact ⟨⟨_, rfl⟩, rfl⟩
    · rintro σ H' ⟨⟨v2, rfl⟩, rfl⟩
      walk_at "rd"
      refine r_len (.inl h1) ?_
      rw [List.length_map]
      refine r_seq ?_
      refine r_forL ?_
      walk_at "rd"
      refine r_forL1 h2 (fun i σ H' => (∃ v4 : Option V, σ = [some (.ref l1), some (.ref l2), v2, some (.int (ss.length : Nat)), v4]) ∧ H = H') ⟨⟨_, rfl⟩, rfl⟩ (fun i σ H' _ p => p.2 ▸ h2) ?_ ?_
      · rintro i x σ H' hx ⟨⟨v4, rfl⟩, rfl⟩
        obtain ⟨t, w, rfl, hwi, ht⟩ := hw.at hx
        walk_at "rd"
        refine ⟨t, _, w.1, w.2, rfl, ht, ?_⟩
        rw [hwy w (List.mem_of_getElem? hwi)]
        walk_at "rd"
        exact ⟨⟨_, rfl⟩, rfl⟩
      · rintro σ H' ⟨⟨v4, rfl⟩, rfl⟩
        walk_at "rd"
        refine ⟨l2, xs, ws, rfl, h2, hw, hws, fun n hn => ?_⟩
        have hn := hn.mp hnd
        subst hn
        walk_at "rd"
        refine r_len (.inl h2) ?_
        rw [hw.len]
        walk_at "rd"
        rw [decide_eq_true rfl]
        walk_at "rd"
        refine ⟨l2, xs, ws, _, rfl, h2, hw, hss, by omega, fun w hm hi => inner_way (hwy w hm) hi, fun b H1 s1 hb _ => ?_⟩
        rw [hb hac]
        walk_at "rd"
        refine r_lst1 (.inl (s1.seq h1)) fun s' hs' => ?_
        walk_at "rd"
        have s2 := s1.trans (same_new (o := .lst (ss.map V.str)) hs')
        refine r_srtP (s2.seq h2) (hw.same s2) fun ys us w' hy hp hsrt hw' => ?_
        have s3 := s2.trans (same_new (o := .lst ys) hw')
        have nsw : s' ≠ w' := ne_of_none upd_same hw'
        have e1 : (upd (upd H1 s' (.lst (ss.map V.str))) w' (.lst ys)) s' = some (.lst (ss.map V.str)) := by rw [upd_ne nsw, upd_same]
        have e2 : (upd (upd H1 s' (.lst (ss.map V.str))) w' (.lst ys)) w' = some (.lst ys) := upd_same
        refine ⟨by walk_at "sz", fun p hp2 => ?_⟩
        have hy2 : Wl (upd (upd H1 s' (.lst (ss.map V.str))) w' (.lst ys)) ys us := hy.same (same_new hw')
        generalize upd (upd H1 s' (.lst (ss.map V.str))) w' (.lst ys) = H3 at s3 e1 e2 hp2 hy2 ⊢
        exact q p s' w' ys us _ (s3.free hp2) (s1.free hs') (s2.free hw') nsw (s3.trans (same_new hp2)) upd_same ((same_new hp2) _ _ e1) ((same_new hp2) _ _ e2) (hy2.same (same_new hp2)) hp hsrt

def Bad (ss : List Str) (ws : List (Int × Int)) : Prop := (∃ s ∈ ss, ¬ word s) ∨ (∃ w ∈ ws, wayB ss.length w.1 w.2 = false) ∨ ¬ ws.Nodup ∨ Cyc ss.length ws
def spNo (K : PySem.W.Frag) (C : Addr) : Sp := fun vs H _ E => ∃ (l1 l2 : Addr) (ss : List Str) (xs : List V) (ws : List (Int × Int)), vs = [.ref l1, .ref l2] ∧ SqL K H l1 (ss.map V.str) ∧ SqL K H l2 xs ∧ Wl H xs ws ∧ ss.length ≤ 1000 ∧ ws.length < 64 ∧
  Bad ss ws ∧ ∀ H', Same H H' → E (.ref C) none H'
theorem ok_netNo (T : Top K mg) {A_NoNet : Addr} (E_NoNet : ECls K mg "NoNet" A_NoNet) : Cal P w K mg base (L2.CX P w) 3 "net_of" ["stations", "ways"] (spNo K A_NoNet) := Cal.of T.d_net_of (fun _ _ _ _ _ _ us hl => match us, hl with | [_, _], _ => rfl) fun f fd F => by
  have C_is_way : Cal P w K mg base CX0 2 "is_way" _ _ := ok_way T
  have C_leads_round_about : Cal P w K mg base CX0 2 "leads_round_about" _ _ := ok_round T
  obtain ⟨t_PILE, G_PILE⟩ := T.g_PILE
  obtain ⟨t_LINE, G_LINE⟩ := T.g_LINE
  refine F.okX sc_net_of (fun vs H Q E h => ?_) (fun cdv A outer s H vs Q E hr h => ?_)
  · obtain ⟨l1, l2, ss, xs, ws, rfl, _⟩ := h
    rfl
  · obtain ⟨l1, l2, ss, xs, ws, rfl, h1, h2, hw, hss, hws, hbad, q⟩ := h
    refine ⟨_, (pss_cons (ps_for (passes_of rfl) rfl (piL K (by rfl) (pv 0)) (pg_name (i := 2) sc_net_of.nd rfl (by first | exact Or.inl rfl | exact Or.inr rfl)) (pss_one (ps_if (PW.pt (pw_and (pt_cmpR op_ne (pv 2) (pe_glob (v := .str "pile") (by rfl) G_PILE ⟨_, rfl⟩) (nomark _)) (pw_and1 (pt_cmpR op_ne (pv 2) (pe_glob (v := .str "line") (by rfl) G_LINE ⟨_, rfl⟩) (nomark _))))) (pss_one (ps_raise rfl (takes_of rfl rfl rfl rfl) (pmk_own PySem.F.excBase_ValueError E_NoNet.ex E_NoNet.g E_NoNet.kp (raises_own E_NoNet.sb E_NoNet.ty) rfl))) pss_nil)))
      (pss_cons (ps_set (i := 3) sc_net_of.nd rfl (by first | exact Or.inl rfl | exact Or.inr rfl) (pe_callB (crLen K (by rfl)) (by rfl) T.b_len PySem.boot_len (pa_cons (pv 0) pa_nil)))
      (pss_cons (ps_for (passes_of rfl) rfl (piL K (by rfl) (pv 1)) (pg_name (i := 4) sc_net_of.nd rfl (by first | exact Or.inl rfl | exact Or.inr rfl)) (pss_one (ps_if (pt_not (pt_val (pe_cal C_is_way (hr.mono (by first | decide | omega)) pass0 (pa_cons (pv 4) (pa_cons (pv 3) pa_nil))))) (pss_one (ps_raise rfl (takes_of rfl rfl rfl rfl) (pmk_own PySem.F.excBase_ValueError E_NoNet.ex E_NoNet.g E_NoNet.kp (raises_own E_NoNet.sb E_NoNet.ty) rfl))) pss_nil)))
      (pss_cons (ps_if (pt_cmpR op_ne (peLenSetP K (by rfl) (hu64 hr) (by rfl) T.b_len (by rfl) T.b_set (pv 1)) (pe_callB (crLen K (by rfl)) (by rfl) T.b_len PySem.boot_len (pa_cons (pv 1) pa_nil)) (nomark _)) (pss_one (ps_raise rfl (takes_of rfl rfl rfl rfl) (pmk_own PySem.F.excBase_ValueError E_NoNet.ex E_NoNet.g E_NoNet.kp (raises_own E_NoNet.sb E_NoNet.ty) rfl))) pss_nil)
      (pss_cons (ps_if (pt_val (pe_cal C_leads_round_about (hr.mono (by first | decide | omega)) pass0 (pa_cons (pv 1) (pa_cons (pv 3) pa_nil)))) (pss_one (ps_raise rfl (takes_of rfl rfl rfl rfl) (pmk_own PySem.F.excBase_ValueError E_NoNet.ex E_NoNet.g E_NoNet.kp (raises_own E_NoNet.sb E_NoNet.ty) rfl))) pss_nil)
      (pss_one (ps_ret (pe_tup (pa_cons (pe_callTy (crLst K (by rfl)) (by rfl) T.b_list (by decide +kernel) (pa_cons (pv 0) pa_nil)) (pa_cons (pe_callB (crSrtP K (by rfl)) (by rfl) T.b_sorted (by decide +kernel) (pa_cons (pv 1) pa_nil)) pa_nil)))))))))), ?_⟩
    refine r_st (σ' := [some (.ref l1), some (.ref l2), none, none, none]) rfl ?_
    refine r_seq ?_
    refine r_forL ?_
    walk_at "rd"
    refine r_forL1 h1 (fun i σ H' => (∃ v2 : Option V, σ = [some (.ref l1), some (.ref l2), v2, none, none]) ∧ H = H' ∧ ∀ s ∈ ss.take i, word s) ⟨⟨_, rfl⟩, rfl, fun s hs => by rw [List.take_zero] at hs; cases hs⟩ (fun i σ H' _ p => p.2.1 ▸ h1) ?_ ?_
    · rintro i x σ H' hx ⟨⟨v2, rfl⟩, rfl, hp⟩
      obtain ⟨z, hz, rfl⟩ : ∃ z, ss[i]? = some z ∧ x = V.str z := by
        rw [List.getElem?_map] at hx
        cases e : ss[i]? with
        | none =>
          rw [e] at hx
          cases hx
        | some z =>
          rw [e] at hx
          exact ⟨z, rfl, (Option.some.inj hx).symm⟩
      have next : word z → ∀ s ∈ ss.take (i + 1), word s := fun hz2 s hs => by
        rw [List.take_add_one, hz] at hs
        rcases List.mem_append.mp hs with hs | hs
        · exact hp s hs
        · rw [List.mem_singleton.mp hs]
          exact hz2
      walk_at "rd"
      by_cases hzp : z = "pile"
      · rw [decide_eq_true hzp]
        walk_at "rd"
        exact ⟨⟨_, rfl⟩, rfl, next (.inl hzp)⟩
      · rw [decide_eq_false hzp]
        walk_at "rd"
        by_cases hzl : z = "line"
        · rw [decide_eq_true hzl]
          walk_at "rd"
          exact ⟨⟨_, rfl⟩, rfl, next (.inr hzl)⟩
        · rw [decide_eq_false hzl]
          walk_at "rd"
          exact q _ (Same.refl _)
    · rintro σ H' ⟨⟨v2, rfl⟩, rfl, hp⟩
      have hwd : ∀ s ∈ ss, word s := fun s hs => hp s (by rw [List.length_map, List.take_length]; exact hs)
      walk_at "rd"
      refine r_len (.inl h1) ?_
      rw [List.length_map]
      refine r_seq ?_
      refine r_forL ?_
      walk_at "rd"
      refine r_forL1 h2 (fun i σ H' => (∃ v4 : Option V, σ = [some (.ref l1), some (.ref l2), v2, some (.int (ss.length : Nat)), v4]) ∧ H = H' ∧ ∀ w ∈ ws.take i, wayB ss.length w.1 w.2 = true) ⟨⟨_, rfl⟩, rfl, fun s hs => by rw [List.take_zero] at hs; cases hs⟩ (fun i σ H' _ p => p.2.1 ▸ h2) ?_ ?_
      · rintro i x σ H' hx ⟨⟨v4, rfl⟩, rfl, hp⟩
        obtain ⟨t, w, rfl, hwi, ht⟩ := hw.at hx
        walk_at "rd"
        refine ⟨t, _, w.1, w.2, rfl, ht, ?_⟩
        cases hb : wayB ss.length w.1 w.2 with
        | true =>
          walk_at "rd"
          refine ⟨⟨_, rfl⟩, rfl, fun u hu => ?_⟩
          rw [List.take_add_one, hwi] at hu
          rcases List.mem_append.mp hu with hu | hu
          · exact hp u hu
          · rw [List.mem_singleton.mp hu]
            exact hb
        | false =>
          walk_at "rd"
          exact q _ (Same.refl _)
      · rintro σ H' ⟨⟨v4, rfl⟩, rfl, hp⟩
        have hwl : xs.length = ws.length := hw.len
        have hwy : ∀ w ∈ ws, wayB ss.length w.1 w.2 = true := fun s hs => hp s (by rw [hwl, List.take_length]; exact hs)
        walk_at "rd"
        refine ⟨l2, xs, ws, rfl, h2, hw, hws, fun n hn => ?_⟩
        walk_at "rd"
        refine r_len (.inl h2) ?_
        rw [hw.len]
        walk_at "rd"
        by_cases hnd : ws.Nodup
        · have hn := hn.mp hnd
          subst hn
          rw [decide_eq_true rfl]
          walk_at "rd"
          have hcy : Cyc ss.length ws := by
            rcases hbad with ⟨s, hs, h⟩ | ⟨u, hu, h⟩ | h | h
            · exact absurd (hwd s hs) h
            · rw [hwy u hu] at h
              cases h
            · exact absurd hnd h
            · exact h
          refine ⟨l2, xs, ws, _, rfl, h2, hw, hss, by omega, fun w hm hi => inner_way (hwy w hm) hi, fun b H1 s1 _ hb => ?_⟩
          rw [hb hcy]
          walk_at "rd"
          exact q _ s1
        · have hne : ¬ ((n : Int) = (ws.length : Int)) := fun e => hnd (hn.mpr (by omega))
          rw [decide_eq_false hne]
          walk_at "rd"
          exact q _ (Same.refl _)

def spRefused (K : PySem.W.Frag) : Sp := fun vs H Q _ => ∃ (l1 l2 : Addr) (ss : List Str) (xs : List V) (ws : List (Int × Int)), vs = [.ref l1, .ref l2] ∧ SqL K H l1 (ss.map V.str) ∧ SqL K H l2 xs ∧ Wl H xs ws ∧ ss.length ≤ 1000 ∧ ws.length < 64 ∧
  Bad ss ws ∧ ∀ H', Same H H' → Q (.bl true) H'
theorem ok_refused (T : Top K mg) : Cal P w K mg base CX0 4 "_law_refused" ["stations", "ways"] (spRefused K) := Cal.of T.d__law_refused (fun _ _ _ _ _ _ us hl => match us, hl with | [_, _], _ => rfl) fun f fd F => by
  obtain ⟨A_NoNet, E_NoNet⟩ := T.c_NoNet
  obtain ⟨A_PileError, E_PileError⟩ := T.c_PileError
  obtain ⟨A_NoDoing, E_NoDoing⟩ := T.c_NoDoing
  obtain ⟨A_NoForm, E_NoForm⟩ := T.c_NoForm
  obtain ⟨A_NoMark, E_NoMark⟩ := T.c_NoMark
  obtain ⟨A_NoMove, E_NoMove⟩ := T.c_NoMove
  obtain ⟨A_NoneYet, E_NoneYet⟩ := T.c_NoneYet
  obtain ⟨A_NoNumber, E_NoNumber⟩ := T.c_NoNumber
  obtain ⟨A_NoPlace, E_NoPlace⟩ := T.c_NoPlace
  obtain ⟨A_NoRow, E_NoRow⟩ := T.c_NoRow
  obtain ⟨A_NoText, E_NoText⟩ := T.c_NoText
  obtain ⟨A_TooMany, E_TooMany⟩ := T.c_TooMany
  have C_net_of : Cal P w K mg base (L2.CX P w) 3 "net_of" _ (spNo K A_NoNet) := ok_netNo T E_NoNet
  refine F.ok sc__law_refused (fun vs H Q E h => ?_) (fun cdv A outer s H vs Q E hr h => ?_)
  · obtain ⟨l1, l2, ss, xs, ws, rfl, _⟩ := h
    rfl
  · obtain ⟨l1, l2, ss, xs, ws, rfl, h1, h2, hw, hss, hws, hbad, q⟩ := h
    refine ⟨_, (pss_cons (ps_set (i := 2) sc__law_refused.nd rfl (by first | exact Or.inl rfl | exact Or.inr rfl) pe_non)
      (pss_cons (ps_keep (i := 3) (j := 2) (tb := fun W => tDrop (tCallS (spNo K A_NoNet) (WE W) (tCons (tVar 0) (tCons (tVar 1) tNil)))) rfl rfl rfl sc__law_refused.nd rfl rfl ⟨rfl, by decide, Or.inl E_PileError.g⟩ (fun W pn xe tk _ => pss_one (ps_expr (pe_calS C_net_of (hr.mono (by first | decide | omega)) (fun σ => passAt tk σ) (by exact (pa_cons (pv 0) (pa_cons (pv 1) pa_nil)))))) (fun a oe cls d pn _ _ => pss_one (ps_set (i := 2) sc__law_refused.nd rfl (Or.inl rfl) (pv 3))))
      (pss_cons (ps_if (pt_val (pe_callB (crIsErT K (by rfl)) (by rfl) T.b_isinstance (by decide +kernel) (pa_cons (pv 2) (pa_cons (pe_tup (pa_cons (pe_glob (v := .ref _) (by rfl) E_NoDoing.g rfl) (pa_cons (pe_glob (v := .ref _) (by rfl) E_NoForm.g rfl) (pa_cons (pe_glob (v := .ref _) (by rfl) E_NoMark.g rfl) (pa_cons (pe_glob (v := .ref _) (by rfl) E_NoMove.g rfl) (pa_cons (pe_glob (v := .ref _) (by rfl) E_NoneYet.g rfl) (pa_cons (pe_glob (v := .ref _) (by rfl) E_NoNumber.g rfl) (pa_cons (pe_glob (v := .ref _) (by rfl) E_NoPlace.g rfl) (pa_cons (pe_glob (v := .ref _) (by rfl) E_NoRow.g rfl) (pa_cons (pe_glob (v := .ref _) (by rfl) E_NoText.g rfl) (pa_cons (pe_glob (v := .ref _) (by rfl) E_TooMany.g rfl) pa_nil))))))))))) pa_nil)))) (pss_one (ps_ret pe_bl)) pss_nil)
      (pss_one (ps_ret (pe_and (pe_callB (crIsEr K (by rfl)) (by rfl) T.b_isinstance (by decide +kernel) (pa_cons (pv 2) (pa_cons (pe_glob (v := .ref _) (by rfl) E_NoNet.g rfl) pa_nil))) (pe_one (pe_callB (crIsEr K (by rfl)) (by rfl) T.b_isinstance (by decide +kernel) (pa_cons (pv 2) (pa_cons (pe_bltn (v := .ty "ValueError") (u := .type "ValueError") (by rfl) T.b_ValueError (by decide +kernel) rfl) pa_nil)))))))))), ?_⟩
    refine r_st (σ' := [some (.ref l1), some (.ref l2), none, none]) rfl ?_
    walk_at "rd"
    refine r_calS ?_
    walk_at "rd"
    refine ⟨l1, l2, ss, xs, ws, rfl, h1, h2, hw, hss, hws, hbad, fun H1 s1 => ⟨exm_sub E_PileError (T.p_NoNet_PileError.at E_NoNet E_PileError), rfl, fun a ha => ?_⟩⟩
    have s2 : Same H1 (upd H1 a (ErO (.ref A_NoNet) a)) := same_new ha
    have ea : upd H1 a (ErO (.ref A_NoNet) a) a = some (ErO (.ref A_NoNet) a) := upd_same
    generalize upd H1 a (ErO (.ref A_NoNet) a) = H2 at s2 ea ⊢
    show tSeq _ _ _ [some (.ref l1), some (.ref l2), some (.ref a), none] H2
    walk_at "rd"
    refine ⟨by walk_at "sz", fun t ht => ?_⟩
    walk_at "rd"
    refine r_isErT ((same_new ht) _ _ ea) E_NoNet.is_ upd_same (.cons (.own _) (.cons (.own _) (.cons (.own _) (.cons (.own _) (.cons (.own _) (.cons (.own _) (.cons (.own _) (.cons (.own _) (.cons (.own _) (.cons (.own _) .nil)))))))))) (kits_no (T.p_NoNet_NoDoing.kit E_NoNet E_NoDoing) (kits_no (T.p_NoNet_NoForm.kit E_NoNet E_NoForm) (kits_no (T.p_NoNet_NoMark.kit E_NoNet E_NoMark) (kits_no (T.p_NoNet_NoMove.kit E_NoNet E_NoMove) (kits_no (T.p_NoNet_NoneYet.kit E_NoNet E_NoneYet) (kits_no (T.p_NoNet_NoNumber.kit E_NoNet E_NoNumber) (kits_no (T.p_NoNet_NoPlace.kit E_NoNet E_NoPlace) (kits_no (T.p_NoNet_NoRow.kit E_NoNet E_NoRow) (kits_no (T.p_NoNet_NoText.kit E_NoNet E_NoText) (kits_no (T.p_NoNet_TooMany.kit E_NoNet E_TooMany) kits_nil)))))))))) ?_
    have s3 := (s1.trans s2).trans (same_new (o := .tup [.ref A_NoDoing, .ref A_NoForm, .ref A_NoMark, .ref A_NoMove, .ref A_NoneYet, .ref A_NoNumber, .ref A_NoPlace, .ref A_NoRow, .ref A_NoText, .ref A_TooMany]) ht)
    walk_at "rd"
    refine r_isEr ((same_new ht) _ _ ea) E_NoNet.is_ (.own _) kit_self ?_
    walk_at "rd"
    refine r_isEr ((same_new ht) _ _ ea) E_NoNet.is_ (.ty _) (kit_val E_NoNet) ?_
    exact q _ s3

/-- what a drawn net's ways are -/
structure DrawnW (os : List Nat) (ws : List (Int × Int)) : Prop where
  kind : ∀ w ∈ ws, (∃ a b x y : Nat, a < b ∧ os[a]? = some x ∧ os[b]? = some y ∧ w = ((x : Int), (y : Int))) ∨ (∃ k : Nat, k < os.length ∧ w = (-1, (k : Int))) ∨ (∃ k : Nat, k < os.length ∧ w = ((k : Int), -2)) ∨ w = (-1, -2)
  nd : ws.Nodup
theorem DrawnW.way {os : List Nat} {ws : List (Int × Int)} (pm : os.Perm (List.range os.length)) (d : DrawnW os ws) {w : Int × Int} (hw : w ∈ ws) : wayB os.length w.1 w.2 = true := by
  unfold wayB
  simp only [Bool.and_eq_true, Bool.or_eq_true, Bool.not_eq_true', decide_eq_true_eq, decide_eq_false_iff_not]
  rcases d.kind w hw with ⟨a, b, x, y, h, h1, h2, rfl⟩ | ⟨k, hk, rfl⟩ | ⟨k, hk, rfl⟩ | rfl
  · have := order_lt pm (List.mem_of_getElem? h1)
    have := order_lt pm (List.mem_of_getElem? h2)
    have hne : x ≠ y := fun e => by
      subst e
      have := nd_ix (order_nodup pm) h1 h2
      omega
    refine ⟨⟨.inr ⟨by omega, by omega⟩, .inr ⟨by omega, by omega⟩⟩, by omega⟩
  · refine ⟨⟨.inl rfl, .inr ⟨by omega, by omega⟩⟩, by omega⟩
  · refine ⟨⟨.inr ⟨by omega, by omega⟩, .inl rfl⟩, by omega⟩
  · refine ⟨⟨.inl rfl, .inl rfl⟩, by omega⟩
theorem DrawnW.acyc {os : List Nat} {ws : List (Int × Int)} (pm : os.Perm (List.range os.length)) (d : DrawnW os ws) : Acyc ws := by
  refine ⟨fun v => os.idxOf v.toNat, fun w hw hi => ?_⟩
  unfold inner at hi
  simp only [Bool.and_eq_true, Bool.not_eq_true', decide_eq_false_iff_not] at hi
  rcases d.kind w hw with ⟨a, b, x, y, h, h1, h2, rfl⟩ | ⟨k, hk, rfl⟩ | ⟨k, hk, rfl⟩ | rfl
  · show os.idxOf ((x : Int)).toNat < os.idxOf ((y : Int)).toNat
    rw [Int.toNat_natCast, Int.toNat_natCast, idxOf_of (order_nodup pm) h1, idxOf_of (order_nodup pm) h2]
    exact h
  · exact absurd rfl hi.1
  · exact absurd rfl hi.2
  · exact absurd rfl hi.1
theorem ways_few {m : Nat} {ws : List (Int × Int)} (nd : ws.Nodup) (h : ∀ w ∈ ws, wayB m w.1 w.2 = true) : ws.length ≤ (m + 1) * (m + 1) := by
  have sub : ws ⊆ (List.range (m + 1)).flatMap fun (i : Nat) => (List.range (m + 1)).map fun (j : Nat) => ((i : Int) - 1, if j = 0 then (-2 : Int) else (j : Int) - 1) := fun w hw => by
    have := h w hw
    unfold wayB at this
    simp only [Bool.and_eq_true, Bool.or_eq_true, Bool.not_eq_true', decide_eq_true_eq, decide_eq_false_iff_not] at this
    refine List.mem_flatMap.mpr ⟨(w.1 + 1).toNat, List.mem_range.mpr (by omega), List.mem_map.mpr ⟨if w.2 = -2 then 0 else (w.2 + 1).toNat, List.mem_range.mpr (by split <;> omega), ?_⟩⟩
    refine Prod.ext ?_ ?_
    · show (((w.1 + 1).toNat : Nat) : Int) - 1 = w.1
      omega
    · show (if (if w.2 = -2 then 0 else (w.2 + 1).toNat) = 0 then (-2 : Int) else (((if w.2 = -2 then 0 else (w.2 + 1).toNat) : Nat) : Int) - 1) = w.2
      by_cases e : w.2 = -2
      · rw [if_pos e, if_pos rfl, e]
      · rw [if_neg e, if_neg (by omega)]
        omega
  have hl := nd.length_le_of_subset sub
  rw [List.length_flatMap] at hl
  have e : (List.map (fun (i : Nat) => ((List.range (m + 1)).map fun (j : Nat) => ((i : Int) - 1, if j = 0 then (-2 : Int) else (j : Int) - 1)).length) (List.range (m + 1))).sum = (m + 1) * (m + 1) := by
    simp only [List.length_map, List.length_range]
    have : ∀ n c : Nat, ((List.range n).map fun _ => c).sum = n * c := fun n c => by
      induction n with
      | zero => simp
      | succ n ih => rw [List.range_succ, List.map_append, List.sum_append, ih, Nat.succ_mul]; simp
    exact this _ _
  rw [e] at hl
  exact hl
def spLNet : Sp := fun vs H Q _ => ∃ (p : Addr) (n : Nat), vs = [.ref p, .int n] ∧ Dk H p ∧ n ≤ 6 ∧ ∀ (t s' w' : Addr) (ss : List Str) (xs : List V) (ws : List (Int × Int)) (H' : Hp), H t = none → H s' = none → H w' = none → s' ≠ w' → Upto p H H' → Dk H' p →
  H' t = some (.tup [.ref s', .ref w']) → H' s' = some (.lst (ss.map V.str)) → H' w' = some (.lst xs) → Wl H' xs ws → ss.length ≤ n → (∀ s ∈ ss, word s) → (∀ w ∈ ws, wayB ss.length w.1 w.2 = true) → ws.Nodup → Acyc ws → ws.Pairwise leW → ws.length ≤ 49 → Q (.ref t) H'
theorem ok_lnet (T : Top K mg) : Cal P w K mg base CX0 2 "_law_net" ["deck", "most"] spLNet := Cal.of T.d__law_net (fun _ _ _ _ _ _ us hl => match us, hl with | [_, _], _ => rfl) fun f fd F => by
  have C__law_take : Cal P w K mg base CX0 1 "_law_take" _ _ := ok_take T
  refine F.ok sc__law_net (fun vs H Q E h => ?_) (fun cdv A outer s H vs Q E hr h => ?_)
  · obtain ⟨p, n, rfl, _⟩ := h
    rfl
  · obtain ⟨p, n, rfl, hd, hn, q⟩ := h
    refine ⟨_, (pss_cons (ps_set (i := 2) sc__law_net.nd rfl (by first | exact Or.inl rfl | exact Or.inr rfl) (pe_cal C__law_take (hr.mono (by first | decide | omega)) pass0 (pa_cons (pv 0) (pa_cons (pe_op op_add (pv 1) pe_int) pa_nil))))
      (Evl.pss_cut (ps_setLc (i := 4) (own := [("k", 3)]) (g := (gName 3)) (by rfl) sc__law_net.nd rfl rfl (sw_true rfl rfl rfl (by decide +kernel)) (pi_range1 (by rfl) T.b_range (pa_cons (pv 2) pa_nil)) (blkOk_by (own := [("k", 3)]) (by kernel_rfl)) (fun _ _ _ _ _ => (pg_name (i := 3) sc__law_net.nd rfl (by first | exact Or.inl rfl | exact Or.inr rfl))) (fun _ _ _ _ _ => pts_nil) (fun _ _ _ _ _ => (pixL K (by rfl) (pe_lst (pa_cons pe_str (pa_cons pe_str pa_nil))) (pe_cal C__law_take (hr.mono (by first | decide | omega)) pass0 (pa_cons (pv 0) (pa_cons pe_int pa_nil))) (fun _ _ => rfl))))
      (pss_cons (ps_set (i := 5) sc__law_net.nd rfl (by first | exact Or.inl rfl | exact Or.inr rfl) (pe_lst pa_nil))
      (pss_cons (ps_for PassesOwn.never rfl (pi_range1 (by rfl) T.b_range (pa_cons (pv 2) pa_nil)) (pg_name (i := 3) sc__law_net.nd rfl (by first | exact Or.inl rfl | exact Or.inr rfl)) (pss_one (ps_expr (pbm K (by rfl) PySem.F.plainAttrs_list PySem.F.slot_list_insert PySem.F.type_list_insert mt_insert (pv 5) (pa_cons (pe_cal C__law_take (hr.mono (by first | decide | omega)) pass0 (pa_cons (pv 0) (pa_cons (pe_op op_add (pv 3) pe_int) pa_nil))) (pa_cons (pv 3) pa_nil))))))
      (pss_cons (ps_set (i := 6) sc__law_net.nd rfl (by first | exact Or.inl rfl | exact Or.inr rfl) (pe_lst pa_nil))
      (Evl.pss_cut (ps_for PassesOwn.never rfl (pi_range1 (by rfl) T.b_range (pa_cons (pv 2) pa_nil)) (pg_name (i := 3) sc__law_net.nd rfl (by first | exact Or.inl rfl | exact Or.inr rfl)) (pss_one (ps_set (i := 6) sc__law_net.nd rfl (by first | exact Or.inl rfl | exact Or.inr rfl) (pe_op op_cat (pv 6) (pe_lc (own := [("j", 7)]) (g := (gName 7)) (by rfl) sc__law_net.nd (pi_range2 (by rfl) T.b_range (pa_cons (pe_op op_add (pv 3) pe_int) (pa_cons (pv 2) pa_nil))) (blkOk_by (own := [("j", 7)]) (by kernel_rfl)) (fun _ _ _ _ _ => (pg_name (i := 7) sc__law_net.nd rfl (by first | exact Or.inl rfl | exact Or.inr rfl))) (fun _ _ _ _ _ => (pts_one (pt_cmpR op_eq (pe_cal C__law_take (hr.mono (by first | decide | omega)) pass0 (pa_cons (pv 0) (pa_cons pe_int pa_nil))) pe_int (nomark _)))) (fun _ _ _ _ _ => (pe_tup (pa_cons (pixL K (by rfl) (pv 5) (pv 3) (fun _ _ => rfl)) (pa_cons (pixL K (by rfl) (pv 5) (pv 7) (fun _ _ => rfl)) pa_nil)))))))))
      (Evl.pss_cut (ps_set (i := 6) sc__law_net.nd rfl (by first | exact Or.inl rfl | exact Or.inr rfl) (pe_op op_cat (pv 6) (pe_lc (own := [("k", 3)]) (g := (gName 3)) (by rfl) sc__law_net.nd (pi_range1 (by rfl) T.b_range (pa_cons (pv 2) pa_nil)) (blkOk_by (own := [("k", 3)]) (by kernel_rfl)) (fun _ _ _ _ _ => (pg_name (i := 3) sc__law_net.nd rfl (by first | exact Or.inl rfl | exact Or.inr rfl))) (fun _ _ _ _ _ => (pts_one (pt_cmpR op_lt (pe_cal C__law_take (hr.mono (by first | decide | omega)) pass0 (pa_cons (pv 0) (pa_cons pe_int pa_nil))) pe_int (nomark _)))) (fun _ _ _ _ _ => (pe_tup (pa_cons (pe_un un_neg pe_int) (pa_cons (pv 3) pa_nil)))))))
      (Evl.pss_cut (ps_set (i := 6) sc__law_net.nd rfl (by first | exact Or.inl rfl | exact Or.inr rfl) (pe_op op_cat (pv 6) (pe_lc (own := [("k", 3)]) (g := (gName 3)) (by rfl) sc__law_net.nd (pi_range1 (by rfl) T.b_range (pa_cons (pv 2) pa_nil)) (blkOk_by (own := [("k", 3)]) (by kernel_rfl)) (fun _ _ _ _ _ => (pg_name (i := 3) sc__law_net.nd rfl (by first | exact Or.inl rfl | exact Or.inr rfl))) (fun _ _ _ _ _ => (pts_one (pt_cmpR op_lt (pe_cal C__law_take (hr.mono (by first | decide | omega)) pass0 (pa_cons (pv 0) (pa_cons pe_int pa_nil))) pe_int (nomark _)))) (fun _ _ _ _ _ => (pe_tup (pa_cons (pv 3) (pa_cons (pe_un un_neg pe_int) pa_nil)))))))
      (Evl.pss_cut (ps_if (pt_cmpR op_eq (pe_cal C__law_take (hr.mono (by first | decide | omega)) pass0 (pa_cons (pv 0) (pa_cons pe_int pa_nil))) pe_int (nomark _)) (pss_one (ps_expr (pbm K (by rfl) PySem.F.plainAttrs_list PySem.F.slot_list_append PySem.F.type_list_append mt_append (pv 6) (pa_cons (pe_tup (pa_cons (pe_un un_neg pe_int) (pa_cons (pe_un un_neg pe_int) pa_nil))) pa_nil)))) pss_nil)
      (pss_one (ps_ret (pe_tup (pa_cons (pv 4) (pa_cons (pe_callB (crSrtP K (by rfl)) (by rfl) T.b_sorted (by decide +kernel) (pa_cons (pv 6) pa_nil)) pa_nil)))))))))))))), ?_⟩
    refine r_st (σ' := [some (.ref p), some (.int n), none, none, none, none, none, none]) rfl ?_
    walk_at "rd"
    refine ⟨p, _, rfl, hd, by omega, by omega, fun r H1 r0 r1 u1 d1 => ?_⟩
    obtain ⟨m, rfl⟩ : ∃ m : Nat, r = (m : Int) := ⟨r.toNat, by omega⟩
    -- the words
    refine Evl.q_cut (M := fun σ H' => ∃ (s' : Addr) (ss : List Str), σ = [some (.ref p), some (.int n), some (.int m), none, some (.ref s'), none, none, none] ∧ H1 s' = none ∧ Upto p H1 H' ∧ Dk H' p ∧ H' s' = some (.lst (ss.map V.str)) ∧ ss.length = m ∧ ∀ s ∈ ss, word s) ?_ ?_
    · walk_at "rd"
      refine r_lcR ?_
      walk_at "rd"
      refine r_lcR1 (m := m) rfl (by omega) ?_
      refine lcR_deck (p := p) (fun i acc _ => ∃ ss : List Str, acc = ss.map V.str ∧ ss.length = i ∧ ∀ s ∈ ss, word s) (by omega) d1 (fun _ => rfl) (fun _ _ _ _ _ h => h) (fun i acc H' ⟨ss, e, hl, _⟩ => by rw [e, List.length_map]; omega) ⟨[], rfl, rfl, fun s hs => by cases hs⟩ ?_ fun D H2 acc hD u2 d2 e2 ⟨ss, e, hl, hw⟩ => ?_
      · rintro i acc H2 C N hi u2 d2 ⟨ss, rfl, hl, hw⟩ hC hN
        refine r_yes (iteT ?_)
        walk_at "rd"
        refine ⟨by walk_at "sz", fun c hc => ?_⟩
        walk_at "rd"
        refine ⟨p, _, rfl, d2.upd (d2.ne hc), by omega, by omega, fun r3 H3 r30 r31 u3 d3 => ?_⟩
        have e3 := u3 c _ (d2.ne hc).symm upd_same
        obtain ⟨g, hg, hg0⟩ : ∃ g : Str, atI [V.str "pile", V.str "line"] r3 = some (V.str g) ∧ word g := by
          have : r3 = 0 ∨ r3 = 1 := by omega
          rcases this with rfl | rfl
          · exact ⟨_, rfl, .inl rfl⟩
          · exact ⟨_, rfl, .inr rfl⟩
        refine r_ixL (seq_of e3) hg ?_
        refine hC _ _ ((same_upto (same_new hc)).trans u3) d3 ⟨ss ++ [g], by rw [List.map_append]; rfl, by rw [List.length_append, hl]; rfl, fun s hs => ?_⟩
        rcases List.mem_append.mp hs with hs | hs
        · exact hw s hs
        · rw [List.mem_singleton.mp hs]
          exact hg0
      · subst e
        walk_at "rd"
        exact ⟨D, ss, rfl, hD, u2, d2, e2, hl, hw⟩
    rintro _ H2 ⟨s', ss, rfl, hs', u2, d2, es2, hsl, hsw⟩
    have hsH := d1.free u1 hs'
    have nsp : s' ≠ p := (d1.ne hs').symm
    have u02 := u1.trans u2
    -- the order
    walk_at "rd"
    refine ⟨by walk_at "sz", fun o ho => ?_⟩
    have hoH := d2.free u02 ho
    have nop : o ≠ p := (d2.ne ho).symm
    have nso : s' ≠ o := ne_of_none es2 ho
    refine r_seq ?_
    refine r_forR1 ?_
    walk_at "rd"
    refine r_rng1 (m := m) rfl (by omega) (fun i σ H' => ∃ (xs : List Nat) (v : Option V), σ = [some (.ref p), some (.int n), some (.int m), v, some (.ref s'), some (.ref o), none, none] ∧ Upto p H H' ∧ Dk H' p ∧ H' s' = some (.lst (ss.map V.str)) ∧ H' o = some (.lst (ntL xs)) ∧ xs.Perm (List.range i))
      ⟨[], _, rfl, u02.trans (same_upto (same_new ho)), d2.upd (d2.ne ho), by rw [upd_ne nso]; exact es2, upd_same, by rfl⟩ ?_ ?_
    · rintro i σ H' hi ⟨xs, v, rfl, u3, d3, es3, h1, pm⟩
      have hlen : xs.length = i := by rw [pm.length_eq, List.length_range]
      walk_at "rd"
      refine ⟨tyV_list (seq_of h1), ?_⟩
      walk_at "rd"
      refine ⟨p, _, rfl, d3, by omega, by omega, fun r H4 r0 r1 u4 d4 => ?_⟩
      walk_at "rd"
      have h2 := u4 _ _ nop h1
      obtain ⟨j, rfl⟩ : ∃ j : Nat, r = (j : Int) := ⟨r.toNat, by omega⟩
      refine ⟨o, _, _, _, rfl, rfl, h2, r_smalll (by rw [ntL_length]; omega), r0, by omega, ?_⟩
      walk_at "rd"
      refine ⟨xs.take j ++ [i] ++ xs.drop j, _, rfl, upto_mut (u3.trans u4) hoH, d4.upd nop.symm, by rw [upd_ne nso]; exact u4 _ _ nsp es3, ?_, ?_⟩
      · rw [upd_same, Int.toNat_natCast, ntL_insert]
      · rw [List.range_succ]
        have e1 : (xs.take j ++ [i] ++ xs.drop j).Perm (i :: xs) := by
          have e2 : xs.take j ++ [i] ++ xs.drop j = xs.take j ++ i :: xs.drop j := by simp
          rw [e2]
          exact List.perm_middle.trans (List.Perm.cons i (by rw [List.take_append_drop]))
        exact (e1.trans (List.Perm.cons i pm)).trans (List.perm_append_comm (l₁ := [i]) (l₂ := List.range i))
    rintro σ H3 ⟨os, v3, rfl, u3, d3, es3, eo3, pm⟩
    have hol : os.length = m := by rw [pm.length_eq, List.length_range]
    have pmo : os.Perm (List.range os.length) := by rw [hol]; exact pm
    -- the ways between
    walk_at "rd"
    refine ⟨by walk_at "sz", fun w0 hw0 => ?_⟩
    have nsw0 : s' ≠ w0 := ne_of_none es3 hw0
    have now0 : o ≠ w0 := ne_of_none eo3 hw0
    refine Evl.q_cut (M := fun σ H' => ∃ (w1 : Addr) (v3 : Option V) (xs : List V) (ws : List (Int × Int)), σ = [some (.ref p), some (.int n), some (.int m), v3, some (.ref s'), some (.ref o), some (.ref w1), none] ∧ H3 w1 = none ∧ Upto p H3 H' ∧ Dk H' p ∧ H' s' = some (.lst (ss.map V.str)) ∧ H' o = some (.lst (ntL os)) ∧ H' w1 = some (.lst xs) ∧ Wl H' xs ws ∧ ws.Nodup ∧
        ∀ w ∈ ws, ∃ a b x y : Nat, a < b ∧ os[a]? = some x ∧ os[b]? = some y ∧ w = ((x : Int), (y : Int))) ?_ ?_
    · refine r_forR1 ?_
      walk_at "rd"
      refine r_rng1 (m := m) rfl (by omega) (fun i σ H' => ∃ (w1 : Addr) (v3 : Option V) (xs : List V) (ws : List (Int × Int)), σ = [some (.ref p), some (.int n), some (.int m), v3, some (.ref s'), some (.ref o), some (.ref w1), none] ∧ H3 w1 = none ∧ Upto p H3 H' ∧ Dk H' p ∧ H' s' = some (.lst (ss.map V.str)) ∧ H' o = some (.lst (ntL os)) ∧ H' w1 = some (.lst xs) ∧ Wl H' xs ws ∧ ws.Nodup ∧
          (∀ w ∈ ws, ∃ a b x y : Nat, a < i ∧ a < b ∧ os[a]? = some x ∧ os[b]? = some y ∧ w = ((x : Int), (y : Int))) ∧ ws.length ≤ i * m)
        ⟨w0, _, [], [], rfl, hw0, same_upto (same_new hw0), d3.upd (d3.ne hw0), by rw [upd_ne nsw0]; exact es3, by rw [upd_ne now0]; exact eo3, upd_same, .nil, List.nodup_nil, (fun w hw => by cases hw), by simp⟩ ?_ ?_
      · rintro i σ H4 hi ⟨w1, v3, xs, ws, rfl, hw1, u4, d4, es4, eo4, ew4, hw4, nd4, hk4, hl4⟩
        obtain ⟨x, hx⟩ : ∃ x, os[i]? = some x := ⟨_, List.getElem?_eq_getElem (by omega)⟩
        walk_at "rd"
        refine r_lcR2 ?_
        walk_at "rd"
        refine r_lcR21 (lo := (i : Int) + 1) (m := m - (i + 1)) rfl (by omega) (by omega) (by omega) (by omega) ?_
        refine lcR_deck (p := p) (fun j acc H' => ∃ js : List Nat, Wl H' acc (js.map fun b => ((x : Int), ((os.getD b 0 : Nat) : Int))) ∧ js.Nodup ∧ (∀ b ∈ js, i < b ∧ b < i + 1 + j) ∧ js.length ≤ j) (by omega) d4 (fun _ => rfl)
          (fun _ _ _ _ hk ⟨js, h1, h2⟩ => ⟨js, h1.mut hk, h2⟩) (fun j acc H' ⟨js, h1, _, _, h4⟩ => by rw [h1.len, List.length_map]; exact h4) ⟨[], .nil, List.nodup_nil, (fun b hb => by cases hb), Nat.le_refl _⟩ ?_ fun D H5 acc hD u5 d5 e5 ⟨js, hj1, hj2, hj3, hj4⟩ => ?_
        · rintro j acc H5 C N hj u5 d5 ⟨js, hj1, hj2, hj3, hj4⟩ hC hN
          walk_at "rd"
          refine ⟨p, _, rfl, d5, by omega, by omega, fun r6 H6 r60 r61 u6 d6 => ?_⟩
          have eo6 := u6 _ _ nop (u5 _ _ nop eo4)
          walk_at "rd"
          have hw6 : Wl H6 acc (js.map fun b => ((x : Int), ((os.getD b 0 : Nat) : Int))) := hj1.upto d5 u6
          by_cases h6 : r6 = 0
          · rw [decide_eq_true h6]
            walk_at "rd"
            refine r_ixL (seq_of eo6) (atI_nat (ntL_get hx)) ?_
            walk_at "rd"
            have hy : os[i + 1 + j]? = some (os.getD (i + 1 + j) 0) := by
              rw [List.getD_eq_getElem?_getD, List.getElem?_eq_getElem (show i + 1 + j < os.length by omega)]
              rfl
            refine r_ixL (seq_of eo6) (at_nat (by omega) (ntL_get (k := os.getD (i + 1 + j) 0) ?_)) ?_
            · rw [show ((i : Int) + 1 + (j : Int)).toNat = i + 1 + j by omega]
              exact hy
            walk_at "rd"
            refine ⟨by walk_at "sz", fun t ht => hC _ _ (u6.trans (same_upto (same_new ht))) (d6.upd (d6.ne ht)) ⟨js ++ [i + 1 + j], ?_, ?_, fun b hb => ?_, by rw [List.length_append]; show js.length + 1 ≤ j + 1; omega⟩⟩
            · rw [List.map_append]
              exact (hw6.same (same_new ht)).append (.cons upd_same .nil)
            · refine List.nodup_append.mpr ⟨hj2, by simp, fun a ha b hb e => ?_⟩
              rw [List.mem_singleton.mp hb] at e
              have := hj3 a ha
              omega
            · rcases List.mem_append.mp hb with hb | hb
              · have := hj3 b hb
                omega
              · have := List.mem_singleton.mp hb
                omega
          · rw [decide_eq_false h6]
            refine iteF (hN _ u6 d6 ⟨js, hw6, hj2, fun b hb => ?_, by omega⟩)
            have := hj3 b hb
            omega
        · have nw1p : w1 ≠ p := (d3.ne hw1).symm
          have ew5 := u5 _ _ nw1p ew4
          walk_at "rd"
          have hln : xs.length = ws.length := hw4.len
          have hla : acc.length = js.length := by rw [hj1.len, List.length_map]
          have him : i * m ≤ 36 := Nat.le_trans (Nat.mul_le_mul (show i ≤ 6 by omega) (show m ≤ 6 by omega)) (by decide)
          refine r_cat ew5 e5 (by omega) fun w2 hw2 => ?_
          have u6 : Upto p H3 (upd H5 w2 (.lst (xs ++ acc))) := (u4.trans u5).trans (same_upto (same_new hw2))
          have nsw2 : s' ≠ w2 := ne_of_none (u5 _ _ nsp es4) hw2
          have now2 : o ≠ w2 := ne_of_none (u5 _ _ nop eo4) hw2
          refine ⟨w2, _, _, ws ++ js.map fun b => ((x : Int), ((os.getD b 0 : Nat) : Int)), rfl, ?_, u6, d5.upd (d5.ne hw2), by rw [upd_ne nsw2]; exact u5 _ _ nsp es4, by rw [upd_ne now2]; exact u5 _ _ nop eo4, upd_same, ?_, ?_, fun w hw => ?_, ?_⟩
          · exact d5.free (u4.trans u5) hw2
          · exact ((hw4.upto d4 u5).append hj1).same (same_new hw2)
          · refine List.nodup_append.mpr ⟨nd4, ?_, fun w hw v hv e => ?_⟩
            · unfold List.Nodup
              rw [List.pairwise_map]
              refine List.Pairwise.imp_of_mem (fun {a b} ha hb hab e => hab ?_) hj2
              have h1 := hj3 a ha
              have h2 := hj3 b hb
              have e2 : os.getD a 0 = os.getD b 0 := by
                have := (Prod.mk.inj e).2
                omega
              have g1 : os[a]? = some (os.getD a 0) := by
                rw [List.getD_eq_getElem?_getD, List.getElem?_eq_getElem (show a < os.length by omega)]
                rfl
              have g2 : os[b]? = some (os.getD b 0) := by
                rw [List.getD_eq_getElem?_getD, List.getElem?_eq_getElem (show b < os.length by omega)]
                rfl
              rw [← e2] at g2
              exact nd_ix (order_nodup pmo) g1 g2
            · obtain ⟨a, b, x1, y1, ha, hab, h1, h2, rfl⟩ := hk4 w hw
              obtain ⟨b2, hb2, rfl⟩ := List.mem_map.mp hv
              have e2 : x1 = x := by
                have := (Prod.mk.inj e).1
                omega
              rw [e2] at h1
              have := nd_ix (order_nodup pmo) h1 hx
              omega
          · rcases List.mem_append.mp hw with hw | hw
            · obtain ⟨a, b, x1, y1, ha, h⟩ := hk4 w hw
              exact ⟨a, b, x1, y1, by omega, h⟩
            · obtain ⟨b2, hb2, rfl⟩ := List.mem_map.mp hw
              have h1 := hj3 b2 hb2
              refine ⟨i, b2, x, os.getD b2 0, by omega, h1.1, hx, ?_, rfl⟩
              rw [List.getD_eq_getElem?_getD, List.getElem?_eq_getElem (show b2 < os.length by omega)]
              rfl
          · rw [List.length_append, List.length_map, Nat.succ_mul]
            omega
      · rintro σ H4 ⟨w1, v3, xs, ws, rfl, hw1, u4, d4, es4, eo4, ew4, hw4, nd4, hk4, hl4⟩
        refine ⟨w1, v3, xs, ws, rfl, hw1, u4, d4, es4, eo4, ew4, hw4, nd4, fun w hw => ?_⟩
        obtain ⟨a, b, x, y, _, h⟩ := hk4 w hw
        exact ⟨a, b, x, y, h⟩
    rintro _ H4 ⟨w1, v3, xs, ws, rfl, hw1, u4, d4, es4, eo4, ew4, hw4, nd4, hk4⟩
    have few : ∀ us : List (Int × Int), us.Nodup → (∀ w ∈ us, (∃ a b x y : Nat, a < b ∧ os[a]? = some x ∧ os[b]? = some y ∧ w = ((x : Int), (y : Int))) ∨ (∃ k : Nat, k < os.length ∧ w = (-1, (k : Int))) ∨ (∃ k : Nat, k < os.length ∧ w = ((k : Int), -2)) ∨ w = (-1, -2)) → us.length ≤ 49 := fun us h1 h2 => by
      have h := ways_few (m := os.length) h1 fun w hw => DrawnW.way pmo ⟨h2, h1⟩ hw
      exact Nat.le_trans h (Nat.mul_le_mul (show os.length + 1 ≤ 7 by omega) (show os.length + 1 ≤ 7 by omega))
    -- the ways from in
    refine Evl.q_cut (M := fun σ H' => ∃ (w1 : Addr) (xs : List V) (ws : List (Int × Int)), σ = [some (.ref p), some (.int n), some (.int m), v3, some (.ref s'), some (.ref o), some (.ref w1), none] ∧ H3 w1 = none ∧ Upto p H3 H' ∧ Dk H' p ∧ H' s' = some (.lst (ss.map V.str)) ∧ H' w1 = some (.lst xs) ∧ Wl H' xs ws ∧ ws.Nodup ∧
        ∀ w ∈ ws, (∃ a b x y : Nat, a < b ∧ os[a]? = some x ∧ os[b]? = some y ∧ w = ((x : Int), (y : Int))) ∨ (∃ k : Nat, k < os.length ∧ w = (-1, (k : Int)))) ?_ ?_
    · walk_at "rd"
      refine r_lcR ?_
      walk_at "rd"
      refine r_lcR1 (m := m) rfl (by omega) ?_
      refine lcR_deck (p := p) (fun j acc H' => ∃ js : List Nat, Wl H' acc (js.map fun (b : Nat) => ((-1 : Int), (b : Int))) ∧ js.Nodup ∧ (∀ b ∈ js, b < j) ∧ js.length ≤ j) (by omega) d4 (fun _ => rfl)
        (fun _ _ _ _ hk ⟨js, h1, h2⟩ => ⟨js, h1.mut hk, h2⟩) (fun j acc H' ⟨js, h1, _, _, h4⟩ => by rw [h1.len, List.length_map]; exact h4) ⟨[], .nil, List.nodup_nil, (fun b hb => by cases hb), Nat.le_refl _⟩ ?_ fun D H5 acc hD u5 d5 e5 ⟨js, hj1, hj2, hj3, hj4⟩ => ?_
      · rintro j acc H5 C N hj u5 d5 ⟨js, hj1, hj2, hj3, hj4⟩ hC hN
        rw [Int.zero_add]
        walk_at "rd"
        refine ⟨p, _, rfl, d5, by omega, by omega, fun r6 H6 r60 r61 u6 d6 => ?_⟩
        walk_at "rd"
        have hw6 := hj1.upto d5 u6
        by_cases h6 : r6 < 3
        · rw [decide_eq_true h6]
          walk_at "rd"
          refine ⟨by walk_at "sz", fun t ht => hC _ _ (u6.trans (same_upto (same_new ht))) (d6.upd (d6.ne ht)) ⟨js ++ [j], ?_, ?_, fun b hb => ?_, by rw [List.length_append]; show js.length + 1 ≤ j + 1; omega⟩⟩
          · rw [List.map_append]
            exact (hw6.same (same_new ht)).append (.cons upd_same .nil)
          · refine List.nodup_append.mpr ⟨hj2, by simp, fun a ha b hb e => ?_⟩
            rw [List.mem_singleton.mp hb] at e
            have := hj3 a ha
            omega
          · rcases List.mem_append.mp hb with hb | hb
            · have := hj3 b hb
              omega
            · have := List.mem_singleton.mp hb
              omega
        · rw [decide_eq_false h6]
          refine iteF (hN _ u6 d6 ⟨js, hw6, hj2, fun b hb => ?_, by omega⟩)
          have := hj3 b hb
          omega
      · have nw1p : w1 ≠ p := (d3.ne hw1).symm
        have ew5 := u5 _ _ nw1p ew4
        walk_at "rd"
        have hln : xs.length = ws.length := hw4.len
        have hla : acc.length = js.length := by rw [hj1.len, List.length_map]
        have hlw := few ws nd4 fun w hw => .inl (hk4 w hw)
        refine r_cat ew5 e5 (by omega) fun w2 hw2 => ?_
        have nsw2 : s' ≠ w2 := ne_of_none (u5 _ _ nsp es4) hw2
        refine ⟨w2, _, ws ++ js.map fun (b : Nat) => ((-1 : Int), (b : Int)), rfl, d5.free (u4.trans u5) hw2, (u4.trans u5).trans (same_upto (same_new hw2)), d5.upd (d5.ne hw2), by rw [upd_ne nsw2]; exact u5 _ _ nsp es4, upd_same, ((hw4.upto d4 u5).append hj1).same (same_new hw2), ?_, fun w hw => ?_⟩
        · refine List.nodup_append.mpr ⟨nd4, ?_, fun w hw v hv e => ?_⟩
          · unfold List.Nodup
            rw [List.pairwise_map]
            exact hj2.imp fun h e => h (by have := (Prod.mk.inj e).2; omega)
          · obtain ⟨a, b, x1, y1, hab, h1, h2, rfl⟩ := hk4 w hw
            obtain ⟨b2, hb2, rfl⟩ := List.mem_map.mp hv
            have := (Prod.mk.inj e).1
            omega
        · rcases List.mem_append.mp hw with hw | hw
          · exact .inl (hk4 w hw)
          · obtain ⟨b2, hb2, rfl⟩ := List.mem_map.mp hw
            exact .inr ⟨b2, by have := hj3 b2 hb2; omega, rfl⟩
    rintro _ H5 ⟨w1, xs, ws, rfl, hw1, u5, d5, es5, ew5, hw5, nd5, hk5⟩
    -- the ways to out
    refine Evl.q_cut (M := fun σ H' => ∃ (w1 : Addr) (xs : List V) (ws : List (Int × Int)), σ = [some (.ref p), some (.int n), some (.int m), v3, some (.ref s'), some (.ref o), some (.ref w1), none] ∧ H3 w1 = none ∧ Upto p H3 H' ∧ Dk H' p ∧ H' s' = some (.lst (ss.map V.str)) ∧ H' w1 = some (.lst xs) ∧ Wl H' xs ws ∧ ws.Nodup ∧
        ∀ w ∈ ws, (∃ a b x y : Nat, a < b ∧ os[a]? = some x ∧ os[b]? = some y ∧ w = ((x : Int), (y : Int))) ∨ (∃ k : Nat, k < os.length ∧ w = (-1, (k : Int))) ∨ (∃ k : Nat, k < os.length ∧ w = ((k : Int), -2))) ?_ ?_
    · walk_at "rd"
      refine r_lcR ?_
      walk_at "rd"
      refine r_lcR1 (m := m) rfl (by omega) ?_
      refine lcR_deck (p := p) (fun j acc H' => ∃ js : List Nat, Wl H' acc (js.map fun (b : Nat) => ((b : Int), (-2 : Int))) ∧ js.Nodup ∧ (∀ b ∈ js, b < j) ∧ js.length ≤ j) (by omega) d5 (fun _ => rfl)
        (fun _ _ _ _ hk ⟨js, h1, h2⟩ => ⟨js, h1.mut hk, h2⟩) (fun j acc H' ⟨js, h1, _, _, h4⟩ => by rw [h1.len, List.length_map]; exact h4) ⟨[], .nil, List.nodup_nil, (fun b hb => by cases hb), Nat.le_refl _⟩ ?_ fun D H6 acc hD u6 d6 e6 ⟨js, hj1, hj2, hj3, hj4⟩ => ?_
      · rintro j acc H6 C N hj u6 d6 ⟨js, hj1, hj2, hj3, hj4⟩ hC hN
        rw [Int.zero_add]
        walk_at "rd"
        refine ⟨p, _, rfl, d6, by omega, by omega, fun r7 H7 r70 r71 u7 d7 => ?_⟩
        walk_at "rd"
        have hw7 := hj1.upto d6 u7
        by_cases h7 : r7 < 3
        · rw [decide_eq_true h7]
          walk_at "rd"
          refine ⟨by walk_at "sz", fun t ht => hC _ _ (u7.trans (same_upto (same_new ht))) (d7.upd (d7.ne ht)) ⟨js ++ [j], ?_, ?_, fun b hb => ?_, by rw [List.length_append]; show js.length + 1 ≤ j + 1; omega⟩⟩
          · rw [List.map_append]
            exact (hw7.same (same_new ht)).append (.cons upd_same .nil)
          · refine List.nodup_append.mpr ⟨hj2, by simp, fun a ha b hb e => ?_⟩
            rw [List.mem_singleton.mp hb] at e
            have := hj3 a ha
            omega
          · rcases List.mem_append.mp hb with hb | hb
            · have := hj3 b hb
              omega
            · have := List.mem_singleton.mp hb
              omega
        · rw [decide_eq_false h7]
          refine iteF (hN _ u7 d7 ⟨js, hw7, hj2, fun b hb => ?_, by omega⟩)
          have := hj3 b hb
          omega
      · have nw1p : w1 ≠ p := (d3.ne hw1).symm
        have ew6 := u6 _ _ nw1p ew5
        walk_at "rd"
        have hln : xs.length = ws.length := hw5.len
        have hla : acc.length = js.length := by rw [hj1.len, List.length_map]
        have hlw := few ws nd5 fun w hw => (hk5 w hw).elim .inl fun h => .inr (.inl h)
        refine r_cat ew6 e6 (by omega) fun w2 hw2 => ?_
        have nsw2 : s' ≠ w2 := ne_of_none (u6 _ _ nsp es5) hw2
        refine ⟨w2, _, ws ++ js.map fun (b : Nat) => ((b : Int), (-2 : Int)), rfl, d6.free (u5.trans u6) hw2, (u5.trans u6).trans (same_upto (same_new hw2)), d6.upd (d6.ne hw2), by rw [upd_ne nsw2]; exact u6 _ _ nsp es5, upd_same, ((hw5.upto d5 u6).append hj1).same (same_new hw2), ?_, fun w hw => ?_⟩
        · refine List.nodup_append.mpr ⟨nd5, ?_, fun w hw v hv e => ?_⟩
          · unfold List.Nodup
            rw [List.pairwise_map]
            exact hj2.imp fun h e => h (by have := (Prod.mk.inj e).1; omega)
          · obtain ⟨b2, hb2, rfl⟩ := List.mem_map.mp hv
            rcases hk5 w hw with ⟨a, b, x1, y1, hab, h1, h2, rfl⟩ | ⟨k, hk, rfl⟩
            · have := (Prod.mk.inj e).2
              omega
            · have := (Prod.mk.inj e).2
              omega
        · rcases List.mem_append.mp hw with hw | hw
          · exact (hk5 w hw).elim .inl fun h => .inr (.inl h)
          · obtain ⟨b2, hb2, rfl⟩ := List.mem_map.mp hw
            exact .inr (.inr ⟨b2, by have := hj3 b2 hb2; omega, rfl⟩)
    rintro _ H6 ⟨w1, xs, ws, rfl, hw1, u6, d6, es6, ew6, hw6, nd6, hk6⟩
    -- straight out
    refine Evl.q_cut (M := fun σ H' => ∃ (w1 : Addr) (xs : List V) (ws : List (Int × Int)), σ = [some (.ref p), some (.int n), some (.int m), v3, some (.ref s'), some (.ref o), some (.ref w1), none] ∧ H3 w1 = none ∧ Upto p H3 H' ∧ Dk H' p ∧ H' s' = some (.lst (ss.map V.str)) ∧ H' w1 = some (.lst xs) ∧ Wl H' xs ws ∧ DrawnW os ws) ?_ ?_
    · walk_at "rd"
      refine ⟨p, _, rfl, d6, by omega, by omega, fun r7 H7 r70 r71 u7 d7 => ?_⟩
      walk_at "rd"
      have nw1p : w1 ≠ p := (d3.ne hw1).symm
      have ew7 := u7 _ _ nw1p ew6
      have es7 := u7 _ _ nsp es6
      have hw7 := hw6.upto d6 u7
      by_cases h7 : r7 = 0
      · rw [decide_eq_true h7]
        walk_at "rd"
        refine ⟨tyV_list (seq_of ew7), ?_⟩
        walk_at "rd"
        refine ⟨by walk_at "sz", fun t ht => ?_⟩
        have hln : xs.length = ws.length := hw6.len
        have hlw := few ws nd6 fun w hw => (hk6 w hw).elim .inl fun h => h.elim (fun h => .inr (.inl h)) fun h => .inr (.inr (.inl h))
        have nw1t : w1 ≠ t := ne_of_none ew7 ht
        have nst : s' ≠ t := ne_of_none es7 ht
        have ew7t : (upd H7 t (.tup [.int (-1), .int (-2)])) w1 = some (.lst xs) := by rw [upd_ne nw1t]; exact ew7
        walk_at "rd"
        refine r_append ew7t (by omega) ?_
        have nsw : s' ≠ w1 := ne_of_none es3 hw1
        have tk : ∀ t1 ys, (upd H7 t (.tup [.int (-1), .int (-2)])) t1 = some (.tup ys) → (upd (upd H7 t (.tup [.int (-1), .int (-2)])) w1 (.lst (xs ++ [V.ref t]))) t1 = some (.tup ys) := fun t1 ys h => by
          rw [upd_ne (fun z => by rw [z, upd_ne nw1t, ew7] at h; cases h)]
          exact h
        refine ⟨w1, _, ws ++ [(-1, -2)], rfl, hw1, upto_mut ((u6.trans u7).trans (same_upto (same_new ht))) hw1, (d7.upd (d7.ne ht)).upd nw1p.symm, by rw [upd_ne nsw, upd_ne nst]; exact es7, upd_same, ((hw7.same (same_new ht)).append (.cons upd_same .nil)).mut tk, ⟨fun w hw => ?_, ?_⟩⟩
        · rcases List.mem_append.mp hw with hw | hw
          · exact (hk6 w hw).elim .inl fun h => h.elim (fun h => .inr (.inl h)) fun h => .inr (.inr (.inl h))
          · exact .inr (.inr (.inr (List.mem_singleton.mp hw)))
        · refine List.nodup_append.mpr ⟨nd6, by simp, fun w hw v hv e => ?_⟩
          rw [List.mem_singleton.mp hv] at e
          rcases hk6 w hw with ⟨a, b, x1, y1, hab, h1, h2, rfl⟩ | ⟨k, hk, rfl⟩ | ⟨k, hk, rfl⟩
          · have := (Prod.mk.inj e).1
            omega
          · have := (Prod.mk.inj e).2
            omega
          · have := (Prod.mk.inj e).1
            omega
      · rw [decide_eq_false h7]
        walk_at "rd"
        exact ⟨w1, xs, ws, rfl, hw1, u6.trans u7, d7, es7, ew7, hw7, fun w hw => (hk6 w hw).elim .inl fun h => h.elim (fun h => .inr (.inl h)) fun h => .inr (.inr (.inl h)), nd6⟩
    rintro _ H8 ⟨w1, xs, ws, rfl, hw1, u8, d8, es8, ew8, hw8, hdr⟩
    walk_at "rd"
    refine r_srtP (seq_of ew8) hw8 fun ys us w' hy hp hsrt hw' => ?_
    refine ⟨by walk_at "sz", fun t ht => ?_⟩
    have nsw : s' ≠ w' := ne_of_none es8 hw'
    have u9 : Upto p H8 (upd H8 w' (.lst ys)) := same_upto (same_new hw')
    have es9 : (upd H8 w' (.lst ys)) s' = some (.lst (ss.map V.str)) := same_new hw' _ _ es8
    have ew9 : (upd H8 w' (.lst ys)) w' = some (.lst ys) := upd_same
    have d9 := d8.upd (o := .lst ys) (d8.ne hw')
    have hy9 := hy.same (same_new (o := .lst ys) hw')
    have u08 := u3.trans u8
    have hw'H := d8.free u08 hw'
    generalize upd H8 w' (.lst ys) = H9 at u9 es9 ew9 d9 hy9 ht ⊢
    have u09 := u08.trans u9
    have hlen : ss.length = os.length := by omega
    refine q t s' w' ss ys us _ (d9.free u09 ht) hsH hw'H nsw (u09.trans (same_upto (same_new ht))) (d9.upd (d9.ne ht)) upd_same (same_new ht _ _ es9) (same_new ht _ _ ew9) (hy9.same (same_new ht)) (by omega) hsw ?_ (hp.nodup_iff.mpr hdr.nd) ?_ hsrt ?_
    · intro w hw
      rw [hlen]
      exact hdr.way pmo (hp.mem_iff.mp hw)
    · obtain ⟨pos, hpos⟩ := hdr.acyc pmo
      exact ⟨pos, fun w hw hi => hpos w (hp.mem_iff.mp hw) hi⟩
    · rw [hp.length_eq]
      have := few ws hdr.nd hdr.kind
      omega

theorem wayB_no {m a b : Int} (h : ¬ ((a = -1 ∨ (0 ≤ a ∧ a < m)) ∧ (b = -2 ∨ (0 ≤ b ∧ b < m)) ∧ a ≠ b)) : wayB m a b = false := by
  refine Bool.eq_false_iff.mpr fun e => h ?_
  unfold wayB at e
  simp only [Bool.and_eq_true, Bool.or_eq_true, Bool.not_eq_true', decide_eq_true_eq, decide_eq_false_iff_not] at e
  exact ⟨e.1.1, e.1.2, e.2⟩
def abt (k m n : Nat) : List Int := (List.range n).map fun i => (((k + i) % m : Nat) : Int)
theorem abt_length (k m n : Nat) : (abt k m n).length = n := by
  unfold abt
  rw [List.length_map, List.length_range]
theorem abt_at {k m n i : Nat} (h : i < n) : (abt k m n)[i]? = some (((k + i) % m : Nat) : Int) := by
  unfold abt
  rw [List.getElem?_map, List.getElem?_range h]
  rfl
theorem cyc_abt {k m n : Nat} (ws : List (Int × Int)) (hn : 2 ≤ n) (hm : 0 < m) : Cyc m (ws ++ ((abt k m n).zip ((abt k m n).drop 1 ++ (abt k m n).take 1)).filter fun w => !decide (w ∈ ws)) := by
  refine ⟨fun v => ∃ i, i < n ∧ v = (((k + i) % m : Nat) : Int), ⟨_, ⟨0, by omega, rfl⟩, by omega, by have := Nat.mod_lt (k + 0) hm; omega⟩, ?_⟩
  rintro v ⟨i, hi, rfl⟩
  obtain ⟨j, hj, hji⟩ : ∃ j, j < n ∧ ((j + 1 = n ∧ i = 0) ∨ (j + 1 < n ∧ i = j + 1)) := by
    by_cases h : i = 0
    · exact ⟨n - 1, by omega, .inl ⟨by omega, h⟩⟩
    · exact ⟨i - 1, by omega, .inr ⟨by omega, by omega⟩⟩
  have hd : ((abt k m n).drop 1).length = n - 1 := by rw [List.length_drop, abt_length]
  have hy : ((abt k m n).drop 1 ++ (abt k m n).take 1)[j]? = some (((k + i) % m : Nat) : Int) := by
    rcases hji with ⟨h1, h2⟩ | ⟨h1, h2⟩
    · rw [List.getElem?_append_right (by omega), hd, List.getElem?_take_of_lt (by omega), show j - (n - 1) = i by omega]
      exact abt_at hi
    · rw [List.getElem?_append_left (by omega), List.getElem?_drop, show 1 + j = i by omega]
      exact abt_at hi
  have hz : ((abt k m n).zip ((abt k m n).drop 1 ++ (abt k m n).take 1))[j]? = some ((((k + j) % m : Nat) : Int), (((k + i) % m : Nat) : Int)) := by
    rw [List.getElem?_zip_eq_some]
    exact ⟨abt_at hj, hy⟩
  refine ⟨((((k + j) % m : Nat) : Int), (((k + i) % m : Nat) : Int)), ?_, ?_, rfl, ⟨j, hj, rfl⟩⟩
  · by_cases h : ((((k + j) % m : Nat) : Int), (((k + i) % m : Nat) : Int)) ∈ ws
    · exact List.mem_append_left _ h
    · refine List.mem_append_right _ (List.mem_filter.mpr ⟨List.mem_of_getElem? hz, ?_⟩)
      rw [decide_eq_false h]
      rfl
  · unfold inner
    simp only [Bool.and_eq_true, Bool.not_eq_true', decide_eq_false_iff_not]
    omega
def spSpoilt : Sp := fun vs H Q _ => ∃ (p l1 l2 : Addr) (ss : List Str) (xs : List V) (ws : List (Int × Int)), vs = [.ref p, .ref l1, .ref l2] ∧ Dk H p ∧ H l1 = some (.lst (ss.map V.str)) ∧ H l2 = some (.lst xs) ∧ Wl H xs ws ∧ l1 ≠ p ∧ l2 ≠ p ∧ ss.length ≤ 6 ∧ ws.length ≤ 56 ∧ (∀ s ∈ ss, lay s) ∧
  ∀ (t s' w' : Addr) (ss' : List Str) (xs' : List V) (ws' : List (Int × Int)) (H' : Hp), Upto p H H' → Dk H' p → H' t = some (.tup [.ref s', .ref w']) → H' s' = some (.lst (ss'.map V.str)) → H' w' = some (.lst xs') → Wl H' xs' ws' → s' ≠ p → w' ≠ p →
    ss'.length = ss.length → ws'.length ≤ ws.length + 6 → (∀ s ∈ ss', lay s) → Bad ss' ws' → Q (.ref t) H'
theorem ok_spoilt (T : Top K mg) : Cal P w K mg base CX0 2 "_law_spoilt" ["deck", "stations", "ways"] spSpoilt := Cal.of T.d__law_spoilt (fun _ _ _ _ _ _ us hl => match us, hl with | [_, _, _], _ => rfl) fun f fd F => by
  have C__law_take : Cal P w K mg base CX0 1 "_law_take" _ _ := ok_take T
  refine F.ok sc__law_spoilt (fun vs H Q E h => ?_) (fun cdv A outer s H vs Q E hr h => ?_)
  · obtain ⟨p, l1, l2, ss, xs, ws, rfl, _⟩ := h
    rfl
  · obtain ⟨p, l1, l2, ss, xs, ws, rfl, hd, h1, h2, hw, n1, n2, hss, hws, hly, q⟩ := h
    refine ⟨_, (pss_cons (ps_set (i := 3) sc__law_spoilt.nd rfl (by first | exact Or.inl rfl | exact Or.inr rfl) (pe_callB (crLen K (by rfl)) (by rfl) T.b_len PySem.boot_len (pa_cons (pv 1) pa_nil)))
      (pss_cons (ps_set (i := 4) sc__law_spoilt.nd rfl (by first | exact Or.inl rfl | exact Or.inr rfl) (pe_cal C__law_take (hr.mono (by first | decide | omega)) pass0 (pa_cons (pv 0) (pa_cons pe_int pa_nil))))
      (pss_cons (ps_set (i := 5) sc__law_spoilt.nd rfl (by first | exact Or.inl rfl | exact Or.inr rfl) (pe_cal C__law_take (hr.mono (by first | decide | omega)) pass0 (pa_cons (pv 0) (pa_cons (pixL K (by rfl) (pe_lst (pa_cons pe_int (pa_cons pe_int (pa_cons (pe_op op_pow pe_int pe_int) pa_nil)))) (pe_cal C__law_take (hr.mono (by first | decide | omega)) pass0 (pa_cons (pv 0) (pa_cons pe_int pa_nil))) (fun _ _ => rfl)) pa_nil))))
      (pss_cons (ps_set (i := 6) sc__law_spoilt.nd rfl (by first | exact Or.inl rfl | exact Or.inr rfl) (pe_op op_sub (pe_cal C__law_take (hr.mono (by first | decide | omega)) pass0 (pa_cons (pv 0) (pa_cons (pe_op op_add (pv 3) pe_int) pa_nil))) pe_int))
      (Evl.pss_cut (ps_if (PW.pt (pw_and (pt_cmpR op_eq (pv 4) pe_int (nomark _)) (pw_and1 (pt_cmpR op_gt (pv 3) pe_int (nomark _))))) (pss_cons (ps_set (i := 7) sc__law_spoilt.nd rfl (by first | exact Or.inl rfl | exact Or.inr rfl) (pixL K (by rfl) (pe_lst (pa_cons pe_str (pa_cons pe_str (pa_cons pe_str (pa_cons pe_str (pa_cons pe_str (pa_cons pe_str pa_nil))))))) (pe_cal C__law_take (hr.mono (by first | decide | omega)) pass0 (pa_cons (pv 0) (pa_cons pe_int pa_nil))) (fun _ _ => rfl)))
      (pss_cons (ps_set (i := 8) sc__law_spoilt.nd rfl (by first | exact Or.inl rfl | exact Or.inr rfl) (pe_cal C__law_take (hr.mono (by first | decide | omega)) pass0 (pa_cons (pv 0) (pa_cons (pv 3) pa_nil))))
      (pss_one (ps_ret (pe_tup (pa_cons (pe_op op_cat (pe_op op_cat (pslL K (by rfl) (pv 1) po_none (po_some (pv 8))) (pe_lst (pa_cons (pv 7) pa_nil))) (pslL K (by rfl) (pv 1) (po_some (pe_op op_add (pv 8) pe_int)) po_none)) (pa_cons (pv 2) pa_nil))))))) pss_nil)
      (Evl.pss_cut (ps_if (PW.pt (pw_and (pt_cmpR op_eq (pv 4) pe_int (nomark _)) (pw_and1 (pt_cmpR op_gt (pv 3) pe_int (nomark _))))) (pss_cons (ps_set (i := 8) sc__law_spoilt.nd rfl (by first | exact Or.inl rfl | exact Or.inr rfl) (pe_cal C__law_take (hr.mono (by first | decide | omega)) pass0 (pa_cons (pv 0) (pa_cons (pv 3) pa_nil))))
      (pss_one (ps_ret (pe_tup (pa_cons (pv 1) (pa_cons (pe_op op_cat (pv 2) (pe_lst (pa_cons (pe_tup (pa_cons (pv 8) (pa_cons (pv 8) pa_nil))) pa_nil))) pa_nil)))))) pss_nil)
      (Evl.pss_cut (ps_if (PW.pt (pw_and (pt_cmpR op_eq (pv 4) pe_int (nomark _)) (pw_and1 (pt_cmpR (opNeD K (by rfl) (hu64 hr)) (pv 2) (pe_lst pa_nil) (nomark _))))) (pss_one (ps_ret (pe_tup (pa_cons (pv 1) (pa_cons (pe_op op_cat (pv 2) (pe_lst (pa_cons (pixL K (by rfl) (pv 2) (pe_cal C__law_take (hr.mono (by first | decide | omega)) pass0 (pa_cons (pv 0) (pa_cons (pe_callB (crLen K (by rfl)) (by rfl) T.b_len PySem.boot_len (pa_cons (pv 2) pa_nil)) pa_nil))) (fun _ _ => rfl)) pa_nil))) pa_nil))))) pss_nil)
      (Evl.pss_cut (ps_if (PW.pt (pw_and (pt_cmpR op_eq (pv 4) pe_int (nomark _)) (pw_and1 (pt_cmpR op_gt (pv 3) pe_int (nomark _))))) (pss_cons (ps_set (i := 8) sc__law_spoilt.nd rfl (by first | exact Or.inl rfl | exact Or.inr rfl) (pe_cal C__law_take (hr.mono (by first | decide | omega)) pass0 (pa_cons (pv 0) (pa_cons (pv 3) pa_nil))))
      (pss_cons (ps_setLc (i := 9) (own := [("k", 12)]) (g := (gName 12)) (by rfl) sc__law_spoilt.nd rfl rfl (sw_true rfl rfl rfl (by decide +kernel)) (pi_range1 (by rfl) T.b_range (pa_cons (pe_op op_add pe_int (pe_cal C__law_take (hr.mono (by first | decide | omega)) pass0 (pa_cons (pv 0) (pa_cons (pe_op op_sub (pv 3) pe_int) pa_nil)))) pa_nil)) (blkOk_by (own := [("k", 12)]) (by kernel_rfl)) (fun _ _ _ _ _ => (pg_name (i := 12) sc__law_spoilt.nd rfl (by first | exact Or.inl rfl | exact Or.inr rfl))) (fun _ _ _ _ _ => pts_nil) (fun _ _ _ _ _ => (pe_op op_mod (pe_op op_add (pv 8) (pv 12)) (pv 3))))
      (pss_cons (ps_setLc (i := 10) (own := [("pair", 13)]) (g := (gName 13)) (by rfl) sc__law_spoilt.nd rfl rfl (sw_true rfl rfl rfl (by decide +kernel)) (piZN K (by rfl) (by rfl) T.b_zip (pa_cons (pv 9) (pa_cons (pe_op op_cat (pslL K (by rfl) (pv 9) (po_some pe_int) po_none) (pslL K (by rfl) (pv 9) po_none (po_some pe_int))) pa_nil))) (blkOk_by (own := [("pair", 13)]) (by kernel_rfl)) (fun _ _ _ _ _ => (pg_name (i := 13) sc__law_spoilt.nd rfl (by first | exact Or.inl rfl | exact Or.inr rfl))) (fun _ _ _ _ _ => (pts_one (pt_cmpR (opNotInD K (by rfl) (hu65 hr)) (pv 13) (pv 2) (by rfl)))) (fun _ _ _ _ _ => (pv 13)))
      (pss_one (ps_ret (pe_tup (pa_cons (pv 1) (pa_cons (pe_op op_cat (pv 2) (pv 10)) pa_nil)))))))) pss_nil)
      (pss_cons (ps_set (i := 11) sc__law_spoilt.nd rfl (by first | exact Or.inl rfl | exact Or.inr rfl) (pe_lst (pa_cons (pe_tup (pa_cons (pe_op op_add (pv 3) (pv 5)) (pa_cons (pe_un un_neg pe_int) pa_nil))) (pa_cons (pe_tup (pa_cons (pe_un un_neg pe_int) (pa_cons (pe_op op_add (pv 3) (pv 5)) pa_nil))) (pa_cons (pe_tup (pa_cons (pv 6) (pa_cons (pe_op op_add (pv 3) (pv 5)) pa_nil))) (pa_cons (pe_tup (pa_cons (pe_op op_sub (pe_un un_neg pe_int) (pv 5)) (pa_cons (pe_un un_neg pe_int) pa_nil))) (pa_cons (pe_tup (pa_cons (pv 6) (pa_cons (pe_op op_sub (pe_un un_neg pe_int) (pv 5)) pa_nil))) (pa_cons (pe_tup (pa_cons (pv 6) (pa_cons (pe_un un_neg pe_int) pa_nil))) pa_nil))))))))
      (pss_cons (ps_set (i := 11) sc__law_spoilt.nd rfl (by first | exact Or.inl rfl | exact Or.inr rfl) (pe_op op_cat (pv 11) (pe_lst (pa_cons (pe_tup (pa_cons (pe_un un_neg pe_int) (pa_cons (pv 6) pa_nil))) (pa_cons (pe_tup (pa_cons (pe_un un_neg pe_int) (pa_cons (pe_un un_neg pe_int) pa_nil))) (pa_cons (pe_tup (pa_cons (pe_un un_neg pe_int) (pa_cons (pe_un un_neg pe_int) pa_nil))) (pa_cons (pe_tup (pa_cons (pe_op op_add (pv 3) (pv 5)) (pa_cons (pv 6) pa_nil))) (pa_cons (pe_tup (pa_cons (pe_op op_sub (pe_un un_neg pe_int) (pv 5)) (pa_cons (pv 6) pa_nil))) pa_nil))))))))
      (pss_one (ps_ret (pe_tup (pa_cons (pv 1) (pa_cons (pe_op op_cat (pv 2) (pe_lst (pa_cons (pixL K (by rfl) (pv 11) (pe_cal C__law_take (hr.mono (by first | decide | omega)) pass0 (pa_cons (pv 0) (pa_cons pe_int pa_nil))) (fun _ _ => rfl)) pa_nil))) pa_nil))))))))))))))), ?_⟩
    refine r_st (σ' := [some (.ref p), some (.ref l1), some (.ref l2), none, none, none, none, none, none, none, none, none, none, none]) rfl ?_
    walk_at "rd"
    refine r_len (.inl (seq_of h1)) ?_
    rw [List.length_map]
    walk_at "rd"
    refine ⟨p, _, rfl, hd, by omega, by omega, fun wy H1 wy0 wy1 u1 d1 => ?_⟩
    walk_at "rd"
    all_goals first | (refine (show CPow _ _ from ?_); walk_at "pw") | skip
    refine ⟨by walk_at "sz", fun c hc => ?_⟩
    walk_at "rd"
    refine ⟨p, _, rfl, d1.upd (d1.ne hc), by omega, by omega, fun ri H2 ri0 ri1 u2 d2 => ?_⟩
    have ec : H2 c = some (.lst [V.int 1, V.int 3, V.int (10 ^ Int.toNat 20)]) := u2 c _ (d1.ne hc).symm upd_same
    obtain ⟨fm, hfm, fm0, fm1⟩ : ∃ fm : Int, atI [V.int 1, V.int 3, V.int (10 ^ Int.toNat 20)] ri = some (V.int fm) ∧ 0 < fm ∧ fm < 10 ^ 70 := by
      rcases (by omega : ri = 0 ∨ ri = 1 ∨ ri = 2) with rfl | rfl | rfl
      · exact ⟨_, rfl, by decide, by decide⟩
      · exact ⟨_, rfl, by decide, by decide⟩
      · exact ⟨_, rfl, by decide, by decide⟩
    refine r_ixL (seq_of ec) hfm ?_
    walk_at "rd"
    refine ⟨p, _, rfl, d2, fm0, fm1, fun far H3 far0 _ u3 d3 => ?_⟩
    walk_at "rd"
    refine ⟨p, _, rfl, d3, by omega, by omega, fun nr H4 nr0 nr1 u4 d4 => ?_⟩
    walk_at "rd"
    have u04 : Upto p H H4 := ((u1.trans (same_upto (same_new hc))).trans u2).trans (u3.trans u4)
    clear ec hfm hc u1 u2 u3 u4 d1 d2 d3
    generalize hm : ss.length = m at *
    obtain ⟨near, hnear⟩ : ∃ near : Int, near = nr - 1 := ⟨_, rfl⟩
    rw [← hnear]
    -- a word that is another one
    refine Evl.q_cut (M := fun σ H' => σ = [some (.ref p), some (.ref l1), some (.ref l2), some (.int (m : Nat)), some (.int wy), some (.int far), some (.int near), none, none, none, none, none, none, none] ∧ Upto p H H' ∧ Dk H' p) ?_ ?_
    · walk_at "rd"
      by_cases c0 : wy = 0
      · rw [decide_eq_true c0]
        walk_at "rd"
        by_cases cm : (0 : Int) < (m : Int)
        · rw [decide_eq_true cm]
          walk_at "rd"
          refine ⟨by walk_at "sz", fun b hb => ?_⟩
          walk_at "rd"
          refine ⟨p, _, rfl, d4.upd (d4.ne hb), by omega, by omega, fun r5 H5 r50 r51 u5 d5 => ?_⟩
          have eb := u5 b _ (d4.ne hb).symm upd_same
          obtain ⟨g, hg, hgw, hgl⟩ : ∃ g : Str, atI [V.str "piles", V.str "", V.str "Pile", V.str "in", V.str "lines", V.str "pile "] r5 = some (V.str g) ∧ ¬ word g ∧ lay g := by
            rcases (by omega : r5 = 0 ∨ r5 = 1 ∨ r5 = 2 ∨ r5 = 3 ∨ r5 = 4 ∨ r5 = 5) with rfl | rfl | rfl | rfl | rfl | rfl
            all_goals exact ⟨_, rfl, by unfold word; decide +kernel, by unfold lay; decide +kernel⟩
          refine r_ixL (seq_of eb) hg ?_
          walk_at "rd"
          refine ⟨p, _, rfl, d5, by omega, by omega, fun at_ H6 at0 at1 u6 d6 => ?_⟩
          obtain ⟨k, rfl⟩ : ∃ k : Nat, at_ = (k : Int) := ⟨at_.toNat, by omega⟩
          have u06 := u04.trans (((same_upto (same_new hb)).trans u5).trans u6)
          have e1 := u06 _ _ n1 h1
          have e2 := u06 _ _ n2 h2
          walk_at "rd"
          refine r_slL (seq_of e1) fun x1 hx1 => ?_
          rw [cut_take _ (by rw [List.length_map]; omega)]
          walk_at "rd"
          refine ⟨by walk_at "sz", fun x2 hx2 => ?_⟩
          have lt1 : ((ss.map V.str).take k).length = k := by rw [List.length_take, List.length_map]; omega
          refine r_cat (by rw [upd_ne (ne_of_none upd_same hx2)]; exact upd_same) upd_same (by rw [lt1, List.length_cons, List.length_nil]; omega) fun x3 hx3 => ?_
          walk_at "rd"
          have s7 := ((same_new (o := .lst ((ss.map V.str).take k)) hx1).trans (same_new (o := .lst [V.str g]) hx2)).trans (same_new (o := .lst ((ss.map V.str).take k ++ [V.str g])) hx3)
          have e3 := upd_same (H := upd (upd H6 x1 (.lst ((ss.map V.str).take k))) x2 (.lst [V.str g])) (a := x3) (o := .lst ((ss.map V.str).take k ++ [V.str g]))
          have d7 := ((d6.upd (o := .lst ((ss.map V.str).take k)) (d6.ne hx1)).upd (o := .lst [V.str g]) ((d6.upd (d6.ne hx1)).ne hx2)).upd (o := .lst ((ss.map V.str).take k ++ [V.str g])) (((d6.upd (d6.ne hx1)).upd ((d6.upd (d6.ne hx1)).ne hx2)).ne hx3)
          generalize upd (upd (upd H6 x1 (.lst ((ss.map V.str).take k))) x2 (.lst [V.str g])) x3 (.lst ((ss.map V.str).take k ++ [V.str g])) = H7 at s7 e3 d7 ⊢
          refine r_slL (seq_of (s7 _ _ e1)) fun x4 hx4 => ?_
          have ek : ((k : Int) + 1) = ((k + 1 : Nat) : Int) := by omega
          rw [ek, cut_drop _ (by rw [List.length_map]; omega)]
          have n34 : x3 ≠ x4 := ne_of_none e3 hx4
          have lt2 : ((ss.map V.str).drop (k + 1)).length = m - (k + 1) := by rw [List.length_drop, List.length_map, hm]
          refine r_cat (by rw [upd_ne n34]; exact e3) upd_same (by rw [List.length_append, lt1, lt2, List.length_cons, List.length_nil]; omega) fun x5 hx5 => ?_
          walk_at "rd"
          refine ⟨by walk_at "sz", fun t ht => ?_⟩
          have s8 := (same_new (o := .lst ((ss.map V.str).drop (k + 1))) hx4).trans (same_new (o := .lst ((ss.map V.str).take k ++ [V.str g] ++ (ss.map V.str).drop (k + 1))) hx5)
          have d8 := (d7.upd (o := .lst ((ss.map V.str).drop (k + 1))) (d7.ne hx4)).upd (o := .lst ((ss.map V.str).take k ++ [V.str g] ++ (ss.map V.str).drop (k + 1))) ((d7.upd (d7.ne hx4)).ne hx5)
          have e5 := upd_same (H := upd H7 x4 (.lst ((ss.map V.str).drop (k + 1)))) (a := x5) (o := .lst ((ss.map V.str).take k ++ [V.str g] ++ (ss.map V.str).drop (k + 1)))
          generalize upd (upd H7 x4 (.lst ((ss.map V.str).drop (k + 1)))) x5 (.lst ((ss.map V.str).take k ++ [V.str g] ++ (ss.map V.str).drop (k + 1))) = H8 at s8 d8 e5 ht ⊢
          have u08 := u06.trans ((same_upto s7).trans (same_upto s8))
          have u09 := u08.trans (same_upto (same_new (o := .tup [.ref x5, .ref l2]) ht))
          have ess : (ss.map V.str).take k ++ [V.str g] ++ (ss.map V.str).drop (k + 1) = (ss.take k ++ [g] ++ ss.drop (k + 1)).map V.str := by
            rw [List.map_append, List.map_append, List.map_take, List.map_drop]
            rfl
          rw [ess] at e5
          have n5p : x5 ≠ p := fun z => by
            obtain ⟨dd, _, hdd⟩ := d8
            rw [z, hdd] at e5
            have := congrArg (fun o => match o with | some (HO.lst (x :: _)) => (match x with | V.int _ => 1 | _ => 0) | _ => 0) e5
            revert this
            cases hh : (ss.take k ++ [g] ++ ss.drop (k + 1)) with
            | nil => intro h; cases h
            | cons a r => intro h; cases h
          refine q t x5 l2 (ss.take k ++ [g] ++ ss.drop (k + 1)) xs ws _ u09 (d8.upd (d8.ne ht)) upd_same (same_new ht _ _ e5) (u09 _ _ n2 h2) (hw.upto hd u09) n5p n2 ?_ (by omega) ?_ ?_
          · rw [List.length_append, List.length_append, List.length_take, List.length_drop, List.length_cons, List.length_nil]
            omega
          · intro s hs
            rcases List.mem_append.mp hs with hs | hs
            · rcases List.mem_append.mp hs with hs | hs
              · exact hly s (List.mem_of_mem_take hs)
              · rw [List.mem_singleton.mp hs]
                exact hgl
            · exact hly s (List.mem_of_mem_drop hs)
          · exact .inl ⟨g, List.mem_append_left _ (List.mem_append_right _ (List.mem_singleton.mpr rfl)), hgw⟩
        · rw [decide_eq_false cm]
          walk_at "rd"
          exact ⟨rfl, u04, d4⟩
      · rw [decide_eq_false c0]
        walk_at "rd"
        exact ⟨rfl, u04, d4⟩
    rintro _ H5 ⟨rfl, u05, d5⟩
    -- a way to itself
    refine Evl.q_cut (M := fun σ H' => σ = [some (.ref p), some (.ref l1), some (.ref l2), some (.int (m : Nat)), some (.int wy), some (.int far), some (.int near), none, none, none, none, none, none, none] ∧ Upto p H H' ∧ Dk H' p) ?_ ?_
    · walk_at "rd"
      by_cases c0 : wy = 1
      · rw [decide_eq_true c0]
        walk_at "rd"
        by_cases cm : (0 : Int) < (m : Int)
        · rw [decide_eq_true cm]
          walk_at "rd"
          refine ⟨p, _, rfl, d5, by omega, by omega, fun at_ H6 at0 at1 u6 d6 => ?_⟩
          have u06 := u05.trans u6
          have e1 := u06 _ _ n1 h1
          have e2 := u06 _ _ n2 h2
          have w6 := hw.upto hd u06
          walk_at "rd"
          refine ⟨by walk_at "sz", fun x1 hx1 => ?_⟩
          walk_at "rd"
          refine ⟨by walk_at "sz", fun x2 hx2 => ?_⟩
          have s7 := (same_new (o := .tup [.int at_, .int at_]) hx1).trans (same_new (o := .lst [.ref x1]) hx2)
          have d7 := (d6.upd (o := .tup [.int at_, .int at_]) (d6.ne hx1)).upd (o := .lst [.ref x1]) ((d6.upd (d6.ne hx1)).ne hx2)
          have ex2 := upd_same (H := upd H6 x1 (.tup [.int at_, .int at_])) (a := x2) (o := .lst [.ref x1])
          have ex1 := same_new (o := .lst [.ref x1]) hx2 x1 (.tup [.int at_, .int at_]) upd_same
          have hlx : xs.length = ws.length := hw.len
          generalize upd (upd H6 x1 (.tup [.int at_, .int at_])) x2 (.lst [.ref x1]) = H7 at s7 d7 ex1 ex2 ⊢
          walk_at "rd"
          refine r_cat (s7 _ _ e2) ex2 (by rw [List.length_cons, List.length_nil]; omega) fun x3 hx3 => ?_
          walk_at "rd"
          refine ⟨by walk_at "sz", fun t ht => ?_⟩
          have s8 := same_new (o := .lst (xs ++ [.ref x1])) hx3
          have d8 := d7.upd (o := .lst (xs ++ [.ref x1])) (d7.ne hx3)
          have n3 : x3 ≠ p := (d7.ne hx3).symm
          have u09 := (u06.trans (same_upto (s7.trans s8))).trans (same_upto (same_new (o := .tup [.ref l1, .ref x3]) ht))
          have w8 : Wl (upd H7 x3 (.lst (xs ++ [.ref x1]))) (xs ++ [.ref x1]) (ws ++ [(at_, at_)]) := (w6.same (s7.trans s8)).append (.cons (s8 _ _ ex1) .nil)
          refine q t l1 x3 ss _ (ws ++ [(at_, at_)]) _ u09 (d8.upd (d8.ne ht)) upd_same (u09 _ _ n1 h1) (same_new ht _ _ upd_same) (w8.same (same_new ht)) n1 n3 hm (by rw [List.length_append, List.length_cons, List.length_nil]; omega) hly ?_
          refine .inr (.inl ⟨(at_, at_), List.mem_append_right _ (List.mem_singleton.mpr rfl), ?_⟩)
          unfold wayB
          rw [decide_eq_true (show (at_, at_).1 = (at_, at_).2 from rfl), Bool.not_true, Bool.and_false]
        · rw [decide_eq_false cm]
          walk_at "rd"
          exact ⟨rfl, u05, d5⟩
      · rw [decide_eq_false c0]
        walk_at "rd"
        exact ⟨rfl, u05, d5⟩
    rintro _ H6 ⟨rfl, u06, d6⟩
    clear u05 d5 u04 d4
    -- a way twice
    refine Evl.q_cut (M := fun σ H' => σ = [some (.ref p), some (.ref l1), some (.ref l2), some (.int (m : Nat)), some (.int wy), some (.int far), some (.int near), none, none, none, none, none, none, none] ∧ Upto p H H' ∧ Dk H' p) ?_ ?_
    · walk_at "rd"
      by_cases c0 : wy = 2
      · rw [decide_eq_true c0]
        walk_at "rd"
        refine ⟨by walk_at "sz", fun b hb => ?_⟩
        have u07 := u06.trans (same_upto (same_new (o := .lst []) hb))
        have d7 := d6.upd (o := .lst []) (d6.ne hb)
        have eb := upd_same (H := H6) (a := b) (o := .lst [])
        generalize upd H6 b (.lst []) = H7 at u07 d7 eb ⊢
        have e2 := u07 _ _ n2 h2
        have w7 := hw.upto hd u07
        refine r_neNil (seq_of e2) w7 (seq_of eb) ?_
        walk_at "rd"
        have hlx : xs.length = ws.length := hw.len
        by_cases cn : ws = []
        · rw [decide_eq_true cn]
          walk_at "rd"
          exact ⟨rfl, u07, d7⟩
        · rw [decide_eq_false cn]
          have hpos : 0 < ws.length := List.length_pos_iff.mpr cn
          walk_at "rd"
          refine r_len (.inl (seq_of e2)) ?_
          walk_at "rd"
          refine ⟨p, _, rfl, d7, by omega, by omega, fun r8 H8 r80 r81 u8 d8 => ?_⟩
          have u08 := u07.trans u8
          have e2 := u08 _ _ n2 h2
          have w8 := hw.upto hd u08
          obtain ⟨y, hy⟩ : ∃ y, xs[r8.toNat]? = some y := ⟨_, List.getElem?_eq_getElem (show r8.toNat < xs.length by omega)⟩
          obtain ⟨ty, wt, rfl, hwt, hty⟩ := w8.at hy
          refine r_ixL (seq_of e2) (at_nat r80 hy) ?_
          walk_at "rd"
          refine ⟨by walk_at "sz", fun x2 hx2 => ?_⟩
          walk_at "rd"
          have s9 := same_new (o := .lst [.ref ty]) hx2
          refine r_cat (s9 _ _ e2) upd_same (by rw [List.length_cons, List.length_nil]; omega) fun x3 hx3 => ?_
          walk_at "rd"
          refine ⟨by walk_at "sz", fun t ht => ?_⟩
          have d9 := d8.upd (o := .lst [.ref ty]) (d8.ne hx2)
          have s10 := same_new (o := .lst (xs ++ [.ref ty])) hx3
          have d10 := d9.upd (o := .lst (xs ++ [.ref ty])) (d9.ne hx3)
          have n3 : x3 ≠ p := (d9.ne hx3).symm
          have u11 := (u08.trans (same_upto (s9.trans s10))).trans (same_upto (same_new (o := .tup [.ref l1, .ref x3]) ht))
          have w10 := (w8.same (s9.trans s10)).append (.cons ((s9.trans s10) _ _ hty) .nil)
          refine q t l1 x3 ss _ (ws ++ [(wt.1, wt.2)]) _ u11 (d10.upd (d10.ne ht)) upd_same (u11 _ _ n1 h1) (same_new ht _ _ upd_same) (w10.same (same_new ht)) n1 n3 hm (by rw [List.length_append, List.length_cons, List.length_nil]; omega) hly ?_
          refine .inr (.inr (.inl fun nd => ?_))
          exact (List.nodup_append.mp nd).2.2 wt (List.mem_of_getElem? hwt) wt (List.mem_singleton.mpr rfl) rfl
      · rw [decide_eq_false c0]
        walk_at "rd"
        exact ⟨rfl, u06, d6⟩
    rintro _ H7 ⟨rfl, u07, d7⟩
    clear u06 d6
    -- round about
    refine Evl.q_cut (M := fun σ H' => σ = [some (.ref p), some (.ref l1), some (.ref l2), some (.int (m : Nat)), some (.int wy), some (.int far), some (.int near), none, none, none, none, none, none, none] ∧ Upto p H H' ∧ Dk H' p) ?_ ?_
    · walk_at "rd"
      by_cases c0 : wy = 3
      · rw [decide_eq_true c0]
        walk_at "rd"
        by_cases cm : (1 : Int) < (m : Int)
        · rw [decide_eq_true cm]
          walk_at "rd"
          refine ⟨p, _, rfl, d7, by omega, by omega, fun at_ H8 at0 at1 u8 d8 => ?_⟩
          obtain ⟨k, rfl⟩ : ∃ k : Nat, at_ = (k : Int) := ⟨at_.toNat, by omega⟩
          walk_at "rd"
          refine r_lcR ?_
          walk_at "rd"
          refine ⟨p, _, rfl, d8, by omega, by omega, fun r9 H9 r90 r91 u9 d9 => ?_⟩
          obtain ⟨n, hn⟩ : ∃ n : Nat, 2 + r9 = (n : Int) := ⟨(2 + r9).toNat, by omega⟩
          walk_at "rd"
          refine r_lcR1 (m := n) hn (by omega) ?_
          have hn2 : 2 ≤ n := by omega
          have hnm : n ≤ m := by omega
          have u09 := (u07.trans u8).trans u9
          refine lcR_map (fun i => V.int (((k + i) % m : Nat) : Int)) (by omega) (fun _ => rfl) (fun i H' R hi s10 hR => ?_) fun D H10 hD s10 e10 => ?_
          · walk_at "rd"
            · have e : ((k : Int) + (0 + (i : Nat))) % (m : Int) = (((k + i) % m : Nat) : Int) := by
                rw [Int.zero_add, ← Int.natCast_add, ← Int.natCast_emod]
              rw [e]
              exact hR _ (Same.refl _)
            · omega
          have e10 : H10 D = some (.lst (intL (abt k m n))) := by
            rw [e10]
            unfold abt
            show _ = some (HO.lst (List.map V.int (List.map _ _)))
            rw [List.map_map]
            rfl
          have u10 := u09.trans (same_upto s10)
          have d10 := d9.same s10
          have e1 := u10 _ _ n1 h1
          have e2 := u10 _ _ n2 h2
          have w10 := hw.upto hd u10
          have hrl : (intL (abt k m n)).length = n := by rw [List.length_map, abt_length]
          walk_at "rd"
          refine r_lcZ ?_
          walk_at "rd"
          refine r_slL (seq_of e10) fun x1 hx1 => ?_
          have ek : (1 : Int) = ((1 : Nat) : Int) := rfl
          rw [ek, cut_drop _ (by omega)]
          walk_at "rd"
          refine r_slL (seq_of (same_new hx1 _ _ e10)) fun x2 hx2 => ?_
          rw [cut_take _ (by omega)]
          have ld : ((intL (abt k m n)).drop 1).length = n - 1 := by rw [List.length_drop, hrl]
          have lt : ((intL (abt k m n)).take 1).length = 1 := by rw [List.length_take, hrl]; omega
          refine r_cat (by rw [upd_ne (ne_of_none upd_same hx2)]; exact upd_same) upd_same (by rw [ld, lt]; omega) fun x3 hx3 => ?_
          have s11 := ((same_new (o := .lst ((intL (abt k m n)).drop 1)) hx1).trans (same_new (o := .lst ((intL (abt k m n)).take 1)) hx2)).trans (same_new (o := .lst ((intL (abt k m n)).drop 1 ++ (intL (abt k m n)).take 1)) hx3)
          have e11 := upd_same (H := upd (upd H10 x1 (.lst ((intL (abt k m n)).drop 1))) x2 (.lst ((intL (abt k m n)).take 1))) (a := x3) (o := .lst ((intL (abt k m n)).drop 1 ++ (intL (abt k m n)).take 1))
          generalize upd (upd (upd H10 x1 (.lst ((intL (abt k m n)).drop 1))) x2 (.lst ((intL (abt k m n)).take 1))) x3 (.lst ((intL (abt k m n)).drop 1 ++ (intL (abt k m n)).take 1)) = H11 at s11 e11 ⊢
          have ey : (intL (abt k m n)).drop 1 ++ (intL (abt k m n)).take 1 = intL ((abt k m n).drop 1 ++ (abt k m n).take 1) := by
            show List.drop 1 (List.map V.int _) ++ List.take 1 (List.map V.int _) = List.map V.int _
            rw [List.map_append, List.map_drop, List.map_take]
          rw [ey] at e11
          have u11 := u10.trans (same_upto s11)
          have d11 := d10.same s11
          have e2 := s11 _ _ e2
          have w11 := w10.same s11
          have hly2 : ((abt k m n).drop 1 ++ (abt k m n).take 1).length = n := by
            rw [List.length_append, List.length_drop, List.length_take, abt_length]
            omega
          walk_at "rd"
          refine ⟨D, x3, _, _, rfl, seq_of (s11 _ _ e10), seq_of e11, ?_⟩
          refine lcZ (fun w => !decide (w ∈ ws)) (by rw [abt_length, hly2]) (by rw [abt_length]; omega) (seq_of (s11 _ _ e10)) (seq_of e11) (fun _ => rfl) (fun wv T2 H' R s12 hT hR => ?_) (fun T2 H' R hR => ?_) fun D2 H12 zs hD2 s12 e12 w12 => ?_
          · walk_at "rd"
            refine r_notInP hT (seq_of (s12 _ _ e2)) (w11.same s12) ?_
            walk_at "rd"
            exact hR
          · walk_at "rd"
            exact hR
          walk_at "rd"
          have hlx : xs.length = ws.length := hw.len
          have hzl : zs.length ≤ n := by
            have h1 := w12.len
            have h2 := List.length_filter_le (fun w => !decide (w ∈ ws)) ((abt k m n).zip ((abt k m n).drop 1 ++ (abt k m n).take 1))
            rw [List.length_zip, abt_length, hly2] at h2
            omega
          refine r_cat (s12 _ _ e2) e12 (by omega) fun x4 hx4 => ?_
          walk_at "rd"
          refine ⟨by walk_at "sz", fun t ht => ?_⟩
          have d12 := d11.same s12
          have s13 := same_new (o := .lst (xs ++ zs)) hx4
          have d13 := d12.upd (o := .lst (xs ++ zs)) (d12.ne hx4)
          have n4 : x4 ≠ p := (d12.ne hx4).symm
          have u14 := ((u11.trans (same_upto s12)).trans (same_upto s13)).trans (same_upto (same_new (o := .tup [.ref l1, .ref x4]) ht))
          have w13 := (w11.same (s12.trans s13)).append (w12.same s13)
          refine q t l1 x4 ss _ _ _ u14 (d13.upd (d13.ne ht)) upd_same (u14 _ _ n1 h1) (same_new ht _ _ upd_same) (w13.same (same_new ht)) n1 n4 hm ?_ hly ?_
          · rw [List.length_append, ← w12.len]
            omega
          · refine .inr (.inr (.inr ?_))
            rw [hm]
            exact cyc_abt ws hn2 (by omega)
        · rw [decide_eq_false cm]
          walk_at "rd"
          exact ⟨rfl, u07, d7⟩
      · rw [decide_eq_false c0]
        walk_at "rd"
        exact ⟨rfl, u07, d7⟩
    rintro _ H8 ⟨rfl, u08, d8⟩
    clear u07 d7
    -- a way that is none
    walk_at "rd"
    have g0 : Same H8 H8 := Same.refl _
    refine ⟨by walk_at "sz", fun a1 ha1 => ?_⟩
    have s21 := same_new (H := H8) (o := .tup [V.int ((m : Int) + far), V.int (-2)]) ha1
    have fa1 : upd H8 a1 (.tup [V.int ((m : Int) + far), V.int (-2)]) a1 = some (.tup [V.int ((m : Int) + far), V.int (-2)]) := upd_same
    generalize upd H8 a1 (.tup [V.int ((m : Int) + far), V.int (-2)]) = G1 at s21 fa1 ⊢
    walk_at "rd"
    refine ⟨by walk_at "sz", fun a2 ha2 => ?_⟩
    have s22 := same_new (H := G1) (o := .tup [V.int (-1), V.int ((m : Int) + far)]) ha2
    have fa2 : upd G1 a2 (.tup [V.int (-1), V.int ((m : Int) + far)]) a2 = some (.tup [V.int (-1), V.int ((m : Int) + far)]) := upd_same
    generalize upd G1 a2 (.tup [V.int (-1), V.int ((m : Int) + far)]) = G2 at s22 fa2 ⊢
    walk_at "rd"
    refine ⟨by walk_at "sz", fun a3 ha3 => ?_⟩
    have s23 := same_new (H := G2) (o := .tup [V.int near, V.int ((m : Int) + far)]) ha3
    have fa3 : upd G2 a3 (.tup [V.int near, V.int ((m : Int) + far)]) a3 = some (.tup [V.int near, V.int ((m : Int) + far)]) := upd_same
    generalize upd G2 a3 (.tup [V.int near, V.int ((m : Int) + far)]) = G3 at s23 fa3 ⊢
    walk_at "rd"
    refine ⟨by walk_at "sz", fun a4 ha4 => ?_⟩
    have s24 := same_new (H := G3) (o := .tup [V.int (-2 - far), V.int (-2)]) ha4
    have fa4 : upd G3 a4 (.tup [V.int (-2 - far), V.int (-2)]) a4 = some (.tup [V.int (-2 - far), V.int (-2)]) := upd_same
    generalize upd G3 a4 (.tup [V.int (-2 - far), V.int (-2)]) = G4 at s24 fa4 ⊢
    walk_at "rd"
    refine ⟨by walk_at "sz", fun a5 ha5 => ?_⟩
    have s25 := same_new (H := G4) (o := .tup [V.int near, V.int (-3 - far)]) ha5
    have fa5 : upd G4 a5 (.tup [V.int near, V.int (-3 - far)]) a5 = some (.tup [V.int near, V.int (-3 - far)]) := upd_same
    generalize upd G4 a5 (.tup [V.int near, V.int (-3 - far)]) = G5 at s25 fa5 ⊢
    walk_at "rd"
    refine ⟨by walk_at "sz", fun a6 ha6 => ?_⟩
    have s26 := same_new (H := G5) (o := .tup [V.int near, V.int (-1)]) ha6
    have fa6 : upd G5 a6 (.tup [V.int near, V.int (-1)]) a6 = some (.tup [V.int near, V.int (-1)]) := upd_same
    generalize upd G5 a6 (.tup [V.int near, V.int (-1)]) = G6 at s26 fa6 ⊢
    walk_at "rd"
    refine ⟨by walk_at "sz", fun b1 hb1 => ?_⟩
    have s27 := same_new (H := G6) (o := .lst [V.ref a1, V.ref a2, V.ref a3, V.ref a4, V.ref a5, V.ref a6]) hb1
    have fb1 : upd G6 b1 (.lst [V.ref a1, V.ref a2, V.ref a3, V.ref a4, V.ref a5, V.ref a6]) b1 = some (.lst [V.ref a1, V.ref a2, V.ref a3, V.ref a4, V.ref a5, V.ref a6]) := upd_same
    generalize upd G6 b1 (.lst [V.ref a1, V.ref a2, V.ref a3, V.ref a4, V.ref a5, V.ref a6]) = G7 at s27 fb1 ⊢
    walk_at "rd"
    refine ⟨by walk_at "sz", fun a7 ha7 => ?_⟩
    have s28 := same_new (H := G7) (o := .tup [V.int (-2), V.int near]) ha7
    have fa7 : upd G7 a7 (.tup [V.int (-2), V.int near]) a7 = some (.tup [V.int (-2), V.int near]) := upd_same
    generalize upd G7 a7 (.tup [V.int (-2), V.int near]) = G8 at s28 fa7 ⊢
    walk_at "rd"
    refine ⟨by walk_at "sz", fun a8 ha8 => ?_⟩
    have s29 := same_new (H := G8) (o := .tup [V.int (-2), V.int (-2)]) ha8
    have fa8 : upd G8 a8 (.tup [V.int (-2), V.int (-2)]) a8 = some (.tup [V.int (-2), V.int (-2)]) := upd_same
    generalize upd G8 a8 (.tup [V.int (-2), V.int (-2)]) = G9 at s29 fa8 ⊢
    walk_at "rd"
    refine ⟨by walk_at "sz", fun a9 ha9 => ?_⟩
    have s30 := same_new (H := G9) (o := .tup [V.int (-2), V.int (-1)]) ha9
    have fa9 : upd G9 a9 (.tup [V.int (-2), V.int (-1)]) a9 = some (.tup [V.int (-2), V.int (-1)]) := upd_same
    generalize upd G9 a9 (.tup [V.int (-2), V.int (-1)]) = G10 at s30 fa9 ⊢
    walk_at "rd"
    refine ⟨by walk_at "sz", fun a10 ha10 => ?_⟩
    have s31 := same_new (H := G10) (o := .tup [V.int ((m : Int) + far), V.int near]) ha10
    have fa10 : upd G10 a10 (.tup [V.int ((m : Int) + far), V.int near]) a10 = some (.tup [V.int ((m : Int) + far), V.int near]) := upd_same
    generalize upd G10 a10 (.tup [V.int ((m : Int) + far), V.int near]) = G11 at s31 fa10 ⊢
    walk_at "rd"
    refine ⟨by walk_at "sz", fun a11 ha11 => ?_⟩
    have s32 := same_new (H := G11) (o := .tup [V.int (-3 - far), V.int near]) ha11
    have fa11 : upd G11 a11 (.tup [V.int (-3 - far), V.int near]) a11 = some (.tup [V.int (-3 - far), V.int near]) := upd_same
    generalize upd G11 a11 (.tup [V.int (-3 - far), V.int near]) = G12 at s32 fa11 ⊢
    walk_at "rd"
    refine ⟨by walk_at "sz", fun b2 hb2 => ?_⟩
    have s33 := same_new (H := G12) (o := .lst [V.ref a7, V.ref a8, V.ref a9, V.ref a10, V.ref a11]) hb2
    have fb2 : upd G12 b2 (.lst [V.ref a7, V.ref a8, V.ref a9, V.ref a10, V.ref a11]) b2 = some (.lst [V.ref a7, V.ref a8, V.ref a9, V.ref a10, V.ref a11]) := upd_same
    generalize upd G12 b2 (.lst [V.ref a7, V.ref a8, V.ref a9, V.ref a10, V.ref a11]) = G13 at s33 fb2 ⊢
    walk_at "rd"
    have g13 : Same G13 G13 := Same.refl _
    have g12 : Same G12 G13 := s33.trans g13
    have g11 : Same G11 G13 := s32.trans g12
    have g10 : Same G10 G13 := s31.trans g11
    have g9 : Same G9 G13 := s30.trans g10
    have g8 : Same G8 G13 := s29.trans g9
    have g7 : Same G7 G13 := s28.trans g8
    have g6 : Same G6 G13 := s27.trans g7
    have g5 : Same G5 G13 := s26.trans g6
    have g4 : Same G4 G13 := s25.trans g5
    have g3 : Same G3 G13 := s24.trans g4
    have g2 : Same G2 G13 := s23.trans g3
    have g1 : Same G1 G13 := s22.trans g2
    have gg : Same H8 G13 := s21.trans g1
    have fa1 := g1 _ _ fa1
    have fa2 := g2 _ _ fa2
    have fa3 := g3 _ _ fa3
    have fa4 := g4 _ _ fa4
    have fa5 := g5 _ _ fa5
    have fa6 := g6 _ _ fa6
    have fb1 := g7 _ _ fb1
    have fa7 := g8 _ _ fa7
    have fa8 := g9 _ _ fa8
    have fa9 := g10 _ _ fa9
    have fa10 := g11 _ _ fa10
    have fa11 := g12 _ _ fa11
    have fb2 := g13 _ _ fb2
    have wl : Wl G13 [V.ref a1, V.ref a2, V.ref a3, V.ref a4, V.ref a5, V.ref a6, V.ref a7, V.ref a8, V.ref a9, V.ref a10, V.ref a11] [((m : Int) + far, -2), (-1, (m : Int) + far), (near, (m : Int) + far), (-2 - far, -2), (near, -3 - far), (near, -1), (-2, near), (-2, -2), (-2, -1), ((m : Int) + far, near), (-3 - far, near)] := (.cons fa1 (.cons fa2 (.cons fa3 (.cons fa4 (.cons fa5 (.cons fa6 (.cons fa7 (.cons fa8 (.cons fa9 (.cons fa10 (.cons fa11 .nil)))))))))))
    refine r_cat fb1 fb2 (by simp only [List.length_cons, List.length_nil]; omega) fun b3 hb3 => ?_
    have fb3 : upd G13 b3 (.lst ([V.ref a1, V.ref a2, V.ref a3, V.ref a4, V.ref a5, V.ref a6] ++ [V.ref a7, V.ref a8, V.ref a9, V.ref a10, V.ref a11])) b3 = some (.lst [V.ref a1, V.ref a2, V.ref a3, V.ref a4, V.ref a5, V.ref a6, V.ref a7, V.ref a8, V.ref a9, V.ref a10, V.ref a11]) := upd_same
    have s40 := same_new (H := G13) (o := .lst ([V.ref a1, V.ref a2, V.ref a3, V.ref a4, V.ref a5, V.ref a6] ++ [V.ref a7, V.ref a8, V.ref a9, V.ref a10, V.ref a11])) hb3
    generalize upd G13 b3 (.lst ([V.ref a1, V.ref a2, V.ref a3, V.ref a4, V.ref a5, V.ref a6] ++ [V.ref a7, V.ref a8, V.ref a9, V.ref a10, V.ref a11])) = G at s40 fb3 ⊢
    walk_at "rd"
    have u09 := u08.trans (same_upto (gg.trans s40))
    have d9 := d8.same (gg.trans s40)
    refine ⟨p, _, rfl, d9, by omega, by omega, fun ri H9 r0 r1 u9 d10 => ?_⟩
    have u10 := u09.trans u9
    have nb3 : b3 ≠ p := fun z => by
      obtain ⟨dd, _, hdd⟩ := d9
      rw [z, hdd] at fb3
      cases fb3
    have fb3 := u9 _ _ nb3 fb3
    have w9 := (wl.same s40).upto d9 u9
    obtain ⟨y, hy⟩ : ∃ y, [V.ref a1, V.ref a2, V.ref a3, V.ref a4, V.ref a5, V.ref a6, V.ref a7, V.ref a8, V.ref a9, V.ref a10, V.ref a11][ri.toNat]? = some y := ⟨_, List.getElem?_eq_getElem (show ri.toNat < 11 by omega)⟩
    obtain ⟨ty, wt, rfl, hwt, hty⟩ := w9.at hy
    refine r_ixL (seq_of fb3) (at_nat r0 hy) ?_
    walk_at "rd"
    refine ⟨by walk_at "sz", fun x2 hx2 => ?_⟩
    walk_at "rd"
    have e2 := u10 _ _ n2 h2
    have w10 := hw.upto hd u10
    have hlx : xs.length = ws.length := hw.len
    have s9 := same_new (o := .lst [.ref ty]) hx2
    refine r_cat (s9 _ _ e2) upd_same (by rw [List.length_cons, List.length_nil]; omega) fun x3 hx3 => ?_
    walk_at "rd"
    refine ⟨by walk_at "sz", fun t ht => ?_⟩
    have d11 := d10.upd (o := .lst [.ref ty]) (d10.ne hx2)
    have s10 := same_new (o := .lst (xs ++ [.ref ty])) hx3
    have d12 := d11.upd (o := .lst (xs ++ [.ref ty])) (d11.ne hx3)
    have n3 : x3 ≠ p := (d11.ne hx3).symm
    have u12 := (u10.trans (same_upto (s9.trans s10))).trans (same_upto (same_new (o := .tup [.ref l1, .ref x3]) ht))
    have w12 := (w10.same (s9.trans s10)).append (.cons ((s9.trans s10) _ _ hty) .nil)
    refine q t l1 x3 ss _ (ws ++ [(wt.1, wt.2)]) _ u12 (d12.upd (d12.ne ht)) upd_same (u12 _ _ n1 h1) (same_new ht _ _ upd_same) (w12.same (same_new ht)) n1 n3 hm (by rw [List.length_append, List.length_cons, List.length_nil]; omega) hly ?_
    refine .inr (.inl ⟨(wt.1, wt.2), List.mem_append_right _ (List.mem_singleton.mpr rfl), ?_⟩)
    rw [hm]
    have hmem := List.mem_of_getElem? hwt
    simp only [List.mem_cons, List.not_mem_nil, or_false] at hmem
    rcases hmem with rfl | rfl | rfl | rfl | rfl | rfl | rfl | rfl | rfl | rfl | rfl
    all_goals refine wayB_no fun h => ?_
    all_goals dsimp only at h
    all_goals omega

def spLaw (K : PySem.W.Frag) : Sp := fun vs H Q _ => ∃ (a : Addr) (ns : List Int), vs = [.ref a] ∧ SqL K H a (ns.map V.int) ∧ ns.length ≤ 63 ∧ ∀ H', Q (.bl true) H'
theorem ok_law (T : Top K mg) {f : Addr} {fd : FuncData} (F : Fun K "law" "law" s_law f fd) : FnOk P w K mg base CX0 5 f fd ["script"] (spLaw K) := by
  have C__law_take : Cal P w K mg base CX0 1 "_law_take" _ _ := ok_take T
  have C__law_deck : Cal P w K mg base CX0 2 "_law_deck" _ _ := ok_deck T
  have C__law_net : Cal P w K mg base CX0 2 "_law_net" _ _ := ok_lnet T
  have C_net_of : Cal P w K mg base CX0 3 "net_of" _ _ := ok_net T
  have C__law_spoilt : Cal P w K mg base CX0 2 "_law_spoilt" _ _ := ok_spoilt T
  have C__law_refused : Cal P w K mg base CX0 4 "_law_refused" _ _ := ok_refused T
  refine F.ok sc_law (fun vs H Q E h => ?_) (fun cdv A outer s H vs Q E hr h => ?_)
  · obtain ⟨a, ns, rfl, _⟩ := h
    rfl
  · obtain ⟨a, ns, rfl, hS, hlen, q⟩ := h
    refine ⟨_, (pss_cons (ps_for PassesOwn.never rfl (piL K (by rfl) (pe_op op_cat (pe_lst (pa_cons (pe_op op_pow pe_int pe_int) pa_nil)) (pslL K (by rfl) (pv 0) po_none (po_some pe_int)))) (pg_name (i := 1) sc_law.nd rfl (by first | exact Or.inl rfl | exact Or.inr rfl)) (pss_cons (ps_set (i := 2) sc_law.nd rfl (by first | exact Or.inl rfl | exact Or.inr rfl) (pe_cal C__law_deck (hr.mono (by first | decide | omega)) pass0 (pa_cons (pv 1) pa_nil)))
      (pss_cons (ps_asg (pe_cal C__law_net (hr.mono (by first | decide | omega)) pass0 (pa_cons (pv 2) (pa_cons pe_int pa_nil))) (pgT K (by rfl) (by rfl) (pgs_cons (pg_name (i := 3) sc_law.nd rfl (by first | exact Or.inl rfl | exact Or.inr rfl)) (pgs_cons (pg_name (i := 4) sc_law.nd rfl (by first | exact Or.inl rfl | exact Or.inr rfl)) pgs_nil))))
      (Evl.pss_cut (ps_if (pt_cmpR op_eq (pe_cal C__law_take (hr.mono (by first | decide | omega)) pass0 (pa_cons (pv 2) (pa_cons pe_int pa_nil))) pe_int (nomark _)) (pss_one (ps_set (i := 4) sc_law.nd rfl (by first | exact Or.inl rfl | exact Or.inr rfl) (peRevL K (by rfl) (pv 4)))) pss_nil)
      (pss_cons (ps_for PassesOwn.never rfl (pi_range1 (by rfl) T.b_range (pa_cons pe_int pa_nil)) (pg_name (i := 5) sc_law.nd rfl (by first | exact Or.inl rfl | exact Or.inr rfl)) (pss_cons (ps_set (i := 6) sc_law.nd rfl (by first | exact Or.inl rfl | exact Or.inr rfl) (pe_cal C__law_spoilt (hr.mono (by first | decide | omega)) pass0 (pa_cons (pv 2) (pa_cons (pv 3) (pa_cons (pv 4) pa_nil)))))
      (Evl.pss_cut (ps_if (pt_cmpR op_eq (pe_cal C__law_take (hr.mono (by first | decide | omega)) pass0 (pa_cons (pv 2) (pa_cons pe_int pa_nil))) pe_int (nomark _)) (pss_one (ps_set (i := 6) sc_law.nd rfl (by first | exact Or.inl rfl | exact Or.inr rfl) (pe_cal C__law_spoilt (hr.mono (by first | decide | omega)) pass0 (pa_cons (pv 2) (pa_cons (pixT K (by rfl) (pv 6) pe_int (fun _ _ => rfl)) (pa_cons (pixT K (by rfl) (pv 6) pe_int (fun _ _ => rfl)) pa_nil)))))) pss_nil)
      (pss_cons (ps_set (i := 7) sc_law.nd rfl (by first | exact Or.inl rfl | exact Or.inr rfl) (pe_tup (pa_cons (pe_callTy (crLst K (by rfl)) (by rfl) T.b_list (by decide +kernel) (pa_cons (pixT K (by rfl) (pv 6) pe_int (fun _ _ => rfl)) pa_nil)) (pa_cons (pe_callTy (crLst K (by rfl)) (by rfl) T.b_list (by decide +kernel) (pa_cons (pixT K (by rfl) (pv 6) pe_int (fun _ _ => rfl)) pa_nil)) pa_nil))))
      (pss_one (ps_if (PW.pt (pw_or (pt_not (pt_val (pe_cal C__law_refused (hr.mono (by first | decide | omega)) pass0 (pa_cons (pixT K (by rfl) (pv 7) pe_int (fun _ _ => rfl)) (pa_cons (pixT K (by rfl) (pv 7) pe_int (fun _ _ => rfl)) pa_nil))))) (pw_or1 (pt_cmpR (opNeD K (by rfl) (hu64 hr)) (pv 7) (pe_tup (pa_cons (pixT K (by rfl) (pv 6) pe_int (fun _ _ => rfl)) (pa_cons (pixT K (by rfl) (pv 6) pe_int (fun _ _ => rfl)) pa_nil))) (nomark _))))) (pss_one (ps_ret pe_bl)) pss_nil))))))
      (pss_one (ps_if (pt_cmpR (opNeD K (by rfl) (hu64 hr)) (pe_cal C_net_of (hr.mono (by first | decide | omega)) pass0 (pa_cons (pv 3) (pa_cons (pv 4) pa_nil))) (pe_tup (pa_cons (pv 3) (pa_cons (pe_callB (crSrtP K (by rfl)) (by rfl) T.b_sorted (by decide +kernel) (pa_cons (pv 4) pa_nil)) pa_nil))) (nomark _)) (pss_one (ps_ret pe_bl)) pss_nil)))))))
      (pss_one (ps_ret pe_bl))), ?_⟩
    refine r_st (σ' := [some (.ref a), none, none, none, none, none, none, none]) rfl ?_
    refine r_seq ?_
    refine r_forL ?_
    walk_at "rd"
    · refine ⟨by walk_at "sz", fun b hb => ?_⟩
      walk_at "rd"
      refine r_slL ((same_new hb).seq hS) fun c hc => ?_
      obtain ⟨cs, hcs⟩ := cut_ints ns none (some 20)
      rw [hcs]
      have hcs2 : cs.length ≤ 63 := by
        have := cutV_length (intL ns) none (some 20)
        rw [hcs, List.length_map, List.length_map] at this
        omega
      refine r_cat (by rw [upd_ne (ne_of_none upd_same hc)]; exact upd_same) upd_same (by rw [List.length_map, List.length_cons, List.length_nil]; omega) fun L hL => ?_
      walk_at "rd"
      have s0 : Same H _ := ((same_new hb).trans (same_new hc)).trans (same_new (o := .lst ([V.int (10 ^ Int.toNat 18)] ++ intL cs)) hL)
      generalize hH1 : upd (upd (upd H b (.lst [V.int (10 ^ Int.toNat 18)])) c (.lst (intL cs))) L (.lst ([V.int (10 ^ Int.toNat 18)] ++ intL cs)) = H1 at s0 ⊢
      have eL : H1 L = some (.lst (intL (10 ^ Int.toNat 18 :: cs))) := by
        rw [← hH1, upd_same]
        rfl
      refine r_forL1 (xs := intL (10 ^ Int.toNat 18 :: cs)) (seq_of eL) (fun i σ H' => (∃ v1 v2 v3 v4 v5 v6 v7 : Option V, σ = [some (.ref a), v1, v2, v3, v4, v5, v6, v7]) ∧ Same H1 H')
        ⟨⟨_, _, _, _, _, _, _, rfl⟩, Same.refl _⟩ (fun i σ H' _ p => seq_of (p.2 _ _ eL)) ?_ ?_
      · rintro i x σ H3 hi ⟨⟨v1, v2, v3, v4, v5, v6, v7, rfl⟩, s3⟩
        obtain ⟨z, hz, rfl⟩ := int_at hi
        walk_at "rd"
        refine ⟨_, rfl, fun p H4 np s4 d4 => ?_⟩
        have np1 : H1 p = none := s3.free np
        have s14 := s3.trans s4
        walk_at "rd"
        refine ⟨p, 6, rfl, d4, by omega, fun t s' w' ss xs ws H5 ht hs' hw' nsw u5 d5 e5 es5 ew5 hw5 hss hwd hwy hnd hac hsrt hfew => ?_⟩
        have s15 := same_of_upto s14 np1 u5
        have nsp : s' ≠ p := (d4.ne hs').symm
        have nwp : w' ≠ p := (d4.ne hw').symm
        walk_at "rd"
        refine r_gTup2 (tup_of e5) ?_
        walk_at "rd"
        have hly : ∀ s ∈ ss, lay s := fun s hs => lay_word (hwd s hs)
        -- turned about, or not
        refine Evl.q_cut (M := fun σ H' => ∃ (w2 : Addr) (xs2 : List V) (ws2 : List (Int × Int)), σ = [some (.ref a), some (.int z), some (.ref p), some (.ref s'), some (.ref w2), v5, v6, v7] ∧ w2 ≠ p ∧ Upto p H5 H' ∧ Dk H' p ∧ H' w2 = some (.lst xs2) ∧ Wl H' xs2 ws2 ∧ ws2.Perm ws) ?_ ?_
        · walk_at "rd"
          refine ⟨p, _, rfl, d5, by omega, by omega, fun r6 H6 r60 r61 u6 d6 => ?_⟩
          have ew6 := u6 _ _ nwp ew5
          have hw6 := hw5.upto d5 u6
          walk_at "rd"
          by_cases h6 : r6 = 0
          · rw [decide_eq_true h6]
            walk_at "rd"
            refine r_revL ?_
            walk_at "rd"
            refine ⟨w', xs, rfl, seq_of ew6, fun w2 hw2 => ?_⟩
            obtain ⟨us, hus, pus⟩ := hw6.perm (List.reverse_perm xs).symm
            walk_at "rd"
            exact ⟨w2, _, us, rfl, (d6.ne hw2).symm, u6.trans (same_upto (same_new hw2)), d6.upd (d6.ne hw2), upd_same, hus.same (same_new hw2), pus⟩
          · rw [decide_eq_false h6]
            walk_at "rd"
            exact ⟨w', xs, ws, rfl, nwp, u6, d6, ew6, hw6, .refl _⟩
        rintro _ H6 ⟨w2, xs2, ws2, rfl, nw2, u6, d6, ew6, hw6, pm⟩
        have es6 := u6 _ _ nsp es5
        have hl2 := pm.length_eq
        have hlx : xs2.length = ws2.length := hw6.len
        refine r_seq ?_
        refine r_forR1 ?_
        walk_at "rd"
        refine r_rng1 (m := 3) rfl (by omega) (fun i σ H' => (∃ v5 v6 v7 : Option V, σ = [some (.ref a), some (.int z), some (.ref p), some (.ref s'), some (.ref w2), v5, v6, v7]) ∧ Upto p H6 H' ∧ Dk H' p) ⟨⟨_, _, _, rfl⟩, Upto.refl _ _, d6⟩ ?_ ?_
        · rintro i7 σ H7 hi7 ⟨⟨v5, v6, v7, rfl⟩, u7, d7⟩
          have es7 := u7 _ _ nsp es6
          have ew7 := u7 _ _ nw2 ew6
          have hw7 := hw6.upto d6 u7
          walk_at "rd"
          refine ⟨p, s', w2, ss, xs2, ws2, rfl, d7, es7, ew7, hw7, nsp, nw2, by omega, by omega, hly, fun t2 sA wA ssA xsA wsA H8 u8 d8 e8 esA ewA hwA nsA nwA lA lwA lyA badA => ?_⟩
          have u68 := u7.trans u8
          have nt2 : t2 ≠ p := fun z => by
            obtain ⟨dd, _, hdd⟩ := d8
            rw [z, hdd] at e8
            cases e8
          walk_at "rd"
          -- once more, or not
          refine Evl.q_cut (M := fun σ H' => ∃ (t3 sB wB : Addr) (ssB : List Str) (xsB : List V) (wsB : List (Int × Int)), σ = [some (.ref a), some (.int z), some (.ref p), some (.ref s'), some (.ref w2), some (.int (i7 : Nat)), some (.ref t3), v7] ∧ Upto p H6 H' ∧ Dk H' p ∧ H' t3 = some (.tup [.ref sB, .ref wB]) ∧ H' sB = some (.lst (ssB.map V.str)) ∧ H' wB = some (.lst xsB) ∧ Wl H' xsB wsB ∧
              ssB.length ≤ 6 ∧ wsB.length < 64 ∧ (∀ s ∈ ssB, lay s) ∧ Bad ssB wsB) ?_ ?_
          · walk_at "rd"
            refine ⟨p, _, rfl, d8, by omega, by omega, fun r9 H9 r90 r91 u9 d9 => ?_⟩
            have u69 := u68.trans u9
            have e9 := u9 _ _ nt2 e8
            have esA9 := u9 _ _ nsA esA
            have ewA9 := u9 _ _ nwA ewA
            have hwA9 := hwA.upto d8 u9
            walk_at "rd"
            by_cases h9 : r9 = 0
            · rw [decide_eq_true h9]
              walk_at "rd"
              refine r_ixT (tup_of e9) at0 ?_
              walk_at "rd"
              refine r_ixT (tup_of e9) (atI_nat (j := 1) rfl) ?_
              walk_at "rd"
              refine ⟨p, sA, wA, ssA, xsA, wsA, rfl, d9, esA9, ewA9, hwA9, nsA, nwA, by omega, by omega, lyA, fun t3 sB wB ssB xsB wsB H10 u10 d10 e10 esB ewB hwB nsB nwB lB lwB lyB badB => ?_⟩
              walk_at "rd"
              exact ⟨t3, sB, wB, ssB, xsB, wsB, rfl, u69.trans u10, d10, e10, esB, ewB, hwB, by omega, by omega, lyB, badB⟩
            · rw [decide_eq_false h9]
              walk_at "rd"
              exact ⟨t2, sA, wA, ssA, xsA, wsA, rfl, u69, d9, e9, esA9, ewA9, hwA9, by omega, by omega, lyA, badA⟩
          rintro _ H9 ⟨t3, sB, wB, ssB, xsB, wsB, rfl, u9, d9, e9, esB, ewB, hwB, lB, lwB, lyB, badB⟩
          walk_at "rd"
          refine r_ixT (tup_of e9) at0 ?_
          walk_at "rd"
          refine r_lst1 (.inl (seq_of esB)) fun ha hha => ?_
          walk_at "rd"
          refine r_ixT (tup_of (same_new hha _ _ e9)) (atI_nat (j := 1) rfl) ?_
          walk_at "rd"
          refine r_lst1 (.inl (seq_of (same_new hha _ _ ewB))) fun hb2 hhb => ?_
          walk_at "rd"
          refine ⟨by walk_at "sz", fun hh hhh => ?_⟩
          have s10 : Same H9 _ := ((same_new (o := .lst (ssB.map V.str)) hha).trans (same_new (o := .lst xsB) hhb)).trans (same_new (o := .tup [.ref ha, .ref hb2]) hhh)
          have eha := same_new (o := .tup [.ref ha, .ref hb2]) hhh _ _ (same_new (o := .lst xsB) hhb ha (.lst (ssB.map V.str)) upd_same)
          have ehb := same_new (o := .tup [.ref ha, .ref hb2]) hhh hb2 (.lst xsB) upd_same
          have ehh := upd_same (H := upd (upd H9 ha (.lst (ssB.map V.str))) hb2 (.lst xsB)) (a := hh) (o := .tup [.ref ha, .ref hb2])
          generalize upd (upd (upd H9 ha (.lst (ssB.map V.str))) hb2 (.lst xsB)) hh (.tup [.ref ha, .ref hb2]) = H10 at s10 eha ehb ehh ⊢
          walk_at "rd"
          refine r_ixT (tup_of ehh) at0 ?_
          walk_at "rd"
          refine r_ixT (tup_of ehh) (atI_nat (j := 1) rfl) ?_
          walk_at "rd"
          have hwB10 := hwB.same s10
          refine ⟨ha, hb2, ssB, xsB, wsB, rfl, seq_of eha, seq_of ehb, hwB10, by omega, lwB, badB, fun H11 s11 => ?_⟩
          walk_at "rd"
          have s911 := s10.trans s11
          refine r_ixT (tup_of (s911 _ _ e9)) at0 ?_
          walk_at "rd"
          refine r_ixT (tup_of (s911 _ _ e9)) (atI_nat (j := 1) rfl) ?_
          walk_at "rd"
          refine ⟨by walk_at "sz", fun t4 ht4 => ?_⟩
          have s12 := same_new (o := .tup [.ref sB, .ref wB]) ht4
          have s912 := s911.trans s12
          have s1012 := s11.trans s12
          refine r_neSame (dp_net (s1012 _ _ ehh) (seq_of (s1012 _ _ eha)) (seq_of (s1012 _ _ ehb)) (hwB10.same s1012)) (dp_net upd_same (seq_of (s912 _ _ esB)) (seq_of (s912 _ _ ewB)) (hwB.same s912)) (shaped_net2 lyB wsB) ?_
          walk_at "rd"
          exact ⟨⟨_, _, _, rfl⟩, u9.trans (same_upto s912), d9.same s912⟩
        · rintro σ H7 ⟨⟨v5, v6, v7, rfl⟩, u7, d7⟩
          have es7 := u7 _ _ nsp es6
          have ew7 := u7 _ _ nw2 ew6
          have hw7 := hw6.upto d6 u7
          walk_at "rd"
          refine ⟨s', w2, ss, xs2, ws2, rfl, seq_of es7, seq_of ew7, hw7, by omega, by omega, hwd, fun w hw => hwy w (pm.mem_iff.mp hw), pm.nodup_iff.mpr hnd, ?_, fun r rs rw' rxs rws H8 hr8 hrs8 hrw8 nrsw s8 er8 ers8 erw8 hrw hrp hrsrt => ?_⟩
          · obtain ⟨pos, hpos⟩ := hac
            exact ⟨pos, fun w hw hi => hpos w (pm.mem_iff.mp hw) hi⟩
          walk_at "rd"
          refine r_srtP (seq_of (s8 _ _ ew7)) (hw7.same s8) fun ys us w3 hy hp hsr hw3 => ?_
          walk_at "rd"
          refine ⟨by walk_at "sz", fun t4 ht4 => ?_⟩
          have hus : rws = us := sortedW_unique hrsrt hsr (hrp.trans hp.symm)
          subst hus
          have s9 := same_new (o := .lst ys) hw3
          have s10 := same_new (o := .tup [.ref s', .ref w3]) ht4
          have s810 := s9.trans s10
          refine r_neSame (dp_net (s810 _ _ er8) (seq_of (s810 _ _ ers8)) (seq_of (s810 _ _ erw8)) (hrw.same s810)) (dp_net upd_same (seq_of (s810 _ _ (s8 _ _ es7))) (seq_of (s10 _ _ upd_same)) (hy.same s810)) (shaped_net hwd rws) ?_
          walk_at "rd"
          exact ⟨⟨_, _, _, _, _, _, _, rfl⟩, (same_of_upto (same_of_upto s15 np1 u6) np1 u7).trans (s8.trans s810)⟩
      · rintro σ H2 ⟨⟨v1, v2, v3, v4, v5, v6, v7, rfl⟩, s2⟩
        walk_at "rd"
        exact q _
    all_goals walk_at "pw"

end
end K02


namespace K02
open PySem PySem.Spec PyProof.Rows L2 Px
theorem fin {P : Program} {w : World} {K : PySem.W.Frag} {mg : Str → Option Value} {h : Heap} {fa : Addr} (KX : K.In h) (hfa : mg "law" = some (.ref fa)) (T : Top K mg) :
    ∃ fd : FuncData, (∀ (s : Shared) (u : Value), BindsTo s fd ⟨[u], []⟩ [("script", u)]) ∧ ∀ base : Heap, K.In base → base.Ns mainGlobals mg → FnOk P w K mg base CX0 5 fa fd ["script"] (spLaw K) :=
  Px.law_end T.d_law (fun _ _ _ _ _ _ us hl => match us, hl with | [_], _ => rfl) (fun base f fd F => ok_law T F) hfa
end K02
open PySem PySem.W PyProof.Rows
set_option maxRecDepth 100000 in
set_option maxHeartbeats 0 in
theorem PySem.Challenge.cw_pilenets_k02_no_nets_holds : PySem.Challenge.rw_pilenets_k02_no_nets.Holds := by
  w_on; o_law; k_head; (case hw => w_witness2)
  k_fill
  refine L2.walk_of (l := PySem.Challenge.rw_pilenets_k02_no_nets) (n := 63) (k := 5) (x := "script") (CX := fun _ => L2.CX0) (sp := fun w => K02.spLaw _) rfl (by decide) rfl ⟨rfl, by decide, by decide⟩ (fun w h Y => PySem.W.kIn_of Y) ?F (fun _ _ a ns hl _ hS => ⟨a, ns, rfl, hS, hl, fun _ => rfl⟩) (fun _ _ _ _ _ h => h)
  case F =>
    intro w mg fa h KX G hmg
    refine' K02.fin KX hmg ⟨?d_net_of, ?d_is_whole, ?d_is_way, ?d_leads_round_about, ?d__law_stir, ?d__law_deck, ?d__law_take, ?d__law_net, ?d__law_spoilt, ?d__law_refused, ?d_law, ?b_len, ?b_list, ?b_sorted, ?b_set, ?b_isinstance, ?b_int, ?b_bool, ?b_tuple, ?b_range, ?b_zip, ?b_ValueError, ?c_NoNet, ?c_PileError, ?c_NoDoing, ?c_NoForm, ?c_NoMark, ?c_NoMove, ?c_NoneYet, ?c_NoNumber, ?c_NoPlace, ?c_NoRow, ?c_NoText, ?c_TooMany, ?p_NoNet_PileError, ?p_NoNet_NoDoing, ?p_NoNet_NoForm, ?p_NoNet_NoMark, ?p_NoNet_NoMove, ?p_NoNet_NoneYet, ?p_NoNet_NoNumber, ?p_NoNet_NoPlace, ?p_NoNet_NoRow, ?p_NoNet_NoText, ?p_NoNet_TooMany, ?g_PILE, ?g_LINE, ?g_IN, ?g_OUT⟩
    case d_net_of =>
      refine' Px.dfn_mk KX G ?a ?l ?c ?k
      (case a => k_is); (case l => k_is); (case c => k_is); (case k => k_is)
    case d_is_whole =>
      refine' Px.dfn_mk KX G ?a ?l ?c ?k
      (case a => k_is); (case l => k_is); (case c => k_is); (case k => k_is)
    case d_is_way =>
      refine' Px.dfn_mk KX G ?a ?l ?c ?k
      (case a => k_is); (case l => k_is); (case c => k_is); (case k => k_is)
    case d_leads_round_about =>
      refine' Px.dfn_mk KX G ?a ?l ?c ?k
      (case a => k_is); (case l => k_is); (case c => k_is); (case k => k_is)
    case d__law_stir =>
      refine' Px.dfn_mk KX G ?a ?l ?c ?k
      (case a => k_is); (case l => k_is); (case c => k_is); (case k => k_is)
    case d__law_deck =>
      refine' Px.dfn_mk KX G ?a ?l ?c ?k
      (case a => k_is); (case l => k_is); (case c => k_is); (case k => k_is)
    case d__law_take =>
      refine' Px.dfn_mk KX G ?a ?l ?c ?k
      (case a => k_is); (case l => k_is); (case c => k_is); (case k => k_is)
    case d__law_net =>
      refine' Px.dfn_mk KX G ?a ?l ?c ?k
      (case a => k_is); (case l => k_is); (case c => k_is); (case k => k_is)
    case d__law_spoilt =>
      refine' Px.dfn_mk KX G ?a ?l ?c ?k
      (case a => k_is); (case l => k_is); (case c => k_is); (case k => k_is)
    case d__law_refused =>
      refine' Px.dfn_mk KX G ?a ?l ?c ?k
      (case a => k_is); (case l => k_is); (case c => k_is); (case k => k_is)
    case d_law =>
      refine' Px.dfn_mk KX G ?a ?l ?c ?k
      (case a => k_is); (case l => k_is); (case c => k_is); (case k => k_is)
    case b_len =>
      refine' PySem.W.mg_none_of KX G ?a
      (case a => k_is)
    case b_list =>
      refine' PySem.W.mg_none_of KX G ?a
      (case a => k_is)
    case b_sorted =>
      refine' PySem.W.mg_none_of KX G ?a
      (case a => k_is)
    case b_set =>
      refine' PySem.W.mg_none_of KX G ?a
      (case a => k_is)
    case b_isinstance =>
      refine' PySem.W.mg_none_of KX G ?a
      (case a => k_is)
    case b_int =>
      refine' PySem.W.mg_none_of KX G ?a
      (case a => k_is)
    case b_bool =>
      refine' PySem.W.mg_none_of KX G ?a
      (case a => k_is)
    case b_tuple =>
      refine' PySem.W.mg_none_of KX G ?a
      (case a => k_is)
    case b_range =>
      refine' PySem.W.mg_none_of KX G ?a
      (case a => k_is)
    case b_zip =>
      refine' PySem.W.mg_none_of KX G ?a
      (case a => k_is)
    case b_ValueError =>
      refine' PySem.W.mg_none_of KX G ?a
      (case a => k_is)
    case c_NoNet =>
      refine' Px.ecls_mk KX G ?a ?ic ?ty ?kp ?sb ?sv ?se ?ex ?e1 ?e2 ?e3 ?e4 ?e5 ?e6 ?e7
      (case a => k_is); (case ic => k_is); (case ty => k_is); (case kp => k_is); (case sb => k_is); (case sv => k_is); (case se => first | rfl | k_is); (case ex => k_exc)
      (case e1 => k_is); (case e2 => k_is); (case e3 => k_is); (case e4 => k_is); (case e5 => k_is); (case e6 => k_is); (case e7 => k_is)
    case c_PileError =>
      refine' Px.ecls_mk KX G ?a ?ic ?ty ?kp ?sb ?sv ?se ?ex ?e1 ?e2 ?e3 ?e4 ?e5 ?e6 ?e7
      (case a => k_is); (case ic => k_is); (case ty => k_is); (case kp => k_is); (case sb => k_is); (case sv => k_is); (case se => first | rfl | k_is); (case ex => k_exc)
      (case e1 => k_is); (case e2 => k_is); (case e3 => k_is); (case e4 => k_is); (case e5 => k_is); (case e6 => k_is); (case e7 => k_is)
    case c_NoDoing =>
      refine' Px.ecls_mk KX G ?a ?ic ?ty ?kp ?sb ?sv ?se ?ex ?e1 ?e2 ?e3 ?e4 ?e5 ?e6 ?e7
      (case a => k_is); (case ic => k_is); (case ty => k_is); (case kp => k_is); (case sb => k_is); (case sv => k_is); (case se => first | rfl | k_is); (case ex => k_exc)
      (case e1 => k_is); (case e2 => k_is); (case e3 => k_is); (case e4 => k_is); (case e5 => k_is); (case e6 => k_is); (case e7 => k_is)
    case c_NoForm =>
      refine' Px.ecls_mk KX G ?a ?ic ?ty ?kp ?sb ?sv ?se ?ex ?e1 ?e2 ?e3 ?e4 ?e5 ?e6 ?e7
      (case a => k_is); (case ic => k_is); (case ty => k_is); (case kp => k_is); (case sb => k_is); (case sv => k_is); (case se => first | rfl | k_is); (case ex => k_exc)
      (case e1 => k_is); (case e2 => k_is); (case e3 => k_is); (case e4 => k_is); (case e5 => k_is); (case e6 => k_is); (case e7 => k_is)
    case c_NoMark =>
      refine' Px.ecls_mk KX G ?a ?ic ?ty ?kp ?sb ?sv ?se ?ex ?e1 ?e2 ?e3 ?e4 ?e5 ?e6 ?e7
      (case a => k_is); (case ic => k_is); (case ty => k_is); (case kp => k_is); (case sb => k_is); (case sv => k_is); (case se => first | rfl | k_is); (case ex => k_exc)
      (case e1 => k_is); (case e2 => k_is); (case e3 => k_is); (case e4 => k_is); (case e5 => k_is); (case e6 => k_is); (case e7 => k_is)
    case c_NoMove =>
      refine' Px.ecls_mk KX G ?a ?ic ?ty ?kp ?sb ?sv ?se ?ex ?e1 ?e2 ?e3 ?e4 ?e5 ?e6 ?e7
      (case a => k_is); (case ic => k_is); (case ty => k_is); (case kp => k_is); (case sb => k_is); (case sv => k_is); (case se => first | rfl | k_is); (case ex => k_exc)
      (case e1 => k_is); (case e2 => k_is); (case e3 => k_is); (case e4 => k_is); (case e5 => k_is); (case e6 => k_is); (case e7 => k_is)
    case c_NoneYet =>
      refine' Px.ecls_mk KX G ?a ?ic ?ty ?kp ?sb ?sv ?se ?ex ?e1 ?e2 ?e3 ?e4 ?e5 ?e6 ?e7
      (case a => k_is); (case ic => k_is); (case ty => k_is); (case kp => k_is); (case sb => k_is); (case sv => k_is); (case se => first | rfl | k_is); (case ex => k_exc)
      (case e1 => k_is); (case e2 => k_is); (case e3 => k_is); (case e4 => k_is); (case e5 => k_is); (case e6 => k_is); (case e7 => k_is)
    case c_NoNumber =>
      refine' Px.ecls_mk KX G ?a ?ic ?ty ?kp ?sb ?sv ?se ?ex ?e1 ?e2 ?e3 ?e4 ?e5 ?e6 ?e7
      (case a => k_is); (case ic => k_is); (case ty => k_is); (case kp => k_is); (case sb => k_is); (case sv => k_is); (case se => first | rfl | k_is); (case ex => k_exc)
      (case e1 => k_is); (case e2 => k_is); (case e3 => k_is); (case e4 => k_is); (case e5 => k_is); (case e6 => k_is); (case e7 => k_is)
    case c_NoPlace =>
      refine' Px.ecls_mk KX G ?a ?ic ?ty ?kp ?sb ?sv ?se ?ex ?e1 ?e2 ?e3 ?e4 ?e5 ?e6 ?e7
      (case a => k_is); (case ic => k_is); (case ty => k_is); (case kp => k_is); (case sb => k_is); (case sv => k_is); (case se => first | rfl | k_is); (case ex => k_exc)
      (case e1 => k_is); (case e2 => k_is); (case e3 => k_is); (case e4 => k_is); (case e5 => k_is); (case e6 => k_is); (case e7 => k_is)
    case c_NoRow =>
      refine' Px.ecls_mk KX G ?a ?ic ?ty ?kp ?sb ?sv ?se ?ex ?e1 ?e2 ?e3 ?e4 ?e5 ?e6 ?e7
      (case a => k_is); (case ic => k_is); (case ty => k_is); (case kp => k_is); (case sb => k_is); (case sv => k_is); (case se => first | rfl | k_is); (case ex => k_exc)
      (case e1 => k_is); (case e2 => k_is); (case e3 => k_is); (case e4 => k_is); (case e5 => k_is); (case e6 => k_is); (case e7 => k_is)
    case c_NoText =>
      refine' Px.ecls_mk KX G ?a ?ic ?ty ?kp ?sb ?sv ?se ?ex ?e1 ?e2 ?e3 ?e4 ?e5 ?e6 ?e7
      (case a => k_is); (case ic => k_is); (case ty => k_is); (case kp => k_is); (case sb => k_is); (case sv => k_is); (case se => first | rfl | k_is); (case ex => k_exc)
      (case e1 => k_is); (case e2 => k_is); (case e3 => k_is); (case e4 => k_is); (case e5 => k_is); (case e6 => k_is); (case e7 => k_is)
    case c_TooMany =>
      refine' Px.ecls_mk KX G ?a ?ic ?ty ?kp ?sb ?sv ?se ?ex ?e1 ?e2 ?e3 ?e4 ?e5 ?e6 ?e7
      (case a => k_is); (case ic => k_is); (case ty => k_is); (case kp => k_is); (case sb => k_is); (case sv => k_is); (case se => first | rfl | k_is); (case ex => k_exc)
      (case e1 => k_is); (case e2 => k_is); (case e3 => k_is); (case e4 => k_is); (case e5 => k_is); (case e6 => k_is); (case e7 => k_is)
    case p_NoNet_PileError =>
      refine' Px.esub_mk KX G ?a ?b ?s
      (case a => k_is); (case b => k_is); (case s => k_is)
    case p_NoNet_NoDoing =>
      refine' Px.esub_mk KX G ?a ?b ?s
      (case a => k_is); (case b => k_is); (case s => k_is)
    case p_NoNet_NoForm =>
      refine' Px.esub_mk KX G ?a ?b ?s
      (case a => k_is); (case b => k_is); (case s => k_is)
    case p_NoNet_NoMark =>
      refine' Px.esub_mk KX G ?a ?b ?s
      (case a => k_is); (case b => k_is); (case s => k_is)
    case p_NoNet_NoMove =>
      refine' Px.esub_mk KX G ?a ?b ?s
      (case a => k_is); (case b => k_is); (case s => k_is)
    case p_NoNet_NoneYet =>
      refine' Px.esub_mk KX G ?a ?b ?s
      (case a => k_is); (case b => k_is); (case s => k_is)
    case p_NoNet_NoNumber =>
      refine' Px.esub_mk KX G ?a ?b ?s
      (case a => k_is); (case b => k_is); (case s => k_is)
    case p_NoNet_NoPlace =>
      refine' Px.esub_mk KX G ?a ?b ?s
      (case a => k_is); (case b => k_is); (case s => k_is)
    case p_NoNet_NoRow =>
      refine' Px.esub_mk KX G ?a ?b ?s
      (case a => k_is); (case b => k_is); (case s => k_is)
    case p_NoNet_NoText =>
      refine' Px.esub_mk KX G ?a ?b ?s
      (case a => k_is); (case b => k_is); (case s => k_is)
    case p_NoNet_TooMany =>
      refine' Px.esub_mk KX G ?a ?b ?s
      (case a => k_is); (case b => k_is); (case s => k_is)
    case g_PILE =>
      apply Exists.intro
      refine' PySem.W.mg_of KX G ?a
      (case a => k_is)
    case g_LINE =>
      apply Exists.intro
      refine' PySem.W.mg_of KX G ?a
      (case a => k_is)
    case g_IN =>
      apply Exists.intro
      refine' PySem.W.mg_of KX G ?a
      (case a => k_is)
    case g_OUT =>
      apply Exists.intro
      refine' PySem.W.mg_of KX G ?a
      (case a => k_is)
