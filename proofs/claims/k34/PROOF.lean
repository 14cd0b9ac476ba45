import PyProof.Rows.All
import Wide.All
import OpenK.AllK
import Wide.FinOn
import HandS.ForMost
import HandS.ForExc
import HandS.Wide
import HandS.IsInst
import HandS.SortInts
import HandS.DictComp
import HandS.More
import HandS.Zip
import HandS.Evl
import HandS.Conv
import HandS.Rev
import KE.KDictList
import HandS.SortRule
import HandS.TupSets
import HandS.ExcIs
import HandS.ExcValue
import HandS.Deep
import HandS.Style
import HandS.TupMul
import PyProof.Rows.TupAdd
import HandS.SetFor
import HandS.TupLe
import PyProof.FitsInt
import HandS.TryOnly
import HandS.Flow
import HandS.SortKw
import HandS.RevRange
import KE.DataMinMax
import HandS.HotCalls
import KE.KDictKeyed
import KE.KDictDisplayH
import KE.KDictWalk
import HandS.Defaults
import HandS.TupLen
import HandS.Iter
import HandS.CallSlots
import PySem.Challenge.RW_pilenets_k34_doings_kept
set_option Elab.async false
set_option linter.all false
set_option maxRecDepth 100000
set_option maxHeartbeats 4000000
namespace Px
open PySem PySem.Spec PyProof.Rows L2

/-! ### defs of the text, and their promises as callees -/
structure Dfn (K : PySem.W.Frag) (mg : Str → Option Value) (x : Str) (st : Stmt) : Prop where
  ex : ∃ (f : Addr) (fd : FuncData), mg x = some (.ref f) ∧ Fun K x x st f fd
structure Cal (P : Program) (w : World) (K : PySem.W.Frag) (mg : Str → Option Value) (base : Heap) (CX : CXT) (k : Nat) (x : Str) (ps : List Str) (sp : Sp) : Prop where
  ex : ∃ (f : Addr) (fd : FuncData), FnOk P w K mg base CX k f fd ps sp ∧ mg x = some (.ref f) ∧ PySem.W.keepIn K (.ref f) = true ∧ Binds K fd ps []
section
variable {P : Program} {w : World} {K : PySem.W.Frag} {mg : Str → Option Value} {base : Heap} {CX : CXT} {k : Nat} {x : Str} {ps N : List Str} {sp sp' : Sp} {st : Stmt}
theorem Cal.of (D : Dfn K mg x st)
    (hb : ∀ (kV doc pm : Value) (an : Option Addr) (cdv ct : Value) (us : List Value), us.length = ps.length → bindArgs (PySem.W.fnOf x x (defArgs st) (defBody st) (defScope st) .none kV doc pm an cdv ct) ⟨us, []⟩ = pure (ps.zip us))
    (h : ∀ f fd, Fun K x x st f fd → FnOk P w K mg base CX k f fd ps sp) : Cal P w K mg base CX k x ps sp := by
  obtain ⟨f, fd, hm, F⟩ := D.ex
  exact ⟨f, fd, h f fd F, hm, F.kp, F.binds hb⟩
theorem Cal.imp (C : Cal P w K mg base CX k x ps sp) (h : ∀ vs H Q E, sp' vs H Q E → sp vs H Q E) : Cal P w K mg base CX k x ps sp' := by
  obtain ⟨f, fd, F, a, b, c⟩ := C.ex
  exact ⟨f, fd, ⟨fun vs H Q E q => F.len vs H Q E (h vs H Q E q), fun A o s H ar us vs Q E hr e1 e2 e3 q => F.run A o s H ar us vs Q E hr e1 e2 e3 (h vs H Q E q)⟩, a, b, c⟩
theorem Cal.no (D : Dfn K mg x st) (hb : ∀ (kV doc pm : Value) (an : Option Addr) (cdv ct : Value) (us : List Value), us.length = ps.length → bindArgs (PySem.W.fnOf x x (defArgs st) (defBody st) (defScope st) .none kV doc pm an cdv ct) ⟨us, []⟩ = pure (ps.zip us))
    (no : ∀ vs H Q E, ¬ sp vs H Q E) : Cal P w K mg base CX k x ps sp :=
  Cal.of D hb fun f fd F => ⟨fun vs H Q E h => (no _ _ _ _ h).elim, fun _ _ _ _ _ _ _ _ _ _ _ _ _ h => (no _ _ _ _ h).elim⟩
theorem Cal.mono {j : Nat} (C : Cal P w K mg base CX j x ps sp) (h : j ≤ k) : Cal P w K mg base CX k x ps sp := by
  obtain ⟨f, fd, F, a, b, c⟩ := C.ex
  exact ⟨f, fd, F.mono h, a, b, c⟩
end
theorem dfn_mk {K : PySem.W.Frag} {mg : Str → Option Value} {h : Heap} {x : Str} {st : Stmt} {f : Addr} {oc : Value} {od an : Option Addr} {osl : Array (Option Value)} {kV doc pm cdv ct : Value} (X : K.In h) (G : h.Ns mainGlobals mg)
    (a : PySem.W.nsIn K mainGlobals x = some (some (.ref f))) (l : K.lookup f = some ⟨oc, od, .func (PySem.W.fnOf x x (defArgs st) (defBody st) (defScope st) .none kV doc pm an cdv ct), osl⟩)
    (c : PySem.W.codeIn K cdv x = true) (k : PySem.W.keepIn K (.ref f) = true) : Dfn K mg x st := ⟨f, _, PySem.W.mg_of X G a, fun_mk l c k⟩
theorem law_end {P : Program} {w : World} {K : PySem.W.Frag} {mg : Str → Option Value} {CX : CXT} {k : Nat} {x : Str} {sp : Sp} {st : Stmt} {fa : Addr} (D : Dfn K mg "law" st)
    (hb : ∀ (kV doc pm : Value) (an : Option Addr) (cdv ct : Value) (us : List Value), us.length = ([x] : List Str).length → bindArgs (PySem.W.fnOf "law" "law" (defArgs st) (defBody st) (defScope st) .none kV doc pm an cdv ct) ⟨us, []⟩ = pure (([x] : List Str).zip us))
    (h : ∀ base f fd, Fun K "law" "law" st f fd → FnOk P w K mg base CX k f fd [x] sp) (hfa : mg "law" = some (.ref fa)) :
    ∃ fd : FuncData, (∀ (s : Shared) (u : Value), BindsTo s fd ⟨[u], []⟩ [(x, u)]) ∧ ∀ base : Heap, K.In base → base.Ns mainGlobals mg → FnOk P w K mg base CX k fa fd [x] sp := by
  obtain ⟨f, fd, hm, F⟩ := D.ex
  have e := hfa.symm.trans hm
  cases e
  refine ⟨fd, fun s u => ?_, fun base _ _ => h base _ _ F⟩
  obtain ⟨oc, od, kV, doc, pm, an, cdv, ct, osl, rfl, _⟩ := F.ex
  exact .of_eq (hb kV doc pm an cdv ct [u] rfl)
/-- a call of a def of the text -/
def tCal (sp : Sp) (E : XK) (t : TA) : TE := fun σ H Q => t σ H fun vs H1 => sp vs H1 Q E
section
variable {X : Cx} {CX : CXT} {k : Nat} {x : Str} {ps : List Str} {sp : Sp} {E : XK} {p pos : Pos} {e : Expr} {es : List Expr} {t : TA}
theorem pe_cal (C : Cal X.prog X.w X.K X.mg X.base CX k x ps sp) (hr : Room k X.A) (hx : Passes CX X E) (ha : PA X (e :: es) t) (hg : Gl X x := by rfl) (hdb : (x == ("__debug__" : Str)) = false := by decide)
    (he : starEach (e :: es) X.env = (false, eval e X.env) :: starEach es X.env := by rfl) (hpl : (backTo pos (starEach es X.env)).any (·.1) = false := by rfl) :
    PE X (.Call (.Name x p) (e :: es) [] pos) (tCal sp E t) := by
  obtain ⟨f, fd, F, hm, hk, hb⟩ := C.ex
  have h := pe_call (dvs := []) (pos := pos) (p := p) F hr hg hm hk hb .nil hx ha hdb he hpl
  have e2 : tCall sp [] E t = tCal sp E t := by
    funext σ H Q
    show t σ H (fun vs H1 => sp (vs ++ []) H1 Q E) = t σ H (fun vs H1 => sp vs H1 Q E)
    congr 1
    funext vs H1
    rw [List.append_nil]
  rw [e2] at h
  exact h
end

theorem mul_lt_of {a b c d : Int} (a0 : 0 ≤ a) (ab : a < b) (c0 : 0 ≤ c) (cd : c < d) : a * c < b * d := by
  have h1 : a * c ≤ a * d := Int.mul_le_mul_of_nonneg_left (Int.le_of_lt cd) a0
  have h2 : a * d < b * d := Int.mul_lt_mul_of_pos_right ab (by omega)
  omega
/-! ### readings, step by step -/
theorem r_st {t : TS} {D : Ends} {σ σ' : L2.St} {H : Hp} (e : σ = σ') (q : t D σ' H) : t D σ H := e ▸ q
theorem r_fix {A B : Prop} (h : A) (e : A = B) : B := e ▸ h
theorem iteNF {A B : Prop} (h : A) : if (!false) = true then A else B := by
  rw [if_pos (by decide)]
  exact h
theorem iteNT {A B : Prop} (h : B) : if (!true) = true then A else B := by
  rw [if_neg (by decide)]
  exact h
section
variable {σ σ' : L2.St} {H : Hp} {Q : VK} {QT : Bool → Hp → Prop} {i : Nat} {v x y : V} {te ta tb tc : TE} {t t1 t2 u c : TT} {tl : TA} {D : Ends} {n b ct : L2.St → Hp → Prop} {rt : VK} {s1 s2 : TS}
theorem r_var (h : σ[i]? = some (some v)) (q : Q v H) : tVar i σ H Q := ⟨v, h, q⟩
theorem r_c (q : Q v H) : tC v σ H Q := q
theorem r_seq (q : s1 ⟨s2 ⟨n, rt, b, ct⟩, rt, b, ct⟩ σ H) : tSeq s1 s2 ⟨n, rt, b, ct⟩ σ H := q
theorem r_next (q : n σ H) : tNext ⟨n, rt, b, ct⟩ σ H := q
theorem r_brk (q : b σ H) : tBreak ⟨n, rt, b, ct⟩ σ H := q
theorem r_cont (q : ct σ H) : tCont ⟨n, rt, b, ct⟩ σ H := q
theorem r_set (q : te σ H fun x H1 => n (σ.set i (some x)) H1) : tAsg te (gName i) ⟨n, rt, b, ct⟩ σ H := q
theorem r_asg {g : TG} (q : te σ H fun x H1 => g x σ H1 n) : tAsg te g ⟨n, rt, b, ct⟩ σ H := q
theorem r_ret (q : te σ H rt) : tRet te ⟨n, rt, b, ct⟩ σ H := q
theorem r_retN (q : rt .non H) : tRetN ⟨n, rt, b, ct⟩ σ H := q
theorem r_drop (q : te σ H fun _ H1 => n σ H1) : tDrop te ⟨n, rt, b, ct⟩ σ H := q
theorem r_if {ts tu : TS} (q : c σ H fun k H1 => if k = true then ts ⟨n, rt, b, ct⟩ σ H1 else tu ⟨n, rt, b, ct⟩ σ H1) : tIfS c ts tu ⟨n, rt, b, ct⟩ σ H := q
theorem r_ifE (q : t σ H fun c H1 => if c = true then ta σ H1 Q else tb σ H1 Q) : tIf t ta tb σ H Q := q
theorem r_test (q : te σ H fun x H1 => ∃ k, x = .bl k ∧ QT k H1) : tTest te σ H QT := q
theorem r_tB (q : te σ H fun x H1 => ∃ k, x = .bl k ∧ QT k H1) : tB te σ H QT := q
theorem r_bl {k : Bool} {QB : Bool → Prop} (q : QB k) : ∃ k', V.bl k = .bl k' ∧ QB k' := ⟨k, rfl, q⟩
theorem r_and (q : t σ H fun c H1 => if c = true then u σ H1 QT else QT false H1) : tAnd t u σ H QT := q
theorem r_or (q : t σ H fun c H1 => if c = true then QT true H1 else u σ H1 QT) : tOr t u σ H QT := q
theorem r_not (q : t σ H fun c H1 => QT (!c) H1) : tNot t σ H QT := q
theorem r_andV (q : ta σ H fun x H1 => ∃ c, x = .bl c ∧ if c = true then tb σ H1 Q else Q (.bl false) H1) : tAndV ta tb σ H Q := q
theorem r_orV (q : ta σ H fun x H1 => ∃ c, x = .bl c ∧ if c = true then Q (.bl true) H1 else tb σ H1 Q) : tOrV ta tb σ H Q := q
theorem r_notV (q : ta σ H fun x H1 => ∃ c, x = .bl c ∧ Q (.bl (!c)) H1) : tNotV ta σ H Q := q
theorem r_chain {r r' : R2} {tc : TE} (q : ta σ H fun x H1 => tb σ H1 fun y H2 => r x y H2 fun z H3 => ∃ k, z = .bl k ∧ (if k = true then tc σ H3 fun w' H4 => r' y w' H4 Q else Q (.bl false) H3)) : tChain r r' ta tb tc σ H Q := q
theorem r_op {r : R2} (q : ta σ H fun x H1 => tb σ H1 fun y H2 => r x y H2 Q) : tOp r ta tb σ H Q := q
theorem r_un {r : V → Hp → VK → Prop} (q : ta σ H fun x H1 => r x H1 Q) : tUn r ta σ H Q := q
theorem r_I0 {g : Int → Int → V} {i j : Int} (q : Q (g i j) H) : rI0 g (.int i) (.int j) H Q := ⟨i, j, rfl, rfl, q⟩
theorem r_I {C : Int → Int → Prop} {g : Int → Int → V} {i j : Int} (q : Q (g i j) H) (hc : C i j) : rI C g (.int i) (.int j) H Q := ⟨i, j, rfl, rfl, hc, q⟩
theorem r_U {g : Int → V} {i : Int} (q : Q (g i) H) : rU g (.int i) H Q := ⟨i, rfl, q⟩
theorem r_eqI {i j : Int} (q : Q (.bl (decide (i = j))) H) : rEq (.int i) (.int j) H Q := ⟨rfl, by rw [show decide (V.int i = V.int j) = decide (i = j) from by simp]; exact q⟩
theorem r_neI {i j : Int} (q : Q (.bl (!decide (i = j))) H) : rNe (.int i) (.int j) H Q := ⟨rfl, by rw [show decide (V.int i = V.int j) = decide (i = j) from by simp]; exact q⟩
theorem r_eqB {i j : Bool} (q : Q (.bl (decide (i = j))) H) : rEq (.bl i) (.bl j) H Q := ⟨rfl, by rw [show decide (V.bl i = V.bl j) = decide (i = j) from by simp]; exact q⟩
theorem r_neB {i j : Bool} (q : Q (.bl (!decide (i = j))) H) : rNe (.bl i) (.bl j) H Q := ⟨rfl, by rw [show decide (V.bl i = V.bl j) = decide (i = j) from by simp]; exact q⟩
theorem r_eqS {i j : Str} (q : Q (.bl (decide (i = j))) H) : rEq (.str i) (.str j) H Q := ⟨rfl, by rw [show decide (V.str i = V.str j) = decide (i = j) from by simp]; exact q⟩
theorem r_neS {i j : Str} (q : Q (.bl (!decide (i = j))) H) : rNe (.str i) (.str j) H Q := ⟨rfl, by rw [show decide (V.str i = V.str j) = decide (i = j) from by simp]; exact q⟩
theorem r_lst (q : tl σ H fun xs H1 => xs.length ≤ sizeLine ∧ ∀ p, H1 p = none → Q (.ref p) (upd H1 p (.lst xs))) : tLst tl σ H Q := q
theorem r_tup (q : tl σ H fun xs H1 => xs.length ≤ sizeLine ∧ ∀ p, H1 p = none → Q (.ref p) (upd H1 p (.tup xs))) : tTup tl σ H Q := q
theorem r_nil {Q : List V → Hp → Prop} (q : Q [] H) : tNil σ H Q := q
theorem r_cons {Q : List V → Hp → Prop} {tr : TA} (q : ta σ H fun x H1 => tr σ H1 fun xs H2 => Q (x :: xs) H2) : tCons ta tr σ H Q := q
theorem r_cal {sp : Sp} {E : XK} (q : tl σ H fun vs H1 => sp vs H1 Q E) : tCal sp E tl σ H Q := q
theorem r_CB {r : List V → Hp → VK → Prop} (q : tl σ H fun vs H1 => r vs H1 Q) : tCB r tl σ H Q := q
theorem r_BM {K : PySem.W.Frag} {T : String} {r : V → List V → Hp → VK → Prop} (q : ta σ H fun x H1 => tyV K T x H1 ∧ tl σ H1 fun xs H2 => r x xs H2 Q) : tBM K T r ta tl σ H Q := q
theorem r_BM0 {K : PySem.W.Frag} {T : String} {r : V → List V → Hp → VK → Prop} (q : ta σ H fun x H1 => tyV K T x H1 ∧ r x [] H1 Q) : tBM0 K T r ta σ H Q := q
theorem r_gName {Q : L2.St → Hp → Prop} (q : Q (σ.set i (some v)) H) : gName i v σ H Q := q
theorem r_small {n : Nat} (h : n ≤ 16777216) : n ≤ sizeLine := by rw [sizeLine_eq]; exact h
theorem r_smalll {n : Nat} (h : n < 16777216) : n < sizeLine := by rw [sizeLine_eq]; exact h
theorem r_ixL {K : PySem.W.Frag} {p : Addr} {xs : List V} {i : Int} (h : SqL K H p xs) (ha : atI xs i = some v) (q : Q v H) : rIxL K (.ref p) (.int i) H Q := ⟨p, xs, i, v, rfl, rfl, h, ha, q⟩
theorem r_ixT {K : PySem.W.Frag} {p : Addr} {xs : List V} {i : Int} (h : SqT K H p xs) (ha : atI xs i = some v) (q : Q v H) : rIxT K (.ref p) (.int i) H Q := ⟨p, xs, i, v, rfl, rfl, h, ha, q⟩
theorem r_setL {p : Addr} {xs : List V} {k : Int} {j : Nat} {Q : Hp → Prop} (h : H p = some (.lst xs)) (hj : ixN xs.length k = some j) (q : Q (upd H p (.lst (xs.set j v)))) : rSetL (.ref p) (.int k) v H Q := ⟨p, xs, k, j, rfl, rfl, h, hj, q⟩
end
local macro_rules | `(tactic| walk_at "rd1") => `(tactic| first
  | (with_reducible refine r_var ?_ ?_; exact rfl) | with_reducible refine r_c ?_ | with_reducible refine r_seq ?_ | with_reducible refine r_next ?_ | with_reducible refine r_set ?_
  | with_reducible refine r_ret ?_ | with_reducible refine r_retN ?_ | with_reducible refine r_drop ?_ | with_reducible refine r_if ?_ | with_reducible refine r_test ?_ | with_reducible refine r_bl ?_
  | with_reducible refine r_op ?_ | with_reducible refine r_I0 ?_ | with_reducible refine r_I ?_ ?_ | with_reducible refine r_eqI ?_ | with_reducible refine r_neI ?_ | with_reducible refine r_nil ?_ | with_reducible refine r_cons ?_
  | with_reducible refine r_cal ?_ | with_reducible refine r_CB ?_ | with_reducible refine r_BM ?_ | with_reducible refine r_BM0 ?_ | with_reducible refine r_un ?_ | with_reducible refine r_U ?_
  | with_reducible refine r_and ?_ | with_reducible refine r_or ?_ | with_reducible refine r_not ?_ | with_reducible refine r_lst ?_ | with_reducible refine r_tup ?_ | with_reducible refine r_brk ?_ | with_reducible refine r_cont ?_ | with_reducible refine r_ifE ?_ | with_reducible refine r_tB ?_ | with_reducible refine r_gName ?_
  | with_reducible refine iteT ?_ | with_reducible refine iteF ?_ | with_reducible refine r_asg ?_)
/-! ### the layer's rules, the written part by its name (so that they stand in comprehensions too) -/
section
variable {X : Cx} {a b o e l : Expr} {es : List Expr} {ta tb te tl : TE} {t : TA} {pos p2 p tpos apos cpos : Pos} {lo hi : Option Expr} {tlo thi : TO} {name : Str} {T id : String} {r : V → List V → Hp → VK → Prop} {tg : Expr}
theorem pixL (K : PySem.W.Frag) (hK : X.K = K) (ha : PE X a ta) (hb : PE X b tb) (hs : PlainIx b) : PE X (.Subscript a b pos) (tOp (rIxL K) ta tb) := hK ▸ pe_ix ix_list ha hb hs
theorem pixT (K : PySem.W.Frag) (hK : X.K = K) (ha : PE X a ta) (hb : PE X b tb) (hs : PlainIx b) : PE X (.Subscript a b pos) (tOp (rIxT K) ta tb) := hK ▸ pe_ix ix_tup ha hb hs
theorem pslL (K : PySem.W.Frag) (hK : X.K = K) (he : PE X e te) (hl : PO X lo tlo) (hu : PO X hi thi) : PE X (.Subscript e (.Slice lo hi none p2) pos) (tSl (rSlL K) te tlo thi) := hK ▸ pe_slice sl_list he hl hu
theorem pslT (K : PySem.W.Frag) (hK : X.K = K) (he : PE X e te) (hl : PO X lo tlo) (hu : PO X hi thi) : PE X (.Subscript e (.Slice lo hi none p2) pos) (tSl (rSlT K) te tlo thi) := hK ▸ pe_slice sl_tup he hl hu
theorem opIn (K : PySem.W.Frag) (hK : X.K = K) : OpR X (compareOp .In) (rIn K false) := hK ▸ op_in_seq
theorem opNotIn (K : PySem.W.Frag) (hK : X.K = K) : OpR X (compareOp .NotIn) (rIn K true) := hK ▸ op_notIn_seq
theorem opEqD (K : PySem.W.Frag) (hK : X.K = K) (hu : X.A.units + 64 < cLine) : OpR X (compareOp .Eq) (rEqD K) := hK ▸ op_eqD hu
theorem opNeD (K : PySem.W.Frag) (hK : X.K = K) (hu : X.A.units + 64 < cLine) : OpR X (compareOp .NotEq) (rNeD K) := hK ▸ op_neD hu
theorem opCatT (K : PySem.W.Frag) (hK : X.K = K) : OpR X (binaryOp .Add) (rCatT K) := hK ▸ op_catT
def rLen (K : PySem.W.Frag) : List V → Hp → VK → Prop := fun xs H Q => ∃ p ys, xs = [.ref p] ∧ (SqL K H p ys ∨ SqT K H p ys) ∧ Q (.int ys.length) H
theorem crLen (K : PySem.W.Frag) (hK : X.K = K) : CallR X (.builtin "len") (rLen K) := hK ▸ call_len_seq
def rLst (K : PySem.W.Frag) : List V → Hp → VK → Prop := fun xs H Q => ∃ p ys, xs = [.ref p] ∧ (SqL K H p ys ∨ SqT K H p ys) ∧ ∀ l, H l = none → Q (.ref l) (upd H l (.lst ys))
theorem crLst (K : PySem.W.Frag) (hK : X.K = K) : CallR X (.type "list") (rLst K) := hK ▸ call_list_of
theorem crIsi (K : PySem.W.Frag) (hK : X.K = K) : CallR X (.builtin "isinstance") (rIsi K) := hK ▸ call_isi
theorem crIsiT (K : PySem.W.Frag) (hK : X.K = K) : CallR X (.builtin "isinstance") (rIsiT K) := hK ▸ call_isiT
theorem crSrt (K : PySem.W.Frag) (hK : X.K = K) : CallR X (.builtin "sorted") (rSortedI K) := hK ▸ cr_sortedI
theorem crSum (K : PySem.W.Frag) (hK : X.K = K) (hc : X.calm = true) : CallR X (.builtin "sum") (rSum K) := hK ▸ cr_sum hc
theorem crMax (K : PySem.W.Frag) (hK : X.K = K) (hc : X.calm = true) : CallR X (.builtin "max") (rMax K) := hK ▸ cr_max hc
theorem crMin (K : PySem.W.Frag) (hK : X.K = K) (hc : X.calm = true) : CallR X (.builtin "min") (rMin K) := hK ▸ cr_min hc
theorem pbm (K : PySem.W.Frag) (hK : X.K = K) (pa : PlainAttrs T) (slot : Slot T name id) (hty : typeOf (.builtin id) = pure (.type "method_descriptor")) (hm : MtR X id r) (ho : PE X o te) (ha : PA X (e :: es) t)
    (hbase : attributeBase o name X.env (eval o X.env) = eval o X.env := by rfl)
    (hfew : ((backTo cpos (starEach (e :: es) X.env)).all (fun x => !x.1) && (backToKw cpos (keywordEach [] X.env)).all (fun x => x.1.isSome)
      && decide ((e :: es).length + ([] : List Keyword).length + (if ([] : List Keyword).isEmpty then 0 else 1) < 30)) = true := by rfl)
    (hline : (apos.endLine == cpos.line) = true := by rfl) (hs : starEach (e :: es) X.env = (false, eval e X.env) :: starEach es X.env := by rfl) (hplain : (backTo cpos (starEach es X.env)).any (·.1) = false := by rfl) :
    PE X (.Call (.Attribute o name apos) (e :: es) [] cpos) (tBM K T r te t) := hK ▸ pe_bm pa slot hty hm ho ha hbase hfew hline hs hplain
theorem pbm0 (K : PySem.W.Frag) (hK : X.K = K) (pa : PlainAttrs T) (slot : Slot T name id) (hty : typeOf (.builtin id) = pure (.type "method_descriptor")) (hm : MtR X id r) (ho : PE X o te)
    (hbase : attributeBase o name X.env (eval o X.env) = eval o X.env := by rfl) (hline : (apos.endLine == cpos.line) = true := by rfl) : PE X (.Call (.Attribute o name apos) [] [] cpos) (tBM0 K T r te) := hK ▸ pe_bm0 pa slot hty hm ho hbase hline
theorem piL (K : PySem.W.Frag) (hK : X.K = K) (hl : PE X l tl) : PI X tg l (iList K tl) := hK ▸ pi_list hl
theorem piT (K : PySem.W.Frag) (hK : X.K = K) (hl : PE X l tl) : PI X tg l (iTup K tl) := hK ▸ pi_tup hl
theorem piE (K : PySem.W.Frag) (hK : X.K = K) {elts : List Expr} {kk : Nat} (hg : Gl X "enumerate") (hm : X.mg "enumerate" = none) (ha : PA X [e] t) (hs : starEach [e] X.env = [(false, eval e X.env)] := by rfl) :
    PI X (.Tuple elts kk tpos) (.Call (.Name "enumerate" p) [e] [] pos) (iEnum K t) := hK ▸ pi_enum hg hm ha hs
theorem piRv (K : PySem.W.Frag) (hK : X.K = K) (hg : Gl X "reversed") (hm : X.mg "reversed" = none) (ha : PA X [e] t) (hs : starEach [e] X.env = [(false, eval e X.env)] := by rfl) : PI X tg (.Call (.Name "reversed" p) [e] [] pos) (iRev K t) := hK ▸ pi_reversed hg hm ha hs
theorem piZ (K : PySem.W.Frag) (hK : X.K = K) {e2 : Expr} {elts : List Expr} {kk : Nat} (hg : Gl X "zip") (hm : X.mg "zip" = none) (ha : PA X [e, e2] t)
    (hs : starEach [e, e2] X.env = (false, eval e X.env) :: starEach [e2] X.env := by rfl) (hpl : (backTo pos (starEach [e2] X.env)).any (·.1) = false := by rfl) :
    PI X (.Tuple elts kk tpos) (.Call (.Name "zip" p) [e, e2] [] pos) (iZip K t) := hK ▸ pi_zip hg hm ha hs hpl
theorem pgT (K : PySem.W.Frag) (hK : X.K = K) {k n : Nat} {ts : TGs} (hc : X.calm = true) (h : PGs X es ts)
    (hn : (assignEach es X.env).length = n := by rfl) (hst : (assignEach es X.env).findIdx? (·.1) = none := by rfl) : PG X (.Tuple es k pos) (gTup K n ts) := hK ▸ pg_tup hc h hn hst
def tTru (K : PySem.W.Frag) (ta : TE) : TT := fun σ H Q => ta σ H fun x H' => ∃ k, TruV K x H' k ∧ Q k H'
theorem ptTru (K : PySem.W.Frag) (hK : X.K = K) (ha : PE X a ta) (he : ∀ whole, isTrue a X.env whole = (do let v ← whole; standAt a.pos; holding [v] (truthy v))) : PT X a (tTru K ta) := hK ▸ pt_truth ha he
end
/-! ### heaps -/
def Upto (p : Addr) (H H' : Hp) : Prop := ∀ b o, b ≠ p → H b = some o → H' b = some o
theorem Upto.refl (p : Addr) (H : Hp) : Upto p H H := fun _ _ _ h => h
theorem Upto.trans {p : Addr} {H H1 H2 : Hp} (a : Upto p H H1) (b : Upto p H1 H2) : Upto p H H2 := fun c o n h => b c o n (a c o n h)
theorem same_upto {p : Addr} {H H' : Hp} (a : Same H H') : Upto p H H' := fun c o _ h => a c o h
theorem same_new {H : Hp} {p : Addr} {o : HO} (h : H p = none) : Same H (upd H p o) := fun b x e => by
  rw [upd_ne (ne_of_none e h)]
  exact e
theorem upto_upd {p : Addr} {H : Hp} {o : HO} : Upto p H (upd H p o) := fun b x n e => by
  rw [upd_ne n]
  exact e
/-- a list that is new to H may change -/
theorem same_mut {H H' : Hp} {p : Addr} {o : HO} (e : Same H H') (h : H p = none) : Same H (upd H' p o) := fun a u ha => by
  rw [upd_ne (ne_of_none ha h)]
  exact e a u ha
theorem upto_mut {H H' : Hp} {p l : Addr} {o : HO} (e : Upto p H H') (h : H l = none) : Upto p H (upd H' l o) := fun a u n ha => by
  rw [upd_ne (ne_of_none ha h)]
  exact e a u n ha
theorem upto_free {p : Addr} {H H' : Hp} (e : Upto p H H') {l : Addr} {o : HO} (hp : H' p = some o) (h : H' l = none) : H l = none := by
  cases q : H l with
  | none => rfl
  | some u =>
    have n : l ≠ p := fun z => by
      rw [z, hp] at h
      cases h
    rw [e l u n q] at h
    cases h
theorem upto_seq {K : PySem.W.Frag} {p : Addr} {H H' : Hp} {a : Addr} {xs : List V} (e : Upto p H H') (n : a ≠ p) (h : SqL K H a xs) : SqL K H' a xs := by
  rcases h with (h | ⟨o, h⟩) | h
  · exact .inl (.inl (e _ _ n h))
  · exact .inl (.inr ⟨o, e _ _ n h⟩)
  · exact .inr h
theorem seq_of {K : PySem.W.Frag} {H : Hp} {a : Addr} {xs : List V} (h : H a = some (.lst xs)) : SqL K H a xs := .inl (.inl h)
/-- the deck: a list of one number from 0 on -/
def Dk (H : Hp) (p : Addr) : Prop := ∃ d : Int, 0 ≤ d ∧ H p = some (.lst [.int d])
theorem Dk.ne {H : Hp} {p q : Addr} (d : Dk H p) (h : H q = none) : p ≠ q := by
  obtain ⟨_, _, e⟩ := d
  exact ne_of_none e h
theorem Dk.same {H H' : Hp} {p : Addr} (d : Dk H p) (e : Same H H') : Dk H' p := by
  obtain ⟨x, h, q⟩ := d
  exact ⟨x, h, e _ _ q⟩
theorem Dk.free {H H' : Hp} {p l : Addr} (d : Dk H' p) (e : Upto p H H') (h : H' l = none) : H l = none := by
  obtain ⟨x, _, q⟩ := d
  exact upto_free e q h
theorem Dk.upd {H : Hp} {p q : Addr} {o : HO} (d : Dk H p) (n : p ≠ q) : Dk (upd H q o) p := by
  obtain ⟨x, h, e⟩ := d
  exact ⟨x, h, by rw [upd_ne n]; exact e⟩
abbrev intL (ns : List Int) : List V := ns.map V.int
theorem at0 {v : V} {r : List V} : atI (v :: r) 0 = some v := atI_nat (xs := v :: r) (j := 0) rfl
theorem at_nat {xs : List V} {i : Int} {v : V} (h0 : 0 ≤ i) (h : xs[i.toNat]? = some v) : atI xs i = some v := by
  have e : i = ((i.toNat : Nat) : Int) := by omega
  rw [e]
  exact atI_nat h
theorem lt_of_at {α : Type} {xs : List α} {j : Nat} {v : α} (h : xs[j]? = some v) : j < xs.length := (List.getElem?_eq_some_iff.mp h).1
theorem tyV_list {K : PySem.W.Frag} {H : Hp} {a : Addr} {xs : List V} (h : SqL K H a xs) : tyV K "list" (.ref a) H := .inl ⟨rfl, _, h⟩
theorem r_append {H : Hp} {Q : VK} {l : Addr} {xs : List V} {y : V} (h : H l = some (.lst xs)) (hz : xs.length < 16777216) (q : Q .non (upd H l (.lst (xs ++ [y])))) : rAppend (.ref l) [y] H Q :=
  ⟨l, xs, y, rfl, rfl, h, r_smalll hz, q⟩
/-! ### data -/
mutual
theorem dp_same {K : PySem.W.Frag} {H H' : Hp} (e : Same H H') : ∀ {v : V} {d : PyData}, Dp K H v d → Dp K H' v d
  | _, _, .non => .non
  | _, _, .bl b => .bl b
  | _, _, .int i => .int i
  | _, _, .str x => .str x
  | _, _, .lst h t => .lst (e.seq h) (dpAll_same e t)
  | _, _, .tup h t => .tup (by
      rcases h with (h | ⟨o, h⟩) | h
      · exact .inl (.inl (e _ _ h))
      · exact .inl (.inr ⟨o, e _ _ h⟩)
      · exact .inr h) (dpAll_same e t)
theorem dpAll_same {K : PySem.W.Frag} {H H' : Hp} (e : Same H H') : ∀ {v : List V} {d : List PyData}, DpAll K H v d → DpAll K H' v d
  | _, _, .nil => .nil
  | _, _, .cons h t => .cons (dp_same e h) (dpAll_same e t)
end
theorem dpAll_ints {K : PySem.W.Frag} {H : Hp} : ∀ ns : List Int, DpAll K H (intL ns) (ns.map PyData.int)
  | [] => .nil
  | n :: r => .cons (.int n) (dpAll_ints r)
theorem dp_ints {K : PySem.W.Frag} {H : Hp} {a : Addr} {ns : List Int} (h : SqL K H a (intL ns)) : Dp K H (.ref a) (.list (ns.map PyData.int)) := .lst h (dpAll_ints ns)
theorem canLay_ints : ∀ ns : List Int, PyData.canLayAll0 (ns.map PyData.int) = true
  | [] => rfl
  | n :: r => by
    show (PyData.canLay0 (.int n) && PyData.canLayAll0 (r.map PyData.int)) = true
    rw [canLay_ints r]
    rfl
theorem depth_ints : ∀ ns : List Int, PyData.depthAll (ns.map PyData.int) = 0
  | [] => rfl
  | n :: r => by
    show max (PyData.depth (.int n)) (PyData.depthAll (r.map PyData.int)) = 0
    rw [depth_ints r]
    rfl
theorem shaped_ints (ns : List Int) : SeqAt.shaped (.list (ns.map PyData.int)) = true := by
  unfold SeqAt.shaped
  have h1 : PyData.canLay0 (.list (ns.map PyData.int)) = true := by
    simp only [PyData.canLay0]
    exact canLay_ints ns
  have h2 : PyData.depth (.list (ns.map PyData.int)) = 1 := by
    show PyData.depthAll (ns.map PyData.int) + 1 = 1
    rw [depth_ints]
  rw [h1, h2]
  rfl
theorem eqv_ints (ns : List Int) : PyData.eqv (.list (ns.map PyData.int)) (.list (ns.map PyData.int)) = true := SeqAt.eqv_refl _ (by
  simp only [PyData.canLay0]
  exact canLay_ints ns)
theorem hu64 {A : Around} {k : Nat} (hr : Room k A) : A.units + 64 < cLine := by
  have := hr.un
  omega
/-! ### loops -/
def lpR (g : TG) (tb : TS) (D : Ends) (lo : Int) (n : Nat) : L2.St → Hp → Prop := fun σ H1 => ∃ W : Nat → Nat → L2.St → Hp → Prop, (∃ m, W 0 m σ H1) ∧ ∀ i m σ H, W i m σ H →
  ((Itr lo n).stop i H ∧ D.nx σ H) ∨ ((Itr lo n).go i H ∧ ∃ N : L2.St → Hp → Prop, (∀ σ' H', N σ' H' → ∃ m', m' < m ∧ W (i + 1) m' σ' H') ∧ ∀ x H', (Itr lo n).yld i H x H' → g x σ H' fun σ2 H2 => tb { D with nx := N, ct := N, bk := D.nx } σ2 H2)
section
variable {σ : L2.St} {H : Hp} {g : TG} {tb : TS} {D : Ends} {ta : TA} {n b ct : L2.St → Hp → Prop} {rt : VK} {i : Nat}
theorem r_forR1 (q : ta σ H fun vs H1 => ∃ j : Int, vs = [.int j] ∧ -(2 ^ 62) ≤ j ∧ j < 2 ^ 62 ∧ lpR g tb D 0 j.toNat σ H1) : tFor (iRng1 ta) g tb D σ H := q
theorem r_forR2 (q : ta σ H fun vs H1 => ∃ i j : Int, vs = [.int i, .int j] ∧ (-(2 ^ 62) ≤ i ∧ i < 2 ^ 62 ∧ -(2 ^ 62) ≤ j ∧ j < 2 ^ 62) ∧ lpR g tb D i (j - i).toNat σ H1) : tFor (iRng2 ta) g tb D σ H := q
/-- for x in range(n): the turn's number is i -/
theorem r_rng1 {m : Nat} {z : Int} (hz : z = (m : Int)) (hm : m < 2 ^ 62) (Pv : Nat → L2.St → Hp → Prop) (h0 : Pv 0 σ H)
    (hs : ∀ i' σ' H', i' < m → Pv i' σ' H' → tb ⟨Pv (i' + 1), rt, n, Pv (i' + 1)⟩ (σ'.set i (some (.int (i' : Nat)))) H')
    (hd : ∀ σ' H', Pv m σ' H' → n σ' H') : ∃ j : Int, [V.int z] = [.int j] ∧ -(2 ^ 62) ≤ j ∧ j < 2 ^ 62 ∧ lpR (gName i) tb ⟨n, rt, b, ct⟩ 0 j.toNat σ H := by
  subst hz
  refine ⟨m, rfl, by omega, by omega, ?_⟩
  rw [show (m : Int).toNat = m from Int.toNat_natCast m]
  exact for_range (g := gName i) (tb := tb) (D := ⟨n, rt, b, ct⟩) (lo := 0) (n := m) Pv h0 (fun i' σ' H' hi p => by
    have e : (0 : Int) + (i' : Int) = (i' : Int) := Int.zero_add _
    show tb _ (σ'.set i (some (.int ((0 : Int) + (i' : Int))))) H'
    rw [e]
    exact hs i' σ' H' hi p) hd
end
/-! ### comprehensions -/
def lcJ (J : It) (g : TG) (tt : TT) (te : TE) (vs : List Nat) (σ : L2.St) (H1 : Hp) (Q : VK) : Prop := ∀ D, H1 D = none → ∃ W : Nat → Nat → Hp → Prop, (∃ m, W 0 m (upd H1 D (.lst []))) ∧ ∀ i m H, W i m H →
  (J.stop i H ∧ Q (.ref D) H) ∨ (J.go i H ∧ ∃ Nx : Hp → Prop, (∀ H', Nx H' → ∃ m', m' < m ∧ W (i + 1) m' H') ∧ ∀ x H', J.yld i H x H' → g x (wipe σ vs) H' fun σ2 H2 => wipe σ2 vs = wipe σ vs ∧ tt σ2 H2 fun b H3 =>
    if b = true then te σ2 H3 fun y H4 => ∃ acc, H4 D = some (.lst acc) ∧ acc.length < sizeLine ∧ Nx (upd H4 D (.lst (acc ++ [y]))) else Nx H3)
section
variable {K : PySem.W.Frag} {σ : L2.St} {H : Hp} {Q : VK} {tl te : TE} {tt : TT} {g : TG} {vs : List Nat} {a : Addr} {xs : List V} {ta : TA}
theorem r_lcL (q : tl σ H fun x H1 => ∃ a, x = .ref a ∧ (∃ xs, SqL K H1 a xs) ∧ lcJ (Itl K a) g tt te vs σ H1 Q) : tLc (iList K tl) g tt te vs σ H Q := q
theorem r_lcL1 (h : SqL K H a xs) (q : lcJ (Itl K a) g tt te vs σ H Q) : ∃ b, V.ref a = .ref b ∧ (∃ xs, SqL K H b xs) ∧ lcJ (Itl K b) g tt te vs σ H Q := ⟨a, rfl, ⟨xs, h⟩, q⟩
theorem r_lcR (q : ta σ H fun vs1 H1 => ∃ j : Int, vs1 = [.int j] ∧ -(2 ^ 62) ≤ j ∧ j < 2 ^ 62 ∧ lcJ (Itr 0 j.toNat) g tt te vs σ H1 Q) : tLc (iRng1 ta) g tt te vs σ H Q := q
theorem r_lcR1 {z : Int} {m : Nat} (hz : z = (m : Int)) (hm : m < 2 ^ 62) (q : lcJ (Itr 0 m) g tt te vs σ H Q) : ∃ j : Int, [V.int z] = [.int j] ∧ -(2 ^ 62) ≤ j ∧ j < 2 ^ 62 ∧ lcJ (Itr 0 j.toNat) g tt te vs σ H Q := by
  subst hz
  exact ⟨m, rfl, by omega, by omega, by rw [Int.toNat_natCast]; exact q⟩
theorem r_yes {QT : Bool → Hp → Prop} (q : QT true H) : tYes σ H QT := q
end
/-! ### list(range(n)), list(reversed(xs)) -/
section
variable {σ : L2.St} {H : Hp} {Q : VK} {ta tb : TE}
theorem r_lrg1 (q : ta σ H fun x H1 => ∃ n, x = .int n ∧ RgOk 0 n ∧ ∀ p, H1 p = none → Q (.ref p) (upd H1 p (.lst (rgV 0 n)))) : tLstRg (tRg1 ta) σ H Q := by
  have e : (tLstRg (tRg1 ta) σ H Q) = (ta σ H fun x H1 => ∃ n, x = .int n ∧ RgOk 0 n ∧ ∀ p, H1 p = none → Q (.ref p) (upd H1 p (.lst (rgV 0 n)))) := rfl
  rw [e]
  exact q
theorem rgV_nat (n : Nat) : rgV 0 (n : Int) = (List.range n).map fun (k : Nat) => V.int (k : Int) := by
  unfold rgV
  rw [show ((n : Int) - 0).toNat = n by omega]
  congr 1
  funext k
  rw [Int.zero_add]
theorem r_lrange {z : Int} {m : Nat} (hz : z = (m : Int)) (hm : m < 100000) (q : ∀ p, H p = none → Q (.ref p) (upd H p (.lst ((List.range m).map fun (k : Nat) => V.int (k : Int))))) :
    RgOk 0 z ∧ ∀ p, H p = none → Q (.ref p) (upd H p (.lst (rgV 0 z))) := by
  subst hz
  exact ⟨RgOk.of_le (by omega) (by omega) (by omega) (by omega), by rw [rgV_nat]; exact q⟩
end
/-! ### len(set(xs)) of ints -/
def distinct (ns : List Int) : List Int := PyProof.Rows.firstMet (fun i => ns.getD i 0) ns.length
theorem distinct_nodup {ns : List Int} (h : ns.Nodup) : distinct ns = ns := by
  unfold distinct
  rw [RZ.firstMet_nodup h ns.length (Nat.le_refl _), List.take_length]
def tLenSet (K : PySem.W.Frag) (ta : TE) : TE := fun σ H Q => ta σ H fun x H1 => ∃ (l : Addr) (ns : List Int), x = .ref l ∧ SqL K H1 l (ns.map V.int) ∧ ns.length ≤ 4000 ∧ Q (.int ((distinct ns).length : Nat)) H1
theorem peLenSet (K : PySem.W.Frag) {X : Cx} (hK : X.K = K) {a : Expr} {ta : TE} {p p2 q pos : Pos} (hg : Gl X "len") (hm : X.mg "len" = none) (hg2 : Gl X "set") (hm2 : X.mg "set" = none) (ha : PE X a ta) (hc : X.calm = true := by rfl)
    (na : starEach [a] X.env = (false, eval a X.env) :: starEach [] X.env := by rfl) : PE X (.Call (.Name "len" p) [.Call (.Name "set" p2) [a] [] q] [] pos) (tLenSet K ta) := by
  subst hK
  refine ⟨fun pins s σ H Q I h => ?_⟩
  refine Call_ (ld_blt I hg hm boot_len ?_)
  refine PyProof.Rows.callWith_builtin1 (PyProof.Rows.args_cons ?_ rfl) rfl rfl
  refine Call_ (ld_blt I hg2 hm2 boot_set ?_)
  refine PyProof.Rows.callWith_type1 (PyProof.Rows.args_cons (thn (ha.run pins s σ H _ I h) fun v s1 ⟨x, H1, I1, r1, q1⟩ => PyProof.Rows.args_nil ?_) na) na rfl
  obtain ⟨l, ns, rfl, hq, hl, q1⟩ := q1
  cases r1
  obtain ⟨its, r, pl, hz⟩ := I1.list hq
  have hlen : its.toArray.size = ns.length := by rw [List.size_toArray, ← r.length, List.length_map]
  refine call_set_list (I1.ok.hd hc) pl.isList (by simpa using RZ.intsAre_vals r) (by rw [hlen]; unfold scanBound; omega) fun h' tk hS hk => ?_
  refine PyProof.Rows.args_nil ?_
  have e1 : PyProof.Rows.firstMet (fun i => ns.getD i 0) its.toArray.size = distinct ns := by
    unfold distinct
    rw [hlen]
  rw [e1] at hS
  have hle : (distinct ns).length ≤ ns.length := PyProof.Rows.firstMet_length_le _ _
  obtain ⟨o, es, ep, t, ho, hex, hd, _, _, _, hf, hn⟩ := hS
  have I2 : Inv X pins σ H1 { s1 with heap := h', toks := tk } := I1.kept fun b o e => hk b o (Heap.lt_size e) e
  exact call_len_set ho hex hd hf (by rw [hn] <;> omega) ⟨.int ((distinct ns).length : Nat), H1, I2.tok _, ⟨_, by rw [hn]⟩, q1⟩
theorem r_lenSet {K : PySem.W.Frag} {σ : L2.St} {H : Hp} {Q : VK} {ta : TE} (q : ta σ H fun x H1 => ∃ (l : Addr) (ns : List Int), x = .ref l ∧ SqL K H1 l (ns.map V.int) ∧ ns.length ≤ 4000 ∧ Q (.int ((distinct ns).length : Nat)) H1) : tLenSet K ta σ H Q := q
/-! ### enumerate -/
section
variable {K : PySem.W.Frag} {a : Addr} {xs : List V} {g : TG} {tt : TT} {te tk tv : TE} {vs : List Nat} {σ : L2.St} {H H1 : Hp} {D : Addr} {Qd : Hp → Prop} {Q : VK} {tl : TA} {tb : TS} {n b ct : L2.St → Hp → Prop} {rt : VK}
def dcJ (J : It) (g : TG) (tt : TT) (tk tv : TE) (vs : List Nat) (σ : L2.St) (H1 : Hp) (Q : VK) : Prop := ∀ D, H1 D = none → ∃ W : Nat → Nat → Hp → Prop, (∃ m, W 0 m (upd H1 D (.dK []))) ∧ ∀ i m H, W i m H →
  (J.stop i H ∧ Q (.ref D) H) ∨ (J.go i H ∧ ∃ Nx : Hp → Prop, (∀ H', Nx H' → ∃ m', m' < m ∧ W (i + 1) m' H') ∧ ∀ x H', J.yld i H x H' → g x (wipe σ vs) H' fun σ2 H2 => wipe σ2 vs = wipe σ vs ∧ tt σ2 H2 fun b H3 =>
    if b = true then tk σ2 H3 fun y H4 => tv σ2 H4 fun z H5 => ∃ kvs k, y = kV k ∧ H5 D = some (.dK kvs) ∧ kvs.length < sizeLine ∧ Nx (upd H5 D (.dK (putK kvs k z))) else Nx H3)
theorem r_dcE (q : tl σ H fun vs1 H1 => ∃ a xs, vs1 = [.ref a] ∧ SqL K H1 a xs ∧ dcJ (Ite K a) g tt tk tv vs σ H1 Q) : tDc (iEnum K tl) g tt tk tv vs σ H Q := q
theorem dc_enum (Pv : Nat → Hp → Prop) (h0 : Pv 0 (upd H1 D (.dK []))) (hl : ∀ i H, i ≤ xs.length → Pv i H → SqL K H a xs)
    (hs : ∀ i x H T, xs[i]? = some x → Pv i H → H T = none → g (.ref T) (wipe σ vs) (upd H T (.tup [.int (i : Nat), x])) fun σ2 H2 => wipe σ2 vs = wipe σ vs ∧ tt σ2 H2 fun b H3 =>
      if b = true then tk σ2 H3 fun y H4 => tv σ2 H4 fun z H5 => ∃ kvs k, y = kV k ∧ H5 D = some (.dK kvs) ∧ kvs.length < sizeLine ∧ Pv (i + 1) (upd H5 D (.dK (putK kvs k z))) else Pv (i + 1) H3) (hd : ∀ H, Pv xs.length H → Qd H) :
    ∃ W : Nat → Nat → Hp → Prop, (∃ m, W 0 m (upd H1 D (.dK []))) ∧ ∀ i m H, W i m H →
      ((Ite K a).stop i H ∧ Qd H) ∨ ((Ite K a).go i H ∧ ∃ Nx : Hp → Prop, (∀ H', Nx H' → ∃ m', m' < m ∧ W (i + 1) m' H') ∧ ∀ x H', (Ite K a).yld i H x H' → g x (wipe σ vs) H' fun σ2 H2 => wipe σ2 vs = wipe σ vs ∧ tt σ2 H2 fun b H3 =>
        if b = true then tk σ2 H3 fun y H4 => tv σ2 H4 fun z H5 => ∃ kvs k, y = kV k ∧ H5 D = some (.dK kvs) ∧ kvs.length < sizeLine ∧ Nx (upd H5 D (.dK (putK kvs k z))) else Nx H3) := by
  refine ⟨fun i m H => m = xs.length - i ∧ i ≤ xs.length ∧ Pv i H, ⟨xs.length, by simp, Nat.zero_le _, h0⟩, ?_⟩
  rintro i m H ⟨rfl, hi, p⟩
  have q := hl i H hi p
  by_cases hlt : i < xs.length
  · refine .inr ⟨⟨xs, xs[i], q, by simp [hlt]⟩, Pv (i + 1), fun H' p' => ⟨xs.length - (i + 1), by omega, rfl, hlt, p'⟩, fun x H' y => ?_⟩
    obtain ⟨T, x, e0, nT, e, y⟩ := y
    subst e
    subst e0
    exact hs i x H T (y xs q) p nT
  · have e : i = xs.length := by omega
    subst e
    exact .inl ⟨⟨xs, q, Nat.le_refl _⟩, hd H p⟩
def lpJ (J : It) (g : TG) (tb : TS) (D : Ends) (σ : L2.St) (H1 : Hp) : Prop := ∃ W : Nat → Nat → L2.St → Hp → Prop, (∃ m, W 0 m σ H1) ∧ ∀ i m σ H, W i m σ H →
  (J.stop i H ∧ D.nx σ H) ∨ (J.go i H ∧ ∃ N : L2.St → Hp → Prop, (∀ σ' H', N σ' H' → ∃ m', m' < m ∧ W (i + 1) m' σ' H') ∧ ∀ x H', J.yld i H x H' → g x σ H' fun σ2 H2 => tb { D with nx := N, ct := N, bk := D.nx } σ2 H2)
theorem r_forE {D : Ends} (q : tl σ H fun vs1 H1 => ∃ a xs, vs1 = [.ref a] ∧ SqL K H1 a xs ∧ lpJ (Ite K a) g tb D σ H1) : tFor (iEnum K tl) g tb D σ H := q
theorem r_forL {D : Ends} {te : TE} (q : te σ H fun x H1 => ∃ a, x = .ref a ∧ (∃ xs, SqL K H1 a xs) ∧ lpJ (Itl K a) g tb D σ H1) : tFor (iList K te) g tb D σ H := q
theorem r_forL1 {j : Nat} (h : SqL K H a xs) (Pv : Nat → L2.St → Hp → Prop) (h0 : Pv 0 σ H) (hl : ∀ i σ H, i ≤ xs.length → Pv i σ H → SqL K H a xs)
    (hs : ∀ i x σ H, xs[i]? = some x → Pv i σ H → tb ⟨Pv (i + 1), rt, n, Pv (i + 1)⟩ (σ.set j (some x)) H) (hd : ∀ σ H, Pv xs.length σ H → n σ H) :
    ∃ b', V.ref a = .ref b' ∧ (∃ xs, SqL K H b' xs) ∧ lpJ (Itl K b') (gName j) tb ⟨n, rt, b, ct⟩ σ H :=
  ⟨a, rfl, ⟨xs, h⟩, for_list (K := K) (a := a) (xs := xs) (g := gName j) (tb := tb) (D := ⟨n, rt, b, ct⟩) Pv h0 hl hs hd⟩
theorem r_forE1 (h : SqL K H a xs) (Pv : Nat → L2.St → Hp → Prop) (h0 : Pv 0 σ H) (hl : ∀ i σ H, i ≤ xs.length → Pv i σ H → SqL K H a xs)
    (hs : ∀ i x σ H T, xs[i]? = some x → Pv i σ H → H T = none → g (.ref T) σ (upd H T (.tup [.int (i : Nat), x])) fun σ2 H2 => tb ⟨Pv (i + 1), rt, n, Pv (i + 1)⟩ σ2 H2)
    (hd : ∀ σ H, Pv xs.length σ H → n σ H) : ∃ a' xs', [V.ref a] = [.ref a'] ∧ SqL K H a' xs' ∧ lpJ (Ite K a') g tb ⟨n, rt, b, ct⟩ σ H := by
  refine ⟨a, xs, rfl, h, fun i m σ H => m = xs.length - i ∧ i ≤ xs.length ∧ Pv i σ H, ⟨xs.length, by simp, Nat.zero_le _, h0⟩, ?_⟩
  rintro i m σ H ⟨rfl, hi, p⟩
  have q := hl i σ H hi p
  by_cases hlt : i < xs.length
  · refine .inr ⟨⟨xs, xs[i], q, by simp [hlt]⟩, Pv (i + 1), fun σ' H' p' => ⟨xs.length - (i + 1), by omega, rfl, hlt, p'⟩, fun x H' y => ?_⟩
    obtain ⟨T, x, e0, nT, e, y⟩ := y
    subst e
    subst e0
    exact hs i x σ H T (y xs q) p nT
  · have e : i = xs.length := by omega
    subst e
    exact .inl ⟨⟨xs, q, Nat.le_refl _⟩, hd σ H p⟩
/-- a, b = the pair at T -/
theorem r_gTup2 {T : Addr} {x y : V} {i j : Nat} {Q : L2.St → Hp → Prop} (h : SqT K H T [x, y]) (q : Q ((σ.set i (some x)).set j (some y)) H) : gTup K 2 (gCons (gName i) (gCons (gName j) gNil)) (.ref T) σ H Q :=
  ⟨T, [x, y], rfl, h, rfl, x, [y], rfl, y, [], rfl, rfl, q⟩
end
theorem r_dget {σ : L2.St} {H : Hp} {Q : VK} {td ty : TE} (q : td σ H fun x H1 => ty σ H1 fun y H2 => ∃ a v, x = .ref a ∧ DGet H2 a y (some v) ∧ Q v H2) : tDGet td ty σ H Q := q
theorem r_eqV {x y : V} {H : Hp} {Q : VK} (h : scal x y = true) (q : Q (.bl (decide (x = y))) H) : rEq x y H Q := ⟨h, q⟩
theorem r_len {K : PySem.W.Frag} {H : Hp} {Q : VK} {a : Addr} {xs : List V} (h : SqL K H a xs ∨ SqT K H a xs) (q : Q (.int xs.length) H) : rLen K [.ref a] H Q := ⟨a, xs, rfl, h, q⟩
theorem r_isi {K : PySem.W.Frag} {H : Hp} {Q : VK} {x : V} {t n : String} {b : Bool} (ty : TyX K H x (.type t)) (hk : kitB t n = some b) (q : Q (.bl b) H) : rIsi K [x, .ty n] H Q :=
  ⟨x, .ty n, _, _, b, rfl, .ty n, ty, kit_ty hk, q⟩
theorem r_isiT2 {K : PySem.W.Frag} {H : Hp} {Q : VK} {x : V} {tp : Addr} {t n m : String} {b c r : Bool} (ht : H tp = some (.tup [.ty n, .ty m])) (ty : TyX K H x (.type t)) (hb : kitB t n = some b) (hc : kitB t m = some c) (e : (b || c) = r) (q : Q (.bl r) H) : rIsiT K [x, .ref tp] H Q := by
  subst e
  exact ⟨x, tp, _, _, [.type n, .type m], b || c, rfl, ht, .cons (.ty n) (.cons (.ty m) .nil), ty, kitAny_cons (kit_ty hb) (fun e => by
    rw [e, Bool.false_or]
    exact kitAny_cons (kit_ty hc) (fun e2 => by rw [e2]; exact kitAny_nil) (fun e2 => e2)) (fun e => by rw [e]; rfl), q⟩
theorem tyx_L {K : PySem.W.Frag} {H : Hp} {a : Addr} {xs : List V} (h : SqL K H a xs) : TyX K H (.ref a) (.type "list") := by
  rcases h with (h | ⟨o, h⟩) | ⟨o, _, _, h, c, _⟩
  · exact .base (.lst h)
  · exact .base (.frz h)
  · exact .kList h c
theorem tyx_T {K : PySem.W.Frag} {H : Hp} {a : Addr} {xs : List V} (h : SqT K H a xs) : TyX K H (.ref a) (.type "tuple") := by
  rcases h with (h | ⟨o, h⟩) | ⟨o, _, _, h, c, _⟩
  · exact .base (.tup h)
  · exact .fTuple h
  · exact .kTuple h c
theorem TyX.same {K : PySem.W.Frag} {H H' : Hp} {x : V} {t : String} (e : Same H H') (h : TyX K H x (.type t)) : TyX K H' x (.type t) := by
  cases h with
  | base b =>
    cases b with
    | non => exact .base .non
    | bl x => exact .base (.bl x)
    | int i => exact .base (.int i)
    | str x => exact .base (.str x)
    | flt x => exact .base (.flt x)
    | lst h => exact .base (.lst (e _ _ h))
    | frz h => exact .base (.frz (e _ _ h))
    | tup h => exact .base (.tup (e _ _ h))
    | dK h => exact .base (.dK (e _ _ h))
    | dT h => exact .base (.dT (e _ _ h))
  | byt b => exact .byt b
  | set h => exact .set (e _ _ h)
  | kList h c => exact .kList h c
  | kTuple h c => exact .kTuple h c
  | kDict h c => exact .kDict h c
  | fTuple h => exact .fTuple (e _ _ h)
  | fDict h => exact .fDict (e _ _ h)
theorem dpAll_len {K : PySem.W.Frag} {H : Hp} : ∀ {xs : List V} {ds : List PyData}, DpAll K H xs ds → xs.length = ds.length
  | _, _, .nil => rfl
  | _, _, .cons _ t => by rw [List.length_cons, List.length_cons, dpAll_len t]
theorem dpAll_get {K : PySem.W.Frag} {H : Hp} : ∀ {xs : List V} {ds : List PyData} {i : Nat} {d : PyData}, DpAll K H xs ds → ds[i]? = some d → ∃ x, xs[i]? = some x ∧ Dp K H x d
  | _, _, _, _, .nil, h => by simp at h
  | _, _, 0, _, .cons h t, e => by
    simp at e
    subst e
    exact ⟨_, rfl, h⟩
  | _, _, i + 1, _, .cons h t, e => dpAll_get (i := i) t (by simpa using e)
/-- a[i], a a list or a tuple -/
def rIxQ (K : PySem.W.Frag) : R2 := fun x y H Q => rIxL K x y H Q ∨ rIxT K x y H Q
theorem pixQ (K : PySem.W.Frag) {X : Cx} (hK : X.K = K) {a b : Expr} {ta tb : TE} {pos : Pos} (ha : PE X a ta) (hb : PE X b tb) (hs : PlainIx b) : PE X (.Subscript a b pos) (tOp (rIxQ K) ta tb) := hK ▸ pe_ix (ix_list.or ix_tup) ha hb hs
/-! ints, texts, bools, lists and tuples of such: data that may be compared -/
mutual
def plainD : PyData → Bool
  | .int _ | .bool _ | .str _ => true
  | .list xs | .tuple xs => decide (xs.length ≤ 100000) && plainAll xs
  | _ => false
def plainAll : List PyData → Bool
  | [] => true
  | x :: xs => plainD x && plainAll xs
end
theorem plainAll_get : ∀ {ds : List PyData} {i : Nat} {d : PyData}, plainAll ds = true → ds[i]? = some d → plainD d = true
  | [], _, _, _, e => by simp at e
  | x :: r, 0, d, h, e => by
    simp at e
    subst e
    have h' : (plainD x && plainAll r) = true := by simpa [plainAll] using h
    exact (Bool.and_eq_true_iff.mp h').1
  | x :: r, i + 1, d, h, e => by
    have h' : (plainD x && plainAll r) = true := by simpa [plainAll] using h
    exact plainAll_get (i := i) (Bool.and_eq_true_iff.mp h').2 (by simpa using e)
theorem plain_len {ds : List PyData} (h : plainD (.list ds) = true) : ds.length ≤ 100000 := by
  have h' : (decide (ds.length ≤ 100000) && plainAll ds) = true := by simpa [plainD] using h
  exact of_decide_eq_true (Bool.and_eq_true_iff.mp h').1
theorem plain_all {ds : List PyData} (h : plainD (.list ds) = true) : plainAll ds = true := by
  have h' : (decide (ds.length ≤ 100000) && plainAll ds) = true := by simpa [plainD] using h
  exact (Bool.and_eq_true_iff.mp h').2
theorem plain_lenT {ds : List PyData} (h : plainD (.tuple ds) = true) : ds.length ≤ 100000 := by
  have h' : (decide (ds.length ≤ 100000) && plainAll ds) = true := by simpa [plainD] using h
  exact of_decide_eq_true (Bool.and_eq_true_iff.mp h').1
theorem plain_allT {ds : List PyData} (h : plainD (.tuple ds) = true) : plainAll ds = true := by
  have h' : (decide (ds.length ≤ 100000) && plainAll ds) = true := by simpa [plainD] using h
  exact (Bool.and_eq_true_iff.mp h').2
theorem depthAll_get : ∀ {ds : List PyData} {i : Nat} {d : PyData}, ds[i]? = some d → d.depth ≤ PyData.depthAll ds
  | [], _, _, e => by simp at e
  | x :: r, 0, d, e => by
    simp at e
    subst e
    show x.depth ≤ max x.depth (PyData.depthAll r)
    omega
  | x :: r, i + 1, d, e => by
    have := depthAll_get (ds := r) (i := i) (d := d) (by simpa using e)
    show d.depth ≤ max x.depth (PyData.depthAll r)
    omega
theorem plain_ints : ∀ ns : List Int, plainAll (ns.map PyData.int) = true
  | [] => rfl
  | n :: r => by
    show (plainD (.int n) && plainAll (r.map PyData.int)) = true
    rw [plain_ints r]
    rfl
theorem same_seqT {K : PySem.W.Frag} {H H' : Hp} {a : Addr} {xs : List V} (e : Same H H') (h : SqT K H a xs) : SqT K H' a xs := by
  rcases h with (h | ⟨o, h⟩) | h
  · exact .inl (.inl (e _ _ h))
  · exact .inl (.inr ⟨o, e _ _ h⟩)
  · exact .inr h
theorem same_of_upto {p : Addr} {H0 H H' : Hp} (s : Same H0 H) (n : H0 p = none) (u : Upto p H H') : Same H0 H' := fun b o e => u b o (ne_of_none e n) (s b o e)
theorem r_neInts {K : PySem.W.Frag} {H : Hp} {Q : VK} {a b : Addr} {ns : List Int} (h : SqL K H a (intL ns)) (h' : SqL K H b (intL ns)) (q : Q (.bl false) H) : rNeD K (.ref a) (.ref b) H Q :=
  ⟨_, _, dp_ints h, dp_ints h', shaped_ints ns, shaped_ints ns, by rw [eqv_ints]; exact q⟩
theorem r_eqInts {K : PySem.W.Frag} {H : Hp} {Q : VK} {a b : Addr} {ns : List Int} (h : SqL K H a (intL ns)) (h' : SqL K H b (intL ns)) (q : Q (.bl true) H) : rEqD K (.ref a) (.ref b) H Q :=
  ⟨_, _, dp_ints h, dp_ints h', shaped_ints ns, shaped_ints ns, by rw [eqv_ints]; exact q⟩
theorem cut_ints (ns : List Int) (lo hi : Option Int) : ∃ cs : List Int, cutV (intL ns) lo hi = intL cs := by
  unfold cutV
  refine ⟨(ns.drop (HT.sIx (intL ns).length 0 lo)).take (HT.sIx (intL ns).length (intL ns).length hi - HT.sIx (intL ns).length 0 lo), ?_⟩
  show _ = List.map V.int _
  rw [List.map_take, List.map_drop]
theorem int_at {ns : List Int} {i : Nat} {x : V} (h : (intL ns)[i]? = some x) : ∃ z, ns[i]? = some z ∧ x = V.int z := by
  rw [List.getElem?_map] at h
  cases e : ns[i]? with
  | none =>
    rw [e] at h
    cases h
  | some z =>
    rw [e] at h
    exact ⟨z, rfl, (Option.some.inj h).symm⟩
theorem r_cat {H : Hp} {Q : VK} {l b : Addr} {xs zs : List V} (h : H l = some (.lst xs)) (h' : H b = some (.lst zs)) (hz : xs.length + zs.length ≤ 16777216) (q : ∀ p, H p = none → Q (.ref p) (upd H p (.lst (xs ++ zs)))) : rCat (.ref l) (.ref b) H Q :=
  ⟨l, b, xs, zs, rfl, rfl, h, h', r_small hz, q⟩
theorem r_slice {te : TE} {tl th : TO} {σ : L2.St} {H : Hp} {Q : VK} {r : V → Option Int → Option Int → Hp → VK → Prop} (q : te σ H fun x H1 => tl σ H1 fun l H2 => th σ H2 fun u H3 => r x l u H3 Q) : tSl r te tl th σ H Q := q
theorem r_noPart {σ : L2.St} {H : Hp} {Q : Option Int → Hp → Prop} (q : Q none H) : tNoPart σ H Q := q
theorem r_part {t : TE} {σ : L2.St} {H : Hp} {Q : Option Int → Hp → Prop} (q : t σ H fun x H1 => ∃ i, x = .int i ∧ Q (some i) H1) : tPart t σ H Q := q
theorem r_int {i : Int} {QB : Int → Prop} (q : QB i) : ∃ i', V.int i = .int i' ∧ QB i' := ⟨i, rfl, q⟩
theorem r_slL {K : PySem.W.Frag} {lo hi : Option Int} {H : Hp} {Q : VK} {a : Addr} {xs : List V} (h : SqL K H a xs) (q : ∀ p, H p = none → Q (.ref p) (upd H p (.lst (cutV xs lo hi)))) : rSlL K (.ref a) lo hi H Q := ⟨a, xs, rfl, h, q⟩
theorem r_lst1 {K : PySem.W.Frag} {H : Hp} {Q : VK} {a : Addr} {xs : List V} (h : SqL K H a xs ∨ SqT K H a xs) (q : ∀ l, H l = none → Q (.ref l) (upd H l (.lst xs))) : rLst K [.ref a] H Q := ⟨a, xs, rfl, h, q⟩
theorem plain_listI {ns : List Int} (h : ns.length ≤ 100000) : plainD (.list (ns.map PyData.int)) = true := by
  simp only [plainD, List.length_map, plain_ints, Bool.and_true]
  exact decide_eq_true h
theorem depth_listI (ns : List Int) : PyData.depth (.list (ns.map PyData.int)) = 1 := by
  show PyData.depthAll (ns.map PyData.int) + 1 = 1
  rw [depth_ints]
theorem tup_of {K : PySem.W.Frag} {H : Hp} {a : Addr} {xs : List V} (h : H a = some (.tup xs)) : SqT K H a xs := .inl (.inl h)
end Px

set_option Elab.async false
set_option linter.all false
set_option maxRecDepth 100000
set_option maxHeartbeats 4000000
namespace Px
open RT
open PySem PySem.Spec PyProof.Rows L2
/-! ### list(reversed(xs)) -/
section
variable {prog : Program} {w : World} {A : Around} {E : Value → Shared → Prop} {s : Shared}
theorem init_rev {it l S : Addr} {items : Array Value} {R : Result → Shared → Prop} (hh : A.handled = none) (hit : s.heap.IsRevIter it l ((items.size : Int) - 1)) (hl : s.heap.IsList l items) (hne : l ≠ it) (hn : items.size ≤ sizeLine)
    (hSi : S ≠ it) (hSl : S ≠ l) (hS : s.heap.get? S = some { cls := .type "list", data := .seq #[] })
    (hR : ∀ h' tk acc c, (∀ b o, b ≠ S → b ≠ it → s.heap.get? b = some o → h'.get? b = some o) → h'.get? S = some { cls := .type "list", dict := none, data := .seq acc c, slots := #[] } →
      ItemsOf (fun i v => items[items.size - 1 - i]? = some v) acc items.size → R (.ok (.ret .none)) { s with heap := h', toks := tk }) :
    wpAny (model prog w) A.in1 (Builtin.«list.__init__» ⟨[.ref S, .ref it], []⟩)
      (fun fin s' => match fin with | .done f => R (.ok f) s' | .again c' => c'.quiet = true ∧ codeAny (model prog w) A c' R s') (fun e s' => R (.error e) s') s := by
  show wpAny _ _ (do let old ← Builtin.List.listItems (.ref S); Builtin.List.listUpdate (.ref S) (fun _ => #[]); letGo old.toList.reverse; Builtin.List.listExtendWith (.ref S) (.ref it) .none) _ _ s
  refine wpAny_bind ?_
  unfold Builtin.List.listItems
  refine wpAny_bind (wpAny_seqItems hS rfl (wpAny_pure ?_))
  show wpAny _ _ (updateSeq S (fun _ => #[]) >>= fun _ => letGo (#[] : Array Value).toList.reverse >>= fun _ => Builtin.List.listExtendWith (.ref S) (.ref it) .none) _ _ s
  refine wpAny_bind (wpAny_updateSeq hS rfl ?_)
  have hS₂ := Heap.get?_update_self (Obj.mapSeq (fun _ => (#[] : Array Value))) hS rfl
  have oth : ∀ b o, b ≠ S → s.heap.get? b = some o → (s.heap.update S (Obj.mapSeq (fun _ => (#[] : Array Value)))).get? b = some o :=
    fun b o hb e => (Heap.get?_update_other _ _ (Ne.symm hb)).trans e
  refine wpAny_bind (wpAny_letGo ?_)
  generalize hh2 : s.heap.update S (Obj.mapSeq (fun _ => (#[] : Array Value))) = h2 at oth hS₂ ⊢
  have hit1 : h2.IsRevIter it l ((items.size : Int) - 1) := hit.at fun o e => oth it o (Ne.symm hSi) e
  have hl1 : h2.IsList l items := hl.at fun o e => oth l o (Ne.symm hSl) e
  have W := (Walks.listRev (prog := prog) (w := w) (A := A.in1) hh it l hne items).toS
  have hSf : S ∉ [it, l] := by simp only [List.mem_cons, List.not_mem_nil, or_false, not_or]; exact ⟨hSi, hSl⟩
  have hT : ({ s with heap := h2 } : Shared).TypeIs (.ref it) "list_reverseiterator" := Heap.IsRevIter.typeIs (s := { s with heap := h2 }) hit1
  have h1 : Builtin.List.listSameRef (.ref S) (.ref it) = false := by simp [Builtin.List.listSameRef, hSi]
  unfold Builtin.List.listExtendWith
  refine wpAny_bind (wpAny_typeOf hT ?_)
  rw [if_neg (by rw [h1]; decide)]
  refine wpAny_bind (wpAny_pyIter_revIter (s := { s with heap := h2 }) hit1 ?_)
  refine wpAny_bind (wpAny_holding ?_)
  unfold Builtin.List.listLengthHint
  refine wpAny_bind (wpAny_specialOf hT nolen_lri ?_)
  show wpAny _ A.in1 (specialOf (Value.ref it) (Str.ofString "__length_hint__") >>= _) _ _ _
  refine wpAny_bind (wpAny_specialOf hT hint_lri ?_)
  generalize hid : ("list_reverseiterator.__length_hint__" : String) = id0
  wp_delta
  rw [show splitId id0 = some ("list_reverseiterator", "__length_hint__") from by subst hid; decide +kernel]
  subst hid
  refine wpAny_bind (wpAny_isInstance (b := true) hT (by rw [isSubtype_type]; kernel_rfl) ?_)
  refine wpAny_pure ?_
  rw [if_neg (by decide)]
  have e0 : ((items.size : Nat) : Int) - 1 - ((0 : Nat) : Int) = (items.size : Int) - 1 := by omega
  refine wpAny_pure ⟨plainId_quiet F.plain_extend_loop _, codeAny_extend_loopS W hn _ hSf _ items.size 0 _ _ _ rfl (Nat.zero_le _) ⟨Nat.zero_le _, by rw [e0]; exact hit1, hl1⟩ hS₂ (ItemsOf.nil _) fun s' acc' c' hm hS' hacc => ?_⟩
  rw [Moved.eq_with hm]
  refine hR s'.heap s'.toks acc' c' (fun b o hb hb2 e => hm.heap b o (fun hmem => ?_) (oth b o hb e)) hS' hacc
  rcases List.mem_cons.mp hmem with e' | hmem
  · exact hb e'
  · exact hb2 (List.mem_singleton.mp hmem)
theorem call_list_rev {it l : Addr} {items : Array Value} {Q : Value → Shared → Prop} (hh : A.handled = none) (hit : s.heap.IsRevIter it l ((items.size : Int) - 1)) (hl : s.heap.IsList l items) (hne : l ≠ it) (hn : items.size ≤ sizeLine)
    (hQ : ∀ h' tk acc c, (∀ b o, b ≠ it → s.heap.get? b = some o → h'.get? b = some o) → h'.get? s.heap.objs.size = some { cls := .type "list", dict := none, data := .seq acc c, slots := #[] } →
      ItemsOf (fun i v => items[items.size - 1 - i]? = some v) acc items.size → Q (.ref s.heap.objs.size) { s with heap := h', toks := tk }) :
    wpAny (model prog w) A (call (.type "list") [.ref it]) Q E s := by
  refine callType_codes (Q₁ := fun obj s₁ => obj = .ref s.heap.objs.size ∧ s₁ = { s with heap := s.heap.push { cls := .type "list", data := .seq #[] } }) PySem.F.called_list (PySem.F.typeCall_list_1 _) PySem.F.entry_list_init
    (code_list_new _ ⟨rfl, rfl⟩) fun obj s₁ h₁ => ?_
  obtain ⟨rfl, rfl⟩ := h₁
  obtain ⟨oi, hoi, _⟩ := id hit
  obtain ⟨ol, hol, _⟩ := id hl
  have hSi : s.heap.objs.size ≠ it := Nat.ne_of_gt (Heap.lt_size hoi)
  have hSl : s.heap.objs.size ≠ l := Nat.ne_of_gt (Heap.lt_size hol)
  have hS : (s.heap.push { cls := .type "list", data := .seq #[] }).get? s.heap.objs.size = some { cls := .type "list", data := .seq #[] } := Heap.get?_push_size _ rfl
  refine ⟨⟨_, hS, rfl⟩, PySem.F.args_list_init_2 _ _, init_rev (A := A.in1) (s := { s with heap := s.heap.push { cls := .type "list", data := .seq #[] } }) hh (hit.at fun o e => Heap.get?_push_of_some _ e) (hl.push _) hne hn hSi hSl hS (fun h' tk acc' c' hk hS' hacc => ?_)⟩
  exact ⟨rfl, hQ h' tk acc' c' (fun b o hb e => hk b o (Nat.ne_of_lt (Heap.lt_size e)) hb (Heap.get?_push_of_some _ e)) hS' hacc⟩
end
def tLRev (K : PySem.W.Frag) (te : TE) : TE := fun σ H Q => te σ H fun v H1 => ∃ (a : Addr) (xs : List V), v = .ref a ∧ SqL K H1 a xs ∧ ∀ q, H1 q = none → Q (.ref q) (upd H1 q (.lst xs.reverse))
theorem r_lrev {K : PySem.W.Frag} {te : TE} {σ : L2.St} {H : Hp} {Q : VK} (q : te σ H fun v H1 => ∃ (a : Addr) (xs : List V), v = .ref a ∧ SqL K H1 a xs ∧ ∀ q, H1 q = none → Q (.ref q) (upd H1 q (.lst xs.reverse))) : tLRev K te σ H Q := q
theorem peLRev (K : PySem.W.Frag) {X : Cx} (hK : X.K = K) {e : Expr} {te : TE} {p p2 pos pos2 : Pos} (hg : Gl X "list") (hm : X.mg "list" = none) (hg2 : Gl X "reversed") (hm2 : X.mg "reversed" = none) (he : PE X e te) (hc : X.calm = true := by rfl)
    (hs : starEach [e] X.env = (false, eval e X.env) :: starEach [] X.env := by rfl)
    (hs2 : starEach [.Call (.Name "reversed" p2) [e] [] pos2] X.env = (false, eval (.Call (.Name "reversed" p2) [e] [] pos2) X.env) :: starEach [] X.env := by rfl) :
    PE X (.Call (.Name "list" p) [.Call (.Name "reversed" p2) [e] [] pos2] [] pos) (tLRev K te) := by
  subst hK
  refine ⟨fun pins s σ H Q I h => ?_⟩
  refine Call_ (ld_blt I hg hm boot_list (PyProof.Rows.callWith_type1 (args_cons (Call_ (ld_blt I hg2 hm2 PyProof.Rows.boot_reversed (PyProof.Rows.callWith_type1 (args_cons (thn (he.run pins s σ H _ I h) fun u s1 ⟨v, H1, I1, r1, q1⟩ => args_nil ?_) hs) hs rfl))) hs2) hs2 rfl))
  obtain ⟨a, xs, ev, hq, q⟩ := q1
  subst ev
  obtain rfl : u = Value.ref a := r1
  obtain ⟨its, rv, p', hz⟩ := I1.list hq
  refine call_reversed_list p'.isList (args_nil ?_)
  have k0 : ∀ b o, s1.heap.get? b = some o → (s1.heap.push (revObj a ((its.toArray.size : Int) - 1))).get? b = some o := fun b o e => Heap.get?_push_of_some _ e
  have I2 : Inv X pins σ H1 { s1 with heap := s1.heap.push (revObj a ((its.toArray.size : Int) - 1)) } := I1.kept (t' := s1.toks) k0
  obtain ⟨f0, f1, f2, f3, f4, f5⟩ := I1.fpOk (H' := H1) (b := s1.heap.objs.size) (Nat.le_refl _) (I1.hok.fresh (Nat.le_refl _))
  have hl := p'.isList
  obtain ⟨ol, hol, _⟩ := id hl
  have hne : a ≠ s1.heap.objs.size := Nat.ne_of_lt (Heap.lt_size hol)
  have hn : its.toArray.size ≤ sizeLine := by rw [List.size_toArray, ← rv.length]; exact hz
  refine call_list_rev (s := { s1 with heap := s1.heap.push (revObj a ((its.toArray.size : Int) - 1)) }) (I1.ok.hd hc) ⟨_, Heap.get?_push_size _ rfl, rfl, rfl⟩ (hl.push _) hne hn fun h' tk acc c hk hS hi => ?_
  have nit : (s1.heap.push (revObj a ((its.toArray.size : Int) - 1))).objs.size ≠ s1.heap.objs.size := by rw [Heap.size_push]; omega
  have hfo : ∀ b ∈ [s1.heap.objs.size], FpOk X pins H1 b := fun b hb => by
    rw [List.mem_singleton.mp hb]
    exact ⟨f0, f1, f2, f3, f4, f5⟩
  have hok : ObjOk X.prog X.w (upd H1 (s1.heap.push (revObj a ((its.toArray.size : Int) - 1))).objs.size (.lst xs.reverse)) h' (s1.heap.push (revObj a ((its.toArray.size : Int) - 1))).objs.size (.lst xs.reverse) :=
    ⟨by rw [List.length_reverse]; exact hz, acc.toList, c, vals_rev rv hi, by rw [Array.toArray_toList]; exact hS⟩
  refine ⟨.ref (s1.heap.push (revObj a ((its.toArray.size : Int) - 1))).objs.size, _, I2.turnedNew (t' := tk) (ch := [s1.heap.objs.size]) (fun b o hb e => hk b o (fun z => hb (by rw [z]; exact List.mem_singleton.mpr rfl)) e) hfo (Nat.le_refl _) hok, rfl, q _ (I1.hok.fresh ?_)⟩
  rw [Heap.size_push]
  omega
end Px

set_option Elab.async false
set_option linter.all false
set_option maxRecDepth 100000
set_option maxHeartbeats 4000000
namespace Px
open PySem PySem.Spec PyProof.Rows L2
/-! ### orders of the numbers below n -/
def ntL (ns : List Nat) : List V := ns.map fun (k : Nat) => V.int (k : Int)
theorem ntL_int (ns : List Nat) : ntL ns = intL (ns.map fun (k : Nat) => (k : Int)) := by
  unfold ntL
  show _ = List.map V.int _
  rw [List.map_map]
  rfl
theorem ntL_length (ns : List Nat) : (ntL ns).length = ns.length := List.length_map _
theorem ntL_snoc (ns : List Nat) (k : Nat) : ntL (ns ++ [k]) = ntL ns ++ [V.int (k : Int)] := by
  unfold ntL
  rw [List.map_append]
  rfl
theorem ntL_at {ns : List Nat} {i : Nat} {x : V} (h : (ntL ns)[i]? = some x) : ∃ k, ns[i]? = some k ∧ x = V.int (k : Int) := by
  unfold ntL at h
  rw [List.getElem?_map] at h
  cases e : ns[i]? with
  | none =>
    rw [e] at h
    cases h
  | some z =>
    rw [e] at h
    exact ⟨z, rfl, (Option.some.inj h).symm⟩
theorem ntL_get {ns : List Nat} {i k : Nat} (h : ns[i]? = some k) : (ntL ns)[i]? = some (V.int (k : Int)) := by
  unfold ntL
  rw [List.getElem?_map, h]
  rfl
theorem ntL_range (n : Nat) : ntL (List.range n) = (List.range n).map fun (k : Nat) => V.int (k : Int) := rfl
theorem ntL_insert (xs : List Nat) (r i : Nat) : (ntL xs).take r ++ [V.int (i : Int)] ++ (ntL xs).drop r = ntL (xs.take r ++ [i] ++ xs.drop r) := by
  unfold ntL
  simp only [List.map_append, List.map_take, List.map_drop, List.map_cons, List.map_nil]
theorem rise_natlist {xs : List Nat} (h : xs.Pairwise (· < ·)) : (xs.map fun (k : Nat) => (k : Int)).Pairwise (· ≤ ·) := by
  rw [List.pairwise_map]
  exact h.imp fun h => by omega
/-- sorted of an order is the range -/
theorem sorted_order {ss : List Int} {os : List Nat} (pm : os.Perm (List.range os.length)) (h : ss.Perm (os.map fun (k : Nat) => (k : Int))) (hs : ss.Pairwise (· ≤ ·)) :
    ss = (List.range os.length).map fun (k : Nat) => (k : Int) :=
  List.Perm.eq_of_pairwise (fun a b _ _ h1 h2 => by omega) hs (rise_natlist List.pairwise_lt_range) (h.trans (pm.map _))
theorem perm_range_of {xs : List Nat} (nd : xs.Nodup) (h : ∀ x ∈ xs, x < xs.length) : xs.Perm (List.range xs.length) := by
  refine (List.perm_ext_iff_of_nodup nd List.nodup_range).mpr fun a => ⟨fun ha => List.mem_range.mpr (h a ha), fun ha => ?_⟩
  refine Classical.byContradiction fun hn => ?_
  have h1 : (a :: xs).Nodup := List.nodup_cons.mpr ⟨hn, nd⟩
  have h2 : (a :: xs) ⊆ List.range xs.length := fun b hb => by
    rcases List.mem_cons.mp hb with rfl | hb
    · exact ha
    · exact List.mem_range.mpr (h b hb)
  have h3 := h1.length_le_of_subset h2
  rw [List.length_cons, List.length_range] at h3
  omega
theorem order_nodup {os : List Nat} (pm : os.Perm (List.range os.length)) : os.Nodup := pm.nodup_iff.mpr List.nodup_range
theorem order_lt {os : List Nat} (pm : os.Perm (List.range os.length)) {k : Nat} (h : k ∈ os) : k < os.length := List.mem_range.mp (pm.mem_iff.mp h)
theorem order_mem {os : List Nat} (pm : os.Perm (List.range os.length)) {k : Nat} (h : k < os.length) : k ∈ os := pm.mem_iff.mpr (List.mem_range.mpr h)
/-- at each place the place at which that number stands -/
def undo (os : List Nat) : List Nat := (List.range os.length).map fun k => os.idxOf k
theorem undo_length (os : List Nat) : (undo os).length = os.length := by
  unfold undo
  rw [List.length_map, List.length_range]
theorem idxOf_of {os : List Nat} (nd : os.Nodup) {i k : Nat} (h : os[i]? = some k) : os.idxOf k = i := by
  obtain ⟨hi, e⟩ := List.getElem?_eq_some_iff.mp h
  rw [← e]
  exact nd.idxOf_getElem i hi
theorem get_idxOf {os : List Nat} {k : Nat} (h : k ∈ os) : os[os.idxOf k]? = some k := by
  have hl := List.idxOf_lt_length_of_mem h
  rw [List.getElem?_eq_getElem hl, List.getElem_idxOf hl]
theorem undo_get {os : List Nat} {k : Nat} (h : k < os.length) : (undo os)[k]? = some (os.idxOf k) := by
  unfold undo
  rw [List.getElem?_map, List.getElem?_range h]
  rfl
theorem undo_perm {os : List Nat} (pm : os.Perm (List.range os.length)) : (undo os).Perm (List.range (undo os).length) := by
  refine perm_range_of ?_ fun x hx => ?_
  · unfold undo List.Nodup
    rw [List.pairwise_map]
    refine List.Pairwise.imp_of_mem (fun {a b} ha hb hab e => hab ?_) List.nodup_range
    have h1 := get_idxOf (order_mem pm (List.mem_range.mp ha))
    have h2 := get_idxOf (order_mem pm (List.mem_range.mp hb))
    rw [e, h2] at h1
    exact (Option.some.inj h1).symm
  · rw [undo_length]
    obtain ⟨k, hk, rfl⟩ := List.mem_map.mp hx
    exact List.idxOf_lt_length_of_mem (order_mem pm (List.mem_range.mp hk))
/-! ### dicts of places -/
def rkv : List Int → Nat → List (Key × V)
  | [], _ => []
  | x :: r, i => (.inl x, .int (i : Nat)) :: rkv r (i + 1)
theorem rkv_length : ∀ (ss : List Int) (i : Nat), (rkv ss i).length = ss.length
  | [], _ => rfl
  | x :: r, i => by
    show (rkv r (i + 1)).length + 1 = r.length + 1
    rw [rkv_length r]
theorem rkv_snoc : ∀ (ss : List Int) (x : Int) (i : Nat), rkv (ss ++ [x]) i = rkv ss i ++ [(.inl x, .int ((i + ss.length : Nat) : Int))]
  | [], x, i => rfl
  | y :: r, x, i => by
    show (Sum.inl y, V.int (i : Nat)) :: rkv (r ++ [x]) (i + 1) = (Sum.inl y, V.int (i : Nat)) :: (rkv r (i + 1) ++ _)
    rw [rkv_snoc r x (i + 1)]
    have e : i + 1 + r.length = i + (y :: r).length := by rw [List.length_cons]; omega
    rw [e]
theorem rkv_any : ∀ (ss : List Int) (x : Int) (i : Nat), x ∉ ss → ((rkv ss i).any fun kv => decide (kv.1 = (Sum.inl x : Key))) = false
  | [], _, _, _ => rfl
  | y :: r, x, i, h => by
    show (decide ((Sum.inl y : Key) = Sum.inl x) || (rkv r (i + 1)).any _) = false
    rw [rkv_any r x (i + 1) fun z => h (List.mem_cons_of_mem _ z), Bool.or_false]
    refine decide_eq_false fun e => h ?_
    cases e
    exact List.mem_cons_self
theorem rkv_put {ss : List Int} {x : Int} {i : Nat} (h : x ∉ ss) : putK (rkv ss i) (.inl x) (.int ((i + ss.length : Nat) : Int)) = rkv (ss ++ [x]) i := by
  unfold putK
  rw [rkv_any ss x i h, if_neg Bool.false_ne_true, rkv_snoc]
theorem rkv_at : ∀ (ss : List Int) (x : Int) (i j : Nat), ss.Nodup → ss[j]? = some x → valV (rkv ss i) (.inl x) = some (.int ((i + j : Nat) : Int))
  | [], _, _, _, _, h => by simp at h
  | y :: r, x, i, 0, _, h => by
    simp at h
    subst h
    exact valV_pos rfl
  | y :: r, x, i, j + 1, hn, h => by
    have hn1 := List.nodup_cons.mp hn
    have h2 : r[j]? = some x := by simpa using h
    have e : ¬ y = x := fun e => hn1.1 (by rw [e]; exact List.mem_of_getElem? h2)
    have ih := rkv_at r x (i + 1) j hn1.2 h2
    show valV ((Sum.inl y, V.int (i : Nat)) :: rkv r (i + 1)) (Sum.inl x) = _
    rw [valV_neg (fun q => e (by cases q; rfl)), ih]
    congr 3
    omega
/-- the next number goes behind -/
theorem rkv_step {ss : List Int} {i : Nat} {z : Int} (nd : ss.Nodup) (hz : ss[i]? = some z) : putK (rkv (ss.take i) 0) (.inl z) (.int (i : Nat)) = rkv (ss.take (i + 1)) 0 := by
  have hi := lt_of_at hz
  have hz2 : z ∉ ss.take i := fun hm => by
    obtain ⟨j, hj⟩ := List.mem_iff_getElem?.mp hm
    rw [List.getElem?_take] at hj
    by_cases hji : j < i
    · rw [if_pos hji] at hj
      have := nd_ix nd hj hz
      omega
    · rw [if_neg hji] at hj
      cases hj
  have e5 : ss.take (i + 1) = ss.take i ++ [z] := by
    rw [List.take_add_one, hz]
    rfl
  have e6 : (ss.take i).length = i := by rw [List.length_take]; omega
  have e7 := rkv_put (ss := ss.take i) (x := z) (i := 0) hz2
  rw [e6, Nat.zero_add] at e7
  rw [e5, ← e7]
/-! ### ranks -/
def below (ns : List Int) (x : Int) : Nat := (ns.filter fun y => decide (y < x)).length
def ranksN (ns : List Int) : List Nat := ns.map fun x => below ns x
def ranks (ns : List Int) : List Int := ns.map fun x => (below ns x : Int)
theorem ranks_nat (ns : List Int) : intL (ranks ns) = ntL (ranksN ns) := by
  unfold ranks ranksN ntL
  show List.map V.int (List.map _ _) = _
  rw [List.map_map, List.map_map]
  rfl
theorem sorted_strict {ss : List Int} (h : ss.Pairwise (· ≤ ·)) (n : ss.Nodup) : ss.Pairwise (· < ·) := by
  refine List.Pairwise.imp_of_mem (S := (· < ·)) (fun {a b} _ _ hab => ?_) (h.and n)
  omega
theorem below_perm {ss ns : List Int} (p : ss.Perm ns) (x : Int) : (ss.filter fun y => decide (y < x)).length = below ns x := (p.filter _).length_eq
theorem sorted_below : ∀ {ss : List Int} {j : Nat} {x : Int}, ss.Pairwise (· < ·) → ss[j]? = some x → (ss.filter fun y => decide (y < x)).length = j
  | [], _, _, _, h => by simp at h
  | y :: r, 0, x, hs, h => by
    simp at h
    subst h
    have hs1 := List.pairwise_cons.mp hs
    have z : ((y :: r).filter fun z => decide (z < y)) = [] := by
      rw [List.filter_eq_nil_iff]
      intro z hz
      rcases List.mem_cons.mp hz with rfl | hz
      · simp
      · have := hs1.1 z hz
        simp
        omega
    rw [z]
    rfl
  | y :: r, j + 1, x, hs, h => by
    have hs1 := List.pairwise_cons.mp hs
    have h2 : r[j]? = some x := by simpa using h
    have ih := sorted_below hs1.2 h2
    have hy := hs1.1 x (List.mem_of_getElem? h2)
    rw [List.filter_cons, if_pos (decide_eq_true hy), List.length_cons, ih]
/-! ### lists told -/
theorem rev_ints (ns : List Int) : (intL ns).reverse = intL ns.reverse := by
  show (List.map V.int ns).reverse = List.map V.int ns.reverse
  rw [List.map_reverse]
theorem mtIndex (K : PySem.W.Frag) {X : Cx} (hK : X.K = K) : MtR X "list.index" (rIndex K) := hK ▸ mt_index
theorem r_index {K : PySem.W.Frag} {H : Hp} {Q : VK} {a : Addr} {os : List Nat} {k : Nat} (h : SqL K H a (ntL os)) (hk : k ∈ os) (q : Q (.int (os.idxOf k : Nat)) H) : rIndex K (.ref a) [.int (k : Int)] H Q := by
  refine ⟨a, ntL os, .int (k : Int), os.idxOf k, .int (k : Int), rfl, rfl, h, rfl, ?_, ntL_get (get_idxOf hk), ?_, fun m z' hm hz => ?_, q⟩
  · rw [List.all_eq_true]
    intro x hx
    unfold ntL at hx
    obtain ⟨y, _, rfl⟩ := List.mem_map.mp hx
    rfl
  · show ((k : Int) == (k : Int)) = true
    exact beq_self_eq_true _
  · obtain ⟨y, hy, rfl⟩ := ntL_at hz
    show ((y : Int) == (k : Int)) = false
    refine beq_eq_false_iff_ne.mpr fun e => ?_
    have e2 : y = k := by omega
    subst e2
    have h1 := lt_of_at hy
    have := List.not_of_lt_findIdx (xs := os) (p := fun x => x == y) (i := m) (by unfold List.idxOf at hm; exact hm)
    obtain ⟨_, e3⟩ := List.getElem?_eq_some_iff.mp hy
    rw [e3] at this
    simp at this
/-- a def that a local name holds -/
structure HeldF (P : Program) (w : World) (K : PySem.W.Frag) (mg : Str → Option Value) (base : Heap) (k : Nat) (f : Addr) (sp : Sp) : Prop where
  ex : ∃ (fd : FuncData) (ps : List Str), FnOk P w K mg base CX0 k f fd ps sp ∧ PySem.W.keepIn K (.ref f) = true ∧ Binds K fd ps []
def tCalH (P : Program) (w : World) (K : PySem.W.Frag) (mg : Str → Option Value) (base : Heap) (k i : Nat) (t : TA) : TE := fun σ H Q => ∃ f sp, σ[i]? = some (some (.ref f)) ∧ HeldF P w K mg base k f sp ∧ t σ H fun vs H1 => sp vs H1 Q E0
theorem r_calH {P : Program} {w : World} {K : PySem.W.Frag} {mg : Str → Option Value} {base : Heap} {k i : Nat} {t : TA} {σ : L2.St} {H : Hp} {Q : VK} (q : ∃ f sp, σ[i]? = some (some (.ref f)) ∧ HeldF P w K mg base k f sp ∧ t σ H fun vs H1 => sp vs H1 Q E0) : tCalH P w K mg base k i t σ H Q := q
theorem pe_calH {X : Cx} {k i : Nat} {x : Str} {p pos : Pos} {e : Expr} {es : List Expr} {t : TA} (hr : Room k X.A) (hN : X.N[i]? = some x) (hv : Vis X.env.scope x) (ha : PA X (e :: es) t)
    (hdb : (x == ("__debug__" : Str)) = false := by decide) (hcd : (x == ("__classdict__" : Str)) = false := by decide)
    (he : starEach (e :: es) X.env = (false, eval e X.env) :: starEach es X.env := by rfl) (hpl : (backTo pos (starEach es X.env)).any (·.1) = false := by rfl) : PE X (.Call (.Name x p) (e :: es) [] pos) (tCalH X.prog X.w X.K X.mg X.base k i t) := by
  refine ⟨fun pins s σ H Q I h => ?_⟩
  obtain ⟨f, sp, hs, hS, ht⟩ := h
  obtain ⟨fd, ps, F, hk, hb⟩ := hS.ex
  refine wpAny_Call_Name_kw (thn ((pe_var (pos := p) hN hv hdb hcd).run pins s σ H (fun v H1 => v = .ref f ∧ H1 = H) I ⟨.ref f, hs, rfl, rfl⟩) fun u s1 ⟨v, H1, I1, r1, q1⟩ => ?_)
  obtain ⟨rfl, rfl⟩ := q1
  cases r1
  refine PySem.W.callWith_K (h₀ := X.base) I.ok.mod.kin hk (thn (ha.run pos pins s1 σ _ _ I1 ht) fun us s2 ⟨vs, H2, I2, r, q⟩ => ⟨I2.kIn, ?_⟩) he hpl
  exact run_fn (dvs := []) (ds := []) F hr hb .nil pass0 I2 r (by rw [List.append_nil]; exact q)
end Px

set_option Elab.async false
set_option linter.all false
set_option maxRecDepth 100000
set_option maxHeartbeats 4000000
namespace Px
open PySem PySem.Spec PyProof.Rows L2
/-! ### comprehensions that change nothing: what they build -/
section
variable {K : PySem.W.Frag} {σ : L2.St} {H : Hp} {Q : VK} {te : TE} {tt : TT} {vs : List Nat} {j n : Nat} {a : Addr} {xs : List V} {ta : TA}
theorem r_lcR2 {g : TG} (q : ta σ H fun vs1 H1 => ∃ i j : Int, vs1 = [.int i, .int j] ∧ (-(2 ^ 62) ≤ i ∧ i < 2 ^ 62 ∧ -(2 ^ 62) ≤ j ∧ j < 2 ^ 62) ∧ lcJ (Itr i (j - i).toNat) g tt te vs σ H1 Q) : tLc (iRng2 ta) g tt te vs σ H Q := q
theorem r_lcR21 {g : TG} {z y lo : Int} {m : Nat} (hz : z = lo) (hy : y = lo + (m : Int)) (h1 : -1000000000 ≤ lo) (h2 : lo ≤ 1000000000) (hm : m ≤ 1000000000) (q : lcJ (Itr lo m) g tt te vs σ H Q) :
    ∃ i j : Int, [V.int z, V.int y] = [.int i, .int j] ∧ (-(2 ^ 62) ≤ i ∧ i < 2 ^ 62 ∧ -(2 ^ 62) ≤ j ∧ j < 2 ^ 62) ∧ lcJ (Itr i (j - i).toNat) g tt te vs σ H Q := by
  subst hz hy
  refine ⟨z, z + m, rfl, ⟨by omega, by omega, by omega, by omega⟩, ?_⟩
  rw [show (z + (m : Int) - z).toNat = m by omega]
  exact q
/-- over a range: f of each turn -/
theorem lcR_map {lo : Int} (f : Nat → V) (hn : n ≤ 100000) (hw : ∀ x, wipe ((wipe σ vs).set j (some x)) vs = wipe σ vs)
    (hs : ∀ (i : Nat) (H' : Hp) (R : VK), i < n → Same H H' → (∀ H'', Same H' H'' → R (f i) H'') → te ((wipe σ vs).set j (some (.int (lo + (i : Nat))))) H' R)
    (q : ∀ D H', H D = none → Same H H' → H' D = some (.lst ((List.range n).map f)) → Q (.ref D) H') : lcJ (Itr lo n) (gName j) tYes te vs σ H Q := fun D hD =>
  lc_range (n := n) (fun i H' => Same H H' ∧ H' D = some (.lst ((List.range i).map f))) ⟨same_new hD, upd_same⟩ (fun i H' hi ⟨s4, e4⟩ => ⟨hw _, by
    refine r_yes (iteT ?_)
    refine hs i H' _ hi s4 fun H'' s5 => ⟨_, s5 _ _ e4, r_smalll (by rw [List.length_map, List.length_range]; omega), same_mut (s4.trans s5) hD, ?_⟩
    rw [upd_same, List.range_succ, List.map_append]
    rfl⟩) fun H' ⟨s4, e4⟩ => q D H' hD s4 e4
/-- over a range, some left out -/
theorem lcR_filter {lo : Int} (p : Nat → Bool) (f : Nat → V) (hn : n ≤ 100000) (hw : ∀ x, wipe ((wipe σ vs).set j (some x)) vs = wipe σ vs)
    (ht : ∀ (i : Nat) (H' : Hp) (R : Bool → Hp → Prop), i < n → Same H H' → (∀ H'', Same H' H'' → R (p i) H'') → tt ((wipe σ vs).set j (some (.int (lo + (i : Nat))))) H' R)
    (hs : ∀ (i : Nat) (H' : Hp) (R : VK), i < n → p i = true → Same H H' → (∀ H'', Same H' H'' → R (f i) H'') → te ((wipe σ vs).set j (some (.int (lo + (i : Nat))))) H' R)
    (q : ∀ D H', H D = none → Same H H' → H' D = some (.lst (((List.range n).filter p).map f)) → Q (.ref D) H') : lcJ (Itr lo n) (gName j) tt te vs σ H Q := fun D hD =>
  lc_range (n := n) (fun i H' => Same H H' ∧ H' D = some (.lst (((List.range i).filter p).map f))) ⟨same_new hD, upd_same⟩ (fun i H' hi ⟨s4, e4⟩ => ⟨hw _, by
    have e5 : (List.range (i + 1)).filter p = (List.range i).filter p ++ [i].filter p := by rw [List.range_succ, List.filter_append]
    refine ht i H' _ hi s4 fun H2 s5 => ?_
    cases hp : p i with
    | true =>
      refine iteT ?_
      have hl := List.length_filter_le p (List.range i)
      rw [List.length_range] at hl
      refine hs i H2 _ hi hp (s4.trans s5) fun H'' s6 => ⟨_, s6 _ _ (s5 _ _ e4), r_smalll (by rw [List.length_map]; omega), same_mut ((s4.trans s5).trans s6) hD, ?_⟩
      rw [upd_same, e5, List.filter_cons, if_pos hp, List.filter_nil, List.map_append]
      rfl
    | false =>
      refine iteF ?_
      refine ⟨s4.trans s5, ?_⟩
      rw [e5, List.filter_cons, if_neg (by rw [hp]; exact Bool.false_ne_true), List.filter_nil, List.append_nil]
      exact s5 _ _ e4⟩) fun H' ⟨s4, e4⟩ => q D H' hD s4 e4
/-- over a list: f of each item -/
theorem lcL_map (f : V → V) (hx : SqL K H a xs) (hn : xs.length ≤ 100000) (hw : ∀ x, wipe ((wipe σ vs).set j (some x)) vs = wipe σ vs)
    (hs : ∀ (i : Nat) (x : V) (H' : Hp) (R : VK), xs[i]? = some x → Same H H' → (∀ H'', Same H' H'' → R (f x) H'') → te ((wipe σ vs).set j (some x)) H' R)
    (q : ∀ D H', H D = none → Same H H' → H' D = some (.lst (xs.map f)) → Q (.ref D) H') : lcJ (Itl K a) (gName j) tYes te vs σ H Q := fun D hD =>
  lc_list (xs := xs) (fun i H' => Same H H' ∧ H' D = some (.lst ((xs.take i).map f))) ⟨same_new hD, upd_same⟩ (fun i H' _ p => p.1.seq hx) (fun i x H' hi ⟨s4, e4⟩ => ⟨hw _, by
    refine r_yes (iteT ?_)
    have hi2 := lt_of_at hi
    refine hs i x H' _ hi s4 fun H'' s5 => ⟨_, s5 _ _ e4, r_smalll (by rw [List.length_map, List.length_take]; omega), same_mut (s4.trans s5) hD, ?_⟩
    rw [upd_same, List.take_add_one, hi, List.map_append]
    rfl⟩) fun H' ⟨s4, e4⟩ => q D H' hD s4 (by rw [List.take_length] at e4; exact e4)
/-- over a list, some left out -/
theorem lcL_filter (p : V → Bool) (f : V → V) (hx : SqL K H a xs) (hn : xs.length ≤ 100000) (hw : ∀ x, wipe ((wipe σ vs).set j (some x)) vs = wipe σ vs)
    (ht : ∀ (i : Nat) (x : V) (H' : Hp) (R : Bool → Hp → Prop), xs[i]? = some x → Same H H' → (∀ H'', Same H' H'' → R (p x) H'') → tt ((wipe σ vs).set j (some x)) H' R)
    (hs : ∀ (i : Nat) (x : V) (H' : Hp) (R : VK), xs[i]? = some x → p x = true → Same H H' → (∀ H'', Same H' H'' → R (f x) H'') → te ((wipe σ vs).set j (some x)) H' R)
    (q : ∀ D H', H D = none → Same H H' → H' D = some (.lst ((xs.filter p).map f)) → Q (.ref D) H') : lcJ (Itl K a) (gName j) tt te vs σ H Q := fun D hD =>
  lc_list (xs := xs) (fun i H' => Same H H' ∧ H' D = some (.lst (((xs.take i).filter p).map f))) ⟨same_new hD, upd_same⟩ (fun i H' _ p => p.1.seq hx) (fun i x H' hi ⟨s4, e4⟩ => ⟨hw _, by
    have hi2 := lt_of_at hi
    have e5 : (xs.take (i + 1)).filter p = (xs.take i).filter p ++ [x].filter p := by
      rw [List.take_add_one, hi, List.filter_append]
      rfl
    refine ht i x H' _ hi s4 fun H2 s5 => ?_
    cases hp : p x with
    | true =>
      refine iteT ?_
      have hl := List.length_filter_le p (xs.take i)
      rw [List.length_take] at hl
      refine hs i x H2 _ hi hp (s4.trans s5) fun H'' s6 => ⟨_, s6 _ _ (s5 _ _ e4), r_smalll (by rw [List.length_map]; omega), same_mut ((s4.trans s5).trans s6) hD, ?_⟩
      rw [upd_same, e5, List.filter_cons, if_pos hp, List.filter_nil, List.map_append]
      rfl
    | false =>
      refine iteF ?_
      refine ⟨s4.trans s5, ?_⟩
      rw [e5, List.filter_cons, if_neg (by rw [hp]; exact Bool.false_ne_true), List.filter_nil, List.append_nil]
      exact s5 _ _ e4⟩) fun H' ⟨s4, e4⟩ => q D H' hD s4 (by rw [List.take_length] at e4; exact e4)
end
end Px

set_option Elab.async false
set_option linter.all false
set_option maxRecDepth 100000
set_option maxHeartbeats 4000000
namespace Px
open PySem PySem.Spec PyProof.Rows L2
/-! ### xs[i] += e -/
def rGetL (K : PySem.W.Frag) : V → V → Hp → VK → Prop := fun o i H Q => ∃ p xs k v, o = .ref p ∧ i = .int k ∧ SqL K H p xs ∧ 0 ≤ k ∧ k < 1000000000 ∧ xs[k.toNat]? = some v ∧ Q v H
theorem getL (K : PySem.W.Frag) {X : Cx} (hK : X.K = K) : PGet X (rGetL K) := by
  subst hK
  intro pins s σ H o i ov iv Q I ro ri h
  obtain ⟨p, xs, k, v, rfl, rfl, hs, h0, h1, hv, q⟩ := h
  cases ro
  obtain ⟨t, rfl⟩ := ri
  obtain ⟨its, r, pl, hz⟩ := I.list hs
  obtain ⟨w, ew, rw'⟩ := r.get hv
  exact wpAny_getItem_list pl.isList h0 (by omega) (by simpa using ew) ⟨v, H, I, rw', q⟩
theorem r_augS {to ti te : TE} {tget : V → V → Hp → VK → Prop} {tip : TIp} {tset : TSet} {σ : L2.St} {H : Hp} {n b ct : L2.St → Hp → Prop} {rt : VK}
    (q : to σ H fun o H1 => ti σ H1 fun i H2 => tget o i H2 fun x H3 => te σ H3 fun y H4 => tip x y H4 fun z H5 => tset o i z H5 fun H6 => n σ H6) : tAugS to ti te tget tip tset ⟨n, rt, b, ct⟩ σ H := q
theorem r_getL {K : PySem.W.Frag} {H : Hp} {Q : VK} {p : Addr} {xs : List V} {k : Int} {v : V} (hs : SqL K H p xs) (h0 : 0 ≤ k) (h1 : k < 1000000000) (hv : xs[k.toNat]? = some v) (q : Q v H) : rGetL K (.ref p) (.int k) H Q := ⟨p, xs, k, v, rfl, rfl, hs, h0, h1, hv, q⟩
theorem r_ipI {f : Int → Int → Int} {i j : Int} {H : Hp} {Q : VK} (q : Q (.int (f i j)) H) : ipI f (.int i) (.int j) H Q := ⟨i, j, rfl, rfl, q⟩
theorem r_aug {i : Nat} {te : TE} {ti : TIp} {σ : L2.St} {H : Hp} {n b ct : L2.St → Hp → Prop} {rt : VK} {x : V} (h : σ[i]? = some (some x)) (q : te σ H fun y H1 => ti x y H1 fun z H2 => n (σ.set i (some z)) H2) : tAug i te ti ⟨n, rt, b, ct⟩ σ H := ⟨x, h, q⟩
theorem ixN_nat {n : Nat} {k : Int} (h0 : 0 ≤ k) (h : k < n) : ixN n k = some k.toNat := by
  unfold ixN
  rw [if_pos h0, if_pos h]
/-! ### lists of pairs -/
/-- the values xs are tuples of the pairs ws -/
inductive Wl (H : Hp) : List V → List (Int × Int) → Prop where
  | nil : Wl H [] []
  | cons {t : Addr} {a b : Int} {xs : List V} {ws : List (Int × Int)} (h : H t = some (.tup [.int a, .int b])) (r : Wl H xs ws) : Wl H (.ref t :: xs) ((a, b) :: ws)
theorem Wl.same {H H' : Hp} (e : Same H H') : ∀ {xs : List V} {ws : List (Int × Int)}, Wl H xs ws → Wl H' xs ws
  | _, _, .nil => .nil
  | _, _, .cons h r => .cons (e _ _ h) (Wl.same e r)
theorem Wl.upto {p : Addr} {H H' : Hp} (d : Dk H p) (e : Upto p H H') : ∀ {xs : List V} {ws : List (Int × Int)}, Wl H xs ws → Wl H' xs ws
  | _, _, .nil => .nil
  | _, _, .cons (t := t) h r => .cons (e _ _ (fun z => by
      obtain ⟨x, _, q⟩ := d
      rw [z, q] at h
      cases h) h) (Wl.upto d e r)
theorem Wl.mut {H H' : Hp} (e : ∀ t xs, H t = some (.tup xs) → H' t = some (.tup xs)) : ∀ {xs : List V} {ws : List (Int × Int)}, Wl H xs ws → Wl H' xs ws
  | _, _, .nil => .nil
  | _, _, .cons h r => .cons (e _ _ h) (Wl.mut e r)
theorem Wl.len {H : Hp} : ∀ {xs : List V} {ws : List (Int × Int)}, Wl H xs ws → xs.length = ws.length
  | _, _, .nil => rfl
  | _, _, .cons _ r => by rw [List.length_cons, List.length_cons, r.len]
theorem Wl.get {H : Hp} : ∀ {xs : List V} {ws : List (Int × Int)} {i : Nat} {w : Int × Int}, Wl H xs ws → ws[i]? = some w → ∃ t, xs[i]? = some (.ref t) ∧ H t = some (.tup [.int w.1, .int w.2])
  | _, _, _, _, .nil, h => by simp at h
  | _, _, 0, _, .cons h r, e => by
    simp at e
    subst e
    exact ⟨_, rfl, h⟩
  | _, _, i + 1, _, .cons h r, e => r.get (i := i) (by simpa using e)
theorem Wl.at {H : Hp} : ∀ {xs : List V} {ws : List (Int × Int)} {i : Nat} {x : V}, Wl H xs ws → xs[i]? = some x → ∃ t w, x = .ref t ∧ ws[i]? = some w ∧ H t = some (.tup [.int w.1, .int w.2])
  | _, _, _, _, .nil, h => by simp at h
  | _, _, 0, _, .cons h r, e => by
    simp at e
    subst e
    exact ⟨_, _, rfl, rfl, h⟩
  | _, _, i + 1, _, .cons h r, e => by
    obtain ⟨t, w, h1, h2, h3⟩ := r.at (i := i) (by simpa using e)
    exact ⟨t, w, h1, by simpa using h2, h3⟩
theorem Wl.append {H : Hp} : ∀ {xs ys : List V} {ws us : List (Int × Int)}, Wl H xs ws → Wl H ys us → Wl H (xs ++ ys) (ws ++ us)
  | _, _, _, _, .nil, r => r
  | _, _, _, _, .cons h r, r2 => .cons h (r.append r2)
theorem Wl.take {H : Hp} : ∀ {xs : List V} {ws : List (Int × Int)} (n : Nat), Wl H xs ws → Wl H (xs.take n) (ws.take n)
  | _, _, 0, _ => .nil
  | _, _, n + 1, .nil => .nil
  | _, _, n + 1, .cons h r => .cons h (Wl.take n r)
theorem Wl.drop {H : Hp} : ∀ {xs : List V} {ws : List (Int × Int)} (n : Nat), Wl H xs ws → Wl H (xs.drop n) (ws.drop n)
  | _, _, 0, r => r
  | _, _, n + 1, .nil => .nil
  | _, _, n + 1, .cons h r => Wl.drop n r
theorem Wl.eraseIdx {H : Hp} : ∀ {xs : List V} {ws : List (Int × Int)} (n : Nat), Wl H xs ws → Wl H (xs.eraseIdx n) (ws.eraseIdx n)
  | _, _, _, .nil => by simpa using Wl.nil
  | _, _, 0, .cons h r => r
  | _, _, n + 1, .cons h r => .cons h (Wl.eraseIdx n r)
theorem Wl.perm {H : Hp} {xs ys : List V} (p : xs.Perm ys) : ∀ {ws : List (Int × Int)}, Wl H xs ws → ∃ us, Wl H ys us ∧ us.Perm ws := by
  induction p with
  | nil => intro ws h; exact ⟨ws, h, List.Perm.refl _⟩
  | cons x _ ih =>
    intro ws h
    cases h with
    | cons h r =>
      obtain ⟨us, h1, h2⟩ := ih r
      exact ⟨_, .cons h h1, h2.cons _⟩
  | swap x y l =>
    intro ws h
    cases h with
    | cons h r =>
      cases r with
      | cons h' r' => exact ⟨_, .cons h' (.cons h r'), List.Perm.swap _ _ _⟩
  | trans _ _ ih1 ih2 =>
    intro ws h
    obtain ⟨us, h1, h2⟩ := ih1 h
    obtain ⟨vs, h3, h4⟩ := ih2 h1
    exact ⟨vs, h3, h4.trans h2⟩
def pairD (w : Int × Int) : PyData := .tuple [.int w.1, .int w.2]
theorem dp_pair {K : PySem.W.Frag} {H : Hp} {t : Addr} {w : Int × Int} (h : H t = some (.tup [.int w.1, .int w.2])) : Dp K H (.ref t) (pairD w) := .tup (tup_of h) (.cons (.int _) (.cons (.int _) .nil))
theorem Wl.dp {K : PySem.W.Frag} {H : Hp} : ∀ {xs : List V} {ws : List (Int × Int)}, Wl H xs ws → DpAll K H xs (ws.map pairD)
  | _, _, .nil => .nil
  | _, _, .cons h r => .cons (dp_pair h) r.dp
theorem Wl.dpL {K : PySem.W.Frag} {H : Hp} {a : Addr} {xs : List V} {ws : List (Int × Int)} (h : SqL K H a xs) (r : Wl H xs ws) : Dp K H (.ref a) (.list (ws.map pairD)) := .lst h r.dp
/-- the pair that a value is -/
def pairOf (H : Hp) (x : V) : Int × Int := match x with
  | .ref t => match H t with
    | some (.tup [.int a, .int b]) => (a, b)
    | _ => (0, 0)
  | _ => (0, 0)
theorem pairOf_of {H : Hp} {t : Addr} {a b : Int} (h : H t = some (.tup [.int a, .int b])) : pairOf H (.ref t) = (a, b) := by
  show (match H t with | some (.tup [.int a, .int b]) => (a, b) | _ => ((0 : Int), (0 : Int))) = (a, b)
  rw [h]
theorem Wl.map {H : Hp} : ∀ {xs : List V} {ws : List (Int × Int)}, Wl H xs ws → xs.map (pairOf H) = ws
  | _, _, .nil => rfl
  | _, _, .cons h r => by rw [List.map_cons, pairOf_of h, r.map]
theorem Wl.mem {H : Hp} {xs : List V} {ws : List (Int × Int)} (h : Wl H xs ws) {x : V} (hx : x ∈ xs) : ∃ t, x = .ref t ∧ H t = some (.tup [.int (pairOf H x).1, .int (pairOf H x).2]) := by
  obtain ⟨i, hi⟩ := List.mem_iff_getElem?.mp hx
  obtain ⟨t, w, rfl, _, e⟩ := h.at hi
  refine ⟨t, rfl, ?_⟩
  rw [pairOf_of e]
  exact e
/-- pairs in order -/
def leW (a b : Int × Int) : Prop := a.1 < b.1 ∨ (a.1 = b.1 ∧ a.2 ≤ b.2)
theorem leW_anti {a b : Int × Int} (h1 : leW a b) (h2 : leW b a) : a = b := by
  unfold leW at h1 h2
  have e1 : a.1 = b.1 := by omega
  have e2 : a.2 = b.2 := by omega
  exact Prod.ext e1 e2
theorem sortedW_unique {ws us : List (Int × Int)} (h1 : ws.Pairwise leW) (h2 : us.Pairwise leW) (p : ws.Perm us) : ws = us := List.Perm.eq_of_pairwise (fun a b _ _ h h' => leW_anti h h') h1 h2 p
theorem crSrtP (K : PySem.W.Frag) {X : Cx} (hK : X.K = K) : CallR X (.builtin "sorted") (rSortedPO K) := hK ▸ cr_sortedPO
theorem r_srtP {K : PySem.W.Frag} {H : Hp} {Q : VK} {a : Addr} {xs : List V} {ws : List (Int × Int)} (h : SqL K H a xs) (hw : Wl H xs ws)
    (q : ∀ (ys : List V) (us : List (Int × Int)) (p : Addr), Wl H ys us → us.Perm ws → us.Pairwise leW → H p = none → Q (.ref p) (upd H p (.lst ys))) : rSortedPO K [.ref a] H Q := by
  refine ⟨a, xs, pairOf H, rfl, h, fun x hx => hw.mem hx, fun ys p hs hb hp => ?_⟩
  obtain ⟨us, hu, pu⟩ := hw.perm hb.perm.symm
  refine q ys us p hu pu ?_ hp
  have e := hu.map
  rw [← e, List.pairwise_map]
  refine List.Pairwise.imp (fun {x y} h => ?_) hs
  have := SrtO.lexB_no.mp h
  unfold leW
  omega
/-! ### len(set(xs)) of pairs -/
def w2 (w : Int × Int) : List Int := [w.1, w.2]
theorem w2_inj {w u : Int × Int} (h : w2 w = w2 u) : w = u := by
  unfold w2 at h
  simp only [List.cons.injEq, and_true] at h
  exact Prod.ext h.1 h.2
def tLenSetP (K : PySem.W.Frag) (ta : TE) : TE := fun σ H Q => ta σ H fun x H1 => ∃ (l : Addr) (xs : List V) (ws : List (Int × Int)), x = .ref l ∧ SqL K H1 l xs ∧ Wl H1 xs ws ∧ ws.length < 64 ∧ ∀ n : Nat, (ws.Nodup ↔ n = ws.length) → Q (.int (n : Nat)) H1
theorem r_lenSetP {K : PySem.W.Frag} {ta : TE} {σ : L2.St} {H : Hp} {Q : VK} (q : ta σ H fun x H1 => ∃ (l : Addr) (xs : List V) (ws : List (Int × Int)), x = .ref l ∧ SqL K H1 l xs ∧ Wl H1 xs ws ∧ ws.length < 64 ∧ ∀ n : Nat, (ws.Nodup ↔ n = ws.length) → Q (.int (n : Nat)) H1) : tLenSetP K ta σ H Q := q
theorem Wl.keys {K : PySem.W.Frag} {H : Hp} : ∀ {xs : List V} {ws : List (Int × Int)}, Wl H xs ws → ∃ ks : List (Addr × List Int), (ks.map fun p => V.ref p.1) = xs ∧ ks.map (·.2) = ws.map w2 ∧ ∀ p ∈ ks, SqT K H p.1 (p.2.map V.int)
  | _, _, .nil => ⟨[], rfl, rfl, fun _ h => by cases h⟩
  | _, _, .cons (t := t) (a := a) (b := b) h r => by
    obtain ⟨ks, h1, h2, h3⟩ := r.keys (K := K)
    refine ⟨(t, [a, b]) :: ks, ?_, ?_, fun p hp => ?_⟩
    · rw [List.map_cons, h1]
    · rw [List.map_cons, List.map_cons, h2]
      rfl
    · rcases List.mem_cons.mp hp with rfl | hp
      · exact tup_of h
      · exact h3 p hp
theorem perm_of_sub : ∀ {A B : List (List Int)}, A.Nodup → A ⊆ B → B.length ≤ A.length → A.Perm B
  | [], B, _, _, h => by
    cases B with
    | nil => exact List.Perm.refl _
    | cons b r => simp at h
  | a :: A, B, nd, sub, h => by
    have hn := List.nodup_cons.mp nd
    have ha : a ∈ B := sub List.mem_cons_self
    have pb := List.perm_cons_erase ha
    have sub2 : A ⊆ B.erase a := fun x hx => by
      have hxa : x ≠ a := fun e => hn.1 (by rw [← e]; exact hx)
      exact (List.mem_erase_of_ne hxa).2 (sub (List.mem_cons_of_mem _ hx))
    have hl := pb.length_eq
    rw [List.length_cons] at hl h
    exact (List.Perm.cons a (perm_of_sub hn.2 sub2 (by omega))).trans pb.symm
theorem set_count {ks L : List (Addr × List Int)} (nd : (L.map (·.2)).Nodup) (h1 : ∀ p ∈ L, p ∈ ks) (h2 : ∀ p ∈ ks, p.2 ∈ L.map (·.2)) : (ks.map (·.2)).Nodup ↔ L.length = ks.length := by
  have sub1 : L.map (·.2) ⊆ ks.map (·.2) := fun x hx => by
    obtain ⟨p, hp, rfl⟩ := List.mem_map.mp hx
    exact List.mem_map_of_mem (h1 p hp)
  have sub2 : ks.map (·.2) ⊆ L.map (·.2) := fun x hx => by
    obtain ⟨p, hp, rfl⟩ := List.mem_map.mp hx
    exact h2 p hp
  have l1 := nd.length_le_of_subset sub1
  rw [List.length_map, List.length_map] at l1
  constructor
  · intro h
    have l2 := h.length_le_of_subset sub2
    rw [List.length_map, List.length_map] at l2
    omega
  · intro h
    have pm : (L.map (·.2)).Perm (ks.map (·.2)) := perm_of_sub nd sub1 (by rw [List.length_map, List.length_map]; omega)
    exact pm.nodup_iff.mp nd
theorem peLenSetP (K : PySem.W.Frag) {X : Cx} (hK : X.K = K) {a : Expr} {ta : TE} {p p2 q pos : Pos} (hu : X.A.units + 64 < cLine) (hg : Gl X "len") (hm : X.mg "len" = none) (hg2 : Gl X "set") (hm2 : X.mg "set" = none) (ha : PE X a ta) (hc : X.calm = true := by rfl)
    (na : starEach [a] X.env = (false, eval a X.env) :: starEach [] X.env := by rfl) : PE X (.Call (.Name "len" p) [.Call (.Name "set" p2) [a] [] q] [] pos) (tLenSetP K ta) := by
  subst hK
  refine ⟨fun pins s σ H Q I h => ?_⟩
  refine Call_ (ld_blt I hg hm boot_len ?_)
  refine PyProof.Rows.callWith_builtin1 (PyProof.Rows.args_cons ?_ rfl) rfl rfl
  refine Call_ (ld_blt I hg2 hm2 boot_set ?_)
  refine PyProof.Rows.callWith_type1 (PyProof.Rows.args_cons (thn (ha.run pins s σ H _ I h) fun v s1 ⟨x, H1, I1, r1, q1⟩ => PyProof.Rows.args_nil ?_) na) na rfl
  obtain ⟨l, xs, ws, rfl, hq, hw, hl, q1⟩ := q1
  cases r1
  obtain ⟨ks, e1, e2, e3⟩ := hw.keys (K := X.K)
  subst e1
  obtain ⟨its, r, pl, hz⟩ := I1.list hq
  have hlk : ks.length = ws.length := by
    have h1 := congrArg List.length e2
    rw [List.length_map, List.length_map] at h1
    exact h1
  refine call_set_tups (P := X.prog) (w := X.w) ks (I1.ok.hd hc) pl.isList (by simpa using refs_of_vals r) (fun p hp => I1.isT (e3 p hp)) (by omega) (by omega) fun h' tk L es ep t R g k => ?_
  refine PyProof.Rows.args_nil ?_
  obtain ⟨o, ho, hex, hd⟩ := R.ob
  have I2 : Inv X pins σ H1 { s1 with heap := h', toks := tk } := I1.kept (t' := tk) k
  have hs := SetTR.size (s := { s1 with heap := h', toks := tk }) R
  have hf := R.few
  have hn : (ws.Nodup ↔ L.length = ws.length) := by
    have h1 := set_count (ks := ks) (L := L) R.nd (fun p hp => List.mem_of_mem_take (g.sub p hp)) (fun p hp => g.all p (by rw [List.take_length]; exact hp))
    rw [e2, hlk] at h1
    refine ⟨fun h => h1.mp ?_, fun h => ?_⟩
    · unfold List.Nodup
      rw [List.pairwise_map]
      exact h.imp fun hne e => hne (w2_inj e)
    · have h2 := h1.mpr h
      unfold List.Nodup at h2
      rw [List.pairwise_map] at h2
      exact h2.imp fun hne e => hne (by rw [e])
  exact call_len_set ho hex hd (SetTR.fits (s := { s1 with heap := h', toks := tk }) R) (by rw [hs] <;> omega) ⟨.int (L.length : Nat), H1, I2.tok _, ⟨_, by rw [hs]⟩, q1 _ hn⟩
end Px

set_option Elab.async false
set_option linter.all false
set_option maxRecDepth 100000
set_option maxHeartbeats 4000000
namespace Px
open PySem PySem.Spec PyProof.Rows L2
/-! ### stations freed one by one -/
def inner (w : Int × Int) : Bool := !decide (w.1 = -1) && !decide (w.2 = -2)
def succ (ws : List (Int × Int)) (v : Int) : List Int := (ws.filter fun w => inner w && decide (w.1 = v)).map (·.2)
def inCnt (ws : List (Int × Int)) (P : List Int) (v : Int) : Int := ((ws.filter fun w => inner w && (decide (w.2 = v) && !decide (w.1 ∈ P))).length : Nat)
def Acyc (ws : List (Int × Int)) : Prop := ∃ pos : Int → Nat, ∀ w ∈ ws, inner w = true → pos w.1 < pos w.2
def Cyc (m : Nat) (ws : List (Int × Int)) : Prop := ∃ C : Int → Prop, (∃ v, C v ∧ 0 ≤ v ∧ v < m) ∧ ∀ v, C v → ∃ w ∈ ws, inner w = true ∧ w.2 = v ∧ C w.1
theorem inCnt_cons {st : Int} {P : List Int} (h : st ∉ P) (v : Int) : ∀ ws : List (Int × Int), inCnt ws (st :: P) v = inCnt ws P v - ((succ ws st).count v : Nat)
  | [] => rfl
  | w :: r => by
    have ih := inCnt_cons h v r
    unfold inCnt succ at ih ⊢
    rw [List.filter_cons, List.filter_cons, List.filter_cons]
    by_cases hi : inner w = true
    · simp only [hi, Bool.true_and]
      by_cases hv : w.2 = v
      · simp only [hv, decide_true, Bool.true_and]
        by_cases hs : w.1 = st
        · have e1 : decide (st ∈ st :: P) = true := decide_eq_true List.mem_cons_self
          have e2 : decide (st ∈ P) = false := decide_eq_false h
          simp only [hs, e1, e2, Bool.not_true, Bool.not_false, decide_true, if_true, List.map_cons, List.count_cons, hv, beq_self_eq_true, List.length_cons]
          try simp only [Bool.false_eq_true, if_false]
          omega
        · have e1 : decide (w.1 ∈ st :: P) = decide (w.1 ∈ P) := by
            rw [decide_eq_decide]
            exact ⟨fun q => (List.mem_cons.mp q).resolve_left hs, fun q => List.mem_cons_of_mem _ q⟩
          simp only [e1, hs, decide_false, Bool.false_eq_true, if_false]
          by_cases hp : (!decide (w.1 ∈ P)) = true
          · simp only [hp, if_true, List.length_cons]
            omega
          · have hp := Bool.eq_false_iff.mpr hp
            simp only [hp, Bool.false_eq_true, if_false]
            exact ih
      · simp only [hv, decide_false, Bool.false_and, Bool.false_eq_true, if_false]
        by_cases hs : w.1 = st
        · have hv2 : ¬ (w.2 == v) = true := fun q => hv (eq_of_beq q)
          simp only [hs, decide_true, if_true, List.map_cons, List.count_cons, hv2, if_false]
          exact ih
        · simp only [hs, decide_false, Bool.false_eq_true, if_false]
          exact ih
    · have hi := Bool.eq_false_iff.mpr hi
      simp only [hi, Bool.false_and, Bool.false_eq_true, if_false]
      exact ih
theorem inCnt_ne {ws : List (Int × Int)} {P : List Int} {v : Int} (h : inCnt ws P v ≠ 0) : ∃ w ∈ ws, inner w = true ∧ w.2 = v ∧ w.1 ∉ P := by
  unfold inCnt at h
  cases e : ws.filter fun w => inner w && (decide (w.2 = v) && !decide (w.1 ∈ P)) with
  | nil =>
    rw [e] at h
    exact absurd rfl h
  | cons w r =>
    have hw : w ∈ ws.filter fun w => inner w && (decide (w.2 = v) && !decide (w.1 ∈ P)) := by rw [e]; exact List.mem_cons_self
    obtain ⟨h1, h2⟩ := List.mem_filter.mp hw
    simp only [Bool.and_eq_true, decide_eq_true_eq, Bool.not_eq_true', decide_eq_false_iff_not] at h2
    exact ⟨w, h1, h2.1, h2.2.1, h2.2.2⟩
theorem inCnt_of {ws : List (Int × Int)} {P : List Int} {w : Int × Int} (hw : w ∈ ws) (hi : inner w = true) (hp : w.1 ∉ P) : 1 ≤ inCnt ws P w.2 := by
  unfold inCnt
  have hm : w ∈ ws.filter fun u => inner u && (decide (u.2 = w.2) && !decide (u.1 ∈ P)) := List.mem_filter.mpr ⟨hw, by simp [hi, hp]⟩
  have := List.length_pos_of_mem hm
  omega
theorem inCnt_nonneg (ws : List (Int × Int)) (P : List Int) (v : Int) : 0 ≤ inCnt ws P v := by
  unfold inCnt
  omega
theorem succ_count {ws : List (Int × Int)} {st v : Int} {P : List Int} (h : st ∉ P) : ((succ ws st).count v : Nat) ≤ inCnt ws P v := by
  have h1 := inCnt_cons h v ws
  have h2 := inCnt_nonneg ws (st :: P) v
  omega
theorem mem_succ {ws : List (Int × Int)} {st v : Int} (h : v ∈ succ ws st) : ∃ w ∈ ws, inner w = true ∧ w.1 = st ∧ w.2 = v := by
  unfold succ at h
  obtain ⟨w, hw, rfl⟩ := List.mem_map.mp h
  obtain ⟨h1, h2⟩ := List.mem_filter.mp hw
  simp only [Bool.and_eq_true, decide_eq_true_eq] at h2
  exact ⟨w, h1, h2.1, h2.2, rfl⟩
/-- all stations are freed -/
theorem all_freed {ws : List (Int × Int)} {P : List Int} {m : Nat} (ac : Acyc ws) (hb : ∀ w ∈ ws, inner w = true → 0 ≤ w.1 ∧ w.1 < m) (hf : ∀ v : Int, 0 ≤ v → v < m → v ∉ P → inCnt ws P v ≠ 0) : m ≤ P.length := by
  obtain ⟨pos, hpos⟩ := ac
  have key : ∀ n : Nat, ∀ v : Int, 0 ≤ v → v < m → pos v = n → v ∈ P := by
    intro n
    induction n using Nat.strongRecOn with
    | ind n ih =>
      intro v h0 h1 hn
      refine Classical.byContradiction fun hv => ?_
      obtain ⟨w, hw, hi, e, hp⟩ := inCnt_ne (hf v h0 h1 hv)
      have hlt := hpos w hw hi
      obtain ⟨b0, b1⟩ := hb w hw hi
      rw [e, hn] at hlt
      exact hp (ih (pos w.1) hlt w.1 b0 b1 rfl)
  have sub : ((List.range m).map fun (k : Nat) => (k : Int)) ⊆ P := fun x hx => by
    obtain ⟨k, hk, rfl⟩ := List.mem_map.mp hx
    have := List.mem_range.mp hk
    exact key _ (k : Int) (by omega) (by omega) rfl
  have nd : ((List.range m).map fun (k : Nat) => (k : Int)).Nodup := by
    unfold List.Nodup
    rw [List.pairwise_map]
    exact List.nodup_range.imp fun h e => h (by omega)
  have h := nd.length_le_of_subset sub
  rw [List.length_map, List.length_range] at h
  exact h
/-- a station on a round is never freed -/
theorem some_held {P : List Int} {m : Nat} {v : Int} (nd : P.Nodup) (hP : ∀ u ∈ P, 0 ≤ u ∧ u < m) (hv : v ∉ P) (h0 : 0 ≤ v) (h1 : v < m) : P.length < m := by
  have sub : (v :: P) ⊆ ((List.range m).map fun (k : Nat) => (k : Int)) := fun x hx => by
    have hb : 0 ≤ x ∧ x < m := by
      rcases List.mem_cons.mp hx with rfl | hx
      · exact ⟨h0, h1⟩
      · exact hP x hx
    exact List.mem_map.mpr ⟨x.toNat, List.mem_range.mpr (by omega), by omega⟩
  have h := (List.nodup_cons.mpr ⟨hv, nd⟩).length_le_of_subset sub
  rw [List.length_map, List.length_range, List.length_cons] at h
  omega
/-! ### tables -/
def tab (m : Nat) (f : Int → Int) : List V := (List.range m).map fun (k : Nat) => V.int (f (k : Int))
theorem tab_length (m : Nat) (f : Int → Int) : (tab m f).length = m := by
  unfold tab
  rw [List.length_map, List.length_range]
theorem tab_get {m : Nat} {f : Int → Int} {v : Int} (h0 : 0 ≤ v) (h1 : v < m) : (tab m f)[v.toNat]? = some (.int (f v)) := by
  unfold tab
  rw [List.getElem?_map, List.getElem?_range (by omega)]
  show some (V.int (f ((v.toNat : Nat) : Int))) = _
  rw [Int.toNat_of_nonneg h0]
theorem tab_set {m : Nat} {f : Int → Int} {v x : Int} (h0 : 0 ≤ v) (h1 : v < m) : (tab m f).set v.toNat (.int x) = tab m fun u => if u = v then x else f u := by
  apply List.ext_getElem?
  intro i
  unfold tab
  by_cases hi : i < m
  · by_cases e : i = v.toNat
    · subst e
      rw [List.getElem?_set_self (by rw [List.length_map, List.length_range]; exact hi), List.getElem?_map, List.getElem?_range hi]
      show _ = some (V.int (if ((v.toNat : Nat) : Int) = v then x else _))
      rw [if_pos (Int.toNat_of_nonneg h0)]
    · rw [List.getElem?_set_ne (fun q => e q.symm), List.getElem?_map, List.getElem?_map, List.getElem?_range hi]
      show some (V.int (f (i : Int))) = some (V.int (if (i : Int) = v then x else f (i : Int)))
      rw [if_neg (by omega)]
  · rw [List.getElem?_eq_none (by rw [List.length_set, List.length_map, List.length_range]; omega), List.getElem?_eq_none (by rw [List.length_map, List.length_range]; omega)]
theorem tab_congr {m : Nat} {f g : Int → Int} (h : ∀ v : Int, 0 ≤ v → v < m → f v = g v) : tab m f = tab m g := by
  unfold tab
  refine List.map_congr_left fun k hk => ?_
  rw [h k (by omega) (by have := List.mem_range.mp hk; omega)]
theorem rep_tab (m : Nat) : (List.replicate m [V.int 0]).flatten = tab m fun _ => 0 := by
  unfold tab
  induction m with
  | zero => rfl
  | succ n ih =>
    rw [List.replicate_succ', List.flatten_append, ih, List.range_succ, List.map_append]
    rfl
theorem r_rep {H : Hp} {Q : VK} {l : Addr} {xs : List V} {m : Nat} {z : Int} (hz : z = (m : Int)) (hm : m ≤ 100000) (h : H l = some (.lst xs)) (hx : xs.length ≤ 100) (q : ∀ p, H p = none → Q (.ref p) (upd H p (.lst (List.replicate m xs).flatten))) : rRep (.ref l) (.int z) H Q := by
  subst hz
  refine ⟨l, m, xs, rfl, rfl, h, by omega, by omega, r_small ?_, by rw [Int.toNat_natCast]; exact q⟩
  rw [Int.toNat_natCast]
  have := Nat.mul_le_mul hx hm
  omega
/-! ### while -/
theorem r_while {c : TT} {tb : TS} {σ : L2.St} {H : Hp} {n b ct : L2.St → Hp → Prop} {rt : VK} (Pv : Nat → L2.St → Hp → Prop) (k0 : Nat) (h0 : Pv k0 σ H)
    (hs : ∀ k σ' H', Pv k σ' H' → c σ' H' fun t H1 => if t = true then ∃ N : L2.St → Hp → Prop, (∀ σ2 H2, N σ2 H2 → ∃ k', k' < k ∧ Pv k' σ2 H2) ∧ tb ⟨N, rt, n, N⟩ σ' H1 else n σ' H1) : tWhile c tb ⟨n, rt, b, ct⟩ σ H :=
  ⟨Pv, ⟨k0, h0⟩, hs⟩
theorem r_tru {K : PySem.W.Frag} {ta : TE} {σ : L2.St} {H : Hp} {QT : Bool → Hp → Prop} (q : ta σ H fun x H' => ∃ k, TruV K x H' k ∧ QT k H') : tTru K ta σ H QT := q
theorem r_truL {K : PySem.W.Frag} {H : Hp} {QB : Bool → Prop} {a : Addr} {xs : List V} (h : SqL K H a xs) (q : QB (!xs.isEmpty)) : ∃ k, TruV K (.ref a) H k ∧ QB k := ⟨_, .inl ⟨xs, h, rfl⟩, q⟩
theorem r_pop {H : Hp} {Q : VK} {l : Addr} {xs : List V} {y : V} (h : H l = some (.lst (xs ++ [y]))) (q : Q y (upd H l (.lst xs))) : rPop (.ref l) [] H Q := by
  refine ⟨l, xs ++ [y], y, rfl, rfl, h, by simp, ?_⟩
  rw [List.dropLast_concat]
  exact q
end Px

set_option Elab.async false
set_option linter.all false
set_option maxRecDepth 100000
set_option maxHeartbeats 4000000
namespace Px
open PySem PySem.Spec PyProof.Rows L2
/-! ### comprehensions that draw from the deck -/
section
variable {K : PySem.W.Frag} {σ : L2.St} {H : Hp} {Q : VK} {te : TE} {tt : TT} {vs : List Nat} {j n : Nat} {p : Addr}
theorem lcR_deck {lo : Int} (R : Nat → List V → Hp → Prop) (hn : n ≤ 100000) (hd : Dk H p) (hw : ∀ x, wipe ((wipe σ vs).set j (some x)) vs = wipe σ vs)
    (hR : ∀ i acc H1 H2, (∀ t xs, H1 t = some (.tup xs) → H2 t = some (.tup xs)) → R i acc H1 → R i acc H2) (hl : ∀ i acc H', R i acc H' → acc.length ≤ i) (h0 : R 0 [] H)
    (hs : ∀ (i : Nat) (acc : List V) (H' : Hp) (C : VK) (N : Hp → Prop), i < n → Upto p H H' → Dk H' p → R i acc H' → (∀ y H4, Upto p H' H4 → Dk H4 p → R (i + 1) (acc ++ [y]) H4 → C y H4) → (∀ H3, Upto p H' H3 → Dk H3 p → R (i + 1) acc H3 → N H3) →
      tt ((wipe σ vs).set j (some (.int (lo + (i : Nat))))) H' fun b H3 => if b = true then te ((wipe σ vs).set j (some (.int (lo + (i : Nat))))) H3 C else N H3)
    (q : ∀ D H' acc, H D = none → Upto p H H' → Dk H' p → H' D = some (.lst acc) → R n acc H' → Q (.ref D) H') : lcJ (Itr lo n) (gName j) tt te vs σ H Q := fun D hD => by
  have hpD : D ≠ p := (hd.ne hD).symm
  have tupk : ∀ (H' : Hp) (acc acc' : List V), H' D = some (.lst acc) → ∀ t xs, H' t = some (.tup xs) → upd H' D (.lst acc') t = some (.tup xs) := fun H' acc acc' e t xs h => by
    rw [upd_ne (fun z => by rw [z, e] at h; cases h)]
    exact h
  have hD0 : ∀ t xs, H t = some (.tup xs) → upd H D (.lst []) t = some (.tup xs) := fun t xs h => same_new hD _ _ h
  refine lc_range (n := n) (fun i H' => ∃ acc, H' D = some (.lst acc) ∧ Upto p H H' ∧ Dk H' p ∧ R i acc H') ⟨[], upd_same, same_upto (same_new hD), hd.upd hpD.symm, hR 0 [] H _ hD0 h0⟩ (fun i H' hi ⟨acc, e, u, d, r⟩ => ⟨hw _, ?_⟩)
    fun H' ⟨acc, e, u, d, r⟩ => q D H' acc hD u d e r
  refine hs i acc H' _ _ hi u d r (fun y H4 u4 d4 r4 => ?_) fun H3 u3 d3 r3 => ⟨acc, u3 _ _ hpD e, u.trans u3, d3, r3⟩
  have e4 := u4 _ _ hpD e
  have hla := hl _ _ _ r
  exact ⟨acc, e4, r_smalll (by omega), acc ++ [y], upd_same, upto_mut (u.trans u4) hD, d4.upd hpD.symm, hR _ _ H4 _ (tupk H4 acc _ e4) r4⟩
end
/-! ### a net as data -/
def word (s : Str) : Prop := s = "pile" ∨ s = "line"
def netD (ss : List Str) (ws : List (Int × Int)) : PyData := .tuple [.list (ss.map .str), .list (ws.map pairD)]
theorem dpAll_strs {K : PySem.W.Frag} {H : Hp} : ∀ ss : List Str, DpAll K H (ss.map V.str) (ss.map PyData.str)
  | [] => .nil
  | s :: r => .cons (.str s) (dpAll_strs r)
theorem dp_net {K : PySem.W.Frag} {H : Hp} {t s w : Addr} {ss : List Str} {xs : List V} {ws : List (Int × Int)} (ht : H t = some (.tup [.ref s, .ref w])) (hs : SqL K H s (ss.map V.str)) (hw : SqL K H w xs) (r : Wl H xs ws) : Dp K H (.ref t) (netD ss ws) :=
  .tup (tup_of ht) (.cons (.lst hs (dpAll_strs ss)) (.cons (.lst hw r.dp) .nil))
theorem plain_strs : ∀ ss : List Str, plainAll (ss.map PyData.str) = true
  | [] => rfl
  | s :: r => by
    show (plainD (.str s) && plainAll (r.map PyData.str)) = true
    rw [plain_strs r]
    rfl
theorem plain_pairs : ∀ ws : List (Int × Int), plainAll (ws.map pairD) = true
  | [] => rfl
  | w :: r => by
    show (plainD (pairD w) && plainAll (r.map pairD)) = true
    rw [plain_pairs r]
    rfl
theorem plain_net {ss : List Str} {ws : List (Int × Int)} (h1 : ss.length ≤ 100000) (h2 : ws.length ≤ 100000) : plainD (netD ss ws) = true := by
  unfold netD
  simp only [plainD, plainAll, plain_strs, plain_pairs, List.length_map, List.length_cons, List.length_nil, Bool.and_true, Bool.and_eq_true, decide_eq_true_eq]
  exact ⟨by omega, h1, h2⟩
theorem depth_strs : ∀ ss : List Str, PyData.depthAll (ss.map PyData.str) = 0
  | [] => rfl
  | s :: r => by
    show max (PyData.depth (.str s)) (PyData.depthAll (r.map PyData.str)) = 0
    rw [depth_strs r]
    rfl
theorem depth_pairs : ∀ ws : List (Int × Int), PyData.depthAll (ws.map pairD) ≤ 1
  | [] => by decide
  | w :: r => by
    show max (PyData.depth (pairD w)) (PyData.depthAll (r.map pairD)) ≤ 1
    have h1 := depth_pairs r
    have h2 : PyData.depth (pairD w) = 1 := rfl
    omega
theorem depth_net (ss : List Str) (ws : List (Int × Int)) : (netD ss ws).depth ≤ 3 := by
  have h1 := depth_strs ss
  have h2 := depth_pairs ws
  show max (PyData.depthAll (ss.map PyData.str) + 1) (max (PyData.depthAll (ws.map pairD) + 1) 0) + 1 ≤ 3
  omega
theorem lay_strs : ∀ {ss : List Str}, (∀ s ∈ ss, word s) → PyData.canLayAll0 (ss.map PyData.str) = true
  | [], _ => rfl
  | s :: r, h => by
    show (PyData.canLay0 (.str s) && PyData.canLayAll0 (r.map PyData.str)) = true
    rw [lay_strs fun x hx => h x (List.mem_cons_of_mem _ hx), Bool.and_true]
    rcases h s List.mem_cons_self with rfl | rfl
    · decide +kernel
    · decide +kernel
theorem lay_pairs : ∀ ws : List (Int × Int), PyData.canLayAll0 (ws.map pairD) = true
  | [] => rfl
  | w :: r => by
    show (PyData.canLay0 (pairD w) && PyData.canLayAll0 (r.map pairD)) = true
    rw [lay_pairs r]
    rfl
theorem lay_net {ss : List Str} (h : ∀ s ∈ ss, word s) (ws : List (Int × Int)) : PyData.canLay0 (netD ss ws) = true := by
  unfold netD
  simp only [PyData.canLay0, PyData.canLayAll0, lay_strs h, lay_pairs, Bool.and_true]
theorem shaped_net {ss : List Str} (h : ∀ s ∈ ss, word s) (ws : List (Int × Int)) : SeqAt.shaped (netD ss ws) = true := by
  unfold SeqAt.shaped
  rw [lay_net h, Bool.true_and]
  have := depth_net ss ws
  exact decide_eq_true (by omega)
theorem r_neSame {K : PySem.W.Frag} {H : Hp} {Q : VK} {x y : V} {d : PyData} (h : Dp K H x d) (h' : Dp K H y d) (s : SeqAt.shaped d = true) (q : Q (.bl false) H) : rNeD K x y H Q :=
  ⟨d, d, h, h', s, s, by
    rw [SeqAt.eqv_refl d (Bool.and_eq_true_iff.mp s).1]
    exact q⟩
theorem r_eqSame {K : PySem.W.Frag} {H : Hp} {Q : VK} {x y : V} {d : PyData} (h : Dp K H x d) (h' : Dp K H y d) (s : SeqAt.shaped d = true) (q : Q (.bl true) H) : rEqD K x y H Q :=
  ⟨d, d, h, h', s, s, by
    rw [SeqAt.eqv_refl d (Bool.and_eq_true_iff.mp s).1]
    exact q⟩
theorem r_popAt {H : Hp} {Q : VK} {l : Addr} {xs : List V} {i : Int} {y : V} (h0 : 0 ≤ i) (h1 : i < 1000000000) (h : H l = some (.lst xs)) (hy : xs[i.toNat]? = some y) (q : Q y (upd H l (.lst (xs.eraseIdx i.toNat)))) : rPopAt (.ref l) [.int i] H Q :=
  ⟨l, xs, i, i.toNat, y, rfl, rfl, h, by omega, by omega, seqIndex_of h0 (by have := lt_of_at hy; omega), hy, q⟩
theorem r_clear {H : Hp} {Q : VK} {l : Addr} {xs : List V} (h : H l = some (.lst xs)) (q : Q .non (upd H l (.lst []))) : rClear (.ref l) [] H Q := ⟨l, xs, rfl, rfl, h, q⟩
theorem erase_perm {α : Type} : ∀ {l : List α} {i : Nat} {x : α}, l[i]? = some x → l.Perm (x :: l.eraseIdx i)
  | [], i, _, h => by cases i <;> cases h
  | a :: t, 0, x, h => by
    cases h
    exact .refl _
  | a :: t, i + 1, x, h => ((erase_perm (l := t) (i := i) h).cons a).trans (.swap x a _)
end Px

set_option Elab.async false
set_option linter.all false
set_option maxRecDepth 100000
set_option maxHeartbeats 4000000
namespace Px
open PySem PySem.Spec PyProof.Rows L2
/-! ### errors that are kept behind their suite -/
/-- an error of the class cls that was caught, at a -/
def ErO (cls : Value) (a : Addr) : HO := .ext fun h => ∃ (oe : Obj) (vs : Array Value), h.get? a = some oe ∧ Zc cls none oe ∧ oe.data = .fields vs
theorem erO_ok {P : Program} {w : World} {H : Hp} {h : Heap} {a : Addr} {cls : Value} {oe : Obj} {vs : Array Value} (e : h.get? a = some oe) (z : Zc cls none oe) (d : oe.data = .fields vs) : ObjOk P w H h a (ErO cls a) :=
  ⟨⟨oe, vs, e, z, d⟩, ⟨oe, e⟩, fun _ _ ⟨o, v, q, r⟩ k => ⟨o, v, k o q, r⟩⟩
section
variable {X : Cx} {pins : List (Addr × Obj)} {σ : L2.St} {H : Hp} {s : Shared}
theorem keepEr {a : Addr} {cls : Value} {oe : Obj} {vs : Array Value} (I : Inv X pins σ H s) (ha : s.heap.get? a = some oe) (z : Zc cls none oe) (d : oe.data = .fields vs) (na : H a = none) (n0 : X.s_0.heap.get? a = none) (nL : a ≠ X.env.locals)
    (np : ∀ p ∈ X.pn ++ pins, p.1 ≠ a) : Inv X pins σ (upd H a (ErO cls a)) s := by
  have old : ∀ b o, X.s_0.heap.get? b = some o → b ≠ a := fun b o e q => by
    rw [q, n0] at e
    cases e
  have on : ∀ b, H b = none → b ≠ a → upd H a (ErO cls a) b = none := fun b e q => by
    rw [upd_ne q]
    exact e
  have st : ∀ b o, H b = some o → upd H a (ErO cls a) b = some o := fun b o e => by
    rw [upd_ne (ne_of_none e na)]
    exact e
  have nc : ∀ x c, X.env.cells.lookup x = some c → c ≠ a := fun x c e q => by
    obtain ⟨v, o, ho, hd⟩ := I.cell x c e
    rw [q, ha] at ho
    cases ho
    rw [d] at hd
    cases hd
  refine ⟨I.ok, I.os, I.bare, ⟨I.base.keep, I.base.slot, fun b o e n hx => on b (I.base.free b o e n hx) (old b o e), I.base.there, fun b xs e => st _ _ (I.base.tups b xs e), fun b o u e => st _ _ (I.base.frzs b o u e), fun b ps e => ?_⟩,
    I.loc, I.cell, on _ I.free (Ne.symm nL), fun x c e => on _ (I.freeC x c e) (nc x c e), fun p hp => ?_, HOk.laidN I.hok (fun _ _ q => q) na (erO_ok ha z d), I.len⟩
  · obtain ⟨more, q⟩ := I.base.tbls b ps e
    exact ⟨more, st _ _ q⟩
  · obtain ⟨e, n, r⟩ := I.pin p hp
    exact ⟨e, on _ n (np p hp), r⟩
end
/-- what is wished of the body's error where the clause catches it and keeps it: slot i is the clause's name, slot j the keeper -/
def wKeep (K : PySem.W.Frag) (cv : Value) (i j : Nat) (D : Ends) : WX := fun cls d σ H =>
  PySem.W.exmOne K cls cv = some true ∧ d = none ∧ ∀ a, H a = none → D.nx (((σ.set i (some (.ref a))).set j (some (.ref a))).set i none) (upd H a (ErO cls a))
theorem ps_keep {X : Cx} {x n : Str} {cv : Value} {i j : Nat} {body : List Stmt} {st : Stmt} {np pos pos' : Pos} {tb : WX → TS} (hs : X.stack = X.env :: X.outer) (hf : X.env.frame = some X.env.locals) (hex : X.ex = []) (hN : X.N.Nodup) (hi : X.N[i]? = some n) (hln : X.env.kindOf n = some .local)
    (hc : Names X x cv) (hb : ∀ (W : WX) (pn : List (Addr × Obj)) (xe : Value → Shared → Prop), Takes (X.tr pn xe) W → PassesOwn (model X.prog X.w) X.A X.env xe → PSs (X.tr pn xe) body (tb W))
    (hsu : ∀ (a : Addr) (oe : Obj) (cls : Value) (d : Option Addr) (pn : List (Addr × Obj)), Zc cls d oe → (∃ vs, oe.data = .fields vs) → PSs (X.suite a ((a, oe) :: pn)) [st] (tAsg (tVar i) (gName j))) :
    PS X (.Try body [.ExceptHandler (some (.Name x np)) (some n) [st] pos'] [] [] pos) (fun D σ H => tb (wKeep X.K cv i j D) D σ H) := by
  refine ⟨fun pins s σ H D I h => wpAny_Try_except (wpAny_mono ((hb (wKeep X.K cv i j D) (X.pn ++ pins) _ (fun u s' q => ?_) PassesOwn.looking).run [] s σ H D (I.toTry _) h) (fun f s1 q => ?_) fun e s1 q => q)⟩
  · -- the error is there
    obtain ⟨a, B, sI, pins', σ', H', cls, d, rfl, J', nb, up, sky, na, os, ag, hm, rfl, hD⟩ := q
    have ok := I.ok
    have J : Inv X pins σ' H' sI := J'.ofTry ok
    have hfr : X.A.frames = some (X.env :: X.outer) := by rw [ok.frames, hs]
    rw [hs] at sky
    show wpAny (model X.prog X.w) X.A (noteFrame (.ref a) X.env) _ _ _
    refine Sky.land Zc.steady hfr hf sky fun h3 fl3 up3 => ?_
    have J3 : Inv X pins σ' H' { s' with heap := h3 } := J.landed nb fl3.1 (up.trans up3) os ag
    obtain ⟨oe3, vs3, he3, hz3, hd3⟩ := fl3.there
    have nfr : a ∉ frs X.stack := fun hmem => by
      rw [hs] at hmem
      obtain ⟨_, o', e', hnf⟩ := fl3.2.2.1.mem hmem
      rw [he3] at e'
      cases e'
      exact hnf _ hd3
    have nL : a ≠ X.env.locals := fun z => nfr (by rw [hs]; exact List.mem_filterMap.mpr ⟨X.env, List.mem_cons_self, by rw [hf, z]⟩)
    have nF : a ∉ X.fs := fun hmem => by
      obtain ⟨e, he, q⟩ := List.mem_filterMap.mp hmem
      exact nfr (by rw [hs]; exact List.mem_filterMap.mpr ⟨e, List.mem_cons_of_mem _ he, q⟩)
    have nB : ∀ b o, sI.heap.get? b = some o → b ∉ frs X.stack → b ≠ a := fun b o e hb z => by
      have := nb b o e hb
      rw [z, fl3.2.1] at this
      cases this
    have n0 : X.s_0.heap.get? a = none := by
      cases e : X.s_0.heap.get? a with
      | none => rfl
      | some o =>
        obtain ⟨o', q⟩ := J.base.there a o e (by rw [hex]; exact fun z => nomatch z)
        exact absurd rfl (nB a o' q nfr)
    have apart : ∀ p ∈ X.pn ++ pins, p.1 ≠ a := fun p hp => by
      obtain ⟨e, _, h1, h2, _⟩ := J.pin p hp
      refine nB p.1 p.2 e fun z => ?_
      rcases List.mem_cons.mp (J.stkSub _ z) with z | z
      · exact h1 z
      · exact h2 z
    have S3 := J3.suite he3 hd3 na nL nF
    refine wpAny_handleBy_cons (codeAny_handlers_test ?_) (by intro q; cases q)
    have LT : PySem.W.Looks (model X.prog X.w) h3 (typeOf (.ref a)) cls := fun A Q E s k q => wpAny_typeOf_ref (k _ _ he3) (by rw [hz3.1]; exact q)
    have LM := PySem.W.exm_one (M := model X.prog X.w) (J3.kIn) LT hm
    have name : ∀ {Q : Value → Shared → Prop} {E : Value → Shared → Prop}, Q cv { s' with heap := h3 } → wpAny (model X.prog X.w) (X.A.mark (some (.ref a))) (eval (.Name x np) X.env) Q E { s' with heap := h3 } := fun {Q E} q => by
      obtain ⟨hg, hdb, hm | ⟨hm, hv, hn⟩⟩ := hc
      · exact ld_glob (X := X.suite a ((a, oe3) :: (X.pn ++ pins))) S3 hg hm q hdb
      · exact ld_blt (X := X.suite a ((a, oe3) :: (X.pn ++ pins))) S3 hg hm hv q hn hdb
    refine name (LM.here ?_)
    refine codeAny_handlers_suite_as ?_
    refine HandSPX.lands_againZ fl3 fun h4 fl4 up4 => ?_
    have J4 : Inv X pins σ' H' { s' with heap := h4 } := J.landed nb fl4.1 ((up.trans up3).trans up4) os ag
    obtain ⟨oe4, vs4, he4, hz4, hd4⟩ := fl4.there
    have S4 := J4.suite he4 hd4 na nL nF
    refine store_ok (X := X.suite a ((a, oe4) :: (X.pn ++ pins))) (v := .ref a) S4 hN hi (Or.inl hln) rfl (fun s5 S5 => ?_) (.inr hln)
    have hlt : i < σ'.length := by
      rw [J.len]
      exact (List.getElem?_eq_some_iff.mp hi).1
    refine wpAny_mono ((hsu a oe4 cls none (X.pn ++ pins) hz4 ⟨_, hd4⟩).run [] s5 _ H' { nx := fun σ6 H6 => σ6 = (σ'.set i (some (.ref a))).set j (some (.ref a)) ∧ H6 = H', rt := fun _ _ => False } S5 ⟨.ref a, List.getElem?_set_self hlt, rfl, rfl⟩) (fun f s6 q => ?_) (fun _ _ z => False.elim z)
    cases f with
    | next =>
      obtain ⟨σ6, H6, S6, rfl, rfl⟩ := q
      obtain ⟨e6, _⟩ := S6.pin (a, oe4) (List.mem_append_left _ List.mem_cons_self)
      exact gone_ok (keepEr (S6.unsuite ok) e6 hz4 hd4 na n0 nL apart) hN hi hln fun s7 J7 => ⟨_, _, J7, hD a na⟩
    | brk =>
      obtain ⟨_, _, _, z⟩ := q
      exact False.elim z
    | cont =>
      obtain ⟨_, _, _, z⟩ := q
      exact False.elim z
    | ret u =>
      obtain ⟨_, _, _, _, _, z⟩ := q
      exact False.elim z
  · cases f with
    | next =>
      obtain ⟨σ', H', J', q⟩ := q
      exact wpAny_execs_nil ⟨σ', H', J'.ofTry I.ok, q⟩
    | brk =>
      obtain ⟨σ', H', J', q⟩ := q
      exact ⟨σ', H', J'.ofTry I.ok, q⟩
    | cont =>
      obtain ⟨σ', H', J', q⟩ := q
      exact ⟨σ', H', J'.ofTry I.ok, q⟩
    | ret u =>
      obtain ⟨v, σ', H', J', r, q⟩ := q
      exact ⟨v, σ', H', J'.ofTry I.ok, r, q⟩
/-! ### isinstance of a kept error -/
def rIsEr (K : PySem.W.Frag) : List V → Hp → VK → Prop := fun xs H Q => ∃ (a D : Addr) (c : V) (cv : Value) (b : Bool), xs = [.ref a, c] ∧ H a = some (ErO (.ref D) a) ∧ ExcC K D ∧ ClsV c cv ∧ PySem.W.kitOne K (.ref D) cv = some b ∧ Q (.bl b) H
def rIsErT (K : PySem.W.Frag) : List V → Hp → VK → Prop := fun xs H Q => ∃ (a D tp : Addr) (cs : List V) (us : List Value) (b : Bool), xs = [.ref a, .ref tp] ∧ H a = some (ErO (.ref D) a) ∧ ExcC K D ∧ H tp = some (.tup cs) ∧ Paired ClsV cs us ∧ PySem.W.kitAny K (.ref D) us = some b ∧ Q (.bl b) H
theorem instEr {a D : Addr} {h : Heap} (q : ∃ (oe : Obj) (vs : Array Value), h.get? a = some oe ∧ Zc (.ref D) none oe ∧ oe.data = .fields vs) : ∃ oe, PySem.W.InstAt h a oe D none := by
  obtain ⟨⟨oc, od, oda, osl⟩, vs, e, ⟨h1, h2⟩, hv⟩ := q
  dsimp only at h1 h2 hv
  subst h1 h2 hv
  exact ⟨_, e, rfl, rfl, trivial⟩
theorem crIsEr (K : PySem.W.Frag) {X : Cx} (hK : X.K = K) : CallR X (.builtin "isinstance") (rIsEr K) := by
  subst hK
  intro pins s σ H xs us Q I r h
  obtain ⟨a, D, c, cv, b, rfl, he, C, k, e, q⟩ := h
  obtain ⟨u1, u2, rfl, r1, r2⟩ := vals2 r
  cases (show u1 = Value.ref a from r1)
  have ec := k.eq r2
  subst ec
  obtain ⟨oe, J⟩ := instEr (I.hok a _ he).1
  exact PySem.W.kia_one (PySem.W.handS_kitx_exc C.hg C.hk C.hs C.hd C.ha C.hn C.ht C.hm) I.kIn J e (fun z => nomatch z) fun tk => ⟨.bl b, H, I.tok tk, rfl, q⟩
theorem crIsErT (K : PySem.W.Frag) {X : Cx} (hK : X.K = K) : CallR X (.builtin "isinstance") (rIsErT K) := by
  subst hK
  intro pins s σ H xs us Q I r h
  obtain ⟨a, D, tp, cs, ws, b, rfl, he, C, hT, k, e, q⟩ := h
  obtain ⟨u1, u2, rfl, r1, r2⟩ := vals2 r
  cases (show u1 = Value.ref a from r1)
  cases (show u2 = Value.ref tp from r2)
  obtain ⟨_, its, rv, o, h1, h2, n, h3⟩ := (show ObjOk X.prog X.w H s.heap tp (.tup cs) from I.hok tp _ hT)
  have e3 := ClsV.all k rv
  subst e3
  obtain ⟨oc, od, dt, sl⟩ := o
  simp only at h2 h3
  subst h2 h3
  obtain ⟨oe, J⟩ := instEr (I.hok a _ he).1
  exact PySem.W.kia_tup (PySem.W.handS_kitx_exc C.hg C.hk C.hs C.hd C.ha C.hn C.ht C.hm) I.kIn J h1 e (fun z => nomatch z) fun tk => ⟨.bl b, H, I.tok tk, rfl, q⟩
theorem r_isEr {K : PySem.W.Frag} {H : Hp} {Q : VK} {a D : Addr} {c : V} {cv : Value} {b : Bool} (he : H a = some (ErO (.ref D) a)) (C : ExcC K D) (k : ClsV c cv) (e : PySem.W.kitOne K (.ref D) cv = some b) (q : Q (.bl b) H) : rIsEr K [.ref a, c] H Q := ⟨a, D, c, cv, b, rfl, he, C, k, e, q⟩
theorem r_isErT {K : PySem.W.Frag} {H : Hp} {Q : VK} {a D tp : Addr} {cs : List V} {us : List Value} {b : Bool} (he : H a = some (ErO (.ref D) a)) (C : ExcC K D) (ht : H tp = some (.tup cs)) (k : Paired ClsV cs us) (e : PySem.W.kitAny K (.ref D) us = some b) (q : Q (.bl b) H) : rIsErT K [.ref a, .ref tp] H Q := ⟨a, D, tp, cs, us, b, rfl, he, C, ht, k, e, q⟩
/-! ### own error classes -/
/-- the class x of the text, at C -/
structure ECls (K : PySem.W.Frag) (mg : Str → Option Value) (x : Str) (C : Addr) : Prop where
  g : mg x = some (.ref C)
  ic : PySem.W.isClsIn K C = true
  ty : PySem.W.typeIn K (.ref C) = some (.type "type")
  kp : PySem.W.keepIn K (.ref C) = true
  sb : PySem.W.subIn K (.ref C) (.type "BaseException") = some true
  sv : PySem.W.subIn K (.ref C) (.type "ValueError") = some true
  se : PySem.W.subIn K (.ref C) (.ref C) = some true
  ex : PySem.W.excIn K C [.type "ValueError", .type "Exception", .type "BaseException", .type "object"] "ValueError.__new__" = true
  is_ : ExcC K C
theorem kit_sub {K : PySem.W.Frag} {mg : Str → Option Value} {x y : Str} {C D : Addr} {b : Bool} (c : ECls K mg x C) (d : ECls K mg y D) (h : PySem.W.subIn K (.ref D) (.ref C) = some b) : PySem.W.kitOne K (.ref D) (.ref C) = some b := by
  unfold PySem.W.kitOne
  by_cases e : D = C
  · subst e
    rw [d.se] at h
    cases h
    rw [if_pos (beq_self_eq_true _)]
  · rw [if_neg (fun z => e (Value.ref.inj (beq_iff_eq.mp z)))]
    show (if ((PySem.W.clsIn K C).isSome && PySem.W.typeIn K (.ref C) == some (.type "type")) = true then PySem.W.subIn K (.ref D) (.ref C) else none) = some b
    have h1 : (PySem.W.clsIn K C).isSome = true := c.ic
    rw [h1, c.ty, if_pos (by rfl), h]
theorem kit_val {K : PySem.W.Frag} {mg : Str → Option Value} {y : Str} {D : Addr} (d : ECls K mg y D) : PySem.W.kitOne K (.ref D) (.type "ValueError") = some true := by
  unfold PySem.W.kitOne
  have h0 : (Value.ref D == Value.type "ValueError") = false := by simp
  rw [h0, if_neg Bool.false_ne_true]
  show (if PySem.W.kitMeta "ValueError" = true then PySem.W.subIn K (.ref D) (.type "ValueError") else none) = some true
  rw [if_pos (by decide +kernel), d.sv]
theorem exm_sub {K : PySem.W.Frag} {mg : Str → Option Value} {x : Str} {C D : Addr} {b : Bool} (c : ECls K mg x C) (h : PySem.W.subIn K (.ref D) (.ref C) = some b) : PySem.W.exmOne K (.ref D) (.ref C) = some b := PySem.W.exm_ref c.sb c.is_.hd c.ty h
theorem ecls_mk {K : PySem.W.Frag} {mg : Str → Option Value} {h : Heap} {x : Str} {C : Addr} (X : K.In h) (G : h.Ns mainGlobals mg) (a : PySem.W.nsIn K mainGlobals x = some (some (.ref C))) (ic : PySem.W.isClsIn K C = true) (ty : PySem.W.typeIn K (.ref C) = some (.type "type")) (kp : PySem.W.keepIn K (.ref C) = true)
    (sb : PySem.W.subIn K (.ref C) (.type "BaseException") = some true) (sv : PySem.W.subIn K (.ref C) (.type "ValueError") = some true) (se : PySem.W.subIn K (.ref C) (.ref C) = some true)
    (ex : PySem.W.excIn K C [.type "ValueError", .type "Exception", .type "BaseException", .type "object"] "ValueError.__new__" = true)
    (e1 : PySem.W.findIn K (.ref C) "__getattribute__" = some (some (.builtin "BaseException.__getattribute__"))) (e2 : PySem.W.findIn K (.ref C) "__getattr__" = some none) (e3 : PySem.W.hasDictIn K C = true) (e4 : PySem.W.findIn K (.ref C) "__class__" = some (some (.builtin "object.__class__")))
    (e5 : PySem.W.specialIn K (.builtin "object.__class__") "__get__" = some (some (.builtin "getset_descriptor.__get__"))) (e6 : PySem.W.takesIn K (.builtin "object.__class__") = some true) (e7 : PySem.W.mroIn K C (.type "object") = some true) : ∃ C, ECls K mg x C :=
  ⟨C, PySem.W.mg_of X G a, ic, ty, kp, sb, sv, se, ex, ⟨e1, e2, sb, e3, e4, e5, e6, e7⟩⟩
/-- y's class stands (or not) above x's -/
def ESub (K : PySem.W.Frag) (mg : Str → Option Value) (x y : Str) (b : Bool) : Prop := ∃ C D, mg x = some (.ref C) ∧ mg y = some (.ref D) ∧ PySem.W.subIn K (.ref C) (.ref D) = some b
theorem esub_mk {K : PySem.W.Frag} {mg : Str → Option Value} {h : Heap} {x y : Str} {C D : Addr} {r : Bool} (X : K.In h) (G : h.Ns mainGlobals mg) (a : PySem.W.nsIn K mainGlobals x = some (some (.ref C))) (b : PySem.W.nsIn K mainGlobals y = some (some (.ref D)))
    (s : PySem.W.subIn K (.ref C) (.ref D) = some r) : ESub K mg x y r := ⟨C, D, PySem.W.mg_of X G a, PySem.W.mg_of X G b, s⟩
theorem ESub.at {K : PySem.W.Frag} {mg : Str → Option Value} {x y : Str} {C D : Addr} {r : Bool} (s : ESub K mg x y r) (c : ECls K mg x C) (d : ECls K mg y D) : PySem.W.subIn K (.ref C) (.ref D) = some r := by
  obtain ⟨C', D', h1, h2, h3⟩ := s
  have e1 := c.g.symm.trans h1
  have e2 := d.g.symm.trans h2
  cases e1
  cases e2
  exact h3
theorem ESub.kit {K : PySem.W.Frag} {mg : Str → Option Value} {x y : Str} {C D : Addr} {r : Bool} (s : ESub K mg x y r) (c : ECls K mg x C) (d : ECls K mg y D) : PySem.W.kitOne K (.ref C) (.ref D) = some r := kit_sub d c (s.at c d)
theorem kit_self {K : PySem.W.Frag} {C : Addr} : PySem.W.kitOne K (.ref C) (.ref C) = some true := by
  unfold PySem.W.kitOne
  rw [if_pos (beq_self_eq_true _)]
theorem kits_no {K : PySem.W.Frag} {t c : Value} {cs : List Value} (h : PySem.W.kitOne K t c = some false) (r : PySem.W.kitAny K t cs = some false) : PySem.W.kitAny K t (c :: cs) = some false := kitAny_cons h (fun _ => r) fun z => nomatch z
theorem kits_nil {K : PySem.W.Frag} {t : Value} : PySem.W.kitAny K t [] = some false := rfl
/-! ### a call that may let an error out, in a try -/
section
variable {X : Cx} {CX : CXT} {k : Nat} {x : Str} {ps : List Str} {sp : Sp} {E : L2.St → XK} {p pos : Pos} {e : Expr} {es : List Expr} {t : TA}
theorem pe_calS (C : Cal X.prog X.w X.K X.mg X.base CX k x ps sp) (hr : Room k X.A) (hx : ∀ σ, PassesAt CX X σ (E σ)) (ha : PA X (e :: es) t) (hg : Gl X x := by rfl) (hdb : (x == ("__debug__" : Str)) = false := by decide)
    (he : starEach (e :: es) X.env = (false, eval e X.env) :: starEach es X.env := by rfl) (hpl : (backTo pos (starEach es X.env)).any (·.1) = false := by rfl) :
    PE X (.Call (.Name x p) (e :: es) [] pos) (tCallS sp E t) := by
  obtain ⟨f, fd, F, hm, hk, hb⟩ := C.ex
  exact pe_callS F hr hg hm hk hb hx ha hdb he hpl
end
theorem r_calS {sp : Sp} {E : L2.St → XK} {t : TA} {σ : L2.St} {H : Hp} {Q : VK} (q : t σ H fun vs H1 => sp vs H1 Q (E σ)) : tCallS sp E t σ H Q := q
end Px

set_option Elab.async false
set_option linter.all false
set_option maxRecDepth 100000
set_option maxHeartbeats 4000000
namespace Px
open PySem PySem.Spec PyProof.Rows L2
/-! ### slices that are known -/
theorem cut_take (xs : List V) {k : Nat} (h : k ≤ xs.length) : cutV xs none (some (k : Int)) = xs.take k := by
  unfold cutV
  have e1 : HT.sIx xs.length 0 none = 0 := rfl
  have e2 : HT.sIx xs.length xs.length (some (k : Int)) = k := by
    rw [HT.sIx_nat]
    omega
  rw [e1, e2, List.drop_zero, Nat.sub_zero]
theorem cut_drop (xs : List V) {k : Nat} (h : k ≤ xs.length) : cutV xs (some (k : Int)) none = xs.drop k := by
  unfold cutV
  have e1 : HT.sIx xs.length xs.length none = xs.length := rfl
  have e2 : HT.sIx xs.length 0 (some (k : Int)) = k := by
    rw [HT.sIx_nat]
    omega
  rw [e1, e2]
  exact List.take_of_length_le (by rw [List.length_drop]; omega)
/-! ### nets of any words that can be laid -/
def lay (s : Str) : Prop := PyData.canLay0 (.str s) = true
theorem lay_word {s : Str} (h : word s) : lay s := by
  rcases h with rfl | rfl
  · show PyData.canLay0 _ = true
    decide +kernel
  · show PyData.canLay0 _ = true
    decide +kernel
theorem lay_strs2 : ∀ {ss : List Str}, (∀ s ∈ ss, lay s) → PyData.canLayAll0 (ss.map PyData.str) = true
  | [], _ => rfl
  | s :: r, h => by
    show (PyData.canLay0 (.str s) && PyData.canLayAll0 (r.map PyData.str)) = true
    rw [lay_strs2 fun x hx => h x (List.mem_cons_of_mem _ hx), Bool.and_true]
    exact h s List.mem_cons_self
theorem shaped_net2 {ss : List Str} (h : ∀ s ∈ ss, lay s) (ws : List (Int × Int)) : SeqAt.shaped (netD ss ws) = true := by
  unfold SeqAt.shaped
  have e : PyData.canLay0 (netD ss ws) = true := by
    unfold netD
    simp only [PyData.canLay0, PyData.canLayAll0, lay_strs2 h, lay_pairs, Bool.and_true]
  rw [e, Bool.true_and]
  have := depth_net ss ws
  exact decide_eq_true (by omega)
theorem shaped_pairs (ws : List (Int × Int)) : SeqAt.shaped (.list (ws.map pairD)) = true := by
  unfold SeqAt.shaped
  have e : PyData.canLay0 (.list (ws.map pairD)) = true := by
    simp only [PyData.canLay0, lay_pairs]
  rw [e, Bool.true_and]
  have h := depth_pairs ws
  have h2 : (PyData.list (ws.map pairD)).depth = PyData.depthAll (ws.map pairD) + 1 := rfl
  exact decide_eq_true (by omega)
theorem shaped_pair (w : Int × Int) : SeqAt.shaped (pairD w) = true := rfl
theorem eqv_pair (w u : Int × Int) : PyData.eqv (pairD w) (pairD u) = decide (w = u) := by
  show ((w.1 == u.1) && ((w.2 == u.2) && true)) = decide (w = u)
  rw [Bool.and_true]
  by_cases e : w = u
  · subst e
    simp
  · rw [decide_eq_false e]
    rcases Bool.eq_false_or_eq_true ((w.1 == u.1) && (w.2 == u.2)) with h | h
    · rw [Bool.and_eq_true] at h
      exact absurd (Prod.ext (beq_iff_eq.mp h.1) (beq_iff_eq.mp h.2)) e
    · exact h
theorem any_pair (ws : List (Int × Int)) (w : Int × Int) : ((ws.map pairD).any fun z => PyData.eqv z (pairD w)) = decide (w ∈ ws) := by
  rw [List.any_map]
  have e : ((fun z => PyData.eqv z (pairD w)) ∘ pairD) = fun u => decide (u = w) := by
    funext u
    exact eqv_pair u w
  rw [e]
  by_cases h : w ∈ ws
  · rw [decide_eq_true h]
    exact List.any_eq_true.mpr ⟨w, h, by simp⟩
  · rw [decide_eq_false h]
    refine List.any_eq_false.mpr fun u hu => ?_
    simp only [decide_eq_true_eq]
    exact fun z => h (z ▸ hu)
theorem opNotInD (K : PySem.W.Frag) {X : Cx} (hK : X.K = K) (hu : X.A.units + 65 < cLine) : OpR X (compareOp .NotIn) (rNotInD K) := hK ▸ op_notInD hu
theorem r_notInP {K : PySem.W.Frag} {H : Hp} {Q : VK} {t l : Addr} {w : Int × Int} {xs : List V} {ws : List (Int × Int)} (ht : H t = some (.tup [.int w.1, .int w.2])) (hl : SqL K H l xs) (hw : Wl H xs ws) (q : Q (.bl (!decide (w ∈ ws))) H) : rNotInD K (.ref t) (.ref l) H Q :=
  ⟨pairD w, ws.map pairD, dp_pair ht, .lst hl hw.dp, shaped_pair w, shaped_pairs ws, by
    rw [any_pair]
    exact q⟩
/-- ways != [] -/
theorem r_neNil {K : PySem.W.Frag} {H : Hp} {Q : VK} {l e : Addr} {xs : List V} {ws : List (Int × Int)} (hl : SqL K H l xs) (hw : Wl H xs ws) (he : SqL K H e []) (q : Q (.bl (!decide (ws = []))) H) : rNeD K (.ref l) (.ref e) H Q :=
  ⟨.list (ws.map pairD), .list [], .lst hl hw.dp, .lst he .nil, shaped_pairs ws, rfl, by
    have h : PyData.eqv (.list (ws.map pairD)) (.list []) = decide (ws = []) := by
      cases ws with
      | nil => rfl
      | cons a r => rfl
    rw [h]
    exact q⟩
theorem peRevL (K : PySem.W.Frag) {X : Cx} (hK : X.K = K) {e : Expr} {te : TE} {k : Nat} {p1 p2 p3 pos : Pos} (he : PE X e te) : PE X (.Subscript e (.Slice none none (some (.UnaryOp .USub (.Constant (.int 1) k p1) p2)) p3) pos) (tRevL K te) := hK ▸ pe_revL he
theorem r_revL {K : PySem.W.Frag} {te : TE} {σ : L2.St} {H : Hp} {Q : VK} (q : te σ H fun x H1 => ∃ a xs, x = .ref a ∧ SqL K H1 a xs ∧ ∀ p, H1 p = none → Q (.ref p) (upd H1 p (.lst xs.reverse))) : tRevL K te σ H Q := q
theorem hu65 {A : Around} {k : Nat} (hr : Room k A) : A.units + 65 < cLine := by
  have := hr.un
  omega
/-! ### comprehensions over zip of two lists of ints, the target a name -/
theorem r_lcZ {K : PySem.W.Frag} {g : TG} {tt : TT} {te : TE} {vs : List Nat} {σ : L2.St} {H : Hp} {Q : VK} {ta : TA} (q : ta σ H fun vs1 H1 => ∃ a b xs ys, vs1 = [.ref a, .ref b] ∧ SqL K H1 a xs ∧ SqL K H1 b ys ∧ lcJ (Itz K a b) g tt te vs σ H1 Q) : tLc (iZip K ta) g tt te vs σ H Q := q
theorem lcZ {K : PySem.W.Frag} {tt : TT} {te : TE} {vs : List Nat} {j : Nat} {σ : L2.St} {H : Hp} {Q : VK} {a b : Addr} {xs ys : List Int} (p : Int × Int → Bool) (hl : xs.length = ys.length) (hn : xs.length ≤ 1000) (hx : SqL K H a (intL xs)) (hy : SqL K H b (intL ys))
    (hw : ∀ x, wipe ((wipe σ vs).set j (some x)) vs = wipe σ vs)
    (ht : ∀ (w : Int × Int) (T : Addr) (H' : Hp) (R : Bool → Hp → Prop), Same H H' → H' T = some (.tup [.int w.1, .int w.2]) → R (p w) H' → tt ((wipe σ vs).set j (some (.ref T))) H' R)
    (hs : ∀ (T : Addr) (H' : Hp) (R : VK), R (.ref T) H' → te ((wipe σ vs).set j (some (.ref T))) H' R)
    (q : ∀ (D : Addr) (H' : Hp) (zs : List V), H D = none → Same H H' → H' D = some (.lst zs) → Wl H' zs ((xs.zip ys).filter p) → Q (.ref D) H') : lcJ (Itz K a b) (gName j) tt te vs σ H Q := fun D hD => by
  have hzl : (xs.zip ys).length = xs.length := by rw [List.length_zip]; omega
  refine ⟨fun i m H' => m = xs.length - i ∧ i ≤ xs.length ∧ Same H H' ∧ ∃ zs, H' D = some (.lst zs) ∧ zs.length ≤ i ∧ Wl H' zs (((xs.zip ys).take i).filter p), ⟨_, rfl, Nat.zero_le _, same_new hD, [], upd_same, Nat.le_refl _, .nil⟩, ?_⟩
  rintro i m H' ⟨rfl, hi, s1, zs, e1, hz, w1⟩
  have hx' := s1.seq hx
  have hy' := s1.seq hy
  by_cases h : i < xs.length
  · refine .inr ⟨⟨_, _, V.int xs[i], V.int (ys[i]'(by omega)), hx', hy', by simp [h], by simp [show i < ys.length by omega]⟩,
      fun H' => i + 1 ≤ xs.length ∧ Same H H' ∧ ∃ zs, H' D = some (.lst zs) ∧ zs.length ≤ i + 1 ∧ Wl H' zs (((xs.zip ys).take (i + 1)).filter p), fun H' ⟨h1, h2⟩ => ⟨xs.length - (i + 1), by omega, rfl, h1, h2⟩, ?_⟩
    rintro x H2 ⟨T, x1, y1, rfl, hT, rfl, hx1, hy1⟩
    have ex := hx1 _ hx'
    have ey := hy1 _ hy'
    rw [List.getElem?_map, List.getElem?_eq_getElem h] at ex
    rw [List.getElem?_map, List.getElem?_eq_getElem (show i < ys.length by omega)] at ey
    have ex := (Option.some.inj ex).symm
    have ey := (Option.some.inj ey).symm
    subst ex
    subst ey
    have s2 := s1.trans (same_new (o := .tup [.int xs[i], .int (ys[i]'(by omega))]) hT)
    have nDT : D ≠ T := ne_of_none e1 hT
    have e2 : upd H' T (.tup [.int xs[i], .int (ys[i]'(by omega))]) D = some (.lst zs) := by rw [upd_ne nDT]; exact e1
    have w2 := w1.same (same_new (o := .tup [.int xs[i], .int (ys[i]'(by omega))]) hT)
    have hzi : (xs.zip ys)[i]? = some (xs[i], ys[i]'(by omega)) := by
      rw [List.getElem?_eq_getElem (by omega), List.getElem_zip]
    have et : ((xs.zip ys).take (i + 1)).filter p = ((xs.zip ys).take i).filter p ++ [(xs[i], ys[i]'(by omega))].filter p := by
      rw [List.take_add_one, hzi, List.filter_append]
      rfl
    refine ⟨hw _, ht (xs[i], ys[i]'(by omega)) T _ _ s2 upd_same ?_⟩
    cases hp : p (xs[i], ys[i]'(by omega)) with
    | true =>
      refine iteT (hs _ _ _ ⟨zs, e2, r_smalll (by omega), by omega, same_mut s2 hD, zs ++ [.ref T], upd_same, by rw [List.length_append]; show zs.length + 1 ≤ i + 1; omega, ?_⟩)
      rw [et, List.filter_cons, if_pos hp, List.filter_nil]
      refine Wl.mut (fun t ys e => ?_) (w2.append (.cons upd_same .nil))
      rw [upd_ne (fun z => by rw [z, e2] at e; cases e)]
      exact e
    | false =>
      refine iteF ⟨by omega, s2, zs, e2, by omega, ?_⟩
      rw [et, List.filter_cons, if_neg (by rw [hp]; exact Bool.false_ne_true), List.filter_nil, List.append_nil]
      exact w2
  · refine .inl ⟨⟨_, _, hx', hy', .inl (by rw [List.length_map]; omega)⟩, q D H' zs hD s1 e1 ?_⟩
    rw [List.take_of_length_le (by omega)] at w1
    exact w1
end Px

set_option Elab.async false
set_option linter.all false
set_option maxRecDepth 100000
set_option maxHeartbeats 4000000
/-! Readings over data: what stands in the heap is hidden. A slot holds frozen data, or a list of one's own (which may change). -/
namespace Dv
open PySem PySem.Spec PyProof.Rows L2 Px

/-- an item of a tuple of one's own: frozen, or a list of one's own -/
inductive TI1 where
  | fr (x : PyData) | ow (ds : List PyData)
@[reducible] def TI1.rd : TI1 → PyData
  | .fr x => x | .ow ds => .list ds
@[reducible] def ows : List TI1 → List (List PyData)
  | [] => [] | .fr _ :: us => ows us | .ow ds :: us => ds :: ows us
structure Gr (G H G' H' : Hp) : Prop where
  g : Same G G'
  h : Same H H'
  s : Same G' H'
  n : ∀ a, H a ≠ none → G a = none → G' a = none
/-- a thing of one's own of any kind, by what is true of it -/
structure Ob where
  vr : PySem.W.Frag → Hp → Hp → V → Prop
  fp : Hp → V → Addr → Prop
  loc : ∀ {K : PySem.W.Frag} {G H G' H' : Hp} {v : V}, vr K G H v → (∀ b, fp H v b → H' b = H b) → Same G G' → (∀ b, fp H v b → G' b = none) → vr K G' H' v
  floc : ∀ {K : PySem.W.Frag} {G H H' : Hp} {v : V} {b : Addr}, vr K G H v → (∀ b, fp H v b → H' b = H b) → fp H' v b → fp H v b
  there : ∀ {K : PySem.W.Frag} {G H : Hp} {v : V} {b : Addr}, vr K G H v → fp H v b → H b ≠ none ∧ G b = none
  some : ∀ {K : PySem.W.Frag} {G H : Hp} {v : V}, vr K G H v → ∃ b, fp H v b
inductive T where
  | g (x : PyData) | b (ds : List PyData) | h (x : PyData) | l (ds : List PyData) | ll (dss : List (List PyData)) | p (ds : List PyData) | tt (us : List TI1) | ob (o : Ob) (r : Bool) | u
abbrev Env := List (Option T)
@[reducible] def T.rd : T → PyData
  | .g x => x | .b ds => .list ds | .h x => x | .l ds => .list ds | .ll dss => .list (dss.map .list) | .p ds => .list ds | .tt us => .tuple (us.map TI1.rd) | .ob _ _ => .dict [] | .u => .dict []
/-- it is read as data -/
@[reducible] def T.dat : T → Bool
  | .ob _ _ => false | .u => false | _ => true
/-- it can't be frozen where it stands -/
@[reducible] def T.nfz : T → Bool
  | .ob _ _ => true | .u => true | .p _ => true | _ => false
/-- what may stand in a slot -/
@[reducible] def T.slot : T → Bool
  | .b _ => false | .h _ => false | .u => false | _ => true
@[reducible] def T.isP : T → Bool
  | .p _ => true | .ob _ r => r | _ => false
/-- a list whose items are frozen -/
@[reducible] def T.elL : T → Option (List PyData)
  | .g (.list ds) => some ds | .b ds => some ds | .l ds => some ds | .p ds => some ds | _ => none
@[reducible] def T.elT : T → Option (List PyData)
  | .g (.tuple ds) => some ds | _ => none
/-- a slot's reading -/
@[reducible] def T.bor : T → T
  | .g x => .g x | .l ds => .b ds | .ll dss => .h (.list (dss.map .list)) | .p ds => .b ds | .b ds => .b ds | .h x => .h x | .tt us => .h (.tuple (us.map TI1.rd)) | .ob _ _ => .u | .u => .u
/-- kept: frozen -/
@[reducible] def T.fz : T → T
  | .l ds => .g (.list ds) | .ll dss => .g (.list (dss.map .list)) | .p ds => .b ds | .g x => .g x | .b ds => .b ds | .h x => .h x | .tt us => .g (.tuple (us.map TI1.rd)) | .ob _ _ => .u | .u => .u
section
variable (K : PySem.W.Frag)
def Rows (G H : Hp) : List Addr → List (List PyData) → Prop
  | [], [] => True
  | a :: as, ds :: dss => (∃ vs, H a = some (.lst vs) ∧ G a = none ∧ DpAll K G vs ds) ∧ Rows G H as dss
  | _, _ => False
/-- where the lists of one's own of a tuple stand -/
def Wv : List V → List TI1 → List Addr → Prop
  | [], [], [] => True
  | _ :: vs, .fr _ :: us, as => Wv vs us as
  | v :: vs, .ow _ :: us, a :: as => v = .ref a ∧ Wv vs us as
  | _, _, _ => False
/-- its frozen items -/
def Frs (G : Hp) : List V → List TI1 → Prop
  | [], [] => True
  | v :: vs, .fr x :: us => Dp K G v x ∧ Frs G vs us
  | _ :: vs, .ow _ :: us => Frs G vs us
  | _, _ => False
def Vr (G H : Hp) : T → V → Prop
  | .g x, v => Dp K G v x
  | .b ds, v => ∃ a vs, v = .ref a ∧ H a = some (.lst vs) ∧ DpAll K G vs ds
  | .h x, v => Dp K H v x
  | .l ds, v => ∃ a vs, v = .ref a ∧ H a = some (.lst vs) ∧ G a = none ∧ DpAll K G vs ds
  | .ll dss, v => ∃ (a : Addr) (as : List Addr), v = .ref a ∧ H a = some (.lst (as.map V.ref)) ∧ G a = none ∧ (a :: as).Nodup ∧ Rows K G H as dss
  | .p ds, v => ∃ a vs, v = .ref a ∧ H a = some (.lst vs) ∧ G a = none ∧ DpAll K G vs ds
  | .tt us, v => ∃ (a : Addr) (vs : List V) (as : List Addr), v = .ref a ∧ H a = some (.tup vs) ∧ G a = none ∧ (a :: as).Nodup ∧ Wv vs us as ∧ Frs K G vs us ∧ Rows K G H as (ows us)
  | .ob o _, v => o.vr K G H v
  | .u, _ => True
end
def Fp (H : Hp) : T → V → Addr → Prop
  | .l _, v, b => v = .ref b
  | .p _, v, b => v = .ref b
  | .ll _, v, b => ∃ (a : Addr) (as : List Addr), v = .ref a ∧ H a = some (.lst (as.map V.ref)) ∧ (b = a ∨ b ∈ as)
  | .tt us, v, b => ∃ (a : Addr) (vs : List V) (as : List Addr), v = .ref a ∧ H a = some (.tup vs) ∧ Wv vs us as ∧ (b = a ∨ b ∈ as)
  | .ob o _, v, b => o.fp H v b
  | _, _, _ => False
theorem Gr.refl {G H : Hp} (s : Same G H) : Gr G H G H := ⟨Same.refl _, Same.refl _, s, fun _ _ h => h⟩
theorem nn_of {H : Hp} {a : Addr} {o : HO} (h : H a = some o) : H a ≠ none := fun e => by rw [h] at e; cases e
theorem nn_same {H H' : Hp} {a : Addr} (s : Same H H') (h : H a ≠ none) : H' a ≠ none := by
  cases q : H a with
  | none => exact absurd q h
  | some o => exact nn_of (s _ _ q)
theorem Gr.trans {G H G1 H1 G2 H2 : Hp} (a : Gr G H G1 H1) (b : Gr G1 H1 G2 H2) : Gr G H G2 H2 :=
  ⟨a.g.trans b.g, a.h.trans b.h, b.s, fun x h0 g0 => b.n x (nn_same a.h h0) (a.n x h0 g0)⟩
/-- a new object that is not frozen -/
theorem Gr.new {G H : Hp} {p : Addr} {o : HO} (s : Same G H) (h : H p = none) : Gr G H G (upd H p o) :=
  ⟨Same.refl _, same_new h, fun a u e => same_new h _ _ (s _ _ e), fun _ _ g => g⟩
/-- a new frozen object -/
theorem Gr.newG {G H : Hp} {p : Addr} {o : HO} (s : Same G H) (h : H p = none) : Gr G H (upd G p o) (upd H p o) := by
  have g : G p = none := s.free h
  refine ⟨same_new g, same_new h, fun a u e => ?_, fun a ha ga => ?_⟩
  · by_cases ap : a = p
    · subst ap
      rw [upd_same] at e ⊢
      exact e
    · rw [upd_ne ap] at e ⊢
      exact s _ _ e
  · have ap : a ≠ p := fun z => by subst z; exact ha h
    rw [upd_ne ap]
    exact ga
/-- what stands in H alone is frozen -/
theorem same_fz {G H : Hp} {p : Addr} {o : HO} (s : Same G H) (h : H p = some o) : Same (upd G p o) H := fun a u e => by
  by_cases ap : a = p
  · subst ap
    rw [upd_same] at e
    rw [h, e]
  · rw [upd_ne ap] at e
    exact s _ _ e
section
variable {K : PySem.W.Frag} {G H G' H' : Hp}
theorem Rows.mono (r : Gr G H G' H') : ∀ {as : List Addr} {dss : List (List PyData)}, Rows K G H as dss → Rows K G' H' as dss
  | [], [], _ => True.intro
  | a :: as, ds :: dss, ⟨⟨vs, h1, h2, h3⟩, q⟩ => ⟨⟨vs, r.h _ _ h1, r.n _ (nn_of h1) h2, dpAll_same r.g h3⟩, Rows.mono r q⟩
  | [], _ :: _, h => h.elim
  | _ :: _, [], h => h.elim
theorem wv_uniq : ∀ {vs : List V} {us : List TI1} {as bs : List Addr}, Wv vs us as → Wv vs us bs → as = bs
  | [], [], [], [], _, _ => rfl
  | _ :: vs, .fr _ :: us, as, bs, h, k => wv_uniq (vs := vs) (us := us) h k
  | v :: vs, .ow _ :: us, a :: as, b :: bs, h, k => by
    rw [wv_uniq h.2 k.2, V.ref.inj (h.1.symm.trans k.1)]
  | [], [], [], _ :: _, _, k => k.elim
  | [], [], _ :: _, _, h, _ => h.elim
  | [], _ :: _, _, _, h, _ => by cases ‹TI1› <;> exact h.elim
  | _ :: _, [], _, _, h, _ => h.elim
  | _ :: _, .ow _ :: _, [], _, h, _ => h.elim
  | _ :: _, .ow _ :: _, _ :: _, [], _, k => k.elim
theorem Frs.mono (g : Same G G') : ∀ {vs : List V} {us : List TI1}, Frs K G vs us → Frs K G' vs us
  | [], [], _ => True.intro
  | _ :: _, .fr _ :: _, h => ⟨dp_same g h.1, Frs.mono g h.2⟩
  | _ :: vs, .ow _ :: us, h => Frs.mono (vs := vs) (us := us) g h
  | [], _ :: _, h => by cases ‹TI1› <;> exact h.elim
  | _ :: _, [], h => h.elim
theorem tt_dp (s : Same G H) : ∀ {vs : List V} {us : List TI1} {as : List Addr}, Wv vs us as → Frs K G vs us → Rows K G H as (ows us) → DpAll K H vs (us.map TI1.rd)
  | [], [], _, _, _, _ => .nil
  | _ :: _, .fr _ :: _, _, w, f, r => .cons (dp_same s f.1) (tt_dp s w f.2 r)
  | v :: vs, .ow ds :: us, a :: as, w, f, r => by
    obtain ⟨⟨ws, h1, h2, h3⟩, q⟩ := r
    have e := w.1
    subst e
    exact .cons (.lst (seq_of h1) (dpAll_same s h3)) (tt_dp (vs := vs) (us := us) s w.2 f q)
  | [], _ :: _, _, w, _, _ => by cases ‹TI1› <;> exact w.elim
  | _ :: _, [], _, w, _, _ => w.elim
  | _ :: _, .ow _ :: _, [], w, _, _ => w.elim
/-- what stands for it stands on -/
theorem ob_same (r : Gr G H G' H') {o : Ob} {v : V} (h : o.vr K G H v) : ∀ b, o.fp H v b → H' b = H b := fun b f => by
  cases q : H b with
  | none => exact absurd q (o.there h f).1
  | some z => exact r.h _ _ q
theorem Vr.mono (r : Gr G H G' H') {t : T} {v : V} (h : Vr K G H t v) : Vr K G' H' t v := by
  cases t with
  | g x => exact dp_same r.g h
  | b ds =>
    obtain ⟨a, vs, e, h1, h2⟩ := h
    exact ⟨a, vs, e, r.h _ _ h1, dpAll_same r.g h2⟩
  | h x => exact dp_same r.h h
  | l ds =>
    obtain ⟨a, vs, e, h1, h2, h3⟩ := h
    exact ⟨a, vs, e, r.h _ _ h1, r.n _ (nn_of h1) h2, dpAll_same r.g h3⟩
  | ll dss =>
    obtain ⟨a, as, e, h1, h2, h3, h4⟩ := h
    exact ⟨a, as, e, r.h _ _ h1, r.n _ (nn_of h1) h2, h3, h4.mono r⟩
  | p ds =>
    obtain ⟨a, vs, e, h1, h2, h3⟩ := h
    exact ⟨a, vs, e, r.h _ _ h1, r.n _ (nn_of h1) h2, dpAll_same r.g h3⟩
  | tt us =>
    obtain ⟨a, vs, as, e, h1, h2, h3, h4, h5, h6⟩ := h
    exact ⟨a, vs, as, e, r.h _ _ h1, r.n _ (nn_of h1) h2, h3, h4, h5.mono r.g, h6.mono r⟩
  | ob o q => exact o.loc h (ob_same r h) r.g fun b f => r.n _ (o.there h f).1 (o.there h f).2
  | u => exact True.intro
theorem Rows.dp : ∀ {as : List Addr} {dss : List (List PyData)}, Same G H → Rows K G H as dss → DpAll K H (as.map V.ref) (dss.map .list)
  | [], [], _, _ => .nil
  | a :: as, ds :: dss, s, ⟨⟨vs, h1, h2, h3⟩, q⟩ => .cons (.lst (seq_of h1) (dpAll_same s h3)) (Rows.dp s q)
  | [], _ :: _, _, h => h.elim
  | _ :: _, [], _, h => h.elim
theorem Vr.dp (s : Same G H) {t : T} {v : V} (h : Vr K G H t v) (n : t.dat = true) : Dp K H v t.rd := by
  cases t with
  | ob o q => exact Bool.noConfusion n
  | u => exact Bool.noConfusion n
  | g x => exact dp_same s h
  | b ds =>
    obtain ⟨a, vs, rfl, h1, h2⟩ := h
    exact .lst (seq_of h1) (dpAll_same s h2)
  | h x => exact h
  | l ds =>
    obtain ⟨a, vs, rfl, h1, h2, h3⟩ := h
    exact .lst (seq_of h1) (dpAll_same s h3)
  | ll dss =>
    obtain ⟨a, as, rfl, h1, h2, h3, h4⟩ := h
    exact .lst (seq_of h1) (h4.dp s)
  | p ds =>
    obtain ⟨a, vs, rfl, h1, h2, h3⟩ := h
    exact .lst (seq_of h1) (dpAll_same s h3)
  | tt us =>
    obtain ⟨a, vs, as, rfl, h1, h2, h3, h4, h5, h6⟩ := h
    exact .tup (tup_of h1) (tt_dp s h4 h5 h6)
theorem refs_inj : ∀ {as bs : List Addr}, as.map V.ref = bs.map V.ref → as = bs
  | [], [], _ => rfl
  | a :: as, b :: bs, h => by
    have h1 := (List.cons.inj h).1
    have h2 := (List.cons.inj h).2
    rw [V.ref.inj h1, refs_inj h2]
  | [], _ :: _, h => nomatch h
  | _ :: _, [], h => nomatch h
theorem dp_int {v : V} {i : Int} (h : Dp K H v (.int i)) : v = .int i := by cases h; rfl
theorem dp_bl {v : V} {i : Bool} (h : Dp K H v (.bool i)) : v = .bl i := by cases h; rfl
theorem dp_str {v : V} {i : Str} (h : Dp K H v (.str i)) : v = .str i := by cases h; rfl
theorem dp_non {v : V} (h : Dp K H v .none) : v = .non := by cases h; rfl
theorem dp_lst {v : V} {ds : List PyData} (h : Dp K H v (.list ds)) : ∃ a xs, v = .ref a ∧ SqL K H a xs ∧ DpAll K H xs ds := by
  cases h with
  | lst a b => exact ⟨_, _, rfl, a, b⟩
theorem dp_tup {v : V} {ds : List PyData} (h : Dp K H v (.tuple ds)) : ∃ a xs, v = .ref a ∧ SqT K H a xs ∧ DpAll K H xs ds := by
  cases h with
  | tup a b => exact ⟨_, _, rfl, a, b⟩
theorem elL_of (s : Same G H) {t : T} {v : V} {ds : List PyData} (h : Vr K G H t v) (e : t.elL = some ds) : ∃ a xs, v = .ref a ∧ SqL K H a xs ∧ DpAll K G xs ds := by
  cases t with
  | g x =>
    cases x with
    | list xs =>
      obtain rfl : xs = ds := Option.some.inj e
      obtain ⟨a, vs, r, h1, h2⟩ := dp_lst h
      exact ⟨a, vs, r, s.seq h1, h2⟩
    | _ => simp [T.elL] at e
  | b xs =>
    obtain rfl : xs = ds := Option.some.inj e
    obtain ⟨a, vs, r, h1, h2⟩ := h
    exact ⟨a, vs, r, seq_of h1, h2⟩
  | l xs =>
    obtain rfl : xs = ds := Option.some.inj e
    obtain ⟨a, vs, r, h1, h2, h3⟩ := h
    exact ⟨a, vs, r, seq_of h1, h3⟩
  | p xs =>
    obtain rfl : xs = ds := Option.some.inj e
    obtain ⟨a, vs, r, h1, h2, h3⟩ := h
    exact ⟨a, vs, r, seq_of h1, h3⟩
  | h x => simp [T.elL, T.elT] at e
  | ll x => simp [T.elL, T.elT] at e
  | tt x => simp [T.elL, T.elT] at e
  | ob x q => simp [T.elL, T.elT] at e
  | u => simp [T.elL, T.elT] at e
theorem elT_of (s : Same G H) {t : T} {v : V} {ds : List PyData} (h : Vr K G H t v) (e : t.elT = some ds) : ∃ a xs, v = .ref a ∧ SqT K G a xs ∧ SqT K H a xs ∧ DpAll K G xs ds := by
  cases t with
  | g x =>
    cases x with
    | tuple xs =>
      obtain rfl : xs = ds := Option.some.inj e
      obtain ⟨a, vs, r, h1, h2⟩ := dp_tup h
      exact ⟨a, vs, r, h1, same_seqT s h1, h2⟩
    | _ => simp [T.elT] at e
  | b xs => simp [T.elT] at e
  | l xs => simp [T.elT] at e
  | p xs => simp [T.elT] at e
  | h x => simp [T.elL, T.elT] at e
  | ll x => simp [T.elL, T.elT] at e
  | tt x => simp [T.elL, T.elT] at e
  | ob x q => simp [T.elL, T.elT] at e
  | u => simp [T.elL, T.elT] at e
theorem Fp.mono (r : Gr G H G' H') {t : T} {v : V} {b : Addr} (h : Vr K G H t v) (f : Fp H' t v b) : Fp H t v b := by
  cases t with
  | l ds => exact f
  | p ds => exact f
  | ll dss =>
    obtain ⟨a, as, rfl, h1, h2, h3, h4⟩ := h
    obtain ⟨a', as', e, q1, q2⟩ := f
    cases e
    rw [r.h _ _ h1] at q1
    have e2 := HO.lst.inj (Option.some.inj q1)
    refine ⟨a, as, rfl, h1, ?_⟩
    have e3 : as = as' := refs_inj e2
    rw [e3]
    exact q2
  | tt us =>
    obtain ⟨a, vs, as, rfl, h1, h2, h3, h4, h5, h6⟩ := h
    obtain ⟨a', vs', as', e, q1, q2, q3⟩ := f
    cases e
    rw [r.h _ _ h1] at q1
    cases HO.tup.inj (Option.some.inj q1)
    exact ⟨a, vs, as', rfl, h1, q2, q3⟩
  | ob o q => exact o.floc h (ob_same r h) f
  | u => exact f.elim
  | g x => exact f.elim
  | b x => exact f.elim
  | h x => exact f.elim
theorem rows_at {as : List Addr} {dss : List (List PyData)} (h : Rows K G H as dss) : as.length = dss.length ∧ ∀ (j : Nat) (a : Addr), as[j]? = some a → ∃ ds vs, dss[j]? = some ds ∧ H a = some (.lst vs) ∧ G a = none ∧ DpAll K G vs ds := by
  induction as generalizing dss with
  | nil =>
    cases dss with
    | nil => exact ⟨rfl, fun j a e => by simp at e⟩
    | cons d r => exact h.elim
  | cons a as ih =>
    cases dss with
    | nil => exact h.elim
    | cons d r =>
      obtain ⟨⟨vs, h1, h2, h3⟩, q⟩ := h
      obtain ⟨l, f⟩ := ih q
      refine ⟨by simp [l], fun j b e => ?_⟩
      cases j with
      | zero =>
        simp at e
        subst e
        exact ⟨d, vs, rfl, h1, h2, h3⟩
      | succ j => exact f j b (by simpa using e)
theorem Fp.there {t : T} {v : V} {b : Addr} (h : Vr K G H t v) (f : Fp H t v b) : H b ≠ none ∧ G b = none := by
  cases t with
  | l ds =>
    obtain ⟨a, vs, rfl, h1, h2, h3⟩ := h
    cases (f : V.ref a = V.ref b)
    exact ⟨nn_of h1, h2⟩
  | p ds =>
    obtain ⟨a, vs, rfl, h1, h2, h3⟩ := h
    cases (f : V.ref a = V.ref b)
    exact ⟨nn_of h1, h2⟩
  | ll dss =>
    obtain ⟨a, as, rfl, h1, h2, h3, h4⟩ := h
    obtain ⟨a', as', e, q1, q2⟩ := f
    cases e
    rw [h1] at q1
    have e3 : as = as' := refs_inj (HO.lst.inj (Option.some.inj q1))
    subst e3
    rcases q2 with rfl | q2
    · exact ⟨nn_of h1, h2⟩
    · obtain ⟨j, hj⟩ := List.mem_iff_getElem?.mp q2
      obtain ⟨ds, vs, _, p1, p2, _⟩ := (rows_at h4).2 j b hj
      exact ⟨nn_of p1, p2⟩
  | tt us =>
    obtain ⟨a, vs, as, rfl, h1, h2, h3, h4, h5, h6⟩ := h
    obtain ⟨a', vs', as', e, q1, q2, q3⟩ := f
    cases e
    rw [h1] at q1
    cases HO.tup.inj (Option.some.inj q1)
    cases wv_uniq h4 q2
    rcases q3 with rfl | q3
    · exact ⟨nn_of h1, h2⟩
    · obtain ⟨j, hj⟩ := List.mem_iff_getElem?.mp q3
      obtain ⟨ds, vs, _, p1, p2, _⟩ := (rows_at h6).2 j b hj
      exact ⟨nn_of p1, p2⟩
  | ob o q => exact o.there h f
  | u => exact f.elim
  | g x => exact f.elim
  | b x => exact f.elim
  | h x => exact f.elim
end
theorem rows_gset {K : PySem.W.Frag} {G G' H : Hp} (g : Same G G') : ∀ {as : List Addr} {dss : List (List PyData)}, (∀ b ∈ as, G' b = none) → Rows K G H as dss → Rows K G' H as dss
  | [], [], _, _ => True.intro
  | b :: bs, d :: r, n, ⟨⟨ws, p1, p2, p3⟩, q⟩ => ⟨⟨ws, p1, n b (by simp), dpAll_same g p3⟩, rows_gset g (fun c hc => n c (List.mem_cons_of_mem _ hc)) q⟩
  | [], _ :: _, _, h => h.elim
  | _ :: _, [], _, h => h.elim
structure Iv (K : PySem.W.Frag) (G0 H0 : Hp) (M : Addr → Prop) (ρ : Env) (σ : L2.St) (G H : Hp) : Prop where
  gh : Same G H
  g0 : Same G0 G
  gf : ∀ a, G a ≠ none → G0 a ≠ none ∨ H0 a = none
  up : ∀ a o, ¬ M a → H0 a = some o → H a = some o
  mh : ∀ a, M a → H a ≠ none
  len : σ.length = ρ.length
  kd : ∀ (i : Nat) (t : T), ρ[i]? = some (some t) → t.slot = true
  sl : ∀ (i : Nat) (t : T), ρ[i]? = some (some t) → ∃ v, σ[i]? = some (some v) ∧ Vr K G H t v
  own : ∀ (i : Nat) (t : T) (v : V) (b : Addr), ρ[i]? = some (some t) → σ[i]? = some (some v) → Fp H t v b → if t.isP = true then M b else H0 b = none
  dj : ∀ (i j : Nat) (t u : T) (v w : V) (b : Addr), ρ[i]? = some (some t) → ρ[j]? = some (some u) → σ[i]? = some (some v) → σ[j]? = some (some w) → Fp H t v b → Fp H u w b → i = j
section
variable {K : PySem.W.Frag} {G0 H0 : Hp} {M : Addr → Prop} {ρ : Env} {σ : L2.St} {G H G' H' : Hp}
theorem Iv.vr (x : Iv K G0 H0 M ρ σ G H) {i : Nat} {t : T} {v : V} (e : ρ[i]? = some (some t)) (f : σ[i]? = some (some v)) : Vr K G H t v := by
  obtain ⟨w, h1, h2⟩ := x.sl i t e
  rw [f] at h1
  cases Option.some.inj (Option.some.inj h1)
  exact h2
theorem Iv.h0 (x : Iv K G0 H0 M ρ σ G H) {a : Addr} (h : H a = none) : H0 a = none := by
  have m : ¬ M a := fun m => x.mh a m h
  cases q : H0 a with
  | none => rfl
  | some o =>
    rw [x.up a o m q] at h
    cases h
theorem Iv.mono (x : Iv K G0 H0 M ρ σ G H) (r : Gr G H G' H') : Iv K G0 H0 M ρ σ G' H' := by
  refine ⟨r.s, x.g0.trans r.g, fun a ga => ?_, fun a o m e => r.h _ _ (x.up a o m e), fun a m => nn_same r.h (x.mh a m), x.len, x.kd, fun i t e => ?_, fun i t v b e f p => x.own i t v b e f (Fp.mono r (x.vr e f) p), fun i j t u v w b e1 e2 e3 e4 p1 p2 => x.dj i j t u v w b e1 e2 e3 e4 (Fp.mono r (x.vr e1 e3) p1) (Fp.mono r (x.vr e2 e4) p2)⟩
  · by_cases g : G a = none
    · right
      apply x.h0
      cases q : H a with
      | none => rfl
      | some o => exact absurd (r.n a (nn_of q) g) ga
    · exact x.gf a g
  · obtain ⟨v, h1, h2⟩ := x.sl i t e
    exact ⟨v, h1, h2.mono r⟩
end
/-- what is wanted behind a reading -/
def Po (K : PySem.W.Frag) (QD : T → Prop) (G H : Hp) (Q : VK) : Prop := ∀ t v G' H', QD t → Gr G H G' H' → Vr K G' H' t v → (∀ b, Fp H' t v b → H b = none) → Q v H'
theorem Po.next {K : PySem.W.Frag} {QD : T → Prop} {G H G1 H1 : Hp} {Q : VK} (q : Po K QD G H Q) (r : Gr G H G1 H1) : Po K QD G1 H1 Q := fun t v G' H' a b c d => q t v G' H' a (r.trans b) c fun x hx => r.h.free (d x hx)
theorem Po.scal {K : PySem.W.Frag} {QD : T → Prop} {G H : Hp} {Q : VK} {v : V} {x : PyData} (q : Po K QD G H Q) (s : Same G H) (d : Dp K G v x) (h : QD (.g x)) : Q v H := q (.g x) v G H h (.refl s) d fun _ f => f.elim
def LP (K : PySem.W.Frag) (te : TE) (de : Env → (T → Prop) → Prop) : Prop := ∀ {G0 H0 : Hp} {M : Addr → Prop} {ρ : Env} {σ : L2.St} {G H : Hp} {QD : T → Prop} {Q : VK}, Iv K G0 H0 M ρ σ G H → de ρ QD → Po K QD G H Q → te σ H Q
def PoT (QD : Bool → Prop) (G H : Hp) (Q : Bool → Hp → Prop) : Prop := ∀ c G' H', QD c → Gr G H G' H' → Q c H'
def LT (K : PySem.W.Frag) (te : TT) (de : Env → (Bool → Prop) → Prop) : Prop := ∀ {G0 H0 : Hp} {M : Addr → Prop} {ρ : Env} {σ : L2.St} {G H : Hp} {QD : Bool → Prop} {Q : Bool → Hp → Prop}, Iv K G0 H0 M ρ σ G H → de ρ QD → PoT QD G H Q → te σ H Q
/-- arguments: frozen, or read as they stand (never one's own) -/
def VrA (K : PySem.W.Frag) (G H : Hp) : List T → List V → Prop
  | [], [] => True
  | t :: ts, v :: vs => Vr K G H t v ∧ (∀ H' b, ¬ Fp H' t v b) ∧ VrA K G H ts vs
  | _, _ => False
def PoA (K : PySem.W.Frag) (QD : List T → Prop) (G H : Hp) (Q : List V → Hp → Prop) : Prop := ∀ ts vs G' H', QD ts → Gr G H G' H' → VrA K G' H' ts vs → Q vs H'
def LA (K : PySem.W.Frag) (ta : TA) (da : Env → (List T → Prop) → Prop) : Prop := ∀ {G0 H0 : Hp} {M : Addr → Prop} {ρ : Env} {σ : L2.St} {G H : Hp} {QD : List T → Prop} {Q : List V → Hp → Prop}, Iv K G0 H0 M ρ σ G H → da ρ QD → PoA K QD G H Q → ta σ H Q
end Dv

set_option Elab.async false
set_option linter.all false
set_option maxRecDepth 100000
set_option maxHeartbeats 4000000
namespace Dv
open PySem PySem.Spec PyProof.Rows L2 Px
theorem nofp {H : Hp} {x : PyData} {v : V} : ∀ b, Fp H (.g x) v b → H b = none := fun _ f => f.elim
section
variable {K : PySem.W.Frag} {G H G' H' : Hp}
theorem Vr.bor (s : Same G H) {t : T} {v : V} (h : Vr K G H t v) : Vr K G H t.bor v := by
  cases t with
  | g x => exact h
  | b ds => exact h
  | h x => exact h
  | l ds =>
    obtain ⟨a, vs, e, h1, h2, h3⟩ := h
    exact ⟨a, vs, e, h1, h3⟩
  | p ds =>
    obtain ⟨a, vs, e, h1, h2, h3⟩ := h
    exact ⟨a, vs, e, h1, h3⟩
  | ll dss => exact Vr.dp s h rfl
  | tt us => exact Vr.dp s h rfl
  | ob o r => exact True.intro
  | u => exact True.intro
theorem nobor {t : T} {v : V} (b : Addr) : ¬ Fp H t.bor v b := by
  cases t <;> exact fun f => f.elim
/-- one's own new things are frozen -/
theorem rows_fz : ∀ {as : List Addr} {dss : List (List PyData)} {G H : Hp}, Same G H → as.Nodup → Rows K G H as dss → ∃ G', Same G G' ∧ Same G' H ∧ (∀ a, G' a ≠ none → G a ≠ none ∨ a ∈ as) ∧ DpAll K G' (as.map V.ref) (dss.map .list)
  | [], [], G, H, s, _, _ => ⟨G, Same.refl _, s, fun a h => .inl h, .nil⟩
  | a :: as, ds :: dss, G, H, s, nd, ⟨⟨vs, h1, h2, h3⟩, q⟩ => by
    have na := (List.nodup_cons.mp nd).1
    have r2 : Rows K (upd G a (.lst vs)) H as dss := by
      have : ∀ {bs : List Addr} {ess : List (List PyData)}, a ∉ bs → Rows K G H bs ess → Rows K (upd G a (.lst vs)) H bs ess := by
        intro bs
        induction bs with
        | nil => intro ess _ h; cases ess with
          | nil => exact True.intro
          | cons _ _ => exact h.elim
        | cons b bs ih => intro ess nb h; cases ess with
          | nil => exact h.elim
          | cons e es =>
            obtain ⟨⟨ws, p1, p2, p3⟩, q⟩ := h
            have hb : b ≠ a := fun z => nb (by rw [z]; exact List.mem_cons_self)
            exact ⟨⟨ws, p1, by rw [upd_ne hb]; exact p2, dpAll_same (same_new h2) p3⟩, ih (fun z => nb (List.mem_cons_of_mem _ z)) q⟩
      exact this na q
    obtain ⟨G', g1, g2, g3, g4⟩ := rows_fz (same_fz s h1) (List.nodup_cons.mp nd).2 r2
    refine ⟨G', (same_new h2).trans g1, g2, fun b hb => ?_, .cons (.lst (seq_of (g1 _ _ upd_same)) (dpAll_same ((same_new h2).trans g1) h3)) g4⟩
    rcases g3 b hb with z | z
    · by_cases e : b = a
      · exact .inr (by rw [e]; exact List.mem_cons_self)
      · rw [upd_ne e] at z
        exact .inl z
    · exact .inr (List.mem_cons_of_mem _ z)
  | [], _ :: _, _, _, _, _, h => h.elim
  | _ :: _, [], _, _, _, _, h => h.elim
theorem Vr.fz (s : Same G H) {t : T} {v : V} (h : Vr K G H t v) : ∃ G', Same G G' ∧ Same G' H ∧ (∀ a, G' a ≠ none → G a ≠ none ∨ Fp H t v a) ∧ Vr K G' H t.fz v := by
  cases t with
  | ob o r => exact ⟨G, Same.refl _, s, fun a z => .inl z, True.intro⟩
  | u => exact ⟨G, Same.refl _, s, fun a z => .inl z, True.intro⟩
  | g x => exact ⟨G, Same.refl _, s, fun a z => .inl z, h⟩
  | b x => exact ⟨G, Same.refl _, s, fun a z => .inl z, h⟩
  | h x => exact ⟨G, Same.refl _, s, fun a z => .inl z, h⟩
  | p ds =>
    obtain ⟨a, vs, e, h1, h2, h3⟩ := h
    exact ⟨G, Same.refl _, s, fun a z => .inl z, a, vs, e, h1, h3⟩
  | l ds =>
    obtain ⟨a, vs, rfl, h1, h2, h3⟩ := h
    refine ⟨upd G a (.lst vs), same_new h2, same_fz s h1, fun b hb => ?_, .lst (seq_of upd_same) (dpAll_same (same_new h2) h3)⟩
    by_cases e : b = a
    · exact .inr (by rw [e]; exact rfl)
    · rw [upd_ne e] at hb
      exact .inl hb
  | ll dss =>
    obtain ⟨a, as, rfl, h1, h2, h3, h4⟩ := h
    obtain ⟨G', g1, g2, g3, g4⟩ := rows_fz s (List.nodup_cons.mp h3).2 h4
    have ga : G' a = none := by
      cases q : G' a with
      | none => rfl
      | some o =>
        rcases g3 a (nn_of q) with z | z
        · exact absurd h2 z
        · exact absurd z (List.nodup_cons.mp h3).1
    refine ⟨upd G' a (.lst (as.map V.ref)), g1.trans (same_new ga), same_fz g2 h1, fun b hb => ?_, .lst (seq_of upd_same) (dpAll_same (same_new ga) g4)⟩
    by_cases e : b = a
    · exact .inr ⟨a, as, rfl, h1, .inl e⟩
    · rw [upd_ne e] at hb
      rcases g3 b hb with z | z
      · exact .inl z
      · exact .inr ⟨a, as, rfl, h1, .inr z⟩
  | tt us =>
    obtain ⟨a, vs, as, rfl, h1, h2, h3, h4, h5, h6⟩ := h
    obtain ⟨G', g1, g2, g3, g4⟩ := rows_fz s (List.nodup_cons.mp h3).2 h6
    have ga : G' a = none := by
      cases q : G' a with
      | none => rfl
      | some o =>
        rcases g3 a (nn_of q) with z | z
        · exact absurd h2 z
        · exact absurd z (List.nodup_cons.mp h3).1
    have d : ∀ {vs : List V} {us : List TI1} {as : List Addr}, Wv vs us as → Frs K G vs us → DpAll K G' (as.map V.ref) ((ows us).map .list) → DpAll K G' vs (us.map TI1.rd) := by
      intro vs us
      induction us generalizing vs with
      | nil =>
        intro as w _ _
        cases vs with
        | nil => exact .nil
        | cons _ _ => exact w.elim
      | cons u us ih =>
        intro as w f q
        cases vs with
        | nil => cases u <;> exact w.elim
        | cons v vs =>
          cases u with
          | fr x => exact .cons (dp_same g1 f.1) (ih w f.2 q)
          | ow ds =>
            cases as with
            | nil => exact w.elim
            | cons b bs =>
              cases q with
              | cons q1 q2 =>
                have e := w.1
                subst e
                exact .cons q1 (ih w.2 f q2)
    refine ⟨upd G' a (.tup vs), g1.trans (same_new ga), same_fz g2 h1, fun b hb => ?_, .tup (tup_of upd_same) (dpAll_same (same_new ga) (d h4 h5 g4))⟩
    by_cases e : b = a
    · exact .inr ⟨a, vs, as, rfl, h1, h4, .inl e⟩
    · rw [upd_ne e] at hb
      rcases g3 b hb with z | z
      · exact .inl z
      · exact .inr ⟨a, vs, as, rfl, h1, h4, .inr z⟩
theorem nofz {t : T} {v : V} (b : Addr) : ¬ Fp H t.fz v b := by
  cases t <;> exact fun f => f.elim
/-- behind a reading, with what is new frozen -/
theorem fz_post {t : T} {v : V} {G1 H1 : Hp} (r : Gr G H G1 H1) (h : Vr K G1 H1 t v) (f : ∀ b, Fp H1 t v b → H b = none) : ∃ G2, Gr G H G2 H1 ∧ Same G1 G2 ∧ Vr K G2 H1 t.fz v := by
  obtain ⟨G2, g1, g2, g3, g4⟩ := Vr.fz r.s h
  refine ⟨G2, ⟨r.g.trans g1, r.h, g2, fun a ha ga => ?_⟩, g1, g4⟩
  cases q : G2 a with
  | none => rfl
  | some o =>
    rcases g3 a (nn_of q) with z | z
    · exact absurd (r.n a ha ga) z
    · exact absurd (f a z) ha
theorem Vr.weak (g : Same G G') (h : Same H H') {t : T} {v : V} (x : Vr K G H t v) (n : ∀ b, ¬ Fp H t v b) : Vr K G' H' t v := by
  cases t with
  | g x => exact dp_same g ‹_›
  | b ds =>
    obtain ⟨a, vs, e, h1, h2⟩ := x
    exact ⟨a, vs, e, h _ _ h1, dpAll_same g h2⟩
  | h x => exact dp_same h ‹_›
  | l ds =>
    obtain ⟨a, vs, rfl, h1, h2, h3⟩ := x
    exact absurd rfl (n a)
  | p ds =>
    obtain ⟨a, vs, rfl, h1, h2, h3⟩ := x
    exact absurd rfl (n a)
  | ll dss =>
    obtain ⟨a, as, rfl, h1, h2, h3, h4⟩ := x
    exact absurd ⟨a, as, rfl, h1, .inl rfl⟩ (n a)
  | tt us =>
    obtain ⟨a, vs, as, rfl, h1, h2, h3, h4, h5, h6⟩ := x
    exact absurd ⟨a, vs, as, rfl, h1, h4, .inl rfl⟩ (n a)
  | ob o r =>
    obtain ⟨b, f⟩ := o.some x
    exact absurd f (n b)
  | u => exact True.intro
theorem VrA.weak (g : Same G G') (h : Same H H') : ∀ {ts : List T} {vs : List V}, VrA K G H ts vs → VrA K G' H' ts vs
  | [], [], _ => True.intro
  | t :: ts, v :: vs, ⟨a, b, c⟩ => ⟨a.weak g h (b H), b, VrA.weak g h c⟩
  | [], _ :: _, x => x.elim
  | _ :: _, [], x => x.elim
end
/-! ### names, constants -/
def dVar (i : Nat) : Env → (T → Prop) → Prop := fun ρ Q => ∃ t, ρ[i]? = some (some t) ∧ Q t.bor
def dC (x : PyData) : Env → (T → Prop) → Prop := fun _ Q => Q (.g x)
section
variable {K : PySem.W.Frag} {ta tb tc te : TE} {da db dc de : Env → (T → Prop) → Prop} {tt tu : TT} {dt du : Env → (Bool → Prop) → Prop} {al : TA} {dl : Env → (List T → Prop) → Prop}
theorem lp_var {i : Nat} : LP K (tVar i) (dVar i) := fun x ⟨t, e, q⟩ p => by
  obtain ⟨v, h1, h2⟩ := x.sl _ _ e
  exact ⟨v, h1, p _ _ _ _ q (.refl x.gh) (h2.bor x.gh) fun b f => (nobor b f).elim⟩
theorem lp_int {i : Int} : LP K (tC (.int i)) (dC (.int i)) := fun x q p => p.scal x.gh (.int i) q
theorem lp_bl {i : Bool} : LP K (tC (.bl i)) (dC (.bool i)) := fun x q p => p.scal x.gh (.bl i) q
theorem lp_str {i : Str} : LP K (tC (.str i)) (dC (.str i)) := fun x q p => p.scal x.gh (.str i) q
theorem lp_non : LP K (tC .non) (dC .none) := fun x q p => p.scal x.gh .non q
/-! ### two operands -/
abbrev DR := T → T → (T → Prop) → Prop
def OR (K : PySem.W.Frag) (r : R2) (dr : DR) : Prop := ∀ {G H : Hp} {t u : T} {v w : V} {QD : T → Prop} {Q : VK}, Same G H → Vr K G H t v → Vr K G H u w → dr t u QD → Po K QD G H Q → r v w H Q
def dOp (dr : DR) (da db : Env → (T → Prop) → Prop) : Env → (T → Prop) → Prop := fun ρ Q => da ρ fun t => db ρ fun u => dr t u Q
theorem lp_op {r : R2} {dr : DR} (ha : LP K ta da) (hb : LP K tb db) (hr : OR K r dr) : LP K (tOp r ta tb) (dOp dr da db) := fun x q p =>
  ha x q fun t v G1 H1 qt r1 v1 f1 => hb (x.mono r1) qt fun u w G2 H2 qu r2 v2 f2 => hr r2.s (v1.mono r2) v2 qu (p.next (r1.trans r2))
def dI (C : Int → Int → Prop) (gd : Int → Int → PyData) : DR := fun t u Q => ∃ i j, t.rd = .int i ∧ u.rd = .int j ∧ C i j ∧ Q (.g (gd i j))
def dI0 (gd : Int → Int → PyData) : DR := fun t u Q => ∃ i j, t.rd = .int i ∧ u.rd = .int j ∧ Q (.g (gd i j))
theorem T.dat_of {t : T} (h : t.rd = .dict [] → False) : t.dat = true := by
  cases t <;> first | rfl | exact (h rfl).elim
theorem dat_sh {t : T} (e : SeqAt.shaped t.rd = true) : t.dat = true := T.dat_of fun z => by
  rw [z] at e
  simp [SeqAt.shaped, PyData.canLay0] at e
theorem vr_int {G H : Hp} {t : T} {v : V} {i : Int} (s : Same G H) (h : Vr K G H t v) (e : t.rd = .int i) : v = .int i := dp_int (e ▸ h.dp s (T.dat_of fun z => by rw [z] at e; cases e))
theorem vr_bl {G H : Hp} {t : T} {v : V} {i : Bool} (s : Same G H) (h : Vr K G H t v) (e : t.rd = .bool i) : v = .bl i := dp_bl (e ▸ h.dp s (T.dat_of fun z => by rw [z] at e; cases e))
theorem vr_str {G H : Hp} {t : T} {v : V} {i : Str} (s : Same G H) (h : Vr K G H t v) (e : t.rd = .str i) : v = .str i := dp_str (e ▸ h.dp s (T.dat_of fun z => by rw [z] at e; cases e))
theorem vr_non {G H : Hp} {t : T} {v : V} (s : Same G H) (h : Vr K G H t v) (e : t.rd = .none) : v = .non := dp_non (e ▸ h.dp s (T.dat_of fun z => by rw [z] at e; cases e))
theorem or_I {C : Int → Int → Prop} {f : Int → Int → Int} : OR K (rI C fun i j => .int (f i j)) (dI C fun i j => .int (f i j)) := fun s v w ⟨i, j, e1, e2, c, q⟩ p => ⟨i, j, vr_int s v e1, vr_int s w e2, c, p.scal s (.int _) q⟩
theorem or_I0 {f : Int → Int → Int} : OR K (rI0 fun i j => .int (f i j)) (dI0 fun i j => .int (f i j)) := fun s v w ⟨i, j, e1, e2, q⟩ p => ⟨i, j, vr_int s v e1, vr_int s w e2, p.scal s (.int _) q⟩
theorem or_B0 {f : Int → Int → Bool} : OR K (rI0 fun i j => .bl (f i j)) (dI0 fun i j => .bool (f i j)) := fun s v w ⟨i, j, e1, e2, q⟩ p => ⟨i, j, vr_int s v e1, vr_int s w e2, p.scal s (.bl _) q⟩
/-- == of flat things -/
@[reducible] def scD : PyData → PyData → Bool
  | .none, .none => true | .none, .int _ => true | .int _, .none => true | .none, .bool _ => true | .bool _, .none => true | .none, .str _ => true | .str _, .none => true
  | .int _, .int _ => true | .bool _, .bool _ => true | .str _, .str _ => true
  | .int _, .str _ => true | .str _, .int _ => true | .bool _, .str _ => true | .str _, .bool _ => true
  | _, _ => false
@[reducible] def eqF : PyData → PyData → Bool
  | .none, .none => true
  | .int i, .int j => decide (i = j)
  | .bool i, .bool j => decide (i = j)
  | .str i, .str j => decide (i = j)
  | _, _ => false
theorem scal_of {H : Hp} {v w : V} {x y : PyData} (a : Dp K H v x) (b : Dp K H w y) (e : scD x y = true) : scal v w = true ∧ decide (v = w) = eqF x y := by
  cases a <;> cases b <;> first | exact Bool.noConfusion e | exact ⟨rfl, rfl⟩ | (refine ⟨rfl, ?_⟩; simp [eqF])
theorem dat_sc {t u : T} (e : scD t.rd u.rd = true) : t.dat = true ∧ u.dat = true := by
  refine ⟨T.dat_of fun z => ?_, T.dat_of fun z => ?_⟩
  · rw [z] at e
    revert e
    generalize u.rd = x
    intro e
    cases x <;> exact Bool.noConfusion e
  · rw [z] at e
    revert e
    generalize t.rd = x
    intro e
    cases x <;> exact Bool.noConfusion e
def dEq : DR := fun t u Q => scD t.rd u.rd = true ∧ Q (.g (.bool (eqF t.rd u.rd)))
def dNe : DR := fun t u Q => scD t.rd u.rd = true ∧ Q (.g (.bool (!eqF t.rd u.rd)))
theorem or_eq : OR K rEq dEq := fun s v w ⟨e, q⟩ p => by
  obtain ⟨h1, h2⟩ := scal_of (v.dp s (dat_sc e).1) (w.dp s (dat_sc e).2) e
  exact ⟨h1, by rw [h2]; exact p.scal s (.bl _) q⟩
theorem or_ne : OR K rNe dNe := fun s v w ⟨e, q⟩ p => by
  obtain ⟨h1, h2⟩ := scal_of (v.dp s (dat_sc e).1) (w.dp s (dat_sc e).2) e
  exact ⟨h1, by rw [h2]; exact p.scal s (.bl _) q⟩
/-- == of lists and tuples -/
def dEqD : DR := fun t u Q => SeqAt.shaped t.rd = true ∧ SeqAt.shaped u.rd = true ∧ Q (.g (.bool (PyData.eqv t.rd u.rd)))
def dNeD : DR := fun t u Q => SeqAt.shaped t.rd = true ∧ SeqAt.shaped u.rd = true ∧ Q (.g (.bool (!PyData.eqv t.rd u.rd)))
theorem or_eqD : OR K (rEqD K) dEqD := fun s v w ⟨e, f, q⟩ p => ⟨_, _, v.dp s (dat_sh e), w.dp s (dat_sh f), e, f, p.scal s (.bl _) q⟩
theorem or_neD : OR K (rNeD K) dNeD := fun s v w ⟨e, f, q⟩ p => ⟨_, _, v.dp s (dat_sh e), w.dp s (dat_sh f), e, f, p.scal s (.bl _) q⟩
def dNotInD : DR := fun t u Q => ∃ ds, u.rd = .list ds ∧ SeqAt.shaped t.rd = true ∧ SeqAt.shaped u.rd = true ∧ Q (.g (.bool (!ds.any fun z => PyData.eqv z t.rd)))
def dInD : DR := fun t u Q => ∃ ds, u.rd = .list ds ∧ SeqAt.shaped t.rd = true ∧ SeqAt.shaped u.rd = true ∧ Q (.g (.bool (ds.any fun z => PyData.eqv z t.rd)))
theorem or_notInD : OR K (rNotInD K) dNotInD := fun s v w ⟨ds, e, f, g, q⟩ p => ⟨_, ds, v.dp s (dat_sh f), e ▸ w.dp s (dat_sh g), f, e ▸ g, p.scal s (.bl _) q⟩
theorem or_inD : OR K (rInD K) dInD := fun s v w ⟨ds, e, f, g, q⟩ p => ⟨_, ds, v.dp s (dat_sh f), e ▸ w.dp s (dat_sh g), f, e ▸ g, p.scal s (.bl _) q⟩
def dIsN : DR := fun t u Q => t.dat = true ∧ u.rd = .none ∧ Q (.g (.bool (eqF t.rd .none)))
def dNotN : DR := fun t u Q => t.dat = true ∧ u.rd = .none ∧ Q (.g (.bool (!eqF t.rd .none)))
theorem non_iff {H : Hp} {v : V} {x : PyData} (a : Dp K H v x) : decide (v = .non) = eqF x .none := by
  cases a <;> simp [eqF]
theorem or_isN : OR K (fun x y H Q => y = .non ∧ Q (.bl (decide (x = .non))) H) dIsN := fun s v w ⟨n, e, q⟩ p => ⟨vr_non s w e, by rw [non_iff (v.dp s n)]; exact p.scal s (.bl _) q⟩
theorem or_notN : OR K (fun x y H Q => y = .non ∧ Q (.bl (!decide (x = .non))) H) dNotN := fun s v w ⟨n, e, q⟩ p => ⟨vr_non s w e, by rw [non_iff (v.dp s n)]; exact p.scal s (.bl _) q⟩
theorem dpAll_at {H : Hp} : ∀ {xs : List V} {ds : List PyData} {i : Int} {x : PyData}, DpAll K H xs ds → atI ds i = some x → ∃ v, atI xs i = some v ∧ Dp K H v x := fun {xs ds i x} d e => by
  have hl := dpAll_len d
  unfold atI at e ⊢
  rw [hl]
  cases q : ixN ds.length i with
  | none =>
    rw [q] at e
    cases e
  | some j =>
    rw [q] at e
    obtain ⟨v, h1, h2⟩ := dpAll_get d (show ds[j]? = some x from e)
    exact ⟨v, h1, h2⟩
/-- a[i] -/
def dIxL : DR := fun t u Q => (∃ ds i x, t.elL = some ds ∧ u.rd = .int i ∧ atI ds i = some x ∧ Q (.g x)) ∨ (∃ ds i x, t.rd = .list ds ∧ u.rd = .int i ∧ atI ds i = some x ∧ Q (.h x))
def dIxT : DR := fun t u Q => (∃ ds i x, t.elT = some ds ∧ u.rd = .int i ∧ atI ds i = some x ∧ Q (.g x)) ∨ (∃ ds i x, t.rd = .tuple ds ∧ u.rd = .int i ∧ atI ds i = some x ∧ Q (.h x))
theorem or_ixL : OR K (rIxL K) dIxL := fun {G H t u v w QD Q} s a b h p => by
  rcases h with ⟨ds, i, x, e1, e2, e3, q⟩ | ⟨ds, i, x, e1, e2, e3, q⟩
  · obtain ⟨l, xs, rfl, h1, h2⟩ := elL_of s a e1
    obtain ⟨y, h3, h4⟩ := dpAll_at h2 e3
    exact ⟨l, xs, i, y, rfl, vr_int s b e2, h1, h3, p (.g x) y G H q (.refl s) h4 nofp⟩
  · obtain ⟨l, xs, rfl, h1, h2⟩ := dp_lst (e1 ▸ a.dp s (T.dat_of fun z => by rw [z] at e1; cases e1))
    obtain ⟨y, h3, h4⟩ := dpAll_at h2 e3
    exact ⟨l, xs, i, y, rfl, vr_int s b e2, h1, h3, p (.h x) y G H q (.refl s) h4 fun _ f => f.elim⟩
theorem or_ixT : OR K (rIxT K) dIxT := fun {G H t u v w QD Q} s a b h p => by
  rcases h with ⟨ds, i, x, e1, e2, e3, q⟩ | ⟨ds, i, x, e1, e2, e3, q⟩
  · obtain ⟨l, xs, rfl, _, h1, h2⟩ := elT_of s a e1
    obtain ⟨y, h3, h4⟩ := dpAll_at h2 e3
    exact ⟨l, xs, i, y, rfl, vr_int s b e2, h1, h3, p (.g x) y G H q (.refl s) h4 nofp⟩
  · obtain ⟨l, xs, rfl, h1, h2⟩ := dp_tup (e1 ▸ a.dp s (T.dat_of fun z => by rw [z] at e1; cases e1))
    obtain ⟨y, h3, h4⟩ := dpAll_at h2 e3
    exact ⟨l, xs, i, y, rfl, vr_int s b e2, h1, h3, p (.h x) y G H q (.refl s) h4 fun _ f => f.elim⟩
def dIxQ : DR := fun t u Q => dIxL t u Q ∨ dIxT t u Q
theorem or_ixQ : OR K (rIxQ K) dIxQ := fun s a b h p => h.elim (fun h => .inl (or_ixL s a b h p)) fun h => .inr (or_ixT s a b h p)
theorem dpAll_app {H : Hp} : ∀ {xs ys : List V} {ds es : List PyData}, DpAll K H xs ds → DpAll K H ys es → DpAll K H (xs ++ ys) (ds ++ es)
  | _, _, _, _, .nil, b => b
  | _, _, _, _, .cons a r, b => .cons a (dpAll_app r b)
/-- a list that stands at an address of its own -/
@[reducible] def T.own : T → Option (List PyData)
  | .b ds => some ds | .l ds => some ds | _ => none
theorem own_of {G H : Hp} {t : T} {v : V} {ds : List PyData} (h : Vr K G H t v) (e : t.own = some ds) : ∃ a xs, v = .ref a ∧ H a = some (.lst xs) ∧ DpAll K G xs ds := by
  cases t with
  | b xs =>
    obtain rfl : xs = ds := Option.some.inj e
    exact h
  | l xs =>
    obtain rfl : xs = ds := Option.some.inj e
    obtain ⟨a, vs, r, h1, _, h3⟩ := h
    exact ⟨a, vs, r, h1, h3⟩
  | g x => simp [T.own] at e
  | h x => simp [T.own] at e
  | ll x => simp [T.own] at e
  | tt x => simp [T.own] at e
  | ob x q => simp [T.own] at e
  | u => simp [T.own] at e
  | p x => simp [T.own] at e
/-- a new list -/
theorem Po.lst {G H : Hp} {QD : T → Prop} {Q : VK} {xs : List V} {ds : List PyData} (p : Po K QD G H Q) (s : Same G H) (d : DpAll K G xs ds) (q : QD (.l ds)) : ∀ l, H l = none → Q (.ref l) (upd H l (.lst xs)) := fun l hl =>
  p (.l ds) _ G _ q (.new s hl) ⟨l, xs, rfl, upd_same, s.free hl, d⟩ fun b f => by
    cases (f : V.ref l = V.ref b)
    exact hl
theorem Po.tup {G H : Hp} {QD : T → Prop} {Q : VK} {xs : List V} {ds : List PyData} (p : Po K QD G H Q) (s : Same G H) (d : DpAll K G xs ds) (q : QD (.g (.tuple ds))) : ∀ l, H l = none → Q (.ref l) (upd H l (.tup xs)) := fun l hl =>
  p (.g (.tuple ds)) _ (upd G l (.tup xs)) _ q (.newG s hl) (.tup (tup_of upd_same) (dpAll_same (same_new (s.free hl)) d)) fun _ f => f.elim
def dCat : DR := fun t u Q => ∃ ds es, t.own = some ds ∧ u.own = some es ∧ ds.length + es.length ≤ 16777216 ∧ Q (.l (ds ++ es))
theorem or_cat : OR K rCat dCat := fun s a b ⟨ds, es, e1, e2, z, q⟩ p => by
  obtain ⟨l, xs, rfl, h1, h2⟩ := own_of a e1
  obtain ⟨m, ys, rfl, h3, h4⟩ := own_of b e2
  exact ⟨l, m, xs, ys, rfl, rfl, h1, h3, r_small (by rw [dpAll_len h2, dpAll_len h4]; exact z), p.lst s (dpAll_app h2 h4) q⟩
theorem dpAll_rep {H : Hp} {xs : List V} {ds : List PyData} (d : DpAll K H xs ds) : ∀ n, DpAll K H (List.replicate n xs).flatten (List.replicate n ds).flatten
  | 0 => .nil
  | n + 1 => by
    rw [List.replicate_succ, List.replicate_succ, List.flatten_cons, List.flatten_cons]
    exact dpAll_app d (dpAll_rep d n)
def dRep : DR := fun t u Q => ∃ ds k, t.own = some ds ∧ u.rd = .int k ∧ -(2 ^ 63) ≤ k ∧ k < 2 ^ 63 ∧ ds.length * k.toNat ≤ 16777216 ∧ Q (.l (List.replicate k.toNat ds).flatten)
theorem or_rep : OR K rRep dRep := fun s a b ⟨ds, k, e1, e2, z1, z2, z, q⟩ p => by
  obtain ⟨l, xs, rfl, h1, h2⟩ := own_of a e1
  exact ⟨l, k, xs, rfl, vr_int s b e2, h1, z1, z2, r_small (by rw [dpAll_len h2]; exact z), p.lst s (dpAll_rep h2 _) q⟩
/-! ### one operand, tests -/
def dNeg (da : Env → (T → Prop) → Prop) : Env → (T → Prop) → Prop := fun ρ Q => da ρ fun t => ∃ i, t.rd = .int i ∧ Q (.g (.int (-i)))
theorem lp_neg (ha : LP K ta da) : LP K (tUn (rU fun i => .int (-i)) ta) (dNeg da) := fun x q p => ha x q fun t v G1 H1 ⟨i, e, qt⟩ r1 v1 f1 => ⟨i, vr_int r1.s v1 e, (p.next r1).scal r1.s (.int _) qt⟩
def dTest (da : Env → (T → Prop) → Prop) : Env → (Bool → Prop) → Prop := fun ρ Q => da ρ fun t => ∃ c, t.rd = .bool c ∧ Q c
theorem lt_test (ha : LP K ta da) : LT K (tTest ta) (dTest da) := fun x q p => ha x q fun t v G1 H1 ⟨c, e, qt⟩ r1 v1 _ => ⟨c, vr_bl r1.s v1 e, p c _ _ qt r1⟩
theorem lt_tB (ha : LP K ta da) : LT K (tB ta) (dTest da) := fun x q p => ha x q fun t v G1 H1 ⟨c, e, qt⟩ r1 v1 _ => ⟨c, vr_bl r1.s v1 e, p c _ _ qt r1⟩
theorem PoT.next {QD : Bool → Prop} {G H G1 H1 : Hp} {Q : Bool → Hp → Prop} (q : PoT QD G H Q) (r : Gr G H G1 H1) : PoT QD G1 H1 Q := fun c G' H' a b => q c G' H' a (r.trans b)
def dAnd (dt du : Env → (Bool → Prop) → Prop) : Env → (Bool → Prop) → Prop := fun ρ Q => dt ρ fun c => if c = true then du ρ Q else Q false
def dOr (dt du : Env → (Bool → Prop) → Prop) : Env → (Bool → Prop) → Prop := fun ρ Q => dt ρ fun c => if c = true then Q true else du ρ Q
def dNot (dt : Env → (Bool → Prop) → Prop) : Env → (Bool → Prop) → Prop := fun ρ Q => dt ρ fun c => Q (!c)
theorem lt_and (h1 : LT K tt dt) (h2 : LT K tu du) : LT K (tAnd tt tu) (dAnd dt du) := fun x q p => h1 x q fun c G1 H1 qc r1 => by
  cases c with
  | true => exact h2 (x.mono r1) qc (p.next r1)
  | false => exact p false _ _ qc r1
theorem lt_or (h1 : LT K tt dt) (h2 : LT K tu du) : LT K (tOr tt tu) (dOr dt du) := fun x q p => h1 x q fun c G1 H1 qc r1 => by
  cases c with
  | true => exact p true _ _ qc r1
  | false => exact h2 (x.mono r1) qc (p.next r1)
theorem lt_not (h1 : LT K tt dt) : LT K (tNot tt) (dNot dt) := fun x q p => h1 x q fun c G1 H1 qc r1 => p _ _ _ qc r1
theorem lt_yes : LT K tYes (fun _ Q => Q true) := fun x q p => p _ _ _ q (.refl x.gh)
def dAndV (da db : Env → (T → Prop) → Prop) : Env → (T → Prop) → Prop := fun ρ Q => da ρ fun t => ∃ c, t.rd = .bool c ∧ if c = true then db ρ Q else Q (.g (.bool false))
def dOrV (da db : Env → (T → Prop) → Prop) : Env → (T → Prop) → Prop := fun ρ Q => da ρ fun t => ∃ c, t.rd = .bool c ∧ if c = true then Q (.g (.bool true)) else db ρ Q
def dNotV (da : Env → (T → Prop) → Prop) : Env → (T → Prop) → Prop := fun ρ Q => da ρ fun t => ∃ c, t.rd = .bool c ∧ Q (.g (.bool (!c)))
theorem lp_andV (ha : LP K ta da) (hb : LP K tb db) : LP K (tAndV ta tb) (dAndV da db) := fun x q p => ha x q fun t v G1 H1 ⟨c, e, qt⟩ r1 v1 _ => ⟨c, vr_bl r1.s v1 e, by
  cases c with
  | true => exact hb (x.mono r1) qt (p.next r1)
  | false => exact (p.next r1).scal r1.s (.bl _) qt⟩
theorem lp_orV (ha : LP K ta da) (hb : LP K tb db) : LP K (tOrV ta tb) (dOrV da db) := fun x q p => ha x q fun t v G1 H1 ⟨c, e, qt⟩ r1 v1 _ => ⟨c, vr_bl r1.s v1 e, by
  cases c with
  | true => exact (p.next r1).scal r1.s (.bl _) qt
  | false => exact hb (x.mono r1) qt (p.next r1)⟩
theorem lp_notV (ha : LP K ta da) : LP K (tNotV ta) (dNotV da) := fun x q p => ha x q fun t v G1 H1 ⟨c, e, qt⟩ r1 v1 _ => ⟨c, vr_bl r1.s v1 e, (p.next r1).scal r1.s (.bl _) qt⟩
def dIf (dt : Env → (Bool → Prop) → Prop) (da db : Env → (T → Prop) → Prop) : Env → (T → Prop) → Prop := fun ρ Q => dt ρ fun c => if c = true then da ρ Q else db ρ Q
theorem lp_if (h1 : LT K tt dt) (ha : LP K ta da) (hb : LP K tb db) : LP K (tIf tt ta tb) (dIf dt da db) := fun x q p => h1 x q fun c G1 H1 qc r1 => by
  cases c with
  | true => exact ha (x.mono r1) qc (p.next r1)
  | false => exact hb (x.mono r1) qc (p.next r1)
def dChain (dr dr' : DR) (da db dc : Env → (T → Prop) → Prop) : Env → (T → Prop) → Prop := fun ρ Q => da ρ fun t => db ρ fun u => dr t u fun z => ∃ k, z.rd = .bool k ∧ if k = true then dc ρ fun w => dr' u.bor w Q else Q (.g (.bool false))
theorem lp_chain {r r' : R2} {dr dr' : DR} (ha : LP K ta da) (hb : LP K tb db) (hc : LP K tc dc) (hr : OR K r dr) (hr' : OR K r' dr') : LP K (tChain r r' ta tb tc) (dChain dr dr' da db dc) := fun x q p =>
  ha x q fun t v G1 H1 qt r1 v1 f1 => hb (x.mono r1) qt fun u w G2 H2 qu r2 v2 f2 => hr r2.s (v1.mono r2) v2 qu fun z z' G3 H3 ⟨k, e, qz⟩ r3 v3 f3 => ⟨k, vr_bl r3.s v3 e, by
    cases k with
    | true => exact hc (x.mono (r1.trans (r2.trans r3))) qz fun w' y G4 H4 qw r4 v4 f4 => hr' r4.s ((v2.mono (r3.trans r4)).bor r4.s) v4 qw (p.next (r1.trans (r2.trans (r3.trans r4))))
    | false => exact (p.next (r1.trans (r2.trans r3))).scal r3.s (.bl _) qz⟩
@[reducible] def trD : PyData → Option Bool
  | .list ds => some !ds.isEmpty
  | .tuple ds => some !ds.isEmpty
  | .bool c => some c
  | .int i => some (!decide (i = 0))
  | .none => some false
  | _ => Option.none
/-! ### arguments -/
def dANil : Env → (List T → Prop) → Prop := fun _ Q => Q []
def dACons (da : Env → (T → Prop) → Prop) (dl : Env → (List T → Prop) → Prop) : Env → (List T → Prop) → Prop := fun ρ Q => da ρ fun t => dl ρ fun ts => Q (t.fz :: ts)
theorem la_nil : LA K tNil dANil := fun x q p => p [] [] _ _ q (.refl x.gh) True.intro
theorem la_cons (ha : LP K ta da) (hl : LA K al dl) : LA K (tCons ta al) (dACons da dl) := fun x q p => ha x q fun t v G1 H1 qt r1 v1 f1 => by
  obtain ⟨G2, r2, g2, v2⟩ := fz_post r1 v1 f1
  refine hl (x.mono r2) qt fun ts vs G3 H3 qs r3 v3 => p _ _ _ _ qs (r2.trans r3) ⟨v2.weak r3.g r3.h (nofz), fun H' b => nofz b, v3⟩
/-- all frozen -/
@[reducible] def stab : List T → Option (List PyData)
  | [] => some []
  | .g x :: r => (stab r).map (x :: ·)
  | _ :: _ => none
theorem stab_of {G H : Hp} : ∀ {ts : List T} {vs : List V} {xs : List PyData}, VrA K G H ts vs → stab ts = some xs → DpAll K G vs xs
  | [], [], xs, _, e => by
    cases (Option.some.inj e : [] = xs)
    exact .nil
  | .g x :: ts, v :: vs, xs, ⟨a, _, c⟩, e => by
    unfold stab at e
    cases q : stab ts with
    | none => rw [q] at e; cases e
    | some ys =>
      rw [q] at e
      cases (Option.some.inj e : x :: ys = xs)
      exact .cons a (stab_of c q)
  | .b _ :: _, _, _, _, e => by simp [stab] at e
  | .h _ :: _, _, _, _, e => by simp [stab] at e
  | .l _ :: _, _, _, _, e => by simp [stab] at e
  | .ll _ :: _, _, _, _, e => by simp [stab] at e
  | .tt _ :: _, _, _, _, e => by simp [stab] at e
  | .p _ :: _, _, _, _, e => by simp [stab] at e
  | [], _ :: _, _, h, _ => h.elim
  | .g _ :: _, [], _, h, _ => h.elim
theorem rds_of {G H : Hp} (s : Same G H) : ∀ {ts : List T} {vs : List V}, VrA K G H ts vs → ts.all T.dat = true → DpAll K H vs (ts.map T.rd)
  | [], [], _, _ => .nil
  | t :: ts, v :: vs, ⟨a, _, c⟩, n => .cons (a.dp s (Bool.and_eq_true_iff.mp n).1) (rds_of s c (Bool.and_eq_true_iff.mp n).2)
  | [], _ :: _, h, _ => h.elim
  | _ :: _, [], h, _ => h.elim
def dTup (dl : Env → (List T → Prop) → Prop) : Env → (T → Prop) → Prop := fun ρ Q => dl ρ fun ts => ∃ xs, stab ts = some xs ∧ xs.length ≤ 16777216 ∧ Q (.g (.tuple xs))
def dLst (dl : Env → (List T → Prop) → Prop) : Env → (T → Prop) → Prop := fun ρ Q => dl ρ fun ts => ∃ xs, stab ts = some xs ∧ xs.length ≤ 16777216 ∧ Q (.l xs)
theorem lp_tup (h : LA K al dl) : LP K (tTup al) (dTup dl) := fun x q p => h x q fun ts vs G1 H1 ⟨xs, e, z, qt⟩ r1 v1 => by
  have d := stab_of v1 e
  exact ⟨r_small (by rw [dpAll_len d]; exact z), (p.next r1).tup r1.s d qt⟩
theorem lp_lst (h : LA K al dl) : LP K (tLst al) (dLst dl) := fun x q p => h x q fun ts vs G1 H1 ⟨xs, e, z, qt⟩ r1 v1 => by
  have d := stab_of v1 e
  exact ⟨r_small (by rw [dpAll_len d]; exact z), (p.next r1).lst r1.s d qt⟩
/-! ### built-in calls -/
abbrev DC := List T → (T → Prop) → Prop
def OC (K : PySem.W.Frag) (r : List V → Hp → VK → Prop) (dr : DC) : Prop := ∀ {G H : Hp} {ts : List T} {vs : List V} {QD : T → Prop} {Q : VK}, Same G H → VrA K G H ts vs → dr ts QD → Po K QD G H Q → r vs H Q
def dCB (dr : DC) (dl : Env → (List T → Prop) → Prop) : Env → (T → Prop) → Prop := fun ρ Q => dl ρ fun ts => dr ts Q
theorem lp_cb {r : List V → Hp → VK → Prop} {dr : DC} (h : LA K al dl) (hr : OC K r dr) : LP K (tCB r al) (dCB dr dl) := fun x q p => h x q fun ts vs G1 H1 qt r1 v1 => hr r1.s v1 qt (p.next r1)
theorem vrA1 {G H : Hp} {t : T} {vs : List V} (h : VrA K G H [t] vs) : ∃ v, vs = [v] ∧ Vr K G H t v := by
  match vs, h with
  | [v], ⟨a, _, _⟩ => exact ⟨v, rfl, a⟩
  | _ :: _ :: _, ⟨_, _, c⟩ => exact c.elim
theorem vrA2 {G H : Hp} {t u : T} {vs : List V} (h : VrA K G H [t, u] vs) : ∃ v w, vs = [v, w] ∧ Vr K G H t v ∧ Vr K G H u w := by
  match vs, h with
  | v :: vs, ⟨a, _, c⟩ =>
    obtain ⟨w, rfl, b⟩ := vrA1 c
    exact ⟨v, w, rfl, a, b⟩
@[reducible] def seqD : PyData → Option (List PyData)
  | .list ds => some ds | .tuple ds => some ds | _ => none
def dLen : DC := fun ts Q => ∃ t ds, ts = [t] ∧ seqD t.rd = some ds ∧ Q (.g (.int (ds.length : Nat)))
theorem seq_dp {H : Hp} {v : V} {x : PyData} {ds : List PyData} (h : Dp K H v x) (e : seqD x = some ds) : ∃ a xs, v = .ref a ∧ (SqL K H a xs ∨ SqT K H a xs) ∧ DpAll K H xs ds := by
  cases x with
  | list ys =>
    obtain rfl : ys = ds := Option.some.inj e
    obtain ⟨a, xs, r, h1, h2⟩ := dp_lst h
    exact ⟨a, xs, r, .inl h1, h2⟩
  | tuple ys =>
    obtain rfl : ys = ds := Option.some.inj e
    obtain ⟨a, xs, r, h1, h2⟩ := dp_tup h
    exact ⟨a, xs, r, .inr h1, h2⟩
  | _ => simp [seqD] at e
theorem oc_len : OC K (Px.rLen K) dLen := fun s h ⟨t, ds, e, f, q⟩ p => by
  subst e
  obtain ⟨v, rfl, a⟩ := vrA1 h
  obtain ⟨l, xs, rfl, h1, h2⟩ := seq_dp (a.dp s (T.dat_of fun z => by rw [z] at f; cases f)) f
  exact ⟨l, xs, rfl, h1, by rw [dpAll_len h2]; exact p.scal s (.int _) q⟩
/-- frozen items, of a list or a tuple -/
def T.el (t : T) : Option (List PyData) := match t.elL with | some ds => some ds | none => t.elT
theorem el_of {G H : Hp} (s : Same G H) {t : T} {v : V} {ds : List PyData} (h : Vr K G H t v) (e : t.el = some ds) : ∃ a xs, v = .ref a ∧ (SqL K H a xs ∨ SqT K H a xs) ∧ DpAll K G xs ds := by
  unfold T.el at e
  cases q : t.elL with
  | some es =>
    rw [q] at e
    obtain rfl : es = ds := Option.some.inj e
    obtain ⟨a, xs, r, h1, h2⟩ := elL_of s h q
    exact ⟨a, xs, r, .inl h1, h2⟩
  | none =>
    rw [q] at e
    obtain ⟨a, xs, r, _, h1, h2⟩ := elT_of s h e
    exact ⟨a, xs, r, .inr h1, h2⟩
def dListOf : DC := fun ts Q => ∃ t ds, ts = [t] ∧ t.el = some ds ∧ Q (.l ds)
theorem oc_list : OC K (rLst K) dListOf := fun s h ⟨t, ds, e, f, q⟩ p => by
  subst e
  obtain ⟨v, rfl, a⟩ := vrA1 h
  obtain ⟨l, xs, rfl, h1, h2⟩ := el_of s a f
  exact ⟨l, xs, rfl, h1, p.lst s h2 q⟩
def rTupOf (K : PySem.W.Frag) : List V → Hp → VK → Prop := fun xs H Q => ∃ p ys, xs = [.ref p] ∧ ((SqL K H p ys ∧ ∀ l, H l = none → Q (.ref l) (upd H l (.tup ys))) ∨ (SqT K H p ys ∧ Q (.ref p) H))
theorem crTupOf (K : PySem.W.Frag) {X : Cx} (hK : X.K = K) : CallR X (.type "tuple") (rTupOf K) := hK ▸ call_tuple_of
/-- scalars -/
def scalD : PyData → Bool
  | .none => true | .bool _ => true | .int _ => true | .str _ => true | _ => false
theorem dp_scal {H H' : Hp} {v : V} {x : PyData} (h : Dp K H v x) (e : scalD x = true) : Dp K H' v x := by
  cases h <;> first | exact .non | exact .bl _ | exact .int _ | exact .str _ | exact Bool.noConfusion e
theorem dpAll_scal {H H' : Hp} : ∀ {vs : List V} {xs : List PyData}, DpAll K H vs xs → xs.all scalD = true → DpAll K H' vs xs
  | _, _, .nil, _ => .nil
  | _, _, .cons a b, e => by
    rw [List.all_cons, Bool.and_eq_true] at e
    exact .cons (dp_scal a e.1) (dpAll_scal b e.2)
/-- tuple(xs): frozen items, or items that stand as they are and are flat -/
def dTupOf : DC := fun ts Q => ∃ t ds, ts = [t] ∧ ((t.el = some ds ∧ Q (.g (.tuple ds))) ∨ (t.rd = .list ds ∧ ds.all scalD = true ∧ Q (.g (.tuple ds))))
theorem oc_tuple : OC K (rTupOf K) dTupOf := fun {G H ts vs QD Q} s h ⟨t, ds, e, f⟩ p => by
  subst e
  obtain ⟨v, rfl, a⟩ := vrA1 h
  rcases f with ⟨f, q⟩ | ⟨f, sc, q⟩
  · unfold T.el at f
    cases qe : t.elL with
    | some es =>
      rw [qe] at f
      obtain rfl : es = ds := Option.some.inj f
      obtain ⟨l, xs, rfl, h1, h2⟩ := elL_of s a qe
      exact ⟨l, xs, rfl, .inl ⟨h1, p.tup s h2 q⟩⟩
    | none =>
      rw [qe] at f
      obtain ⟨l, xs, rfl, g1, h1, h2⟩ := elT_of s a f
      exact ⟨l, xs, rfl, .inr ⟨h1, p (.g (.tuple ds)) _ G H q (.refl s) (.tup g1 h2) nofp⟩⟩
  · obtain ⟨l, xs, rfl, h1, h2⟩ := dp_lst (f ▸ a.dp s (T.dat_of fun z => by rw [z] at f; cases f))
    exact ⟨l, xs, rfl, .inl ⟨h1, p.tup s (dpAll_scal h2 sc) q⟩⟩
/-! ### calls of defs -/
def spD (K : PySem.W.Frag) (c : List PyData → (T → Prop) → Prop) : Sp := fun vs H Q _ => ∃ G ds QD, Same G H ∧ DpAll K G vs ds ∧ c ds QD ∧ Po K QD G H Q
def scT : T → Bool
  | .g x => scalD x
  | .l ds => ds.all scalD
  | _ => false
def dCal (c : List PyData → (T → Prop) → Prop) (dl : Env → (List T → Prop) → Prop) : Env → (T → Prop) → Prop := fun ρ Q => dl ρ fun ts => (∃ xs, stab ts = some xs ∧ c xs Q) ∨ (ts.all T.dat = true ∧ c (ts.map T.rd) fun t => scT t = true ∧ Q t)
theorem lp_cal {c : List PyData → (T → Prop) → Prop} {E : XK} (h : LA K al dl) : LP K (tCal (spD K c) E al) (dCal c dl) := fun x q p => h x q fun ts vs G1 H1 qt r1 v1 => by
  rcases qt with ⟨xs, e, q⟩ | ⟨nd, q⟩
  · exact ⟨G1, xs, _, r1.s, stab_of v1 e, q, p.next r1⟩
  · refine ⟨H1, ts.map T.rd, _, Same.refl _, rds_of r1.s v1 nd, q, fun t v G2 H2 ⟨sc, qt⟩ r2 v2 f2 => ?_⟩
    have r3 : Gr G1 H1 G1 H2 := ⟨Same.refl _, r2.h, r1.s.trans r2.h, fun _ _ z => z⟩
    refine p t v G1 H2 qt (r1.trans r3) ?_ fun b f => r1.h.free (f2 b f)
    cases t with
    | g y => exact dp_scal v2 sc
    | l ds =>
      obtain ⟨a, ws, rfl, h1, h2, h3⟩ := v2
      exact ⟨a, ws, rfl, h1, r1.s.free (f2 a rfl), dpAll_scal h3 sc⟩
    | b _ => exact Bool.noConfusion sc
    | h _ => exact Bool.noConfusion sc
    | ll _ => exact Bool.noConfusion sc
    | tt _ => exact Bool.noConfusion sc
    | ob _ _ => exact Bool.noConfusion sc
    | u => exact Bool.noConfusion sc
    | p _ => exact Bool.noConfusion sc
/-! ### parts -/
def PoO (QD : Option Int → Prop) (G H : Hp) (Q : Option Int → Hp → Prop) : Prop := ∀ c G' H', QD c → Gr G H G' H' → Q c H'
def LO (K : PySem.W.Frag) (te : TO) (de : Env → (Option Int → Prop) → Prop) : Prop := ∀ {G0 H0 : Hp} {M : Addr → Prop} {ρ : Env} {σ : L2.St} {G H : Hp} {QD : Option Int → Prop} {Q : Option Int → Hp → Prop}, Iv K G0 H0 M ρ σ G H → de ρ QD → PoO QD G H Q → te σ H Q
def dNoPart : Env → (Option Int → Prop) → Prop := fun _ Q => Q none
def dPart (da : Env → (T → Prop) → Prop) : Env → (Option Int → Prop) → Prop := fun ρ Q => da ρ fun t => ∃ i, t.rd = .int i ∧ Q (some i)
theorem lo_none : LO K tNoPart dNoPart := fun x q p => p _ _ _ q (.refl x.gh)
theorem lo_some (ha : LP K ta da) : LO K (tPart ta) (dPart da) := fun x q p => ha x q fun t v G1 H1 ⟨i, e, qt⟩ r1 v1 _ => ⟨i, vr_int r1.s v1 e, p _ _ _ qt r1⟩
def cutD (xs : List PyData) (lo hi : Option Int) : List PyData := (xs.drop (HT.sIx xs.length 0 lo)).take (HT.sIx xs.length xs.length hi - HT.sIx xs.length 0 lo)
theorem dpAll_drop {H : Hp} : ∀ {xs : List V} {ds : List PyData} (n : Nat), DpAll K H xs ds → DpAll K H (xs.drop n) (ds.drop n)
  | _, _, 0, h => h
  | _, _, _ + 1, .nil => .nil
  | _, _, n + 1, .cons _ h => dpAll_drop n h
theorem dpAll_take {H : Hp} : ∀ {xs : List V} {ds : List PyData} (n : Nat), DpAll K H xs ds → DpAll K H (xs.take n) (ds.take n)
  | _, _, 0, _ => .nil
  | _, _, _ + 1, .nil => .nil
  | _, _, n + 1, .cons a h => .cons a (dpAll_take n h)
theorem dpAll_cut {H : Hp} {xs : List V} {ds : List PyData} (d : DpAll K H xs ds) (lo hi : Option Int) : DpAll K H (cutV xs lo hi) (cutD ds lo hi) := by
  unfold cutV cutD
  rw [dpAll_len d]
  exact dpAll_take _ (dpAll_drop _ d)
abbrev DS3 := T → Option Int → Option Int → (T → Prop) → Prop
def OS (K : PySem.W.Frag) (r : V → Option Int → Option Int → Hp → VK → Prop) (dr : DS3) : Prop := ∀ {G H : Hp} {t : T} {v : V} {lo hi : Option Int} {QD : T → Prop} {Q : VK}, Same G H → Vr K G H t v → dr t lo hi QD → Po K QD G H Q → r v lo hi H Q
def dSl (dr : DS3) (da : Env → (T → Prop) → Prop) (dlo dhi : Env → (Option Int → Prop) → Prop) : Env → (T → Prop) → Prop := fun ρ Q => da ρ fun t => dlo ρ fun lo => dhi ρ fun hi => dr t lo hi Q
theorem lp_sl {r : V → Option Int → Option Int → Hp → VK → Prop} {dr : DS3} {tlo thi : TO} {dlo dhi : Env → (Option Int → Prop) → Prop} (ha : LP K ta da) (h1 : LO K tlo dlo) (h2 : LO K thi dhi) (hr : OS K r dr) : LP K (tSl r ta tlo thi) (dSl dr da dlo dhi) := fun x q p =>
  ha x q fun t v G1 H1 qt r1 v1 f1 => h1 (x.mono r1) qt fun lo G2 H2 ql r2 => h2 (x.mono (r1.trans r2)) ql fun hi G3 H3 qh r3 => hr r3.s (v1.mono (r2.trans r3)) qh (p.next (r1.trans (r2.trans r3)))
def dSlL : DS3 := fun t lo hi Q => ∃ ds, t.elL = some ds ∧ Q (.l (cutD ds lo hi))
theorem os_L : OS K (rSlL K) dSlL := fun s a ⟨ds, e, q⟩ p => by
  obtain ⟨l, xs, rfl, h1, h2⟩ := elL_of s a e
  exact ⟨l, xs, rfl, h1, p.lst s (dpAll_cut h2 _ _) q⟩
def dSlT : DS3 := fun t lo hi Q => ∃ ds, t.elT = some ds ∧ ¬ (HT.sIx ds.length 0 lo = 0 ∧ HT.sIx ds.length ds.length hi = ds.length) ∧ Q (.g (.tuple (cutD ds lo hi)))
theorem os_T : OS K (rSlT K) dSlT := fun s a ⟨ds, e, n, q⟩ p => by
  obtain ⟨l, xs, rfl, _, h1, h2⟩ := elT_of s a e
  exact ⟨l, xs, rfl, h1, by rw [dpAll_len h2]; exact n, p.tup s (dpAll_cut h2 _ _) q⟩
end
end Dv

set_option Elab.async false
set_option linter.all false
set_option maxRecDepth 100000
set_option maxHeartbeats 4000000
namespace Dv
open PySem PySem.Spec PyProof.Rows L2 Px
section
variable {K : PySem.W.Frag} {G0 H0 G H G' H' G1 : Hp} {M : Addr → Prop} {ρ : Env} {σ : L2.St}
theorem set_at {α : Type} {xs : List α} {i k : Nat} {y z : α} (h : (xs.set i y)[k]? = some z) : (k = i ∧ i < xs.length ∧ z = y) ∨ (k ≠ i ∧ xs[k]? = some z) := by
  by_cases e : k = i
  · subst e
    by_cases l : k < xs.length
    · rw [List.getElem?_set_self l] at h
      exact .inl ⟨rfl, l, (Option.some.inj h).symm⟩
    · rw [List.getElem?_eq_none (by rw [List.length_set]; omega)] at h
      cases h
  · rw [List.getElem?_set_ne (fun z => e z.symm)] at h
    exact .inr ⟨e, h⟩
theorem kdset {i : Nat} {y : Option T} (h : ∀ (i : Nat) (t : T), ρ[i]? = some (some t) → t.slot = true) (hy : ∀ {t : T}, y = some t → t.slot = true) : ∀ (k : Nat) (t : T), (ρ.set i y)[k]? = some (some t) → t.slot = true := fun k t e => by
  rcases set_at e with ⟨_, _, e⟩ | ⟨_, e⟩
  · exact hy e.symm
  · exact h k t e
theorem Iv.set (x : Iv K G0 H0 M ρ σ G H) {i : Nat} {t : T} {v : V} (ht : t.slot = true) (h : Vr K G H t v) (f : ∀ b, Fp H t v b → (if t.isP = true then M b else H0 b = none) ∧ ∀ j u w, j ≠ i → ρ[j]? = some (some u) → σ[j]? = some (some w) → ¬ Fp H u w b) : Iv K G0 H0 M (ρ.set i (some t)) (σ.set i (some v)) G H := by
  refine ⟨x.gh, x.g0, x.gf, x.up, x.mh, by rw [List.length_set, List.length_set, x.len], kdset x.kd (fun z => (Option.some.inj z) ▸ ht), fun k u e => ?_, fun k u w b e1 e2 p => ?_, fun j k u u' w w' b e1 e2 e3 e4 p1 p2 => ?_⟩
  · rcases set_at e with ⟨rfl, hl, e⟩ | ⟨ne, e⟩
    · cases (Option.some.inj e)
      exact ⟨v, List.getElem?_set_self (by rw [x.len]; exact hl), h⟩
    · obtain ⟨w, h1, h2⟩ := x.sl k u e
      exact ⟨w, by rw [List.getElem?_set_ne (fun z => ne z.symm)]; exact h1, h2⟩
  · rcases set_at e1 with ⟨rfl, hl, e1⟩ | ⟨ne, e1⟩
    · cases (Option.some.inj e1)
      rw [List.getElem?_set_self (by rw [x.len]; exact hl)] at e2
      cases (Option.some.inj (Option.some.inj e2))
      exact (f b p).1
    · rw [List.getElem?_set_ne (fun z => ne z.symm)] at e2
      exact x.own k u w b e1 e2 p
  · rcases set_at e1 with ⟨rfl, hl, d1⟩ | ⟨ne, d1⟩
    · cases (Option.some.inj d1)
      rw [List.getElem?_set_self (by rw [x.len]; exact hl)] at e3
      cases (Option.some.inj (Option.some.inj e3))
      rcases set_at e2 with ⟨rfl, _, _⟩ | ⟨ne2, d2⟩
      · rfl
      · rw [List.getElem?_set_ne (fun z => ne2 z.symm)] at e4
        exact absurd p2 ((f b p1).2 k u' w' ne2 d2 e4)
    · rw [List.getElem?_set_ne (fun z => ne z.symm)] at e3
      rcases set_at e2 with ⟨rfl, hl, d2⟩ | ⟨ne2, d2⟩
      · cases (Option.some.inj d2)
        rw [List.getElem?_set_self (by rw [x.len]; exact hl)] at e4
        cases (Option.some.inj (Option.some.inj e4))
        exact absurd p1 ((f b p2).2 j u w ne d1 e3)
      · rw [List.getElem?_set_ne (fun z => ne2 z.symm)] at e4
        exact x.dj j k u u' w w' b d1 d2 e3 e4 p1 p2
theorem Iv.set0 (x : Iv K G0 H0 M ρ σ G H) {i : Nat} {t : T} {v : V} (ht : t.slot = true) (h : Vr K G H t v) (f : ∀ b, ¬ Fp H t v b) : Iv K G0 H0 M (ρ.set i (some t)) (σ.set i (some v)) G H := x.set ht h fun b p => (f b p).elim
/-- what is new is one's own -/
theorem Iv.setN {H1 : Hp} (x0 : Iv K G0 H0 M ρ σ G1 H1) (r : Gr G1 H1 G H) {i : Nat} {t : T} {v : V} (ht : t.slot = true) (hp : t.isP = false) (h : Vr K G H t v) (f : ∀ b, Fp H t v b → H1 b = none) : Iv K G0 H0 M (ρ.set i (some t)) (σ.set i (some v)) G H := (x0.mono r).set ht h fun b p =>
  ⟨by rw [hp]; exact x0.h0 (f b p), fun j u w _ e1 e2 q => (Fp.there (x0.vr e1 e2) (Fp.mono r (x0.vr e1 e2) q)).1 (f b p)⟩
/-- a slot's reading is forgotten -/
theorem Iv.drop (x : Iv K G0 H0 M ρ σ G H) (i : Nat) : Iv K G0 H0 M (ρ.set i none) σ G H := by
  refine ⟨x.gh, x.g0, x.gf, x.up, x.mh, by rw [List.length_set, x.len], kdset x.kd (fun z => nomatch z), fun k u e => ?_, fun k u w b e1 e2 p => ?_, fun j k u u' w w' b e1 e2 e3 e4 p1 p2 => ?_⟩
  · rcases set_at e with ⟨_, _, e⟩ | ⟨ne, e⟩
    · cases e
    · exact x.sl k u e
  · rcases set_at e1 with ⟨_, _, e⟩ | ⟨ne, e1⟩
    · cases e
    · exact x.own k u w b e1 e2 p
  · rcases set_at e1 with ⟨_, _, e⟩ | ⟨ne, e1⟩
    · cases e
    · rcases set_at e2 with ⟨_, _, e⟩ | ⟨ne2, e2⟩
      · cases e
      · exact x.dj j k u u' w w' b e1 e2 e3 e4 p1 p2
theorem Iv.dropB (x : Iv K G0 H0 M ρ σ G H) (i : Nat) : Iv K G0 H0 M (ρ.set i none) (σ.set i none) G H := by
  refine ⟨x.gh, x.g0, x.gf, x.up, x.mh, by rw [List.length_set, List.length_set, x.len], kdset x.kd (fun z => nomatch z), fun k u e => ?_, fun k u w b e1 e2 p => ?_, fun j k u u' w w' b e1 e2 e3 e4 p1 p2 => ?_⟩
  · rcases set_at e with ⟨_, _, e⟩ | ⟨ne, e⟩
    · cases e
    · rw [List.getElem?_set_ne (fun z => ne z.symm)]
      exact x.sl k u e
  · rcases set_at e1 with ⟨_, _, e⟩ | ⟨ne, e1⟩
    · cases e
    · rw [List.getElem?_set_ne (fun z => ne z.symm)] at e2
      exact x.own k u w b e1 e2 p
  · rcases set_at e1 with ⟨_, _, e⟩ | ⟨ne, e1⟩
    · cases e
    · rcases set_at e2 with ⟨_, _, e⟩ | ⟨ne2, e2⟩
      · cases e
      · rw [List.getElem?_set_ne (fun z => ne z.symm)] at e3
        rw [List.getElem?_set_ne (fun z => ne2 z.symm)] at e4
        exact x.dj j k u u' w w' b e1 e2 e3 e4 p1 p2
def wipeE (ρ : Env) : List Nat → Env
  | [] => ρ
  | v :: vs => (wipeE ρ vs).set v none
theorem Iv.wipe (x : Iv K G0 H0 M ρ σ G H) : ∀ vs : List Nat, Iv K G0 H0 M (wipeE ρ vs) (L2.wipe σ vs) G H
  | [] => x
  | v :: vs => (Iv.wipe x vs).dropB v
theorem Iv.rebase (x : Iv K G0 H0 M ρ σ G H) : Iv K G H0 M ρ σ G H := ⟨x.gh, Same.refl _, fun a h => .inl h, x.up, x.mh, x.len, x.kd, x.sl, x.own, x.dj⟩
theorem Iv.back {ρ' : Env} {σ' : L2.St} {H1 : Hp} (x0 : Iv K G0 H0 M ρ σ G1 H1) (x : Iv K G1 H0 M ρ' σ' G H) : Iv K G0 H0 M ρ' σ' G H := ⟨x.gh, x0.g0.trans x.g0, fun a h => (x.gf a h).elim (fun z => x0.gf a z) .inr, x.up, x.mh, x.len, x.kd, x.sl, x.own, x.dj⟩
end
/-! ### targets -/
def Own (ρ : Env) (σ : L2.St) (H : Hp) (b : Addr) : Prop := ∃ (j : Nat) (u : T) (w : V), ρ[j]? = some (some u) ∧ σ[j]? = some (some w) ∧ Fp H u w b
def LG (K : PySem.W.Frag) (g : TG) (js : List Nat) (dg : PyData → Env → (Env → Prop) → Prop) : Prop := ∀ {G0 H0 : Hp} {M : Addr → Prop} {ρ : Env} {σ : L2.St} {G H : Hp} {t : PyData} {v : V} {QD : Env → Prop} {Q : L2.St → Hp → Prop}, Iv K G0 H0 M ρ σ G H → Dp K G v t → dg t ρ QD →
  (∀ ρ' σ', QD ρ' → Iv K G0 H0 M ρ' σ' G H → (∀ vs, (∀ j ∈ js, j ∈ vs) → wipe σ' vs = wipe σ vs) → (∀ b, Own ρ' σ' H b → Own ρ σ H b) → Q σ' H) → g v σ H Q
def LGs (K : PySem.W.Frag) (g : TGs) (js : List Nat) (dg : List PyData → Env → (Env → Prop) → Prop) : Prop := ∀ {G0 H0 : Hp} {M : Addr → Prop} {ρ : Env} {σ : L2.St} {G H : Hp} {ts : List PyData} {vs : List V} {QD : Env → Prop} {Q : L2.St → Hp → Prop}, Iv K G0 H0 M ρ σ G H → DpAll K G vs ts → dg ts ρ QD →
  (∀ ρ' σ', QD ρ' → Iv K G0 H0 M ρ' σ' G H → (∀ ws, (∀ j ∈ js, j ∈ ws) → wipe σ' ws = wipe σ ws) → (∀ b, Own ρ' σ' H b → Own ρ σ H b) → Q σ' H) → g vs σ H Q
def dName (i : Nat) : PyData → Env → (Env → Prop) → Prop := fun t ρ Q => Q (ρ.set i (some (.g t)))
def dGNil : List PyData → Env → (Env → Prop) → Prop := fun ts ρ Q => ts = [] ∧ Q ρ
def dGCons (dg : PyData → Env → (Env → Prop) → Prop) (dgs : List PyData → Env → (Env → Prop) → Prop) : List PyData → Env → (Env → Prop) → Prop := fun ts ρ Q => ∃ t r, ts = t :: r ∧ dg t ρ fun ρ' => dgs r ρ' Q
def dGTup (n : Nat) (dgs : List PyData → Env → (Env → Prop) → Prop) : PyData → Env → (Env → Prop) → Prop := fun t ρ Q => ∃ ds, t = .tuple ds ∧ ds.length = n ∧ dgs ds ρ Q
theorem wipe_set {σ : L2.St} {i : Nat} {x : Option V} : ∀ {vs : List Nat}, i ∈ vs → wipe (σ.set i x) vs = wipe σ vs
  | [], h => by cases h
  | v :: vs, h => by
    show (wipe (σ.set i x) vs).set v none = (wipe σ vs).set v none
    by_cases e : i ∈ vs
    · rw [wipe_set e]
    · have ev : i = v := by
        rcases List.mem_cons.mp h with z | z
        · exact z
        · exact absurd z e
      subst ev
      apply List.ext_getElem?
      intro k
      by_cases ek : k = i
      · subst ek
        by_cases hl : k < (wipe σ vs).length
        · rw [List.getElem?_set_self hl, List.getElem?_set_self (by rw [wipe_length, List.length_set]; rw [wipe_length] at hl; exact hl)]
        · rw [List.getElem?_eq_none (by rw [List.length_set, wipe_length, List.length_set]; rw [wipe_length] at hl; omega), List.getElem?_eq_none (by rw [List.length_set, wipe_length]; rw [wipe_length] at hl; omega)]
      · rw [List.getElem?_set_ne (fun z => ek z.symm), List.getElem?_set_ne (fun z => ek z.symm)]
        by_cases m : k ∈ vs
        · have w1 : ∀ {τ : L2.St} {vs : List Nat}, k ∈ vs → k < τ.length → (wipe τ vs)[k]? = some none := by
            intro τ vs
            induction vs with
            | nil => intro h; cases h
            | cons u us ih =>
              intro h hl
              show ((wipe τ us).set u none)[k]? = _
              by_cases eu : k = u
              · subst eu
                exact List.getElem?_set_self (by rw [wipe_length]; exact hl)
              · rw [List.getElem?_set_ne (fun z => eu z.symm)]
                rcases List.mem_cons.mp h with z | z
                · exact absurd z eu
                · exact ih z hl
          by_cases hl : k < σ.length
          · rw [w1 m hl, w1 m (by rw [List.length_set]; exact hl)]
          · rw [List.getElem?_eq_none (by rw [wipe_length, List.length_set]; omega), List.getElem?_eq_none (by rw [wipe_length]; omega)]
        · rw [wipe_out m, wipe_out m, List.getElem?_set_ne (fun z => ek z.symm)]
section
variable {K : PySem.W.Frag} {ta tb tc te : TE} {da db dc de : Env → (T → Prop) → Prop} {tt tu : TT} {dt du : Env → (Bool → Prop) → Prop} {al : TA} {dl : Env → (List T → Prop) → Prop}
theorem lg_name {i : Nat} : LG K (gName i) [i] (dName i) := fun x h q k => k _ _ q (x.set0 (t := .g _) rfl h fun _ f => f.elim) (fun vs hj => wipe_set (hj i (by simp))) fun b ⟨j, u, w, e1, e2, f⟩ => by
  rcases set_at e1 with ⟨_, _, z⟩ | ⟨ne, e1⟩
  · cases (Option.some.inj z)
    exact f.elim
  · rw [List.getElem?_set_ne (fun z => ne z.symm)] at e2
    exact ⟨j, u, w, e1, e2, f⟩
theorem lgs_nil : LGs K gNil [] dGNil := fun {G0 H0 M ρ σ G H ts vs QD Q} x d ⟨e, q⟩ k => by
  cases d with
  | nil => exact ⟨rfl, k _ _ q x (fun _ _ => rfl) fun _ h => h⟩
  | cons _ _ => cases e
theorem lgs_cons {g : TG} {gs : TGs} {js ks : List Nat} {dg : PyData → Env → (Env → Prop) → Prop} {dgs : List PyData → Env → (Env → Prop) → Prop} (h1 : LG K g js dg) (h2 : LGs K gs ks dgs) : LGs K (gCons g gs) (js ++ ks) (dGCons dg dgs) := fun {G0 H0 M ρ σ G H ts vs QD Q} x d ⟨t, r, e, q⟩ k => by
  cases d with
  | nil => cases e
  | @cons v vs d0 ds a b =>
    obtain ⟨e1, e2⟩ := List.cons.inj e
    subst e1
    subst e2
    refine ⟨v, vs, rfl, h1 x a q fun ρ1 σ1 q1 x1 w1 o1 => h2 x1 b q1 fun ρ2 σ2 q2 x2 w2 o2 => k ρ2 σ2 q2 x2 (fun ws hj => ?_) fun c h => o1 c (o2 c h)⟩
    rw [w2 ws fun j hm => hj j (List.mem_append_right _ hm), w1 ws fun j hm => hj j (List.mem_append_left _ hm)]
theorem lg_tup {n : Nat} {gs : TGs} {js : List Nat} {dgs : List PyData → Env → (Env → Prop) → Prop} (h : LGs K gs js dgs) : LG K (gTup K n gs) js (dGTup n dgs) := fun {G0 H0 M ρ σ G H t v QD Q} x a ⟨ds, e, z, q⟩ k => by
  subst e
  obtain ⟨l, xs, rfl, h1, h2⟩ := dp_tup a
  exact ⟨l, xs, rfl, same_seqT x.gh h1, by rw [dpAll_len h2]; exact z, h x h2 q k⟩
/-! ### iterators -/
def ItAt (K : PySem.W.Frag) (J : It) (items : List PyData) (G' H' : Hp) : Prop := ∀ i, (i < items.length → J.go i H' ∧ ∀ x H'', J.yld i H' x H'' → ∃ G'' d, Gr G' H' G'' H'' ∧ items[i]? = some d ∧ Dp K G'' x d) ∧ (items.length ≤ i → J.stop i H')
def ItG (K : PySem.W.Frag) (J : It) (G : Hp) (items : List PyData) : Prop := ∀ G' H', Same G G' → Same G' H' → ItAt K J items G' H'
def ItH (K : PySem.W.Frag) (J : It) (G H : Hp) (items : List PyData) : Prop := ∀ G' H', Same G G' → Same H H' → Same G' H' → ItAt K J items G' H'
def LI (K : PySem.W.Frag) (wi : TI) (di : Env → (Bool → List PyData → Prop) → Prop) : Prop := ∀ {G0 H0 : Hp} {M : Addr → Prop} {ρ : Env} {σ : L2.St} {G H : Hp} {QD : Bool → List PyData → Prop} {R : It → Hp → Prop}, Iv K G0 H0 M ρ σ G H → di ρ QD →
  (∀ st items J G' H', QD st items → Gr G H G' H' → (st = true → ItG K J G' items) → ItH K J G' H' items → R J H') → wi σ H R
theorem ItG.h {J : It} {G H : Hp} {items : List PyData} (x : ItG K J G items) : ItH K J G H items := fun G' H' a _ c => x G' H' a c
theorem dpAll_geti {H : Hp} {xs : List V} {ds : List PyData} (d : DpAll K H xs ds) {i : Nat} {x : V} (e : xs[i]? = some x) : ∃ y, ds[i]? = some y ∧ Dp K H x y := by
  have hl := dpAll_len d
  have hi := lt_of_at e
  obtain ⟨y, h1, h2⟩ := dpAll_get d (List.getElem?_eq_getElem (show i < ds.length by omega))
  rw [e] at h1
  cases (Option.some.inj h1)
  exact ⟨_, List.getElem?_eq_getElem (show i < ds.length by omega), h2⟩
theorem itl_at {a : Addr} {xs : List V} {ds : List PyData} {G' H' : Hp} (s : Same G' H') (h : SqL K H' a xs) (d : DpAll K G' xs ds) : ItAt K (Itl K a) ds G' H' := fun i => by
  have hl := dpAll_len d
  refine ⟨fun hi => ⟨⟨xs, xs[i], h, by simp [hl, hi]⟩, fun x H'' y => ?_⟩, fun hi => ⟨xs, h, by omega⟩⟩
  obtain ⟨rfl, y⟩ := y
  obtain ⟨d0, e1, e2⟩ := dpAll_geti d (y xs h)
  exact ⟨G', d0, .refl s, e1, e2⟩
theorem itt_at {a : Addr} {xs : List V} {ds : List PyData} {G' H' : Hp} (s : Same G' H') (h : SqT K H' a xs) (d : DpAll K G' xs ds) : ItAt K (Itt K a) ds G' H' := fun i => by
  have hl := dpAll_len d
  refine ⟨fun hi => ⟨⟨xs, xs[i], h, by simp [hl, hi]⟩, fun x H'' y => ?_⟩, fun hi => ⟨xs, h, by omega⟩⟩
  obtain ⟨rfl, y⟩ := y
  obtain ⟨d0, e1, e2⟩ := dpAll_geti d (y xs h)
  exact ⟨G', d0, .refl s, e1, e2⟩
@[reducible] def T.stb : T → Bool
  | .g _ => true | .l _ => true | _ => false
def dIList (da : Env → (T → Prop) → Prop) : Env → (Bool → List PyData → Prop) → Prop := fun ρ Q => da ρ fun t => ∃ ds, t.elL = some ds ∧ Q t.stb ds
theorem li_list (ha : LP K ta da) : LI K (iList K ta) (dIList da) := fun {G0 H0 M ρ σ G H QD R} x q k => ha x q fun t v G1 H1 ⟨ds, e, qt⟩ r1 v1 f1 => by
  cases hs : t.stb with
  | false =>
    rw [hs] at qt
    obtain ⟨a, xs, rfl, h1, h2⟩ := elL_of r1.s v1 e
    exact ⟨a, rfl, ⟨xs, h1⟩, k false ds _ G1 H1 qt r1 (fun z => Bool.noConfusion z) fun G' H' g h s => itl_at s (h.seq h1) (dpAll_same g h2)⟩
  | true =>
    rw [hs] at qt
    obtain ⟨G2, r2, g2, v2⟩ := fz_post r1 v1 f1
    have e2 : t.fz = .g (.list ds) := by
      cases t with
      | g y =>
        cases y with
        | list ys =>
          cases (Option.some.inj e)
          rfl
        | _ => simp [T.elL] at e
      | l ys =>
        cases (Option.some.inj e)
        rfl
      | b _ => exact Bool.noConfusion hs
      | h _ => exact Bool.noConfusion hs
      | p _ => exact Bool.noConfusion hs
      | ll _ => exact Bool.noConfusion hs
      | tt _ => exact Bool.noConfusion hs
      | ob _ _ => simp [T.elL] at e
      | u => simp [T.elL] at e
    rw [e2] at v2
    obtain ⟨a, xs, rfl, h1, h2⟩ := dp_lst (show Dp K G2 v (.list ds) from v2)
    have ig : ItG K (Itl K a) G2 ds := fun G' H' g s => itl_at s (s.seq (g.seq h1)) (dpAll_same g h2)
    exact ⟨a, rfl, ⟨xs, r2.s.seq h1⟩, k true ds _ G2 H1 qt r2 (fun _ => ig) ig.h⟩
def dITup (da : Env → (T → Prop) → Prop) : Env → (Bool → List PyData → Prop) → Prop := fun ρ Q => da ρ fun t => ∃ ds, t.elT = some ds ∧ Q true ds
theorem li_tup (ha : LP K ta da) : LI K (iTup K ta) (dITup da) := fun {G0 H0 M ρ σ G H QD R} x q k => ha x q fun t v G1 H1 ⟨ds, e, qt⟩ r1 v1 f1 => by
  obtain ⟨a, xs, rfl, g1, h1, h2⟩ := elT_of r1.s v1 e
  have ig : ItG K (Itt K a) G1 ds := fun G' H' g s => itt_at s (same_seqT s (same_seqT g g1)) (dpAll_same g h2)
  exact ⟨a, rfl, ⟨xs, h1⟩, k true ds _ G1 H1 qt r1 (fun _ => ig) ig.h⟩
def rgD (lo : Int) (n : Nat) : List PyData := (List.range n).map fun k => PyData.int (lo + (k : Nat))
theorem itr_at {lo : Int} {n : Nat} {G' H' : Hp} (s : Same G' H') : ItAt K (Itr lo n) (rgD lo n) G' H' := fun i => by
  have hl : (rgD lo n).length = n := by simp [rgD]
  rw [hl]
  refine ⟨fun hi => ⟨hi, fun x H'' y => ?_⟩, fun hi => hi⟩
  obtain ⟨rfl, rfl⟩ := y
  refine ⟨G', .int (lo + (i : Nat)), .refl s, ?_, .int _⟩
  simp [rgD, hi]
def dIRg1 (dl : Env → (List T → Prop) → Prop) : Env → (Bool → List PyData → Prop) → Prop := fun ρ Q => dl ρ fun ts => ∃ t j, ts = [t] ∧ t.rd = .int j ∧ -(2 ^ 62) ≤ j ∧ j < 2 ^ 62 ∧ Q true (rgD 0 j.toNat)
def dIRg2 (dl : Env → (List T → Prop) → Prop) : Env → (Bool → List PyData → Prop) → Prop := fun ρ Q => dl ρ fun ts => ∃ t u i j, ts = [t, u] ∧ t.rd = .int i ∧ u.rd = .int j ∧ (-(2 ^ 62) ≤ i ∧ i < 2 ^ 62 ∧ -(2 ^ 62) ≤ j ∧ j < 2 ^ 62) ∧ Q true (rgD i (j - i).toNat)
theorem li_rg1 (h : LA K al dl) : LI K (iRng1 al) (dIRg1 dl) := fun {G0 H0 M ρ σ G H QD R} x q k => h x q fun ts vs G1 H1 ⟨t, j, e, e2, b1, b2, qt⟩ r1 v1 => by
  subst e
  obtain ⟨v, rfl, a⟩ := vrA1 v1
  have ig : ItG K (Itr 0 j.toNat) G1 (rgD 0 j.toNat) := fun G' H' g s => itr_at s
  exact ⟨j, by rw [vr_int r1.s a e2], b1, b2, k true _ _ G1 H1 qt r1 (fun _ => ig) ig.h⟩
theorem li_rg2 (h : LA K al dl) : LI K (iRng2 al) (dIRg2 dl) := fun {G0 H0 M ρ σ G H QD R} x q k => h x q fun ts vs G1 H1 ⟨t, u, i, j, e, e2, e3, b, qt⟩ r1 v1 => by
  subst e
  obtain ⟨v, w, rfl, a1, a2⟩ := vrA2 v1
  have ig : ItG K (Itr i (j - i).toNat) G1 (rgD i (j - i).toNat) := fun G' H' g s => itr_at s
  exact ⟨i, j, by rw [vr_int r1.s a1 e2, vr_int r1.s a2 e3], b, k true _ _ G1 H1 qt r1 (fun _ => ig) ig.h⟩
def enD (ds : List PyData) : List PyData := ds.zipIdx.map fun p => PyData.tuple [.int (p.2 : Nat), p.1]
theorem ite_at {a : Addr} {xs : List V} {ds : List PyData} {G' H' : Hp} (s : Same G' H') (h : SqL K H' a xs) (d : DpAll K G' xs ds) : ItAt K (Ite K a) (enD ds) G' H' := fun i => by
  have hl := dpAll_len d
  have hz : (enD ds).length = ds.length := by simp [enD]
  rw [hz]
  refine ⟨fun hi => ⟨⟨xs, xs[i], h, by simp [hl, hi]⟩, fun x H'' y => ?_⟩, fun hi => ⟨xs, h, by omega⟩⟩
  obtain ⟨T', y, rfl, nT, rfl, hy⟩ := y
  obtain ⟨d0, e1, e2⟩ := dpAll_geti d (hy xs h)
  refine ⟨upd G' T' (.tup [.int (i : Nat), y]), .tuple [.int (i : Nat), d0], .newG s nT, ?_, .tup (tup_of upd_same) (.cons (.int _) (.cons (dp_same (same_new (s.free nT)) e2) .nil))⟩
  simp [enD, e1]
def dIEnum (dl : Env → (List T → Prop) → Prop) : Env → (Bool → List PyData → Prop) → Prop := fun ρ Q => dl ρ fun ts => ∃ t ds, ts = [t] ∧ t.elL = some ds ∧ Q t.stb (enD ds)
theorem li_enum (h : LA K al dl) : LI K (iEnum K al) (dIEnum dl) := fun {G0 H0 M ρ σ G H QD R} x q k => h x q fun ts vs G1 H1 ⟨t, ds, e, e2, qt⟩ r1 v1 => by
  subst e
  match vs, v1 with
  | [v], ⟨a, nf, _⟩ =>
    cases t with
    | g y =>
      cases y with
      | list ys =>
        cases (Option.some.inj e2)
        obtain ⟨l, xs, rfl, h1, h2⟩ := dp_lst (show Dp K G1 v (.list _) from a)
        have ig : ItG K (Ite K l) G1 _ := fun G' H' g s => ite_at s (s.seq (g.seq h1)) (dpAll_same g h2)
        exact ⟨l, xs, rfl, r1.s.seq h1, k true _ _ G1 H1 qt r1 (fun _ => ig) ig.h⟩
      | _ => simp [T.elL] at e2
    | l ys =>
      obtain ⟨l, ws, rfl, _⟩ := a
      exact absurd rfl (nf H1 l)
    | b ys =>
      obtain ⟨l, xs, rfl, h1, h2⟩ := elL_of r1.s a e2
      exact ⟨l, xs, rfl, h1, k false _ _ G1 H1 qt r1 (fun z => Bool.noConfusion z) fun G' H' g h s => ite_at s (h.seq h1) (dpAll_same g h2)⟩
    | p ys =>
      obtain ⟨l, ws, rfl, _⟩ := a
      exact absurd rfl (nf H1 l)
    | h _ => simp [T.elL] at e2
    | ll _ => simp [T.elL] at e2
    | tt _ => simp [T.elL] at e2
    | ob _ _ => simp [T.elL] at e2
    | u => simp [T.elL] at e2
/-! ### comprehensions -/
def dLc (di : Env → (Bool → List PyData → Prop) → Prop) (dg : PyData → Env → (Env → Prop) → Prop) (dt : Env → (Bool → Prop) → Prop) (de : Env → (T → Prop) → Prop) (vs : List Nat) : Env → (T → Prop) → Prop := fun ρ Q => di ρ fun _ items =>
  items.length ≤ 1000000 ∧ ∃ f : PyData → Option PyData, (∀ (i : Nat) (x : PyData), items[i]? = some x → dg x (wipeE ρ vs) fun ρ2 => dt ρ2 fun c => if c = true then de ρ2 fun t => ∃ y, t.fz = .g y ∧ f x = some y else f x = none) ∧ Q (.l (items.filterMap f))
theorem fm_take {items : List PyData} {f : PyData → Option PyData} {i : Nat} {x : PyData} (e : items[i]? = some x) : (items.take (i + 1)).filterMap f = (items.take i).filterMap f ++ (f x).toList := by
  rw [List.take_add_one, e, List.filterMap_append]
  cases h : f x with
  | none => simp [h]
  | some y => simp [h]
theorem lp_lc {wi : TI} {g : TG} {js : List Nat} {vs : List Nat} {di : Env → (Bool → List PyData → Prop) → Prop} {dg : PyData → Env → (Env → Prop) → Prop} (hi : LI K wi di) (hg : LG K g js dg) (ht : LT K tt dt) (he : LP K te de) (hj : js.all (vs.contains ·) = true) : LP K (tLc wi g tt te vs) (dLc di dg dt de vs) := fun {G0 H0 M ρ σ G H QD Q} x q p => hi x q fun st items J G1 H1 ⟨hlen, f, hf, qf⟩ r1 _ ih => by
  have hj' : ∀ j ∈ js, j ∈ vs := fun j m => by
    have := List.all_eq_true.mp hj j m
    simpa using this
  intro D hD
  refine ⟨fun i m H' => m = items.length - i ∧ i ≤ items.length ∧ ∃ G' acc, Gr G1 H1 G' H' ∧ G' D = none ∧ H' D = some (.lst acc) ∧ DpAll K G' acc ((items.take i).filterMap f), ⟨items.length, by simp, Nat.zero_le _, G1, [], .new r1.s hD, r1.s.free hD, upd_same, .nil⟩, ?_⟩
  rintro i m H2 ⟨rfl, hile, G2, acc, r2, gD, eD, dA⟩
  by_cases hlt : i < items.length
  · obtain ⟨go, yl⟩ := (ih G2 H2 r2.g r2.h r2.s i).1 hlt
    refine .inr ⟨go, fun H' => i + 1 ≤ items.length ∧ ∃ G' acc, Gr G1 H1 G' H' ∧ G' D = none ∧ H' D = some (.lst acc) ∧ DpAll K G' acc ((items.take (i + 1)).filterMap f), fun H' ⟨a, b⟩ => ⟨items.length - (i + 1), by omega, rfl, a, b⟩, fun y H3 hy => ?_⟩
    obtain ⟨G3, d, r3, ed, dy⟩ := yl y H3 hy
    have x3 : Iv K G0 H0 M (wipeE ρ vs) (L2.wipe σ vs) G3 H3 := ((x.mono r1).mono (r2.trans r3)).wipe vs
    refine hg x3 dy (hf i d ed) fun ρ4 σ4 q4 x4 w4 _ => ?_
    have w5 : wipe σ4 vs = wipe σ vs := by
      rw [w4 vs hj']
      have : ∀ (us : List Nat), (∀ u ∈ us, u ∈ vs) → wipe (wipe σ us) vs = wipe σ vs := by
        intro us
        induction us with
        | nil => intro _; rfl
        | cons u us ihu =>
          intro hu
          show wipe ((wipe σ us).set u none) vs = _
          rw [wipe_set (hu u (by simp)), ihu fun v hv => hu v (List.mem_cons_of_mem _ hv)]
      exact this vs fun _ h => h
    refine ⟨w5, ht x4 q4 fun c G5 H5 qc r5 => ?_⟩
    have r15 := r2.trans (r3.trans r5)
    have hD3 : H3 D = some (.lst acc) := r3.h _ _ eD
    have gD5 : G5 D = none := r5.n D (nn_of hD3) (r3.n D (nn_of eD) gD)
    have eD5 : H5 D = some (.lst acc) := r5.h _ _ hD3
    have dA5 := dpAll_same (r3.g.trans r5.g) dA
    cases c with
    | false =>
      have hn : f d = none := qc
      refine ⟨hlt, G5, acc, r15, gD5, eD5, ?_⟩
      rw [fm_take ed, hn]
      show DpAll K G5 acc (_ ++ [])
      rw [List.append_nil]
      exact dA5
    | true =>
      refine he (x4.mono r5) qc fun t v G6 H6 ⟨z, ez, fz⟩ r6 v6 f6 => ?_
      obtain ⟨G7, r7, g7, v7⟩ := fz_post r6 v6 f6
      rw [ez] at v7
      have eD6 : H6 D = some (.lst acc) := r7.h _ _ eD5
      have gD7 : G7 D = none := r7.n D (nn_of eD5) gD5
      have r17 := r15.trans r7
      refine ⟨acc, eD6, r_smalll ?_, hlt, G7, acc ++ [v], ⟨r17.g, same_mut r17.h hD, fun a u e => ?_, r17.n⟩, gD7, upd_same, ?_⟩
      · have h1 := dpAll_len dA
        have h2 := List.length_filterMap_le f (items.take i)
        rw [List.length_take] at h2
        omega
      · rw [upd_ne (ne_of_none e gD7)]
        exact r17.s _ _ e
      · rw [fm_take ed, fz]
        exact dpAll_app (dpAll_same r7.g dA5) (.cons v7 .nil)
  · have e : i = items.length := by omega
    subst e
    refine .inl ⟨(ih G2 H2 r2.g r2.h r2.s _).2 (Nat.le_refl _), ?_⟩
    rw [List.take_length] at dA
    refine p (.l (items.filterMap f)) _ G2 H2 qf (r1.trans r2) ⟨D, acc, rfl, eD, gD, dA⟩ fun b fb => ?_
    cases (fb : V.ref D = V.ref b)
    exact r1.h.free hD
end
end Dv

set_option Elab.async false
set_option linter.all false
set_option maxRecDepth 100000
set_option maxHeartbeats 4000000
namespace Dv
open PySem PySem.Spec PyProof.Rows L2 Px
/-- what is wished where an own error leaves: of heaps, and over data -/
structure XP where
  k : Addr → Hp → Prop
  p : Addr → Prop
def xp0 : XP := ⟨fun _ _ => True, fun _ => False⟩
structure DE where
  nx : Env → Prop
  rt : T → Env → Prop
  bk : Env → Prop
  ct : Env → Prop
  ex : XP
structure EndsOk (K : PySem.W.Frag) (G0 H0 : Hp) (M : Addr → Prop) (DD : DE) (D : Ends) : Prop where
  nx : ∀ ρ σ G H, Iv K G0 H0 M ρ σ G H → DD.nx ρ → D.nx σ H
  bk : ∀ ρ σ G H, Iv K G0 H0 M ρ σ G H → DD.bk ρ → D.bk σ H
  ct : ∀ ρ σ G H, Iv K G0 H0 M ρ σ G H → DD.ct ρ → D.ct σ H
  rt : ∀ ρ σ G H t v, Iv K G0 H0 M ρ σ G H → Vr K G H t v → (∀ b, Fp H t v b → H0 b = none) → DD.rt t ρ → D.rt v H
  ex : ∀ C ρ σ G H, Iv K G0 H0 M ρ σ G H → DD.ex.p C → DD.ex.k C H
abbrev DS := DE → Env → Prop
def LS (K : PySem.W.Frag) (ts : TS) (ds : DS) : Prop := ∀ {G0 H0 : Hp} {M : Addr → Prop} {DD : DE} {D : Ends} {ρ : Env} {σ : L2.St} {G H : Hp}, EndsOk K G0 H0 M DD D → Iv K G0 H0 M ρ σ G H → ds DD ρ → ts D σ H
/-- some slots frozen, or forgotten -/
inductive Fz : Env → Env → Prop
  | refl (ρ : Env) : Fz ρ ρ
  | fz {ρ ρ' : Env} (i : Nat) (t : T) : ρ[i]? = some (some t) → t.nfz = false → Fz (ρ.set i (some t.fz)) ρ' → Fz ρ ρ'
  | drop {ρ ρ' : Env} (i : Nat) : Fz (ρ.set i none) ρ' → Fz ρ ρ'
section
variable {K : PySem.W.Frag} {G0 H0 G H G' H' G1 : Hp} {M : Addr → Prop} {ρ ρ' : Env} {σ : L2.St}
theorem nfz_p {t : T} (h : t.nfz = false) : t.isP = false := by
  cases t <;> first | rfl | exact Bool.noConfusion h
theorem fz_nfz {t : T} {d : PyData} (hp : t.isP = false) (h : t.fz = .g d) : t.nfz = false := by
  cases t <;> first | rfl | exact Bool.noConfusion hp | cases h
theorem slot_fz {t : T} (h : t.slot = true) (hp : t.nfz = false) : t.fz.slot = true := by
  cases t <;> first | rfl | exact Bool.noConfusion h | exact Bool.noConfusion hp
theorem Iv.fz1 (x : Iv K G0 H0 M ρ σ G H) {i : Nat} {t : T} (e : ρ[i]? = some (some t)) (hn : t.nfz = false) : ∃ G', Iv K G0 H0 M (ρ.set i (some t.fz)) σ G' H := by
  have hp := nfz_p hn
  obtain ⟨v, e2, h⟩ := x.sl i t e
  obtain ⟨G', g1, g2, g3, g4⟩ := Vr.fz x.gh h
  have hi : i < ρ.length := lt_of_at e
  have keep : ∀ {k : Nat} {u : T} {w : V}, k ≠ i → ρ[k]? = some (some u) → σ[k]? = some (some w) → Vr K G' H u w := fun {k u w} ne e1 e3 => by
    have vr := x.vr e1 e3
    have gn : ∀ b, Fp H u w b → G' b = none := fun b f => by
      cases q : G' b with
      | none => rfl
      | some o =>
        rcases g3 b (nn_of q) with z | z
        · exact absurd (Fp.there vr f).2 z
        · exact absurd (x.dj k i u t w v b e1 e e3 e2 f z) ne
    cases u with
    | ob o r => exact o.loc vr (fun _ _ => rfl) g1 fun b f => gn b f
    | u => exact True.intro
    | g y => exact dp_same g1 vr
    | b ds =>
      obtain ⟨a, vs, r, h1, h2⟩ := vr
      exact ⟨a, vs, r, h1, dpAll_same g1 h2⟩
    | h y => exact vr
    | l ds =>
      obtain ⟨a, vs, rfl, h1, h2, h3⟩ := vr
      exact ⟨a, vs, rfl, h1, gn a rfl, dpAll_same g1 h3⟩
    | p ds =>
      obtain ⟨a, vs, rfl, h1, h2, h3⟩ := vr
      exact ⟨a, vs, rfl, h1, gn a rfl, dpAll_same g1 h3⟩
    | ll dss =>
      obtain ⟨a, as, rfl, h1, h2, h3, h4⟩ := vr
      refine ⟨a, as, rfl, h1, gn a ⟨a, as, rfl, h1, .inl rfl⟩, h3, ?_⟩
      have gas : ∀ b ∈ as, G' b = none := fun b hb => gn b ⟨a, as, rfl, h1, .inr hb⟩
      clear gn h1 h3 e1 e3
      induction as generalizing dss with
      | nil => cases dss with
        | nil => exact True.intro
        | cons _ _ => exact h4.elim
      | cons b bs ih => cases dss with
        | nil => exact h4.elim
        | cons d r =>
          obtain ⟨⟨ws, p1, p2, p3⟩, q⟩ := h4
          exact ⟨⟨ws, p1, gas b (by simp), dpAll_same g1 p3⟩, ih r q fun c hc => gas c (List.mem_cons_of_mem _ hc)⟩
    | tt us =>
      obtain ⟨a, vs, as, rfl, h1, h2, h3, h4, h5, h6⟩ := vr
      exact ⟨a, vs, as, rfl, h1, gn a ⟨a, vs, as, rfl, h1, h4, .inl rfl⟩, h3, h4, h5.mono g1, rows_gset g1 (fun b hb => gn b ⟨a, vs, as, rfl, h1, h4, .inr hb⟩) h6⟩
  refine ⟨G', g2, x.g0.trans g1, fun a ga => ?_, x.up, x.mh, by rw [List.length_set, x.len], kdset x.kd (fun z => (Option.some.inj z) ▸ slot_fz (x.kd _ _ e) hn), fun k u e1 => ?_, fun k u w b e1 e3 p => ?_, fun j k u u' w w' b e1 e3 e4 e5 p1 p2 => ?_⟩
  · rcases g3 a ga with z | z
    · exact x.gf a z
    · have m := x.own i t v a e e2 z
      rw [hp] at m
      exact .inr m
  · rcases set_at e1 with ⟨rfl, _, d1⟩ | ⟨ne, d1⟩
    · cases (Option.some.inj d1)
      exact ⟨v, e2, g4⟩
    · obtain ⟨w, h1, _⟩ := x.sl k u d1
      exact ⟨w, h1, keep ne d1 h1⟩
  · rcases set_at e1 with ⟨rfl, _, d1⟩ | ⟨ne, d1⟩
    · cases (Option.some.inj d1)
      exact absurd p (nofz b)
    · exact x.own k u w b d1 e3 p
  · rcases set_at e1 with ⟨rfl, _, d1⟩ | ⟨ne, d1⟩
    · cases (Option.some.inj d1)
      exact absurd p1 (nofz b)
    · rcases set_at e3 with ⟨rfl, _, d2⟩ | ⟨ne2, d2⟩
      · cases (Option.some.inj d2)
        exact absurd p2 (nofz b)
      · exact x.dj j k u u' w w' b d1 d2 e4 e5 p1 p2
end
end Dv

set_option Elab.async false
set_option linter.all false
set_option maxRecDepth 100000
set_option maxHeartbeats 4000000
namespace Dv
open PySem PySem.Spec PyProof.Rows L2 Px
section
variable {K : PySem.W.Frag} {ta tb tc te : TE} {da db dc de : Env → (T → Prop) → Prop} {tt tu : TT} {dt du : Env → (Bool → Prop) → Prop} {al : TA} {dl : Env → (List T → Prop) → Prop} {s1 s2 : TS} {d1 d2 : DS}
theorem Iv.fzs {G0 H0 H : Hp} {M : Addr → Prop} {σ : L2.St} {ρ ρ' : Env} (f : Fz ρ ρ') : ∀ {G : Hp}, Iv K G0 H0 M ρ σ G H → ∃ G', Iv K G0 H0 M ρ' σ G' H := by
  induction f with
  | refl ρ => exact fun x => ⟨_, x⟩
  | fz i t e hp _ ih =>
    intro G x
    obtain ⟨G', x'⟩ := x.fz1 e hp
    exact ih x'
  | drop i _ ih => exact fun x => ih (x.drop i)
def dSeq (d1 d2 : DS) : DS := fun DD ρ => d1 ⟨fun ρ' => ∃ ρ'', Fz ρ' ρ'' ∧ d2 DD ρ'', DD.rt, DD.bk, DD.ct, DD.ex⟩ ρ
theorem ls_seq (h1 : LS K s1 d1) (h2 : LS K s2 d2) : LS K (tSeq s1 s2) (dSeq d1 d2) := fun {G0 H0 M DD D ρ σ G H} E x q =>
  h1 (DD := ⟨fun ρ' => ∃ ρ'', Fz ρ' ρ'' ∧ d2 DD ρ'', DD.rt, DD.bk, DD.ct, DD.ex⟩) (D := { D with nx := s2 D }) ⟨fun ρ1 σ1 G1 H1 y ⟨ρ', f, q'⟩ => by
    obtain ⟨G', y'⟩ := Iv.fzs (H0 := H0) (G := G1) f y
    exact h2 E y' q', E.bk, E.ct, E.rt, E.ex⟩ x q
def dCut (d1 d2 : DS) : DS := fun DD ρ => ∃ Mid : Env → Prop, d1 ⟨Mid, DD.rt, DD.bk, DD.ct, DD.ex⟩ ρ ∧ ∀ ρ', Mid ρ' → ∃ ρ'', Fz ρ' ρ'' ∧ d2 DD ρ''
theorem ls_cut (h1 : LS K s1 d1) (h2 : LS K s2 d2) : LS K (Evl.tCut s1 s2) (dCut d1 d2) := fun {G0 H0 M DD D ρ σ G H} E x ⟨Mid, q1, q2⟩ =>
  ⟨fun σ' H' => ∃ ρ' G', Iv K G0 H0 M ρ' σ' G' H' ∧ Mid ρ', h1 (DD := ⟨Mid, DD.rt, DD.bk, DD.ct, DD.ex⟩) (D := { D with nx := fun σ' H' => ∃ ρ' G', Iv K G0 H0 M ρ' σ' G' H' ∧ Mid ρ' }) ⟨fun ρ σ G H y m => ⟨ρ, G, y, m⟩, E.bk, E.ct, E.rt, E.ex⟩ x q1, fun σ' H' ⟨ρ', G', y, m⟩ => by
    obtain ⟨ρ'', f, q'⟩ := q2 ρ' m
    obtain ⟨G'', y'⟩ := Iv.fzs (H0 := H0) (G := G') f y
    exact h2 E y' q'⟩
def dNext : DS := fun DD ρ => DD.nx ρ
theorem ls_next : LS K tNext dNext := fun E x q => E.nx _ _ _ _ x q
theorem ls_brk : LS K tBreak (fun DD ρ => DD.bk ρ) := fun E x q => E.bk _ _ _ _ x q
theorem ls_cont : LS K tCont (fun DD ρ => DD.ct ρ) := fun E x q => E.ct _ _ _ _ x q
/-- x = e: kept as it is (a new list: one's own), or frozen -/
def dSet (i : Nat) (da : Env → (T → Prop) → Prop) : DS := fun DD ρ => da ρ fun t => (∃ d, t.fz = .g d ∧ DD.nx (ρ.set i (some (.g d)))) ∨ (t.slot = true ∧ t.isP = false ∧ DD.nx (ρ.set i (some t)))
theorem ls_set {i : Nat} (ha : LP K ta da) : LS K (tAsg ta (gName i)) (dSet i da) := fun E x q => ha x q fun t v G1 H1 qt r1 v1 f1 => by
  rcases qt with ⟨d, ed, q⟩ | ⟨h1, h2, q⟩
  · obtain ⟨G2, r2, g2, v2⟩ := fz_post r1 v1 f1
    rw [ed] at v2
    exact E.nx _ _ _ _ ((x.mono r2).set0 rfl v2 fun _ f => f.elim) q
  · exact E.nx _ _ _ _ (x.setN r1 h1 h2 v1 f1) q
def dAsg (da : Env → (T → Prop) → Prop) (dg : PyData → Env → (Env → Prop) → Prop) : DS := fun DD ρ => da ρ fun t => ∃ d, t.fz = .g d ∧ dg d ρ DD.nx
theorem ls_asg {g : TG} {js : List Nat} {dg : PyData → Env → (Env → Prop) → Prop} (ha : LP K ta da) (hg : LG K g js dg) : LS K (tAsg ta g) (dAsg da dg) := fun E x q => ha x q fun t v G1 H1 ⟨d, ed, q⟩ r1 v1 f1 => by
  obtain ⟨G2, r2, g2, v2⟩ := fz_post r1 v1 f1
  rw [ed] at v2
  exact hg (x.mono r2) v2 q fun ρ' σ' q' x' _ _ => E.nx _ _ _ _ x' q'
/-- x = y: y is frozen first, or given over -/
def dMove (i j : Nat) : DS := fun DD ρ => ∃ d, (ρ[j]? = some (some (.g d)) ∧ DD.nx (ρ.set i (some (.g d))))
theorem ls_move {i j : Nat} : LS K (tAsg (tVar j) (gName i)) (dMove i j) := fun E x ⟨d, e, q⟩ => by
  obtain ⟨v, h1, h2⟩ := x.sl _ _ e
  exact ⟨v, h1, E.nx _ _ _ _ (x.set0 rfl h2 fun _ f => f.elim) q⟩
/-- x = y, y one's own: given over -/
def dGive (i j : Nat) : DS := fun DD ρ => (∃ d, ρ[j]? = some (some (.g d)) ∧ DD.nx (ρ.set i (some (.g d)))) ∨ (∃ t, i ≠ j ∧ ρ[j]? = some (some t) ∧ t.isP = false ∧ DD.nx ((ρ.set j none).set i (some t)))
theorem ls_give {i j : Nat} : LS K (tAsg (tVar j) (gName i)) (dGive i j) := fun {G0 H0 M DD D ρ σ G H} E x q => by
  rcases q with q | ⟨t, ne, e, hp, q⟩
  · exact ls_move E x q
  · obtain ⟨v, h1, h2⟩ := x.sl _ _ e
    refine ⟨v, h1, E.nx _ _ _ _ ((x.drop j).set (x.kd _ _ e) h2 fun b f => ⟨x.own j t v b e h1 f, fun k u w nk e1 e2 p => ?_⟩) q⟩
    rcases set_at e1 with ⟨_, _, z⟩ | ⟨nj, e1⟩
    · cases z
    · exact nj (x.dj k j u t w v b e1 e e2 h1 p f)
def dRet (da : Env → (T → Prop) → Prop) : DS := fun DD ρ => da ρ fun t => (∃ d, t.fz = .g d ∧ DD.rt (.g d) ρ) ∨ DD.rt t ρ
theorem ls_ret (ha : LP K ta da) : LS K (tRet ta) (dRet da) := fun E x q => ha x q fun t v G1 H1 qt r1 v1 f1 => by
  rcases qt with ⟨d, ed, q⟩ | q
  · obtain ⟨G2, r2, g2, v2⟩ := fz_post r1 v1 f1
    rw [ed] at v2
    exact E.rt _ _ _ _ _ _ (x.mono r2) v2 (fun _ f => f.elim) q
  · exact E.rt _ _ _ _ _ _ (x.mono r1) v1 (fun b f => x.h0 (f1 b f)) q
/-- return x, x one's own -/
def dRetV (i : Nat) : DS := fun DD ρ => ∃ t, ρ[i]? = some (some t) ∧ t.isP = false ∧ ((∃ d, t.fz = .g d ∧ DD.rt (.g d) (ρ.set i (some t.fz))) ∨ DD.rt t ρ)
theorem ls_retV {i : Nat} : LS K (tRet (tVar i)) (dRetV i) := fun {G0 H0 M DD D ρ σ G H} E x ⟨t, e, hp, q⟩ => by
  obtain ⟨v, h1, h2⟩ := x.sl _ _ e
  rcases q with ⟨d, ed, q⟩ | q
  · obtain ⟨G', x'⟩ := x.fz1 e (fz_nfz hp ed)
    obtain ⟨w, h3, h4⟩ := x'.sl i t.fz (List.getElem?_set_self (lt_of_at e))
    rw [h1] at h3
    cases (Option.some.inj (Option.some.inj h3))
    rw [ed] at h4
    exact ⟨v, h1, E.rt _ _ _ _ _ _ x' h4 (fun _ f => f.elim) q⟩
  · exact ⟨v, h1, E.rt _ _ _ _ _ _ x h2 (fun b f => by have := x.own i t v b e h1 f; rw [hp] at this; exact this) q⟩
theorem ls_retN : LS K tRetN (fun DD ρ => DD.rt (.g .none) ρ) := fun {G0 H0 M DD D ρ σ G H} E x q => E.rt _ _ _ _ (.g .none) .non x (Dp.non : Dp K G .non .none) (fun _ f => f.elim) q
def dIfS (dt : Env → (Bool → Prop) → Prop) (d1 d2 : DS) : DS := fun DD ρ => dt ρ fun c => if c = true then d1 DD ρ else d2 DD ρ
theorem ls_if (ht : LT K tt dt) (h1 : LS K s1 d1) (h2 : LS K s2 d2) : LS K (tIfS tt s1 s2) (dIfS dt d1 d2) := fun E x q => ht x q fun c G1 H1 qc r1 => by
  cases c with
  | true => exact h1 E (x.mono r1) qc
  | false => exact h2 E (x.mono r1) qc
def dDrop (da : Env → (T → Prop) → Prop) : DS := fun DD ρ => da ρ fun _ => DD.nx ρ
theorem ls_drop (ha : LP K ta da) : LS K (tDrop ta) (dDrop da) := fun E x q => ha x q fun t v G1 H1 qt r1 _ _ => E.nx _ _ _ _ (x.mono r1) qt
def dAug (i : Nat) (f : Int → Int → Int) (da : Env → (T → Prop) → Prop) : DS := fun DD ρ => ∃ a, ρ[i]? = some (some (.g (.int a))) ∧ da ρ fun t => ∃ b, t.rd = .int b ∧ DD.nx (ρ.set i (some (.g (.int (f a b)))))
theorem ls_aug {i : Nat} {f : Int → Int → Int} (ha : LP K ta da) : LS K (tAug i ta (ipI f)) (dAug i f da) := fun {G0 H0 M DD D ρ σ G H} E x ⟨a, e, q⟩ => by
  obtain ⟨v, h1, h2⟩ := x.sl _ _ e
  obtain rfl := dp_int (show Dp K G v (.int a) from h2)
  exact ⟨_, h1, ha x q fun t v G1 H1 ⟨b, e2, q⟩ r1 v1 _ => ⟨a, b, rfl, vr_int r1.s v1 e2, E.nx _ _ _ _ ((x.mono r1).set0 (t := .g (.int _)) rfl (Dp.int _ : Dp K _ _ (.int _)) fun _ f => f.elim) q⟩⟩
def dPar (i j : Nat) (dl : Env → (List T → Prop) → Prop) : DS := fun DD ρ => dl ρ fun ts => ∃ c d, ts = [.g c, .g d] ∧ DD.nx ((ρ.set i (some (.g c))).set j (some (.g d)))
theorem ls_par {i j : Nat} (h : LA K al dl) : LS K (tPar i j al) (dPar i j dl) := fun E x q => h x q fun ts vs G1 H1 ⟨c, d, e, q⟩ r1 v1 => by
  subst e
  obtain ⟨v, w, rfl, a1, a2⟩ := vrA2 v1
  exact ⟨v, w, rfl, E.nx _ _ _ _ (((x.mono r1).set0 (t := .g c) rfl a1 fun _ f => f.elim).set0 (t := .g d) rfl a2 fun _ f => f.elim) q⟩
theorem ls_never : LS K tNever (fun _ _ => False) := fun _ _ q => q.elim
/-! ### loops -/
def dFor (di : Env → (Bool → List PyData → Prop) → Prop) (dg : PyData → Env → (Env → Prop) → Prop) (db : DS) : DS := fun DD ρ => di ρ fun st items => st = true ∧ ∃ Pv : Nat → Env → Prop, Pv 0 ρ ∧
  (∀ (i : Nat) (x : PyData) (ρ' : Env), items[i]? = some x → Pv i ρ' → dg x ρ' fun ρ2 => db ⟨Pv (i + 1), DD.rt, DD.nx, Pv (i + 1), DD.ex⟩ ρ2) ∧ ∀ ρ', Pv items.length ρ' → DD.nx ρ'
theorem EndsOk.rebase {G0 H0 G1 H1 : Hp} {M : Addr → Prop} {DD : DE} {D : Ends} {ρ : Env} {σ : L2.St} (E : EndsOk K G0 H0 M DD D) (x : Iv K G0 H0 M ρ σ G1 H1) : EndsOk K G1 H0 M DD D :=
  ⟨fun _ _ _ _ y q => E.nx _ _ _ _ (x.back y) q, fun _ _ _ _ y q => E.bk _ _ _ _ (x.back y) q, fun _ _ _ _ y q => E.ct _ _ _ _ (x.back y) q, fun _ _ _ _ _ _ y a b q => E.rt _ _ _ _ _ _ (x.back y) a b q, fun _ _ _ _ _ y q => E.ex _ _ _ _ _ (x.back y) q⟩
theorem ls_for {wi : TI} {g : TG} {js : List Nat} {di : Env → (Bool → List PyData → Prop) → Prop} {dg : PyData → Env → (Env → Prop) → Prop} (hi : LI K wi di) (hg : LG K g js dg) (hb : LS K s1 d1) : LS K (tFor wi g s1) (dFor di dg d1) := fun {G0 H0 M DD D ρ σ G H} E x q => hi x q fun st items J G1 H1 ⟨hst, Pv, p0, ps, pd⟩ r1 ig _ => by
  have ig := ig hst
  have x1 := x.mono r1
  have E1 := E.rebase x1
  refine ⟨fun i m σ' H' => m = items.length - i ∧ i ≤ items.length ∧ ∃ ρ' G', Iv K G1 H0 M ρ' σ' G' H' ∧ Pv i ρ', ⟨items.length, by simp, Nat.zero_le _, ρ, G1, x1.rebase, p0⟩, ?_⟩
  rintro i m σ2 H2 ⟨rfl, hile, ρ2, G2, x2, p2⟩
  by_cases hlt : i < items.length
  · obtain ⟨go, yl⟩ := (ig G2 H2 x2.g0 x2.gh i).1 hlt
    refine .inr ⟨go, fun σ' H' => i + 1 ≤ items.length ∧ ∃ ρ' G', Iv K G1 H0 M ρ' σ' G' H' ∧ Pv (i + 1) ρ', fun σ' H' ⟨a, b⟩ => ⟨items.length - (i + 1), by omega, rfl, a, b⟩, fun y H3 hy => ?_⟩
    obtain ⟨G3, d, r3, ed, dy⟩ := yl y H3 hy
    refine hg (x2.mono r3) dy (ps i d ρ2 ed p2) fun ρ4 σ4 q4 x4 _ _ => hb (DD := ⟨Pv (i + 1), DD.rt, DD.nx, Pv (i + 1), DD.ex⟩) (D := { D with nx := fun σ' H' => i + 1 ≤ items.length ∧ ∃ ρ' G', Iv K G1 H0 M ρ' σ' G' H' ∧ Pv (i + 1) ρ', ct := fun σ' H' => i + 1 ≤ items.length ∧ ∃ ρ' G', Iv K G1 H0 M ρ' σ' G' H' ∧ Pv (i + 1) ρ', bk := D.nx }) ⟨fun ρ σ G H y m => ⟨hlt, ρ, G, y, m⟩, fun ρ σ G H y m => E1.nx _ _ _ _ y m, fun ρ σ G H y m => ⟨hlt, ρ, G, y, m⟩, E1.rt, E1.ex⟩ x4 q4
  · have e : i = items.length := by omega
    subst e
    exact .inl ⟨(ig G2 H2 x2.g0 x2.gh _).2 (Nat.le_refl _), E1.nx _ _ _ _ x2 (pd _ p2)⟩
def dWhile (dt : Env → (Bool → Prop) → Prop) (db : DS) : DS := fun DD ρ => ∃ W : Nat → Env → Prop, (∃ m, W m ρ) ∧ ∀ m ρ', W m ρ' → dt ρ' fun c => if c = true then db ⟨fun ρ2 => ∃ m', m' < m ∧ W m' ρ2, DD.rt, DD.nx, fun ρ2 => ∃ m', m' < m ∧ W m' ρ2, DD.ex⟩ ρ' else DD.nx ρ'
theorem ls_while (ht : LT K tt dt) (hb : LS K s1 d1) : LS K (tWhile tt s1) (dWhile dt d1) := fun {G0 H0 M DD D ρ σ G H} E x ⟨W, ⟨m0, w0⟩, hw⟩ => by
  refine ⟨fun m σ' H' => ∃ ρ' G', Iv K G0 H0 M ρ' σ' G' H' ∧ W m ρ', ⟨m0, ρ, G, x, w0⟩, ?_⟩
  rintro m σ2 H2 ⟨ρ2, G2, x2, w2⟩
  refine ht x2 (hw m ρ2 w2) fun c G3 H3 qc r3 => ?_
  cases c with
  | true => exact ⟨fun σ' H' => ∃ ρ' G', Iv K G0 H0 M ρ' σ' G' H' ∧ ∃ m', m' < m ∧ W m' ρ', fun σ' H' ⟨ρ', G', y, m', a, b⟩ => ⟨m', a, ρ', G', y, b⟩, hb (DD := ⟨fun ρ2 => ∃ m', m' < m ∧ W m' ρ2, DD.rt, DD.nx, fun ρ2 => ∃ m', m' < m ∧ W m' ρ2, DD.ex⟩) (D := { D with nx := fun σ' H' => ∃ ρ' G', Iv K G0 H0 M ρ' σ' G' H' ∧ ∃ m', m' < m ∧ W m' ρ', ct := fun σ' H' => ∃ ρ' G', Iv K G0 H0 M ρ' σ' G' H' ∧ ∃ m', m' < m ∧ W m' ρ', bk := D.nx }) ⟨fun ρ σ G H y m => ⟨ρ, G, y, m⟩, fun ρ σ G H y m => E.nx _ _ _ _ y m, fun ρ σ G H y m => ⟨ρ, G, y, m⟩, E.rt, E.ex⟩ (x2.mono r3) qc⟩
  | false => exact E.nx _ _ _ _ (x2.mono r3) qc
/-! ### one's own list changes -/
theorem rows_hset {G H : Hp} {a : Addr} {o : HO} : ∀ {as : List Addr} {dss : List (List PyData)}, a ∉ as → Rows K G H as dss → Rows K G (upd H a o) as dss
  | [], [], _, _ => True.intro
  | b :: bs, d :: r, nas, ⟨⟨ws, p1, p2, p3⟩, q⟩ => ⟨⟨ws, by rw [upd_ne (fun z => nas (by rw [z]; exact List.mem_cons_self))]; exact p1, p2, p3⟩, rows_hset (fun z => nas (List.mem_cons_of_mem _ z)) q⟩
  | [], _ :: _, _, h => h.elim
  | _ :: _, [], _, h => h.elim
theorem Vr.mut {G H : Hp} {t : T} {v : V} {a : Addr} {o : HO} (h : Vr K G H t v) (k : t.slot = true) (n : ¬ Fp H t v a) (ga : G a = none) : Vr K G (upd H a o) t v := by
  cases t with
  | g x => exact h
  | b ds => exact Bool.noConfusion k
  | h x => exact Bool.noConfusion k
  | l ds =>
    obtain ⟨c, vs, rfl, h1, h2, h3⟩ := h
    exact ⟨c, vs, rfl, by rw [upd_ne (fun z => n (by rw [z]; exact rfl))]; exact h1, h2, h3⟩
  | p ds =>
    obtain ⟨c, vs, rfl, h1, h2, h3⟩ := h
    exact ⟨c, vs, rfl, by rw [upd_ne (fun z => n (by rw [z]; exact rfl))]; exact h1, h2, h3⟩
  | ll dss =>
    obtain ⟨c, as, rfl, h1, h2, h3, h4⟩ := h
    have nc : c ≠ a := fun z => n ⟨c, as, rfl, h1, .inl z.symm⟩
    have nas : a ∉ as := fun z => n ⟨c, as, rfl, h1, .inr z⟩
    refine ⟨c, as, rfl, by rw [upd_ne nc]; exact h1, h2, h3, ?_⟩
    clear h1 h3 n k
    induction as generalizing dss with
    | nil => cases dss with
      | nil => exact True.intro
      | cons _ _ => exact h4.elim
    | cons b bs ih => cases dss with
      | nil => exact h4.elim
      | cons d r =>
        obtain ⟨⟨ws, p1, p2, p3⟩, q⟩ := h4
        have nb : b ≠ a := fun z => nas (by rw [z]; exact List.mem_cons_self)
        exact ⟨⟨ws, by rw [upd_ne nb]; exact p1, p2, p3⟩, ih r q fun z => nas (List.mem_cons_of_mem _ z)⟩
  | tt us =>
    obtain ⟨c, vs, as, rfl, h1, h2, h3, h4, h5, h6⟩ := h
    have nc : c ≠ a := fun z => n ⟨c, vs, as, rfl, h1, h4, .inl z.symm⟩
    have nas : a ∉ as := fun z => n ⟨c, vs, as, rfl, h1, h4, .inr z⟩
    exact ⟨c, vs, as, rfl, by rw [upd_ne nc]; exact h1, h2, h3, h4, h5, rows_hset nas h6⟩
  | ob o r => exact o.loc h (fun b f => upd_ne fun z => n (by rw [← z]; exact f)) (Same.refl _) fun b f => (o.there h f).2
  | u => exact Bool.noConfusion k
theorem Fp.mut {G H : Hp} {t : T} {v : V} {a b : Addr} {o : HO} (h : Vr K G H t v) (n : ¬ Fp H t v a) (f : Fp (upd H a o) t v b) : Fp H t v b := by
  cases t with
  | l ds => exact f
  | p ds => exact f
  | ll dss =>
    obtain ⟨c, as, rfl, h1, _⟩ := h
    obtain ⟨c', as', e, q1, q2⟩ := f
    cases e
    have nc : c ≠ a := fun z => n ⟨c, as, rfl, h1, .inl z.symm⟩
    rw [upd_ne nc] at q1
    exact ⟨c, as', rfl, q1, q2⟩
  | tt us =>
    obtain ⟨c, vs, as, rfl, h1, h2, h3, h4, h5, h6⟩ := h
    obtain ⟨c', vs', as', e, q1, q2, q3⟩ := f
    cases e
    have nc : c ≠ a := fun z => n ⟨c, vs, as, rfl, h1, h4, .inl z.symm⟩
    rw [upd_ne nc] at q1
    exact ⟨c, vs', as', rfl, q1, q2, q3⟩
  | ob z r => exact z.floc h (fun b f => upd_ne fun e => n (by rw [← e]; exact f)) f
  | u => exact f.elim
  | g x => exact f.elim
  | b x => exact f.elim
  | h x => exact f.elim
/-- a list of one's own at slot i -/
@[reducible] def T.mine : T → Option (List PyData)
  | .l ds => some ds | .p ds => some ds | _ => none
@[reducible] def T.with (t : T) (ds : List PyData) : T := match t with | .l _ => .l ds | .p _ => .p ds | t => t
theorem mine_of {G H : Hp} {t : T} {v : V} {ds : List PyData} (h : Vr K G H t v) (e : t.mine = some ds) : ∃ a vs, v = .ref a ∧ H a = some (.lst vs) ∧ G a = none ∧ DpAll K G vs ds ∧ (∀ H', Fp H' t v a) ∧ (∀ H' b, Fp H' t v b → b = a) := by
  cases t with
  | l xs =>
    cases (Option.some.inj e)
    obtain ⟨a, vs, rfl, h1, h2, h3⟩ := h
    exact ⟨a, vs, rfl, h1, h2, h3, fun _ => rfl, fun _ b f => (V.ref.inj f).symm⟩
  | p xs =>
    cases (Option.some.inj e)
    obtain ⟨a, vs, rfl, h1, h2, h3⟩ := h
    exact ⟨a, vs, rfl, h1, h2, h3, fun _ => rfl, fun _ b f => (V.ref.inj f).symm⟩
  | g x => simp [T.mine] at e
  | b x => simp [T.mine] at e
  | h x => simp [T.mine] at e
  | ll x => simp [T.mine] at e
  | tt x => simp [T.mine] at e
  | ob x q => simp [T.mine] at e
  | u => simp [T.mine] at e
theorem with_vr {G H : Hp} {t : T} {a : Addr} {ds es : List PyData} {vs : List V} (e : t.mine = some ds) (h1 : H a = some (.lst vs)) (h2 : G a = none) (h3 : DpAll K G vs es) : Vr K G H (t.with es) (.ref a) ∧ (t.with es).slot = true ∧ (t.with es).isP = t.isP ∧ (∀ b, Fp H (t.with es) (.ref a) b → b = a) := by
  cases t with
  | l xs => exact ⟨⟨a, vs, rfl, h1, h2, h3⟩, rfl, rfl, fun b f => (V.ref.inj f).symm⟩
  | p xs => exact ⟨⟨a, vs, rfl, h1, h2, h3⟩, rfl, rfl, fun b f => (V.ref.inj f).symm⟩
  | g x => simp [T.mine] at e
  | b x => simp [T.mine] at e
  | h x => simp [T.mine] at e
  | ll x => simp [T.mine] at e
  | tt x => simp [T.mine] at e
  | ob x q => simp [T.mine] at e
  | u => simp [T.mine] at e
theorem Iv.mut {G0 H0 G H : Hp} {M : Addr → Prop} {σ : L2.St} {ρ : Env} (x : Iv K G0 H0 M ρ σ G H) {i : Nat} {t : T} {a : Addr} {ds es : List PyData} {ws : List V} (e : ρ[i]? = some (some t)) (f : σ[i]? = some (some (.ref a))) (m : t.mine = some ds) (d : DpAll K G ws es) : Iv K G0 H0 M (ρ.set i (some (t.with es))) σ G (upd H a (.lst ws)) := by
  have vr := x.vr e f
  obtain ⟨a', vs, ea, h1, h2, h3, h4, h5⟩ := mine_of vr m
  cases ea
  have hw := with_vr (K := K) (H := upd H a (.lst ws)) (G := G) m upd_same h2 d
  have others : ∀ {k : Nat} {u : T} {w : V}, k ≠ i → ρ[k]? = some (some u) → σ[k]? = some (some w) → ¬ Fp H u w a := fun {k u w} nk e1 e2 p => nk (x.dj k i u t w (.ref a) a e1 e e2 f p (h4 H))
  have am : M a ∨ H0 a = none := by
    have := x.own i t _ a e f (h4 H)
    cases hp : t.isP with
    | true =>
      rw [hp] at this
      exact .inl this
    | false =>
      rw [hp] at this
      exact .inr this
  refine ⟨fun b o eb => ?_, x.g0, x.gf, fun b o nm eb => ?_, fun b mb => ?_, by rw [List.length_set, x.len], kdset x.kd (fun z => (Option.some.inj z) ▸ hw.2.1), fun k u e1 => ?_, fun k u w b e1 e2 p => ?_, fun j k u u' w w' b e1 e2 e3 e4 p1 p2 => ?_⟩
  · rw [upd_ne (ne_of_none eb h2)]
    exact x.gh _ _ eb
  · have nb : b ≠ a := fun z => by
      subst z
      rcases am with z | z
      · exact nm z
      · rw [z] at eb
        cases eb
    rw [upd_ne nb]
    exact x.up b o nm eb
  · by_cases z : b = a
    · rw [z, upd_same]
      exact fun z => nomatch z
    · rw [upd_ne z]
      exact x.mh b mb
  · rcases set_at e1 with ⟨rfl, _, d1⟩ | ⟨ne, d1⟩
    · cases (Option.some.inj d1)
      exact ⟨.ref a, f, hw.1⟩
    · obtain ⟨w, w1, w2⟩ := x.sl k u d1
      exact ⟨w, w1, w2.mut (x.kd _ _ d1) (others ne d1 w1) h2⟩
  · rcases set_at e1 with ⟨rfl, _, d1⟩ | ⟨ne, d1⟩
    · cases (Option.some.inj d1)
      rw [f] at e2
      cases (Option.some.inj (Option.some.inj e2))
      rw [hw.2.2.2 b p, hw.2.2.1]
      exact x.own _ t _ a e f (h4 H)
    · exact x.own k u w b d1 e2 (Fp.mut (x.vr d1 e2) (others ne d1 e2) p)
  · rcases set_at e1 with ⟨rfl, _, d1⟩ | ⟨ne, d1⟩
    · cases (Option.some.inj d1)
      rw [f] at e3
      cases (Option.some.inj (Option.some.inj e3))
      rcases set_at e2 with ⟨rfl, _, _⟩ | ⟨ne2, d2⟩
      · rfl
      · rw [hw.2.2.2 b p1] at p2
        exact absurd (Fp.mut (x.vr d2 e4) (others ne2 d2 e4) p2) (others ne2 d2 e4)
    · rcases set_at e2 with ⟨rfl, _, d2⟩ | ⟨ne2, d2⟩
      · cases (Option.some.inj d2)
        rw [f] at e4
        cases (Option.some.inj (Option.some.inj e4))
        rw [hw.2.2.2 b p2] at p1
        exact absurd (Fp.mut (x.vr d1 e3) (others ne d1 e3) p1) (others ne d1 e3)
      · exact x.dj j k u u' w w' b d1 d2 e3 e4 (Fp.mut (x.vr d1 e3) (others ne d1 e3) p1) (Fp.mut (x.vr d2 e4) (others ne2 d2 e4) p2)
end
end Dv

set_option Elab.async false
set_option linter.all false
set_option maxRecDepth 100000
set_option maxHeartbeats 4000000
namespace Dv
open PySem PySem.Spec PyProof.Rows L2 Px
section
variable {K : PySem.W.Frag} {ta tb tc te : TE} {da db dc de : Env → (T → Prop) → Prop} {tt tu : TT} {dt du : Env → (Bool → Prop) → Prop} {al : TA} {dl : Env → (List T → Prop) → Prop} {s1 s2 : TS} {d1 d2 : DS}
/-! ### methods that change a list -/
abbrev DM := List PyData → List T → (List PyData → PyData → Prop) → Prop
def OM (K : PySem.W.Frag) (r : V → List V → Hp → VK → Prop) (dm : DM) : Prop := ∀ {G H : Hp} {a : Addr} {xs : List V} {ds : List PyData} {ts : List T} {vs : List V} {QD : List PyData → PyData → Prop} {Q : VK}, Same G H → H a = some (.lst xs) → DpAll K G xs ds → VrA K G H ts vs → dm ds ts QD →
  (∀ ds' y xs' v, QD ds' y → DpAll K G xs' ds' → Dp K G v y → Q v (upd H a (.lst xs'))) → r (.ref a) vs H Q
def mAppend : DM := fun ds ts Q => ∃ x, ts = [.g x] ∧ ds.length < 16777216 ∧ Q (ds ++ [x]) .none
theorem om_append : OM K rAppend mAppend := fun {G H a xs ds ts vs QD Q} s h d v ⟨x, e, z, q⟩ k => by
  subst e
  obtain ⟨w, rfl, b⟩ := vrA1 v
  exact ⟨a, xs, w, rfl, rfl, h, r_smalll (by rw [dpAll_len d]; exact z), k _ _ _ _ q (dpAll_app d (.cons b .nil)) .non⟩
theorem dpAll_erase {H : Hp} : ∀ {xs : List V} {ds : List PyData} (n : Nat), DpAll K H xs ds → DpAll K H (xs.eraseIdx n) (ds.eraseIdx n)
  | _, _, 0, .nil => .nil
  | _, _, 0, .cons _ h => h
  | _, _, _ + 1, .nil => .nil
  | _, _, n + 1, .cons a h => .cons a (dpAll_erase n h)
theorem dpAll_dropLast {H : Hp} {xs : List V} {ds : List PyData} (h : DpAll K H xs ds) : DpAll K H xs.dropLast ds.dropLast := by
  rw [List.dropLast_eq_take, List.dropLast_eq_take, dpAll_len h]
  exact dpAll_take _ h
theorem dpAll_set {H : Hp} {v : V} {x : PyData} (hv : Dp K H v x) : ∀ {xs : List V} {ds : List PyData} (n : Nat), DpAll K H xs ds → DpAll K H (xs.set n v) (ds.set n x)
  | _, _, _, .nil => .nil
  | _, _, 0, .cons _ h => .cons hv h
  | _, _, n + 1, .cons a h => .cons a (dpAll_set hv n h)
def mPopAt : DM := fun ds ts Q => ∃ t i k y, ts = [t] ∧ t.rd = .int i ∧ -(2 ^ 63) ≤ i ∧ i < 2 ^ 63 ∧ seqIndex? i ds.length = some k ∧ ds[k]? = some y ∧ Q (ds.eraseIdx k) y
theorem om_popAt : OM K rPopAt mPopAt := fun {G H a xs ds ts vs QD Q} s h d v ⟨t, i, k, y, e, e1, b1, b2, e2, e3, q⟩ kk => by
  subst e
  obtain ⟨w, rfl, b⟩ := vrA1 v
  obtain ⟨z, z1, z2⟩ := dpAll_get d e3
  exact ⟨a, xs, i, k, z, rfl, by rw [vr_int s b e1], h, b1, b2, by rw [dpAll_len d]; exact e2, z1, kk _ _ _ _ q (dpAll_erase k d) z2⟩
def mPop : DM := fun ds ts Q => ∃ y, ts = [] ∧ ds[ds.length - 1]? = some y ∧ Q ds.dropLast y
theorem vrA0 {G H : Hp} {vs : List V} (h : VrA K G H [] vs) : vs = [] := by
  match vs, h with
  | [], _ => rfl
theorem om_pop : OM K rPop mPop := fun {G H a xs ds ts vs QD Q} s h d v ⟨y, e, e3, q⟩ kk => by
  subst e
  obtain rfl := vrA0 v
  obtain ⟨z, z1, z2⟩ := dpAll_get d e3
  exact ⟨a, xs, z, rfl, rfl, h, by rw [dpAll_len d]; exact z1, kk _ _ _ _ q (dpAll_dropLast d) z2⟩
def rInsert : V → List V → Hp → VK → Prop := fun x vs H Q => ∃ (l : Addr) (xs : List V) (i : Int) (y : V), x = .ref l ∧ vs = [.int i, y] ∧ H l = some (.lst xs) ∧ xs.length < sizeLine ∧ 0 ≤ i ∧ i < 2 ^ 63 ∧ Q .non (upd H l (.lst (xs.take i.toNat ++ [y] ++ xs.drop i.toNat)))
def mInsert : DM := fun ds ts Q => ∃ t i x, ts = [t, .g x] ∧ t.rd = .int i ∧ ds.length < 16777216 ∧ 0 ≤ i ∧ i < 2 ^ 63 ∧ Q (ds.take i.toNat ++ [x] ++ ds.drop i.toNat) .none
theorem om_insert : OM K rInsert mInsert := fun {G H a xs ds ts vs QD Q} s h d v ⟨t, i, x, e, e1, z, b1, b2, q⟩ kk => by
  subst e
  obtain ⟨w, u, rfl, a1, a2⟩ := vrA2 v
  exact ⟨a, xs, i, u, rfl, by rw [vr_int s a1 e1], h, r_smalll (by rw [dpAll_len d]; exact z), b1, b2, kk _ _ _ _ q (dpAll_app (dpAll_app (dpAll_take _ d) (.cons a2 .nil)) (dpAll_drop _ d)) .non⟩
theorem om_insert' : OM K (fun x vs H Q => ∃ (l : Addr) (xs : List V) (i : Int) (y : V), x = .ref l ∧ vs = [.int i, y] ∧ H l = some (.lst xs) ∧ xs.length < sizeLine ∧ 0 ≤ i ∧ i < 2 ^ 63 ∧
    Q .non (upd H l (.lst (xs.take i.toNat ++ [y] ++ xs.drop i.toNat)))) mInsert := om_insert
def dMut (i : Nat) (dm : DM) (dl : Env → (List T → Prop) → Prop) : DS := fun DD ρ => dl ρ fun ts => ∃ t ds, ρ[i]? = some (some t) ∧ t.mine = some ds ∧ dm ds ts fun ds' _ => DD.nx (ρ.set i (some (t.with ds')))
/-- the list at slot i, behind what is read -/
theorem mine_at {G0 H0 G H G1 H1 : Hp} {M : Addr → Prop} {ρ : Env} {σ : L2.St} (x : Iv K G0 H0 M ρ σ G H) {i : Nat} {t : T} {ds : List PyData} (e : ρ[i]? = some (some t)) (m : t.mine = some ds) : ∃ a vs, σ[i]? = some (some (.ref a)) ∧ H a = some (.lst vs) ∧ DpAll K G vs ds := by
  obtain ⟨v, h1, h2⟩ := x.sl _ _ e
  obtain ⟨a, vs, rfl, h3, _, h4, _⟩ := mine_of h2 m
  exact ⟨a, vs, h1, h3, h4⟩
theorem slot_ref {G0 H0 G H : Hp} {M : Addr → Prop} {ρ : Env} {σ : L2.St} (x : Iv K G0 H0 M ρ σ G H) {i : Nat} {v : V} {t : T} {ds : List PyData} (e : ρ[i]? = some (some t)) (m : t.mine = some ds) (f : σ[i]? = some (some v)) : ∃ a vs, v = .ref a ∧ H a = some (.lst vs) ∧ DpAll K G vs ds := by
  obtain ⟨a, vs, h1, h2, h3⟩ := mine_at (G1 := G) (H1 := H) x e m
  rw [f] at h1
  cases (Option.some.inj (Option.some.inj h1))
  exact ⟨a, vs, rfl, h2, h3⟩
/-- slot i holds a list of one's own -/
def IsMine (i : Nat) (ρ : Env) : Prop := ∃ t ds, ρ[i]? = some (some t) ∧ t.mine = some ds
theorem mut_core {i : Nat} {r : V → List V → Hp → VK → Prop} {dm : DM} (ha : LA K al dl) (hr : OM K r dm) {G0 H0 G H : Hp} {M : Addr → Prop} {ρ : Env} {σ : L2.St} (x : Iv K G0 H0 M ρ σ G H) {QE : Env → PyData → Prop} {Q : VK}
    (hm : IsMine i ρ) (q : dl ρ fun ts => ∃ t ds, ρ[i]? = some (some t) ∧ t.mine = some ds ∧ dm ds ts fun ds' y => QE (ρ.set i (some (t.with ds'))) y)
    (k : ∀ ρ' y v G' H', QE ρ' y → Iv K G0 H0 M ρ' σ G' H' → Dp K G' v y → Q v H') : tBM K "list" r (tVar i) al σ H Q := by
  obtain ⟨t0, ds0, e0, m0⟩ := hm
  obtain ⟨a, vs, f, h1, _⟩ := mine_at (G1 := G) (H1 := H) x e0 m0
  refine ⟨_, f, tyV_list (seq_of h1), ha x q fun ts us G1 H1 ⟨t, ds, e, m, qd⟩ r1 v1 => ?_⟩
  obtain ⟨a', ws, ea, h2, h3⟩ := slot_ref (x.mono r1) e m f
  cases ea
  exact hr r1.s h2 h3 v1 qd fun ds' y xs' v q1 d1 d2 => k _ _ _ _ _ q1 ((x.mono r1).mut e f m d1) d2
theorem mut_core0 {i : Nat} {r : V → List V → Hp → VK → Prop} {dm : DM} (hr : OM K r dm) {G0 H0 G H : Hp} {M : Addr → Prop} {ρ : Env} {σ : L2.St} (x : Iv K G0 H0 M ρ σ G H) {QE : Env → PyData → Prop} {Q : VK}
    (q : ∃ t ds, ρ[i]? = some (some t) ∧ t.mine = some ds ∧ dm ds [] fun ds' y => QE (ρ.set i (some (t.with ds'))) y)
    (k : ∀ ρ' y v G' H', QE ρ' y → Iv K G0 H0 M ρ' σ G' H' → Dp K G' v y → Q v H') : tBM0 K "list" r (tVar i) σ H Q := by
  obtain ⟨t, ds, e, m, qd⟩ := q
  obtain ⟨a, vs, f, h1, h2⟩ := mine_at (G1 := G) (H1 := H) x e m
  exact ⟨_, f, tyV_list (seq_of h1), hr (ts := []) x.gh h1 h2 True.intro qd fun ds' y xs' v q1 d1 d2 => k _ _ _ _ _ q1 (x.mut e f m d1) d2⟩
def dMutS (i : Nat) (dm : DM) (dl : Env → (List T → Prop) → Prop) : DS := fun DD ρ => IsMine i ρ ∧ dl ρ fun ts => ∃ t ds, ρ[i]? = some (some t) ∧ t.mine = some ds ∧ dm ds ts fun ds' _ => DD.nx (ρ.set i (some (t.with ds')))
theorem ls_mut {i : Nat} {r : V → List V → Hp → VK → Prop} {dm : DM} (ha : LA K al dl) (hr : OM K r dm) : LS K (tDrop (tBM K "list" r (tVar i) al)) (dMutS i dm dl) := fun {G0 H0 M DD D ρ σ G H} E x ⟨hm, q⟩ => mut_core ha hr x (QE := fun ρ' _ => DD.nx ρ') hm q fun ρ' y v G' H' q1 x1 _ => E.nx _ _ _ _ x1 q1
def dMutS0 (i : Nat) (dm : DM) : DS := fun DD ρ => ∃ t ds, ρ[i]? = some (some t) ∧ t.mine = some ds ∧ dm ds [] fun ds' _ => DD.nx (ρ.set i (some (t.with ds')))
theorem ls_mut0 {i : Nat} {r : V → List V → Hp → VK → Prop} {dm : DM} (hr : OM K r dm) : LS K (tDrop (tBM0 K "list" r (tVar i))) (dMutS0 i dm) := fun {G0 H0 M DD D ρ σ G H} E x q => mut_core0 hr x (QE := fun ρ' _ => DD.nx ρ') q fun ρ' y v G' H' q1 x1 _ => E.nx _ _ _ _ x1 q1
def dMutA (i j : Nat) (dm : DM) (dl : Env → (List T → Prop) → Prop) : DS := fun DD ρ => IsMine i ρ ∧ dl ρ fun ts => ∃ t ds, ρ[i]? = some (some t) ∧ t.mine = some ds ∧ dm ds ts fun ds' y => DD.nx ((ρ.set i (some (t.with ds'))).set j (some (.g y)))
theorem ls_mutA {i j : Nat} {r : V → List V → Hp → VK → Prop} {dm : DM} (ha : LA K al dl) (hr : OM K r dm) : LS K (tAsg (tBM K "list" r (tVar i) al) (gName j)) (dMutA i j dm dl) := fun {G0 H0 M DD D ρ σ G H} E x ⟨hm, q⟩ => mut_core ha hr x (QE := fun ρ' y => DD.nx (ρ'.set j (some (.g y)))) hm q fun ρ' y v G' H' q1 x1 d => E.nx _ _ _ _ (x1.set0 (t := .g y) rfl d fun _ f => f.elim) q1
def dMutA0 (i j : Nat) (dm : DM) : DS := fun DD ρ => ∃ t ds, ρ[i]? = some (some t) ∧ t.mine = some ds ∧ dm ds [] fun ds' y => DD.nx ((ρ.set i (some (t.with ds'))).set j (some (.g y)))
theorem ls_mutA0 {i j : Nat} {r : V → List V → Hp → VK → Prop} {dm : DM} (hr : OM K r dm) : LS K (tAsg (tBM0 K "list" r (tVar i)) (gName j)) (dMutA0 i j dm) := fun {G0 H0 M DD D ρ σ G H} E x q => mut_core0 hr x (QE := fun ρ' y => DD.nx (ρ'.set j (some (.g y)))) q fun ρ' y v G' H' q1 x1 d => E.nx _ _ _ _ (x1.set0 (t := .g y) rfl d fun _ f => f.elim) q1
/-- found.append(left.pop(k)) -/
def dAppPop (i j : Nat) (dl : Env → (List T → Prop) → Prop) : DS := fun DD ρ => i ≠ j ∧ IsMine i ρ ∧ IsMine j ρ ∧ dl ρ fun ts => ∃ t ds, ρ[j]? = some (some t) ∧ t.mine = some ds ∧ mPopAt ds ts fun ds' y => ∃ u es, ρ[i]? = some (some u) ∧ u.mine = some es ∧ es.length < 16777216 ∧ DD.nx ((ρ.set j (some (t.with ds'))).set i (some (u.with (es ++ [y]))))
theorem ls_appPop {i j : Nat} (ha : LA K al dl) : LS K (tDrop (tBM K "list" rAppend (tVar i) (tCons (tBM K "list" rPopAt (tVar j) al) tNil))) (dAppPop i j dl) := fun {G0 H0 M DD D ρ σ G H} E x ⟨ne, hi, hj, q⟩ => by
  obtain ⟨t0, ds0, e0, m0⟩ := hi
  obtain ⟨a, vs, f, h1, _⟩ := mine_at (G1 := G) (H1 := H) x e0 m0
  refine ⟨_, f, tyV_list (seq_of h1), ?_⟩
  refine mut_core ha om_popAt x (QE := fun ρ' y => ∃ u es, ρ'[i]? = some (some u) ∧ u.mine = some es ∧ es.length < 16777216 ∧ DD.nx (ρ'.set i (some (u.with (es ++ [y]))))) hj ?_ fun ρ' y v G' H' ⟨u, es, eu, mu, z, q1⟩ x1 d => ?_
  · have mono : ∀ {ts : List T}, (∃ t ds, ρ[j]? = some (some t) ∧ t.mine = some ds ∧ mPopAt ds ts fun ds' y => ∃ u es, ρ[i]? = some (some u) ∧ u.mine = some es ∧ es.length < 16777216 ∧ DD.nx ((ρ.set j (some (t.with ds'))).set i (some (u.with (es ++ [y]))))) →
        ∃ t ds, ρ[j]? = some (some t) ∧ t.mine = some ds ∧ mPopAt ds ts fun ds' y => ∃ u es, (ρ.set j (some (t.with ds')))[i]? = some (some u) ∧ u.mine = some es ∧ es.length < 16777216 ∧ DD.nx ((ρ.set j (some (t.with ds'))).set i (some (u.with (es ++ [y])))) := fun ⟨t, ds, e, m, t', i', k', y', p1, p2, p3, p4, p5, p6, u, es, p7, p8⟩ =>
      ⟨t, ds, e, m, t', i', k', y', p1, p2, p3, p4, p5, p6, u, es, by rw [List.getElem?_set_ne (fun z => ne z.symm)]; exact p7, p8⟩
    have eq : ∀ ts, (∃ t ds, ρ[j]? = some (some t) ∧ t.mine = some ds ∧ mPopAt ds ts fun ds' y => ∃ u es, ρ[i]? = some (some u) ∧ u.mine = some es ∧ es.length < 16777216 ∧ DD.nx ((ρ.set j (some (t.with ds'))).set i (some (u.with (es ++ [y]))))) =
        ∃ t ds, ρ[j]? = some (some t) ∧ t.mine = some ds ∧ mPopAt ds ts fun ds' y => ∃ u es, (ρ.set j (some (t.with ds')))[i]? = some (some u) ∧ u.mine = some es ∧ es.length < 16777216 ∧ DD.nx ((ρ.set j (some (t.with ds'))).set i (some (u.with (es ++ [y])))) := fun ts => propext ⟨mono, fun ⟨t, ds, e, m, t', i', k', y', p1, p2, p3, p4, p5, p6, u, es, p7, p8⟩ =>
      ⟨t, ds, e, m, t', i', k', y', p1, p2, p3, p4, p5, p6, u, es, by rw [List.getElem?_set_ne (fun z => ne z.symm)] at p7; exact p7, p8⟩⟩
    rw [show (fun ts => ∃ t ds, ρ[j]? = some (some t) ∧ t.mine = some ds ∧ mPopAt ds ts fun ds' y => ∃ u es, (ρ.set j (some (t.with ds')))[i]? = some (some u) ∧ u.mine = some es ∧ es.length < 16777216 ∧ DD.nx ((ρ.set j (some (t.with ds'))).set i (some (u.with (es ++ [y]))))) = _ from (funext eq).symm]
    exact q
  · obtain ⟨a', ws, ea, h2, h3⟩ := slot_ref x1 eu mu f
    cases ea
    exact om_append (ts := [.g y]) (vs := [v]) x1.gh h2 h3 ⟨d, fun _ _ f => f, True.intro⟩ ⟨y, rfl, z, q1⟩ fun ds' y' xs' v' q2 d1 _ => E.nx _ _ _ _ (x1.mut eu f mu d1) q2
/-- xs[k] = e -/
def dSetIx (i : Nat) (dk da : Env → (T → Prop) → Prop) : DS := fun DD ρ => IsMine i ρ ∧ da ρ fun t => dk ρ fun u => ∃ w ds k j x, ρ[i]? = some (some w) ∧ w.mine = some ds ∧ u.rd = .int k ∧ ixN ds.length k = some j ∧ t.fz = .g x ∧ DD.nx (ρ.set i (some (w.with (ds.set j x))))
theorem ls_setIx {i : Nat} {tk : TE} {dk : Env → (T → Prop) → Prop} (ha : LP K ta da) (hk : LP K tk dk) : LS K (tAsg ta (gSub (tVar i) tk rSetL)) (dSetIx i dk da) := fun {G0 H0 M DD D ρ σ G H} E x ⟨⟨t0, ds0, e0, m0⟩, q⟩ => ha x q fun t v G1 H1 qt r1 v1 f1 => by
  obtain ⟨G2, r2, g2, v2⟩ := fz_post r1 v1 f1
  obtain ⟨a, vs, f, h1, _⟩ := mine_at (G1 := G) (H1 := H) x e0 m0
  refine ⟨_, f, hk (x.mono r2) qt fun u w G3 H3 ⟨w', ds, k, j, y, e, m, e1, e2, e3, q⟩ r3 v3 _ => ?_⟩
  have x3 := (x.mono r2).mono r3
  obtain ⟨a', ws, ea, h2, h3⟩ := slot_ref x3 e m f
  cases ea
  rw [e3] at v2
  exact ⟨a, ws, k, j, rfl, vr_int r3.s v3 e1, h2, by rw [dpAll_len h3]; exact e2, E.nx _ _ _ _ (x3.mut e f m (dpAll_set (dp_same r3.g v2) j h3)) q⟩
/-- xs.extend(e), e a new list -/
def dExtend (i : Nat) (da : Env → (T → Prop) → Prop) : DS := fun DD ρ => IsMine i ρ ∧ da ρ fun t => ∃ es w ds, t.own = some es ∧ ρ[i]? = some (some w) ∧ w.mine = some ds ∧ ds.length + es.length ≤ 16777216 ∧ DD.nx (ρ.set i (some (w.with (ds ++ es))))
theorem ls_extend {i : Nat} (ha : LP K ta da) : LS K (tDrop (tBM K "list" rExtend (tVar i) (tCons ta tNil))) (dExtend i da) := fun {G0 H0 M DD D ρ σ G H} E x ⟨⟨t0, ds0, e0, m0⟩, q⟩ => by
  obtain ⟨a, vs, f, h1, _⟩ := mine_at (G1 := G) (H1 := H) x e0 m0
  refine ⟨_, f, tyV_list (seq_of h1), ha x q fun t v G1 H1 ⟨es, w, ds, e1, e, m, z, q⟩ r1 v1 _ => ?_⟩
  obtain ⟨b, ys, rfl, h2, h3⟩ := own_of v1 e1
  obtain ⟨a', ws, ea, h4, h5⟩ := slot_ref (x.mono r1) e m f
  cases ea
  exact ⟨a, b, ws, ys, rfl, rfl, h4, h2, r_small (by rw [dpAll_len h5, dpAll_len h3]; exact z), E.nx _ _ _ _ ((x.mono r1).mut e f m (dpAll_app h5 h3)) q⟩
/-! ### a def of the text -/
def startD (N : List Str) (xs : List PyData) : Env := xs.map (fun d => some (.g d)) ++ List.replicate (N.length - xs.length) none
theorem start_iv {G H : Hp} {vs : List V} {xs : List PyData} (N : List Str) (s : Same G H) (d : DpAll K G vs xs) : Iv K G H (fun _ => False) (startD N xs) (L2.start N vs) G H := by
  have hl := dpAll_len d
  have get : ∀ (i : Nat) (t : T), (startD N xs)[i]? = some (some t) → ∃ y, t = .g y ∧ ∃ v, (L2.start N vs)[i]? = some (some v) ∧ Dp K G v y := fun i t e => by
    unfold startD at e
    unfold L2.start
    rw [List.getElem?_append] at e
    rw [List.getElem?_append]
    by_cases hi : i < xs.length
    · rw [if_pos (by rw [List.length_map]; exact hi), List.getElem?_map, List.getElem?_eq_getElem hi] at e
      cases (Option.some.inj (Option.some.inj e))
      obtain ⟨v, h1, h2⟩ := dpAll_get d (List.getElem?_eq_getElem hi)
      exact ⟨_, rfl, v, by rw [if_pos (by rw [List.length_map, hl]; exact hi), List.getElem?_map, h1]; rfl, h2⟩
    · rw [if_neg (by rw [List.length_map]; exact hi)] at e
      rw [List.getElem?_replicate] at e
      split at e <;> cases e
  refine ⟨s, Same.refl _, fun a h => .inl h, fun _ _ _ h => h, fun _ h => h.elim, ?_, fun i t e => ?_, fun i t e => ?_, fun i t v b e f p => ?_, fun i j t u v w b e _ _ _ p _ => ?_⟩
  · unfold L2.start startD
    rw [List.length_append, List.length_append, List.length_map, List.length_map, List.length_replicate, List.length_replicate, hl]
  · obtain ⟨y, rfl, _⟩ := get i t e
    rfl
  · obtain ⟨y, rfl, v, h1, h2⟩ := get i t e
    exact ⟨v, h1, h2⟩
  · obtain ⟨y, rfl, _⟩ := get i t e
    exact p.elim
  · obtain ⟨y, rfl, _⟩ := get i t e
    exact p.elim
theorem ends_gr {G0 H0 G H : Hp} {ρ : Env} {σ : L2.St} (x : Iv K G0 H0 (fun _ => False) ρ σ G H) : Gr G0 H0 G H := ⟨x.g0, fun a o e => x.up a o (fun z => z) e, x.gh, fun a ha ga => by
  cases q : G a with
  | none => rfl
  | some o =>
    rcases x.gf a (nn_of q) with z | z
    · exact absurd ga z
    · exact absurd z ha⟩
theorem run_def {c : List PyData → (T → Prop) → Prop} {vs : List V} {H : Hp} {Q : VK} {E : XK} {ts : TS} {ds : DS} (N : List Str) (h : LS K ts ds) (hq : spD K c vs H Q E)
    (hd : ∀ xs QD, c xs QD → ds ⟨fun _ => QD (.g .none), fun t _ => QD t, fun _ => False, fun _ => False, xp0⟩ (startD N xs)) : ts { nx := fun _ H' => Q .non H', rt := Q } (L2.start N vs) H := by
  obtain ⟨G, xs, QD, s, d, hc, p⟩ := hq
  exact h (D := { nx := fun _ H' => Q .non H', rt := Q }) ⟨fun ρ σ G1 H1 y q => p (.g .none) .non G1 H1 q (ends_gr y) .non fun _ f => f.elim, fun _ _ _ _ _ z => (z : False).elim, fun _ _ _ _ _ z => (z : False).elim, fun ρ σ G1 H1 t v y a b q => p t v G1 H1 q (ends_gr y) a b, fun _ _ _ _ _ _ z => (z : False).elim⟩ (start_iv N s d) (hd xs QD hc)
/-- the body, its reading over data, what it promises -/
def Body (K : PySem.W.Frag) (N : List Str) (c : List PyData → (T → Prop) → Prop) (t : TS) : Prop := ∃ d, LS K t d ∧ ∀ xs QD, c xs QD → d ⟨fun _ => QD (.g .none), fun t _ => QD t, fun _ => False, fun _ => False, xp0⟩ (startD N xs)
theorem body_of {N : List Str} {c : List PyData → (T → Prop) → Prop} {t : TS} {d : DS} (h : LS K t d) (q : ∀ xs QD, c xs QD → d ⟨fun _ => QD (.g .none), fun t _ => QD t, fun _ => False, fun _ => False, xp0⟩ (startD N xs)) : Body K N c t := ⟨d, h, q⟩
theorem ok_def {P : Program} {w : World} {mg : Str → Option Value} {base : Heap} {x qual : Str} {st : Stmt} {f : Addr} {fd : FuncData} {N ps : List Str} {k : Nat} {c : List PyData → (T → Prop) → Prop} (F : Fun K x qual st f fd) (S : FnScope N ps (defScope st)) (len : ∀ xs QD, c xs QD → xs.length = ps.length)
    (hbody : ∀ (cdv : Value) (A : Around) (outer : List PySem.Env) (s : Shared) (H : Hp) (E : XK), Room k (A.deeper (envOfC qual (defScope st) s.heap.objs.size f cdv)) →
      ∃ t, PSs (cxOf CX0 P w K mg base N qual (defScope st) f cdv A outer s H E).nox (defBody st) t ∧ Body K N c t) : FnOk P w K mg base CX0 (k + 1) f fd ps (spD K c) := by
  refine F.ok S (fun vs H Q E h => ?_) (fun cdv A outer s H vs Q E hr h => ?_)
  · obtain ⟨G, xs, QD, _, d, hc, _⟩ := h
    rw [dpAll_len d, len xs QD hc]
  · obtain ⟨t, h1, d, h2, h3⟩ := hbody cdv A outer s H E hr
    exact ⟨t, h1, run_def N h2 h h3⟩
end
end Dv

set_option Elab.async false
set_option linter.all false
set_option maxRecDepth 100000
set_option maxHeartbeats 4000000
namespace Dv
open PySem PySem.Spec PyProof.Rows L2 Px
/-! ### readings that change lists of one's own (calls by reference) -/
/-- what is one's own was so ahead -/
def Sub (σ : L2.St) (ρ : Env) (H : Hp) (ρ' : Env) (H' : Hp) : Prop := ∀ (j : Nat) (u : T) (w : V) (b : Addr), ρ'[j]? = some (some u) → σ[j]? = some (some w) → Fp H' u w b → ∃ (k : Nat) (u' : T) (w' : V), ρ[k]? = some (some u') ∧ σ[k]? = some (some w') ∧ Fp H u' w' b
theorem Sub.trans {σ : L2.St} {ρ ρ1 ρ2 : Env} {H H1 H2 : Hp} (a : Sub σ ρ H ρ1 H1) (b : Sub σ ρ1 H1 ρ2 H2) : Sub σ ρ H ρ2 H2 := fun j u w c e1 e2 f => by
  obtain ⟨k, u', w', e3, e4, f'⟩ := b j u w c e1 e2 f
  exact a k u' w' c e3 e4 f'
/-- what is not one's own stays -/
structure Fr (σ : L2.St) (ρ : Env) (G H G' H' : Hp) : Prop where
  nn : ∀ a, H a ≠ none → H' a ≠ none
  fr : ∀ a o, H a = some o → (∀ (j : Nat) (u : T) (w : V), ρ[j]? = some (some u) → σ[j]? = some (some w) → ¬ Fp H u w a) → H' a = some o
  gn : ∀ a, H a ≠ none → G a = none → G' a = none
theorem Fr.refl (σ : L2.St) (ρ : Env) (G H : Hp) : Fr σ ρ G H G H := ⟨fun _ h => h, fun _ _ h _ => h, fun _ _ h => h⟩
theorem fr_gr {σ : L2.St} {ρ : Env} {G H G' H' : Hp} (r : Gr G H G' H') : Fr σ ρ G H G' H' := ⟨fun a => nn_same r.h, fun a o e _ => r.h _ _ e, r.n⟩
theorem Fr.trans {σ : L2.St} {ρ ρ1 : Env} {G H G1 H1 G2 H2 : Hp} (a : Fr σ ρ G H G1 H1) (s : Sub σ ρ H ρ1 H1) (b : Fr σ ρ1 G1 H1 G2 H2) : Fr σ ρ G H G2 H2 := ⟨fun x h => b.nn x (a.nn x h), fun x o e n => b.fr x o (a.fr x o e n) fun j u w e1 e2 f => by
  obtain ⟨k, u', w', e3, e4, f'⟩ := s j u w x e1 e2 f
  exact n k u' w' e3 e4 f', fun x h g => b.gn x (a.nn x h) (a.gn x h g)⟩
def PoM (K : PySem.W.Frag) (G0 H0 : Hp) (M : Addr → Prop) (σ : L2.St) (ρ : Env) (QD : T → Env → Prop) (G H : Hp) (Q : VK) : Prop := ∀ t v ρ' G' H', QD t ρ' → Same G G' → Iv K G0 H0 M ρ' σ G' H' → Sub σ ρ H ρ' H' → Fr σ ρ G H G' H' → Vr K G' H' t v → (∀ b, Fp H' t v b → H b = none) → Q v H'
def LM (K : PySem.W.Frag) (te : TE) (de : Env → (T → Env → Prop) → Prop) : Prop := ∀ {G0 H0 : Hp} {M : Addr → Prop} {ρ : Env} {σ : L2.St} {G H : Hp} {QD : T → Env → Prop} {Q : VK}, Iv K G0 H0 M ρ σ G H → de ρ QD → PoM K G0 H0 M σ ρ QD G H Q → te σ H Q
def PoMA (K : PySem.W.Frag) (G0 H0 : Hp) (M : Addr → Prop) (σ : L2.St) (ρ : Env) (QD : List PyData → Env → Prop) (G H : Hp) (Q : List V → Hp → Prop) : Prop := ∀ xs vs ρ' G' H', QD xs ρ' → Same G G' → Iv K G0 H0 M ρ' σ G' H' → Sub σ ρ H ρ' H' → Fr σ ρ G H G' H' → DpAll K G' vs xs → Q vs H'
def LMA (K : PySem.W.Frag) (ta : TA) (de : Env → (List PyData → Env → Prop) → Prop) : Prop := ∀ {G0 H0 : Hp} {M : Addr → Prop} {ρ : Env} {σ : L2.St} {G H : Hp} {QD : List PyData → Env → Prop} {Q : List V → Hp → Prop}, Iv K G0 H0 M ρ σ G H → de ρ QD → PoMA K G0 H0 M σ ρ QD G H Q → ta σ H Q
def PoMT (K : PySem.W.Frag) (G0 H0 : Hp) (M : Addr → Prop) (σ : L2.St) (ρ : Env) (QD : Bool → Env → Prop) (G H : Hp) (Q : Bool → Hp → Prop) : Prop := ∀ c ρ' G' H', QD c ρ' → Same G G' → Iv K G0 H0 M ρ' σ G' H' → Sub σ ρ H ρ' H' → Fr σ ρ G H G' H' → Q c H'
def LMT (K : PySem.W.Frag) (te : TT) (de : Env → (Bool → Env → Prop) → Prop) : Prop := ∀ {G0 H0 : Hp} {M : Addr → Prop} {ρ : Env} {σ : L2.St} {G H : Hp} {QD : Bool → Env → Prop} {Q : Bool → Hp → Prop}, Iv K G0 H0 M ρ σ G H → de ρ QD → PoMT K G0 H0 M σ ρ QD G H Q → te σ H Q
section
variable {K : PySem.W.Frag} {ta tb tc te : TE} {da db dc de : Env → (T → Env → Prop) → Prop} {pa pb : Env → (T → Prop) → Prop} {tt tu : TT} {al : TA} {s1 s2 : TS} {d1 d2 : DS}
theorem sub_gr {G0 H0 G H : Hp} {M : Addr → Prop} {ρ : Env} {σ : L2.St} (x : Iv K G0 H0 M ρ σ G H) {H' G' : Hp} (r : Gr G H G' H') : Sub σ ρ H ρ H' := fun j u w b e1 e2 f => ⟨j, u, w, e1, e2, Fp.mono r (x.vr e1 e2) f⟩
theorem Sub.there {G0 H0 G H H' : Hp} {M : Addr → Prop} {ρ ρ' : Env} {σ : L2.St} (x : Iv K G0 H0 M ρ σ G H) (s : Sub σ ρ H ρ' H') {j : Nat} {u : T} {w : V} {b : Addr} (e1 : ρ'[j]? = some (some u)) (e2 : σ[j]? = some (some w)) (f : Fp H' u w b) : H b ≠ none := by
  obtain ⟨k, u', w', e3, e4, f'⟩ := s j u w b e1 e2 f
  exact (Fp.there (x.vr e3 e4) f').1
theorem PoM.next {G0 H0 G H G1 H1 : Hp} {M : Addr → Prop} {ρ ρ1 : Env} {σ : L2.St} {QD : T → Env → Prop} {Q : VK} (p : PoM K G0 H0 M σ ρ QD G H Q) (g : Same G G1) (s : Sub σ ρ H ρ1 H1) (n : Fr σ ρ G H G1 H1) : PoM K G0 H0 M σ ρ1 QD G1 H1 Q := fun t v ρ' G' H' q g' x' s' n' vr f =>
  p t v ρ' G' H' q (g.trans g') x' (s.trans s') (n.trans s n') vr fun b fb => by
    cases e : H b with
    | none => rfl
    | some o => exact absurd (f b fb) (n.nn b (nn_of e))
def mP (pa : Env → (T → Prop) → Prop) : Env → (T → Env → Prop) → Prop := fun ρ Q => pa ρ fun t => Q t ρ
theorem lm_p (h : LP K ta pa) : LM K ta (mP pa) := fun x q p => h x q fun t v G1 H1 qt r1 v1 f1 => p t v _ G1 H1 qt r1.g (x.mono r1) (sub_gr x r1) (fr_gr r1) v1 f1
/-- what a reading gives, frozen -/
theorem fz_iv {G0 H0 G H : Hp} {M : Addr → Prop} {ρ : Env} {σ : L2.St} {t : T} {v : V} (x : Iv K G0 H0 M ρ σ G H) (vt : Vr K G H t v) {Hs : Hp} (o : ∀ (j : Nat) (u : T) (w : V) (b : Addr), ρ[j]? = some (some u) → σ[j]? = some (some w) → Fp H u w b → Hs b ≠ none) (hs : ∀ a, Hs a = none → H0 a = none) (f : ∀ b, Fp H t v b → Hs b = none) : ∃ G2, Same G G2 ∧ Iv K G0 H0 M ρ σ G2 H ∧ Vr K G2 H t.fz v ∧ (∀ a, G2 a ≠ none → G a ≠ none ∨ Fp H t v a) := by
  obtain ⟨G2, g1, g2, g3, g4⟩ := Vr.fz x.gh vt
  have gn : ∀ {j : Nat} {u : T} {w : V} {b : Addr}, ρ[j]? = some (some u) → σ[j]? = some (some w) → Fp H u w b → G2 b = none := fun {j u w b} e1 e2 p => by
    cases q : G2 b with
    | none => rfl
    | some z =>
      rcases g3 b (nn_of q) with z | z
      · exact absurd (Fp.there (x.vr e1 e2) p).2 z
      · exact absurd (f b z) (o j u w b e1 e2 p)
  refine ⟨G2, g1, ⟨g2, x.g0.trans g1, fun a ga => ?_, x.up, x.mh, x.len, x.kd, fun i u e => ?_, x.own, x.dj⟩, g4, g3⟩
  · rcases g3 a ga with z | z
    · exact x.gf a z
    · exact .inr (hs a (f a z))
  · obtain ⟨w, h1, h2⟩ := x.sl i u e
    refine ⟨w, h1, ?_⟩
    cases u with
    | ob o r => exact o.loc h2 (fun _ _ => rfl) g1 fun b f => gn e h1 f
    | u => exact True.intro
    | g y => exact dp_same g1 h2
    | b ds =>
      obtain ⟨a, vs, r, p1, p2⟩ := h2
      exact ⟨a, vs, r, p1, dpAll_same g1 p2⟩
    | h y => exact h2
    | l ds =>
      obtain ⟨a, vs, rfl, p1, p2, p3⟩ := h2
      exact ⟨a, vs, rfl, p1, gn e h1 rfl, dpAll_same g1 p3⟩
    | p ds =>
      obtain ⟨a, vs, rfl, p1, p2, p3⟩ := h2
      exact ⟨a, vs, rfl, p1, gn e h1 rfl, dpAll_same g1 p3⟩
    | ll dss =>
      obtain ⟨a, as, rfl, p1, p2, p3, p4⟩ := h2
      refine ⟨a, as, rfl, p1, gn e h1 ⟨a, as, rfl, p1, .inl rfl⟩, p3, ?_⟩
      have gas : ∀ b ∈ as, G2 b = none := fun b hb => gn e h1 ⟨a, as, rfl, p1, .inr hb⟩
      clear p1 p3 e h1
      induction as generalizing dss with
      | nil => cases dss with
        | nil => exact True.intro
        | cons _ _ => exact p4.elim
      | cons b bs ih => cases dss with
        | nil => exact p4.elim
        | cons d r =>
          obtain ⟨⟨ws, q1, q2, q3⟩, q⟩ := p4
          exact ⟨⟨ws, q1, gas b (by simp), dpAll_same g1 q3⟩, ih r q fun c hc => gas c (List.mem_cons_of_mem _ hc)⟩
    | tt us =>
      obtain ⟨a, vs, as, rfl, p1, p2, p3, p4, p5, p6⟩ := h2
      exact ⟨a, vs, as, rfl, p1, gn e h1 ⟨a, vs, as, rfl, p1, p4, .inl rfl⟩, p3, p4, p5.mono g1, rows_gset g1 (fun b hb => gn e h1 ⟨a, vs, as, rfl, p1, p4, .inr hb⟩) p6⟩
/-- behind a reading: its thing frozen -/
theorem fz_after {G0 H0 G H G1 H1 : Hp} {M : Addr → Prop} {ρ ρ1 : Env} {σ : L2.St} {t : T} {v : V} (x : Iv K G0 H0 M ρ σ G H) (x1 : Iv K G0 H0 M ρ1 σ G1 H1) (s : Sub σ ρ H ρ1 H1) (n : Fr σ ρ G H G1 H1) (vt : Vr K G1 H1 t v) (f : ∀ b, Fp H1 t v b → H b = none) : ∃ G2, Same G1 G2 ∧ Iv K G0 H0 M ρ1 σ G2 H1 ∧ Vr K G2 H1 t.fz v ∧ Fr σ ρ G H G2 H1 := by
  obtain ⟨G2, g, y, v2, gf⟩ := fz_iv x1 vt (fun j u w b e1 e2 p => s.there x e1 e2 p) (fun a h => x.h0 h) f
  refine ⟨G2, g, y, v2, n.nn, n.fr, fun a ha ga => ?_⟩
  cases q : G2 a with
  | none => rfl
  | some o =>
    rcases gf a (nn_of q) with z | z
    · exact absurd (n.gn a ha ga) z
    · exact absurd (f a z) ha
def mOp (dr : DR) (da db : Env → (T → Env → Prop) → Prop) : Env → (T → Env → Prop) → Prop := fun ρ Q => da ρ fun t ρ1 => ∃ y, t.fz = .g y ∧ db ρ1 fun u ρ2 => dr (.g y) u fun z => Q z ρ2
theorem lm_op {r : R2} {dr : DR} (ha : LM K ta da) (hb : LM K tb db) (hr : OR K r dr) : LM K (tOp r ta tb) (mOp dr da db) := fun {G0 H0 M ρ σ G H QD Q} x q p =>
  ha x q fun t v ρ1 G1 H1 ⟨y, ey, qt⟩ g1 x1 s1 n1 v1 f1 => by
    obtain ⟨G2, g2, x2, v2, n2⟩ := fz_after x x1 s1 n1 v1 f1
    rw [ey] at v2
    have p2 := p.next (g1.trans g2) s1 n2
    exact hb x2 qt fun u w ρ3 G3 H3 qu g3 x3 s3 n3 v3 f3 => hr x3.gh (show Vr K G3 H3 (.g y) v from dp_same g3 v2) v3 qu fun z z' G4 H4 qz r4 v4 f4 =>
      (p2.next g3 s3 n3) z z' ρ3 G4 H4 qz r4.g (x3.mono r4) (sub_gr x3 r4) (fr_gr r4) v4 f4
def mNeg (da : Env → (T → Env → Prop) → Prop) : Env → (T → Env → Prop) → Prop := fun ρ Q => da ρ fun t ρ1 => ∃ i, t.rd = .int i ∧ Q (.g (.int (-i))) ρ1
theorem lm_neg (ha : LM K ta da) : LM K (tUn (rU fun i => .int (-i)) ta) (mNeg da) := fun {G0 H0 M ρ σ G H QD Q} x q p => ha x q fun t v ρ1 G1 H1 ⟨i, e, qt⟩ g1 x1 s1 n1 v1 f1 =>
  ⟨i, vr_int x1.gh v1 e, p (.g (.int (-i))) _ ρ1 G1 H1 qt g1 x1 s1 n1 (Dp.int _ : Dp K G1 _ _) fun _ f => f.elim⟩
def mTest (da : Env → (T → Env → Prop) → Prop) : Env → (Bool → Env → Prop) → Prop := fun ρ Q => da ρ fun t ρ1 => ∃ c, t.rd = .bool c ∧ Q c ρ1
theorem lmt_test (ha : LM K ta da) : LMT K (tTest ta) (mTest da) := fun x q p => ha x q fun t v ρ1 G1 H1 ⟨c, e, qt⟩ g1 x1 s1 n1 v1 f1 => ⟨c, vr_bl x1.gh v1 e, p c ρ1 G1 H1 qt g1 x1 s1 n1⟩
theorem lmt_tB (ha : LM K ta da) : LMT K (tB ta) (mTest da) := fun x q p => ha x q fun t v ρ1 G1 H1 ⟨c, e, qt⟩ g1 x1 s1 n1 v1 f1 => ⟨c, vr_bl x1.gh v1 e, p c ρ1 G1 H1 qt g1 x1 s1 n1⟩
theorem lmt_p {dt : Env → (Bool → Prop) → Prop} (h : LT K tt dt) : LMT K tt (fun ρ Q => dt ρ fun c => Q c ρ) := fun x q p => h x q fun c G1 H1 qc r1 => p c _ G1 H1 qc r1.g (x.mono r1) (sub_gr x r1) (fr_gr r1)
def mNot (dt : Env → (Bool → Env → Prop) → Prop) : Env → (Bool → Env → Prop) → Prop := fun ρ Q => dt ρ fun c ρ1 => Q (!c) ρ1
theorem lmt_not {dt : Env → (Bool → Env → Prop) → Prop} (h : LMT K tt dt) : LMT K (tNot tt) (mNot dt) := fun x q p => h x q fun c ρ1 G1 H1 qc g1 x1 s1 n1 => p (!c) ρ1 G1 H1 qc g1 x1 s1 n1
theorem PoMT.next {G0 H0 G H G1 H1 : Hp} {M : Addr → Prop} {ρ ρ1 : Env} {σ : L2.St} {QD : Bool → Env → Prop} {Q : Bool → Hp → Prop} (p : PoMT K G0 H0 M σ ρ QD G H Q) (g : Same G G1) (s : Sub σ ρ H ρ1 H1) (n : Fr σ ρ G H G1 H1) : PoMT K G0 H0 M σ ρ1 QD G1 H1 Q := fun c ρ' G' H' q g' x' s' n' =>
  p c ρ' G' H' q (g.trans g') x' (s.trans s') (n.trans s n')
def mAnd (dt du : Env → (Bool → Env → Prop) → Prop) : Env → (Bool → Env → Prop) → Prop := fun ρ Q => dt ρ fun c ρ1 => if c = true then du ρ1 Q else Q false ρ1
def mOr (dt du : Env → (Bool → Env → Prop) → Prop) : Env → (Bool → Env → Prop) → Prop := fun ρ Q => dt ρ fun c ρ1 => if c = true then Q true ρ1 else du ρ1 Q
theorem lmt_and {dt du : Env → (Bool → Env → Prop) → Prop} (h1 : LMT K tt dt) (h2 : LMT K tu du) : LMT K (tAnd tt tu) (mAnd dt du) := fun x q p => h1 x q fun c ρ1 G1 H1 qc g1 x1 s1 n1 => by
  cases c with
  | true => exact h2 x1 qc (p.next g1 s1 n1)
  | false => exact p false ρ1 G1 H1 qc g1 x1 s1 n1
theorem lmt_or {dt du : Env → (Bool → Env → Prop) → Prop} (h1 : LMT K tt dt) (h2 : LMT K tu du) : LMT K (tOr tt tu) (mOr dt du) := fun x q p => h1 x q fun c ρ1 G1 H1 qc g1 x1 s1 n1 => by
  cases c with
  | true => exact p true ρ1 G1 H1 qc g1 x1 s1 n1
  | false => exact h2 x1 qc (p.next g1 s1 n1)
/-! arguments, all frozen -/
def mANil : Env → (List PyData → Env → Prop) → Prop := fun ρ Q => Q [] ρ
def mACons (da : Env → (T → Env → Prop) → Prop) (dl : Env → (List PyData → Env → Prop) → Prop) : Env → (List PyData → Env → Prop) → Prop := fun ρ Q => da ρ fun t ρ1 => ∃ y, t.fz = .g y ∧ dl ρ1 fun ys ρ2 => Q (y :: ys) ρ2
theorem lma_nil : LMA K tNil mANil := fun x q p => p [] [] _ _ _ q (Same.refl _) x (fun j u w b e1 e2 f => ⟨j, u, w, e1, e2, f⟩) (Fr.refl _ _ _ _) .nil
theorem lma_cons {dl : Env → (List PyData → Env → Prop) → Prop} (ha : LM K ta da) (hl : LMA K al dl) : LMA K (tCons ta al) (mACons da dl) := fun x q p => ha x q fun t v ρ1 G1 H1 ⟨y, ey, qt⟩ g1 x1 s1 n1 v1 f1 => by
  obtain ⟨G2, g2, x2, v2, n2⟩ := fz_after x x1 s1 n1 v1 f1
  rw [ey] at v2
  exact hl x2 qt fun ys vs ρ3 G3 H3 qs g3 x3 s3 n3 d3 => p (y :: ys) (v :: vs) ρ3 G3 H3 qs ((g1.trans g2).trans g3) x3 (s1.trans s3) (n2.trans s1 n3) (.cons (dp_same g3 v2) d3)
theorem vrA_g {G H : Hp} : ∀ {vs : List V} {xs : List PyData}, DpAll K G vs xs → VrA K G H (xs.map .g) vs
  | _, _, .nil => True.intro
  | _, _, .cons a b => ⟨a, fun _ _ f => f, vrA_g b⟩
theorem PoMA.fin {G0 H0 G H G1 H1 : Hp} {M : Addr → Prop} {ρ ρ1 : Env} {σ : L2.St} {QD : T → Env → Prop} {Q : VK} (x1 : Iv K G0 H0 M ρ1 σ G1 H1) (p : PoM K G0 H0 M σ ρ QD G H Q) (g : Same G G1) (s : Sub σ ρ H ρ1 H1) (n : Fr σ ρ G H G1 H1) : Po K (fun t => QD t ρ1) G1 H1 Q := fun t v G' H' q r vr f =>
  (p.next g s n) t v ρ1 G' H' q r.g (x1.mono r) (sub_gr x1 r) (fr_gr r) vr f
def mTup (dl : Env → (List PyData → Env → Prop) → Prop) : Env → (T → Env → Prop) → Prop := fun ρ Q => dl ρ fun ys ρ1 => ys.length ≤ 16777216 ∧ Q (.g (.tuple ys)) ρ1
def mLst (dl : Env → (List PyData → Env → Prop) → Prop) : Env → (T → Env → Prop) → Prop := fun ρ Q => dl ρ fun ys ρ1 => ys.length ≤ 16777216 ∧ Q (.l ys) ρ1
theorem lm_tup {dl : Env → (List PyData → Env → Prop) → Prop} (h : LMA K al dl) : LM K (tTup al) (mTup dl) := fun {G0 H0 M ρ σ G H QD Q} x q p => h x q fun ys vs ρ1 G1 H1 ⟨z, qt⟩ g1 x1 s1 n1 d => ⟨r_small (by rw [dpAll_len d]; exact z), (PoMA.fin x1 p g1 s1 n1).tup x1.gh d qt⟩
theorem lm_lst {dl : Env → (List PyData → Env → Prop) → Prop} (h : LMA K al dl) : LM K (tLst al) (mLst dl) := fun {G0 H0 M ρ σ G H QD Q} x q p => h x q fun ys vs ρ1 G1 H1 ⟨z, qt⟩ g1 x1 s1 n1 d => ⟨r_small (by rw [dpAll_len d]; exact z), (PoMA.fin x1 p g1 s1 n1).lst x1.gh d qt⟩
def mCB (dr : DC) (dl : Env → (List PyData → Env → Prop) → Prop) : Env → (T → Env → Prop) → Prop := fun ρ Q => dl ρ fun ys ρ1 => dr (ys.map .g) fun t => Q t ρ1
theorem lm_cb {r : List V → Hp → VK → Prop} {dr : DC} {dl : Env → (List PyData → Env → Prop) → Prop} (h : LMA K al dl) (hr : OC K r dr) : LM K (tCB r al) (mCB dr dl) := fun {G0 H0 M ρ σ G H QD Q} x q p => h x q fun ys vs ρ1 G1 H1 qt g1 x1 s1 n1 d => hr x1.gh (vrA_g d) qt (PoMA.fin x1 p g1 s1 n1)
def mCal (c : List PyData → (T → Prop) → Prop) (dl : Env → (List PyData → Env → Prop) → Prop) : Env → (T → Env → Prop) → Prop := fun ρ Q => dl ρ fun ys ρ1 => c ys fun t => Q t ρ1
theorem lm_cal {c : List PyData → (T → Prop) → Prop} {E : XK} {dl : Env → (List PyData → Env → Prop) → Prop} (h : LMA K al dl) : LM K (tCal (spD K c) E al) (mCal c dl) := fun {G0 H0 M ρ σ G H QD Q} x q p => h x q fun ys vs ρ1 G1 H1 qt g1 x1 s1 n1 d => ⟨G1, ys, _, x1.gh, d, qt, PoMA.fin x1 p g1 s1 n1⟩
/-! a def that changes the list that is its first argument -/
structure GrM (p : Addr) (G H G' H' : Hp) : Prop where
  g : Same G G'
  h : Upto p H H'
  s : Same G' H'
  n : ∀ a, H a ≠ none → G a = none → G' a = none
def spM (K : PySem.W.Frag) (c : List PyData → List PyData → (T → List PyData → Prop) → Prop) : Sp := fun vs H Q _ => ∃ G p us ws dk xs QD, vs = .ref p :: us ∧ Same G H ∧ H p = some (.lst ws) ∧ G p = none ∧ DpAll K G ws dk ∧ DpAll K G us xs ∧ c dk xs QD ∧
  ∀ t v G' H' ws' dk', QD t dk' → GrM p G H G' H' → Vr K G' H' t v → (∀ b, Fp H' t v b → H b = none) → H' p = some (.lst ws') → DpAll K G' ws' dk' → Q v H'
def mCalM (i : Nat) (c : List PyData → List PyData → (T → List PyData → Prop) → Prop) (dl : Env → (List PyData → Env → Prop) → Prop) : Env → (T → Env → Prop) → Prop := fun ρ Q => IsMine i ρ ∧ dl ρ fun ys ρ1 => ∃ t ds, ρ1[i]? = some (some t) ∧ t.mine = some ds ∧ c ds ys fun z ds' => Q z (ρ1.set i (some (t.with ds')))
theorem rows_upto {G H G' H' : Hp} {p : Addr} (r : GrM p G H G' H') : ∀ {as : List Addr} {dss : List (List PyData)}, p ∉ as → Rows K G H as dss → Rows K G' H' as dss
  | [], [], _, _ => True.intro
  | b :: bs, d :: q, nas, ⟨⟨ws, p1, p2, p3⟩, q'⟩ => ⟨⟨ws, r.h _ _ (fun z => nas (by rw [z]; exact List.mem_cons_self)) p1, r.n _ (nn_of p1) p2, dpAll_same r.g p3⟩, rows_upto r (fun z => nas (List.mem_cons_of_mem _ z)) q'⟩
  | [], _ :: _, _, h => h.elim
  | _ :: _, [], _, h => h.elim
theorem ob_upto {G H G' H' : Hp} {p : Addr} (r : GrM p G H G' H') {o : Ob} {v : V} (h : o.vr K G H v) (n : ¬ o.fp H v p) : ∀ b, o.fp H v b → H' b = H b := fun b f => by
  have nb : b ≠ p := fun z => n (by rw [← z]; exact f)
  cases q : H b with
  | none => exact absurd q (o.there h f).1
  | some z => exact r.h _ _ nb q
theorem Vr.upto {G H G' H' : Hp} {p : Addr} (r : GrM p G H G' H') {t : T} {v : V} (h : Vr K G H t v) (k : t.slot = true) (n : ¬ Fp H t v p) : Vr K G' H' t v := by
  cases t with
  | g x => exact dp_same r.g h
  | b ds => exact Bool.noConfusion k
  | h x => exact Bool.noConfusion k
  | l ds =>
    obtain ⟨c, vs, rfl, h1, h2, h3⟩ := h
    exact ⟨c, vs, rfl, r.h _ _ (fun z => n (by rw [z]; exact rfl)) h1, r.n _ (nn_of h1) h2, dpAll_same r.g h3⟩
  | p ds =>
    obtain ⟨c, vs, rfl, h1, h2, h3⟩ := h
    exact ⟨c, vs, rfl, r.h _ _ (fun z => n (by rw [z]; exact rfl)) h1, r.n _ (nn_of h1) h2, dpAll_same r.g h3⟩
  | ll dss =>
    obtain ⟨c, as, rfl, h1, h2, h3, h4⟩ := h
    have nc : c ≠ p := fun z => n ⟨c, as, rfl, h1, .inl z.symm⟩
    have nas : p ∉ as := fun z => n ⟨c, as, rfl, h1, .inr z⟩
    refine ⟨c, as, rfl, r.h _ _ nc h1, r.n _ (nn_of h1) h2, h3, ?_⟩
    clear h1 h3 n k
    induction as generalizing dss with
    | nil => cases dss with
      | nil => exact True.intro
      | cons _ _ => exact h4.elim
    | cons b bs ih => cases dss with
      | nil => exact h4.elim
      | cons d q =>
        obtain ⟨⟨ws, p1, p2, p3⟩, q⟩ := h4
        have nb : b ≠ p := fun z => nas (by rw [z]; exact List.mem_cons_self)
        exact ⟨⟨ws, r.h _ _ nb p1, r.n _ (nn_of p1) p2, dpAll_same r.g p3⟩, ih _ q fun z => nas (List.mem_cons_of_mem _ z)⟩
  | tt us =>
    obtain ⟨c, vs, as, rfl, h1, h2, h3, h4, h5, h6⟩ := h
    have nc : c ≠ p := fun z => n ⟨c, vs, as, rfl, h1, h4, .inl z.symm⟩
    have nas : p ∉ as := fun z => n ⟨c, vs, as, rfl, h1, h4, .inr z⟩
    exact ⟨c, vs, as, rfl, r.h _ _ nc h1, r.n _ (nn_of h1) h2, h3, h4, h5.mono r.g, rows_upto r nas h6⟩
  | ob o q => exact o.loc h (ob_upto r h n) r.g fun b f => r.n _ (o.there h f).1 (o.there h f).2
  | u => exact Bool.noConfusion k
theorem Fp.upto {G H G' H' : Hp} {p : Addr} (r : GrM p G H G' H') {t : T} {v : V} {b : Addr} (h : Vr K G H t v) (n : ¬ Fp H t v p) (f : Fp H' t v b) : Fp H t v b := by
  cases t with
  | l ds => exact f
  | p ds => exact f
  | ll dss =>
    obtain ⟨c, as, rfl, h1, _⟩ := h
    obtain ⟨c', as', e, q1, q2⟩ := f
    cases e
    have nc : c ≠ p := fun z => n ⟨c, as, rfl, h1, .inl z.symm⟩
    rw [r.h _ _ nc h1] at q1
    exact ⟨c, as, rfl, h1, by rw [refs_inj (HO.lst.inj (Option.some.inj q1))]; exact q2⟩
  | tt us =>
    obtain ⟨c, vs, as, rfl, h1, h2, h3, h4, h5, h6⟩ := h
    obtain ⟨c', vs', as', e, q1, q2, q3⟩ := f
    cases e
    have nc : c ≠ p := fun z => n ⟨c, vs, as, rfl, h1, h4, .inl z.symm⟩
    rw [r.h _ _ nc h1] at q1
    cases HO.tup.inj (Option.some.inj q1)
    exact ⟨c, vs, as', rfl, h1, q2, q3⟩
  | ob o q => exact o.floc h (ob_upto r h n) f
  | u => exact f.elim
  | g x => exact f.elim
  | b x => exact f.elim
  | h x => exact f.elim
theorem Iv.upto {G0 H0 G H G' H' : Hp} {M : Addr → Prop} {σ : L2.St} {ρ : Env} (x : Iv K G0 H0 M ρ σ G H) {i : Nat} {t : T} {a : Addr} {ds es : List PyData} {ws : List V} (e : ρ[i]? = some (some t)) (f : σ[i]? = some (some (.ref a))) (m : t.mine = some ds) (r : GrM a G H G' H') (hw : H' a = some (.lst ws)) (d : DpAll K G' ws es) : Iv K G0 H0 M (ρ.set i (some (t.with es))) σ G' H' ∧ Sub σ ρ H (ρ.set i (some (t.with es))) H' := by
  have vr := x.vr e f
  obtain ⟨a', vs, ea, h1, h2, h3, h4, h5⟩ := mine_of vr m
  cases ea
  have ga : G' a = none := r.n a (nn_of h1) h2
  have hwv := with_vr (K := K) (H := H') (G := G') m hw ga d
  have others : ∀ {k : Nat} {u : T} {w : V}, k ≠ i → ρ[k]? = some (some u) → σ[k]? = some (some w) → ¬ Fp H u w a := fun {k u w} nk e1 e2 p => nk (x.dj k i u t w (.ref a) a e1 e e2 f p (h4 H))
  have am : M a ∨ H0 a = none := by
    have := x.own i t _ a e f (h4 H)
    cases hp : t.isP with
    | true =>
      rw [hp] at this
      exact .inl this
    | false =>
      rw [hp] at this
      exact .inr this
  refine ⟨⟨r.s, x.g0.trans r.g, fun b gb => ?_, fun b o nm eb => ?_, fun b mb => ?_, by rw [List.length_set, x.len], kdset x.kd (fun z => (Option.some.inj z) ▸ hwv.2.1), fun k u e1 => ?_, fun k u w b e1 e2 p => ?_, fun j k u u' w w' b e1 e2 e3 e4 p1 p2 => ?_⟩, fun j u w b e1 e2 p => ?_⟩
  · by_cases g : G b = none
    · right
      apply x.h0
      cases q : H b with
      | none => rfl
      | some o => exact absurd (r.n b (nn_of q) g) gb
    · exact x.gf b g
  · have nb : b ≠ a := fun z => by
      subst z
      rcases am with z | z
      · exact nm z
      · rw [z] at eb
        cases eb
    exact r.h _ _ nb (x.up b o nm eb)
  · by_cases z : b = a
    · rw [z, hw]
      exact fun z => nomatch z
    · cases q : H b with
      | none => exact absurd q (x.mh b mb)
      | some o =>
        rw [r.h _ _ z q]
        exact fun z => nomatch z
  · rcases set_at e1 with ⟨rfl, _, d1⟩ | ⟨ne, d1⟩
    · cases (Option.some.inj d1)
      exact ⟨.ref a, f, hwv.1⟩
    · obtain ⟨w, w1, w2⟩ := x.sl k u d1
      exact ⟨w, w1, w2.upto r (x.kd _ _ d1) (others ne d1 w1)⟩
  · rcases set_at e1 with ⟨rfl, _, d1⟩ | ⟨ne, d1⟩
    · cases (Option.some.inj d1)
      rw [f] at e2
      cases (Option.some.inj (Option.some.inj e2))
      rw [hwv.2.2.2 b p, hwv.2.2.1]
      exact x.own _ t _ a e f (h4 H)
    · exact x.own k u w b d1 e2 (Fp.upto r (x.vr d1 e2) (others ne d1 e2) p)
  · rcases set_at e1 with ⟨rfl, _, d1⟩ | ⟨ne, d1⟩
    · cases (Option.some.inj d1)
      rw [f] at e3
      cases (Option.some.inj (Option.some.inj e3))
      rcases set_at e2 with ⟨rfl, _, _⟩ | ⟨ne2, d2⟩
      · rfl
      · rw [hwv.2.2.2 b p1] at p2
        exact absurd (Fp.upto r (x.vr d2 e4) (others ne2 d2 e4) p2) (others ne2 d2 e4)
    · rcases set_at e2 with ⟨rfl, _, d2⟩ | ⟨ne2, d2⟩
      · cases (Option.some.inj d2)
        rw [f] at e4
        cases (Option.some.inj (Option.some.inj e4))
        rw [hwv.2.2.2 b p2] at p1
        exact absurd (Fp.upto r (x.vr d1 e3) (others ne d1 e3) p1) (others ne d1 e3)
      · exact x.dj j k u u' w w' b d1 d2 e3 e4 (Fp.upto r (x.vr d1 e3) (others ne d1 e3) p1) (Fp.upto r (x.vr d2 e4) (others ne2 d2 e4) p2)
  · rcases set_at e1 with ⟨rfl, _, d1⟩ | ⟨ne, d1⟩
    · cases (Option.some.inj d1)
      rw [f] at e2
      cases (Option.some.inj (Option.some.inj e2))
      exact ⟨j, t, _, e, f, by rw [hwv.2.2.2 b p]; exact h4 H⟩
    · exact ⟨j, u, w, d1, e2, Fp.upto r (x.vr d1 e2) (others ne d1 e2) p⟩
theorem GrM.nn {p : Addr} {G H G' H' : Hp} (r : GrM p G H G' H') {ws : List V} (hp : H' p = some (.lst ws)) (a : Addr) (h : H a ≠ none) : H' a ≠ none := by
  by_cases z : a = p
  · rw [z, hp]
    exact fun z => nomatch z
  · cases q : H a with
    | none => exact absurd q h
    | some o =>
      rw [r.h _ _ z q]
      exact fun z => nomatch z
theorem mine_fp {G H : Hp} {t : T} {a : Addr} {ds : List PyData} (h : Vr K G H t (.ref a)) (m : t.mine = some ds) : Fp H t (.ref a) a := by
  obtain ⟨a', vs, ea, _, _, _, h4, _⟩ := mine_of h m
  cases ea
  exact h4 H
theorem lm_calM {i : Nat} {c : List PyData → List PyData → (T → List PyData → Prop) → Prop} {E : XK} {dl : Env → (List PyData → Env → Prop) → Prop} (h : LMA K al dl) : LM K (tCal (spM K c) E (tCons (tVar i) al)) (mCalM i c dl) := fun {G0 H0 M ρ σ G H QD Q} x ⟨⟨t0, ds0, e0, m0⟩, q⟩ p => by
  obtain ⟨a, vs, f, h1, _⟩ := mine_at (G1 := G) (H1 := H) x e0 m0
  refine ⟨_, f, h x q fun ys us ρ1 G1 H1 ⟨t, ds, e, m, qt⟩ g1 x1 s1 n1 d => ?_⟩
  obtain ⟨a', ws, ea, h2, h3⟩ := slot_ref x1 e m f
  cases ea
  have ga : G1 a = none := by
    obtain ⟨a2, vs2, ea, _, h, _⟩ := mine_of (x1.vr e f) m
    cases ea
    exact h
  refine ⟨G1, a, us, ws, ds, ys, _, rfl, x1.gh, h2, ga, h3, d, qt, fun z v G' H' ws' dk' qz r vz fz hp dd => ?_⟩
  obtain ⟨x2, s2⟩ := x1.upto e f m r hp dd
  exact (p.next g1 s1 n1) z v _ G' H' qz r.g x2 s2 ⟨r.nn hp, fun b o eb no => r.h _ _ (fun z => no i t (.ref a) e f (by rw [z]; exact mine_fp (x1.vr e f) m)) eb, r.n⟩ vz fz
/-! ### statements with such readings -/
theorem lsm_next {G0 H0 G H : Hp} {M : Addr → Prop} {ρ : Env} {σ : L2.St} : True := True.intro
def sSet (i : Nat) (da : Env → (T → Env → Prop) → Prop) : DS := fun DD ρ => da ρ fun t ρ1 => (∃ d, t.fz = .g d ∧ DD.nx (ρ1.set i (some (.g d)))) ∨ (t.slot = true ∧ t.isP = false ∧ DD.nx (ρ1.set i (some t)))
theorem lsm_set {i : Nat} (ha : LM K ta da) : LS K (tAsg ta (gName i)) (sSet i da) := fun {G0 H0 M DD D ρ σ G H} E x q => ha x q fun t v ρ1 G1 H1 qt g1 x1 s1 n1 v1 f1 => by
  rcases qt with ⟨d, ed, q⟩ | ⟨h1, h2, q⟩
  · obtain ⟨G2, g2, x2, v2, n2⟩ := fz_after x x1 s1 n1 v1 f1
    rw [ed] at v2
    exact E.nx _ _ _ _ (x2.set0 rfl v2 fun _ f => f.elim) q
  · exact E.nx _ _ _ _ (x1.set h1 v1 fun b fb => ⟨by rw [h2]; exact x.h0 (f1 b fb), fun j u w _ e1 e2 p => s1.there x e1 e2 p (f1 b fb)⟩) q
def sAsg (da : Env → (T → Env → Prop) → Prop) (dg : PyData → Env → (Env → Prop) → Prop) : DS := fun DD ρ => da ρ fun t ρ1 => ∃ d, t.fz = .g d ∧ dg d ρ1 DD.nx
theorem lsm_asg {g : TG} {js : List Nat} {dg : PyData → Env → (Env → Prop) → Prop} (ha : LM K ta da) (hg : LG K g js dg) : LS K (tAsg ta g) (sAsg da dg) := fun {G0 H0 M DD D ρ σ G H} E x q => ha x q fun t v ρ1 G1 H1 ⟨d, ed, q⟩ g1 x1 s1 n1 v1 f1 => by
  obtain ⟨G2, g2, x2, v2, n2⟩ := fz_after x x1 s1 n1 v1 f1
  rw [ed] at v2
  exact hg x2 v2 q fun ρ' σ' q' x' _ _ => E.nx _ _ _ _ x' q'
def sRet (da : Env → (T → Env → Prop) → Prop) : DS := fun DD ρ => da ρ fun t ρ1 => (∃ d, t.fz = .g d ∧ DD.rt (.g d) ρ1) ∨ DD.rt t ρ1
theorem lsm_ret (ha : LM K ta da) : LS K (tRet ta) (sRet da) := fun {G0 H0 M DD D ρ σ G H} E x q => ha x q fun t v ρ1 G1 H1 qt g1 x1 s1 n1 v1 f1 => by
  rcases qt with ⟨d, ed, q⟩ | q
  · obtain ⟨G2, g2, x2, v2, n2⟩ := fz_after x x1 s1 n1 v1 f1
    rw [ed] at v2
    exact E.rt _ _ _ _ _ _ x2 v2 (fun _ f => f.elim) q
  · exact E.rt _ _ _ _ _ _ x1 v1 (fun b f => x.h0 (f1 b f)) q
def sIf (dt : Env → (Bool → Env → Prop) → Prop) (d1 d2 : DS) : DS := fun DD ρ => dt ρ fun c ρ1 => if c = true then d1 DD ρ1 else d2 DD ρ1
theorem lsm_if {dt : Env → (Bool → Env → Prop) → Prop} (ht : LMT K tt dt) (h1 : LS K s1 d1) (h2 : LS K s2 d2) : LS K (tIfS tt s1 s2) (sIf dt d1 d2) := fun {G0 H0 M DD D ρ σ G H} E x q => ht x q fun c ρ1 G1 H1 qc g1 x1 _ _ => by
  cases c with
  | true => exact h1 E x1 qc
  | false => exact h2 E x1 qc
def sDrop (da : Env → (T → Env → Prop) → Prop) : DS := fun DD ρ => da ρ fun _ ρ1 => DD.nx ρ1
theorem lsm_drop (ha : LM K ta da) : LS K (tDrop ta) (sDrop da) := fun {G0 H0 M DD D ρ σ G H} E x q => ha x q fun t v ρ1 G1 H1 qt _ x1 _ _ _ _ => E.nx _ _ _ _ x1 qt
/-- xs.append(e), e such a reading -/
def sApp (i : Nat) (da : Env → (T → Env → Prop) → Prop) : DS := fun DD ρ => IsMine i ρ ∧ da ρ fun t ρ1 => ∃ y u es, t.fz = .g y ∧ ρ1[i]? = some (some u) ∧ u.mine = some es ∧ es.length < 16777216 ∧ DD.nx (ρ1.set i (some (u.with (es ++ [y]))))
theorem lsm_app {i : Nat} (ha : LM K ta da) : LS K (tDrop (tBM K "list" rAppend (tVar i) (tCons ta tNil))) (sApp i da) := fun {G0 H0 M DD D ρ σ G H} E x ⟨⟨t0, ds0, e0, m0⟩, q⟩ => by
  obtain ⟨a, vs, f, h1, _⟩ := mine_at (G1 := G) (H1 := H) x e0 m0
  refine ⟨_, f, tyV_list (seq_of h1), ha x q fun t v ρ1 G1 H1 ⟨y, u, es, ey, e, m, z, qt⟩ g1 x1 s1 n1 v1 f1 => ?_⟩
  obtain ⟨G2, g2, x2, v2, n2⟩ := fz_after x x1 s1 n1 v1 f1
  rw [ey] at v2
  obtain ⟨a', ws, ea, h2, h3⟩ := slot_ref x2 e m f
  cases ea
  exact om_append (ts := [.g y]) (vs := [v]) x2.gh h2 h3 ⟨v2, fun _ _ f => f, True.intro⟩ ⟨y, rfl, z, qt⟩ fun ds' y' xs' v' q2 d1 _ => E.nx _ _ _ _ (x2.mut e f m d1) q2
def sIns (i : Nat) (da : Env → (T → Env → Prop) → Prop) (pb : Env → (T → Prop) → Prop) : DS := fun DD ρ => IsMine i ρ ∧ da ρ fun t ρ1 => pb ρ1 fun t2 => ∃ k y u es, t.rd = .int k ∧ t2.fz = .g y ∧ ρ1[i]? = some (some u) ∧ u.mine = some es ∧ es.length < 16777216 ∧ 0 ≤ k ∧ k < 2 ^ 63 ∧ DD.nx (ρ1.set i (some (u.with (es.take k.toNat ++ [y] ++ es.drop k.toNat))))
theorem lsm_ins {i : Nat} (ha : LM K ta da) (hb : LP K tb pb) : LS K (tDrop (tBM K "list" rInsert (tVar i) (tCons ta (tCons tb tNil)))) (sIns i da pb) := fun {G0 H0 M DD D ρ σ G H} E x ⟨⟨t0, ds0, e0, m0⟩, q⟩ => by
  obtain ⟨a, vs, f, h1, _⟩ := mine_at (G1 := G) (H1 := H) x e0 m0
  refine ⟨_, f, tyV_list (seq_of h1), ha x q fun t v ρ1 G1 H1 qt g1 x1 s1 n1 v1 f1 => hb x1 qt fun t2 v2 G2 H2 ⟨k, y, u, es, e1, e2, e, m, z, b1, b2, q⟩ r2 w2 f2 => ?_⟩
  obtain ⟨G3, r3, g3, w3⟩ := fz_post r2 w2 f2
  rw [e2] at w3
  have x3 := x1.mono r3
  obtain ⟨a', ws, ea, h2, h3⟩ := slot_ref x3 e m f
  cases ea
  exact ⟨a, ws, k, v2, rfl, by rw [vr_int x1.gh v1 e1], h2, r_smalll (by rw [dpAll_len h3]; exact z), b1, b2, E.nx _ _ _ _ (x3.mut e f m (dpAll_app (dpAll_app (dpAll_take _ h3) (.cons w3 .nil)) (dpAll_drop _ h3))) q⟩
end
end Dv

set_option Elab.async false
set_option linter.all false
set_option maxRecDepth 100000
set_option maxHeartbeats 4000000
namespace Dv
open PySem PySem.Spec PyProof.Rows L2 Px
section
variable {K : PySem.W.Frag} {ta tb tc te : TE} {da db dc de : Env → (T → Env → Prop) → Prop} {pa pb : Env → (T → Prop) → Prop} {tt tu : TT} {dt du : Env → (Bool → Env → Prop) → Prop} {al : TA} {s1 s2 : TS} {d1 d2 : DS}
/-! ### iterators whose making changes something -/
def LMI (K : PySem.W.Frag) (wi : TI) (di : Env → (Bool → List PyData → Env → Prop) → Prop) : Prop := ∀ {G0 H0 : Hp} {M : Addr → Prop} {ρ : Env} {σ : L2.St} {G H : Hp} {QD : Bool → List PyData → Env → Prop} {R : It → Hp → Prop}, Iv K G0 H0 M ρ σ G H → di ρ QD →
  (∀ st items J ρ' G' H', QD st items ρ' → Same G G' → Iv K G0 H0 M ρ' σ G' H' → Sub σ ρ H ρ' H' → Fr σ ρ G H G' H' → (st = true → ItG K J G' items) → ItH K J G' H' items → R J H') → wi σ H R
def iP (di : Env → (Bool → List PyData → Prop) → Prop) : Env → (Bool → List PyData → Env → Prop) → Prop := fun ρ Q => di ρ fun st items => Q st items ρ
theorem lmi_p {wi : TI} {di : Env → (Bool → List PyData → Prop) → Prop} (h : LI K wi di) : LMI K wi (iP di) := fun x q k => h x q fun st items J G1 H1 qs r1 a b => k st items J _ G1 H1 qs r1.g (x.mono r1) (sub_gr x r1) (fr_gr r1) a b
def mIRg1 (dl : Env → (List PyData → Env → Prop) → Prop) : Env → (Bool → List PyData → Env → Prop) → Prop := fun ρ Q => dl ρ fun ys ρ1 => ∃ j, ys = [.int j] ∧ -(2 ^ 62) ≤ j ∧ j < 2 ^ 62 ∧ Q true (rgD 0 j.toNat) ρ1
theorem lmi_rg1 {dl : Env → (List PyData → Env → Prop) → Prop} (h : LMA K al dl) : LMI K (iRng1 al) (mIRg1 dl) := fun {G0 H0 M ρ σ G H QD R} x q k => h x q fun ys vs ρ1 G1 H1 ⟨j, e, b1, b2, qt⟩ g1 x1 s1 n1 d => by
  subst e
  cases d with
  | cons a b =>
    cases b with
    | nil =>
      have ig : ItG K (Itr 0 j.toNat) G1 (rgD 0 j.toNat) := fun G' H' g s => itr_at s
      exact ⟨j, by rw [dp_int a], b1, b2, k true _ _ ρ1 G1 H1 qt g1 x1 s1 n1 (fun _ => ig) ig.h⟩
def mIList (da : Env → (T → Env → Prop) → Prop) : Env → (Bool → List PyData → Env → Prop) → Prop := fun ρ Q => da ρ fun t ρ1 => ∃ ds, t.fz = .g (.list ds) ∧ Q true ds ρ1
theorem lmi_list (ha : LM K ta da) : LMI K (iList K ta) (mIList da) := fun {G0 H0 M ρ σ G H QD R} x q k => ha x q fun t v ρ1 G1 H1 ⟨ds, e, qt⟩ g1 x1 s1 n1 v1 f1 => by
  obtain ⟨G2, g2, x2, v2, n2⟩ := fz_after x x1 s1 n1 v1 f1
  rw [e] at v2
  obtain ⟨a, xs, rfl, h1, h2⟩ := dp_lst (show Dp K G2 v (.list ds) from v2)
  have ig : ItG K (Itl K a) G2 ds := fun G' H' g s => itl_at s (s.seq (g.seq h1)) (dpAll_same g h2)
  exact ⟨a, rfl, ⟨xs, x2.gh.seq h1⟩, k true ds _ ρ1 G2 H1 qt (g1.trans g2) x2 s1 n2 (fun _ => ig) ig.h⟩
/-! ### loops over them -/
def sFor (di : Env → (Bool → List PyData → Env → Prop) → Prop) (dg : PyData → Env → (Env → Prop) → Prop) (db : DS) : DS := fun DD ρ => di ρ fun st items ρ1 => st = true ∧ ∃ Pv : Nat → Env → Prop, Pv 0 ρ1 ∧
  (∀ (i : Nat) (x : PyData) (ρ' : Env), items[i]? = some x → Pv i ρ' → dg x ρ' fun ρ2 => db ⟨Pv (i + 1), DD.rt, DD.nx, Pv (i + 1), DD.ex⟩ ρ2) ∧ ∀ ρ', Pv items.length ρ' → DD.nx ρ'
theorem lsm_for {wi : TI} {g : TG} {js : List Nat} {di : Env → (Bool → List PyData → Env → Prop) → Prop} {dg : PyData → Env → (Env → Prop) → Prop} (hi : LMI K wi di) (hg : LG K g js dg) (hb : LS K s1 d1) : LS K (tFor wi g s1) (sFor di dg d1) := fun {G0 H0 M DD D ρ0 σ G H} E x q => hi x q fun st items J ρ G1 H1 ⟨hst, Pv, p0, ps, pd⟩ _ x1 _ _ ig _ => by
  have ig := ig hst
  have E1 := E.rebase x1
  refine ⟨fun i m σ' H' => m = items.length - i ∧ i ≤ items.length ∧ ∃ ρ' G', Iv K G1 H0 M ρ' σ' G' H' ∧ Pv i ρ', ⟨items.length, by simp, Nat.zero_le _, ρ, G1, x1.rebase, p0⟩, ?_⟩
  rintro i m σ2 H2 ⟨rfl, hile, ρ2, G2, x2, p2⟩
  by_cases hlt : i < items.length
  · obtain ⟨go, yl⟩ := (ig G2 H2 x2.g0 x2.gh i).1 hlt
    refine .inr ⟨go, fun σ' H' => i + 1 ≤ items.length ∧ ∃ ρ' G', Iv K G1 H0 M ρ' σ' G' H' ∧ Pv (i + 1) ρ', fun σ' H' ⟨a, b⟩ => ⟨items.length - (i + 1), by omega, rfl, a, b⟩, fun y H3 hy => ?_⟩
    obtain ⟨G3, d, r3, ed, dy⟩ := yl y H3 hy
    refine hg (x2.mono r3) dy (ps i d ρ2 ed p2) fun ρ4 σ4 q4 x4 _ _ => hb (DD := ⟨Pv (i + 1), DD.rt, DD.nx, Pv (i + 1), DD.ex⟩) (D := { D with nx := fun σ' H' => i + 1 ≤ items.length ∧ ∃ ρ' G', Iv K G1 H0 M ρ' σ' G' H' ∧ Pv (i + 1) ρ', ct := fun σ' H' => i + 1 ≤ items.length ∧ ∃ ρ' G', Iv K G1 H0 M ρ' σ' G' H' ∧ Pv (i + 1) ρ', bk := D.nx }) ⟨fun ρ σ G H y m => ⟨hlt, ρ, G, y, m⟩, fun ρ σ G H y m => E1.nx _ _ _ _ y m, fun ρ σ G H y m => ⟨hlt, ρ, G, y, m⟩, E1.rt, E1.ex⟩ x4 q4
  · have e : i = items.length := by omega
    subst e
    exact .inl ⟨(ig G2 H2 x2.g0 x2.gh _).2 (Nat.le_refl _), E1.nx _ _ _ _ x2 (pd _ p2)⟩
/-! ### comprehensions that change something -/
theorem wipeE_none {ρ : Env} : ∀ {vs : List Nat} {i : Nat} {t : T}, (wipeE ρ vs)[i]? = some (some t) → i ∉ vs ∧ ρ[i]? = some (some t)
  | [], _, _, e => ⟨by simp, e⟩
  | v :: vs, i, t, e => by
    rcases set_at e with ⟨_, _, z⟩ | ⟨ne, e'⟩
    · cases z
    · obtain ⟨h1, h2⟩ := wipeE_none e'
      exact ⟨fun m => (List.mem_cons.mp m).elim ne h1, h2⟩
theorem Iv.cong {G0 H0 G H : Hp} {M : Addr → Prop} {ρ : Env} {σ τ : L2.St} (x : Iv K G0 H0 M ρ σ G H) (hl : τ.length = σ.length) (sl : ∀ (i : Nat) (t : T), ρ[i]? = some (some t) → σ[i]? = τ[i]?) : Iv K G0 H0 M ρ τ G H := by
  refine ⟨x.gh, x.g0, x.gf, x.up, x.mh, by rw [hl, x.len], x.kd, fun i t e => ?_, fun i t v b e f p => x.own i t v b e (by rw [sl i t e]; exact f) p, fun i j t u v w b e1 e2 f1 f2 p1 p2 => x.dj i j t u v w b e1 e2 (by rw [sl i t e1]; exact f1) (by rw [sl j u e2]; exact f2) p1 p2⟩
  obtain ⟨v, h1, h2⟩ := x.sl i t e
  exact ⟨v, by rw [← sl i t e]; exact h1, h2⟩
def mLc (di : Env → (Bool → List PyData → Env → Prop) → Prop) (dg : PyData → Env → (Env → Prop) → Prop) (dt : Env → (Bool → Env → Prop) → Prop) (de : Env → (T → Env → Prop) → Prop) (vs : List Nat) : Env → (T → Env → Prop) → Prop := fun ρ Q => di ρ fun st items ρ1 =>
  st = true ∧ items.length ≤ 1000000 ∧ ∃ Pv : Nat → List PyData → Env → Prop, Pv 0 [] (wipeE ρ1 vs) ∧
    (∀ (i : Nat) (x : PyData) (acc : List PyData) (ρ' : Env), items[i]? = some x → acc.length ≤ i → Pv i acc ρ' → dg x ρ' fun ρ2 => dt ρ2 fun c ρ3 => if c = true then de ρ3 fun t ρ4 => ∃ y, t.fz = .g y ∧ Pv (i + 1) (acc ++ [y]) (wipeE ρ4 vs) else Pv (i + 1) acc (wipeE ρ3 vs)) ∧
    ∀ acc ρ', Pv items.length acc ρ' → Q (.l acc) ρ'
theorem sub_wipe {σ : L2.St} {ρ ρ' : Env} {H H' : Hp} {vs : List Nat} (s : Sub σ ρ H ρ' H') : Sub σ ρ H (wipeE ρ' vs) H' := fun j u w b e1 e2 f => s j u w b (wipeE_none e1).2 e2 f
theorem wipe_at {σ : L2.St} {vs : List Nat} {i : Nat} (h : i ∉ vs) : (L2.wipe σ vs)[i]? = σ[i]? := wipe_out h
theorem wipe_wipe {σ : L2.St} {vs : List Nat} : wipe (wipe σ vs) vs = wipe σ vs := by
  have : ∀ (us : List Nat), (∀ u ∈ us, u ∈ vs) → wipe (wipe σ us) vs = wipe σ vs := by
    intro us
    induction us with
    | nil => intro _; rfl
    | cons u us ihu =>
      intro hu
      show wipe ((wipe σ us).set u none) vs = _
      rw [wipe_set (hu u (by simp)), ihu fun v hv => hu v (List.mem_cons_of_mem _ hv)]
  exact this vs fun _ h => h
theorem lm_lc {wi : TI} {g : TG} {js : List Nat} {vs : List Nat} {di : Env → (Bool → List PyData → Env → Prop) → Prop} {dg : PyData → Env → (Env → Prop) → Prop} (hi : LMI K wi di) (hg : LG K g js dg) (ht : LMT K tt dt) (he : LM K te de) (hj : js.all (vs.contains ·) = true) : LM K (tLc wi g tt te vs) (mLc di dg dt de vs) := fun {G0 H0 M ρ0 σ G H QD Q} x0 q p => hi x0 q fun st items J ρ G1 H1 ⟨hst, hlen, Pv, pz, ps, pd⟩ gg x1 s1 n1 ig _ => by
  have ig := ig hst
  have hj' : ∀ j ∈ js, j ∈ vs := fun j m => by
    have := List.all_eq_true.mp hj j m
    simpa using this
  intro D hD
  have xw : Iv K G0 H0 M (wipeE ρ vs) σ G1 H1 := by
    have h : ∀ (us : List Nat), Iv K G0 H0 M (wipeE ρ us) σ G1 H1 := fun us => by
      induction us with
      | nil => exact x1
      | cons u us ihu => exact ihu.drop u
    exact h vs
  let St : Nat → Hp → Prop := fun i H' => ∃ ρ' G' accV acc, Iv K G0 H0 M ρ' σ G' H' ∧ (∀ i t, ρ'[i]? = some (some t) → i ∉ vs) ∧ Same G1 G' ∧ (∀ b, Own ρ' σ H' b → Own (wipeE ρ vs) σ H1 b) ∧ Fr σ (wipeE ρ vs) G1 H1 G' H' ∧ G' D = none ∧ H' D = some (.lst accV) ∧ DpAll K G' accV acc ∧ acc.length ≤ i ∧ Pv i acc ρ'
  refine ⟨fun i m H' => m = items.length - i ∧ i ≤ items.length ∧ St i H',
    ⟨items.length, by simp, Nat.zero_le _, wipeE ρ vs, G1, [], [], xw.mono (.new xw.gh hD), fun i t e => (wipeE_none e).1, Same.refl _, fun b ⟨j, u, w, e1, e2, f⟩ => ⟨j, u, w, e1, e2, Fp.mono (.new xw.gh hD) (xw.vr e1 e2) f⟩, fr_gr (.new xw.gh hD), xw.gh.free hD, upd_same, .nil, Nat.zero_le _, pz⟩, ?_⟩
  rintro i m H2 ⟨rfl, hile, ρ2, G2, accV, acc, x2, nv2, g2, o2, n2, gD, eD, dA, hal, p2⟩
  have ownD : ∀ b, Own (wipeE ρ vs) σ H1 b → b ≠ D := fun b ⟨j, u, w, e1, e2, f⟩ z => (Fp.there (xw.vr e1 e2) f).1 (z ▸ hD)
  by_cases hlt : i < items.length
  · obtain ⟨go, yl⟩ := (ig G2 H2 g2 x2.gh i).1 hlt
    refine .inr ⟨go, fun H' => i + 1 ≤ items.length ∧ St (i + 1) H', fun H' ⟨a, b⟩ => ⟨items.length - (i + 1), by omega, rfl, a, b⟩, fun y H3 hy => ?_⟩
    obtain ⟨G3, d, r3, ed, dy⟩ := yl y H3 hy
    have x3 := x2.mono r3
    have x3w : Iv K G0 H0 M ρ2 (L2.wipe σ vs) G3 H3 := x3.cong (wipe_length _ _) fun i t e => (wipe_out (nv2 i t e)).symm
    have o3 : ∀ b, Own ρ2 (L2.wipe σ vs) H3 b → Own (wipeE ρ vs) σ H1 b := fun b ⟨j, u, w, e1, e2, f⟩ => by
      rw [wipe_out (nv2 j u e1)] at e2
      exact o2 b ⟨j, u, w, e1, e2, Fp.mono r3 (x2.vr e1 e2) f⟩
    refine hg x3w dy (ps i d acc ρ2 ed hal p2) fun ρ4 σ4 q4 x4 w4 o4 => ?_
    have w5 : wipe σ4 vs = wipe σ vs := (w4 vs hj').trans wipe_wipe
    have slot : ∀ {j : Nat}, j ∉ vs → σ4[j]? = σ[j]? := fun {j} nj => by
      rw [← wipe_out (σ := σ4) nj, w5, wipe_out nj]
    have hl4 : σ.length = σ4.length := by
      have := congrArg List.length w5
      rw [wipe_length, wipe_length] at this
      exact this.symm
    refine ⟨w5, ht x4 q4 fun c ρ5 G5 H5 qc g5 x5 s5 n5 => ?_⟩
    have o5 : ∀ b, Own ρ5 σ4 H5 b → Own (wipeE ρ vs) σ H1 b := fun b ⟨j, u, w, e1, e2, f⟩ => by
      obtain ⟨k, u', w', e3, e4, f'⟩ := s5 j u w b e1 e2 f
      exact o3 b (o4 b ⟨k, u', w', e3, e4, f'⟩)
    have no4 : ∀ {a : Addr}, (∀ b, Own (wipeE ρ vs) σ H1 b → b ≠ a) → ∀ (j : Nat) (u : T) (w : V), ρ4[j]? = some (some u) → σ4[j]? = some (some w) → ¬ Fp H3 u w a := fun {a} h j u w e1 e2 f => h a (o3 a (o4 a ⟨j, u, w, e1, e2, f⟩)) rfl
    have eD3 := r3.h _ _ eD
    have eD5 := n5.fr _ _ eD3 (no4 ownD)
    have gD3 := r3.n D (nn_of eD) gD
    have gD5 := n5.gn D (nn_of eD3) gD3
    have n15 : Fr σ (wipeE ρ vs) G1 H1 G5 H5 := ⟨fun a h => n5.nn a (nn_same r3.h (n2.nn a h)), fun a o e no => n5.fr a o (r3.h _ _ (n2.fr a o e no)) (no4 fun b ⟨j, u, w, e1, e2, f⟩ z => no j u w e1 e2 (z ▸ f)), fun a h g => n5.gn a (nn_same r3.h (n2.nn a h)) (r3.n a (n2.nn a h) (n2.gn a h g))⟩
    have finw : ∀ {ρ' : Env} {G' H' : Hp}, Iv K G0 H0 M ρ' σ4 G' H' → Iv K G0 H0 M (wipeE ρ' vs) σ G' H' := fun {ρ' G' H'} x => by
      have := x.wipe vs
      rw [w5] at this
      exact this.cong (wipe_length _ _).symm fun i t e => wipe_out (wipeE_none e).1
    have ownw : ∀ {ρ' : Env} {H' : Hp} {b : Addr}, Own (wipeE ρ' vs) σ H' b → Own ρ' σ4 H' b := fun {ρ' H' b} ⟨j, u, w, e1, e2, f⟩ => ⟨j, u, w, (wipeE_none e1).2, by rw [slot (wipeE_none e1).1]; exact e2, f⟩
    cases c with
    | false => exact ⟨hlt, wipeE ρ5 vs, G5, accV, acc, finw x5, fun i t e => (wipeE_none e).1, g2.trans (r3.g.trans g5), fun b h => o5 b (ownw h), n15, gD5, eD5, dpAll_same (r3.g.trans g5) dA, by omega, qc⟩
    | true =>
      refine he x5 qc fun t v ρ6 G6 H6 ⟨z, ez, pn⟩ g6 x6 s6 n6 v6 f6 => ?_
      obtain ⟨G7, g7, x7, v7, n7⟩ := fz_after x5 x6 s6 n6 v6 f6
      rw [ez] at v7
      have no5 : ∀ {a : Addr}, (∀ b, Own (wipeE ρ vs) σ H1 b → b ≠ a) → ∀ (j : Nat) (u : T) (w : V), ρ5[j]? = some (some u) → σ4[j]? = some (some w) → ¬ Fp H5 u w a := fun {a} h j u w e1 e2 f => h a (o5 a ⟨j, u, w, e1, e2, f⟩) rfl
      have o6 : ∀ b, Own ρ6 σ4 H6 b → Own (wipeE ρ vs) σ H1 b := fun b ⟨j, u, w, e1, e2, f⟩ => by
        obtain ⟨k, u', w', e3, e4, f'⟩ := s6 j u w b e1 e2 f
        exact o5 b ⟨k, u', w', e3, e4, f'⟩
      have eD6 := n7.fr _ _ eD5 (no5 ownD)
      have gD7 := n7.gn D (nn_of eD5) gD5
      have n17 : Fr σ (wipeE ρ vs) G1 H1 G7 H6 := ⟨fun a h => n7.nn a (n15.nn a h), fun a o e no => n7.fr a o (n15.fr a o e no) (no5 fun b ⟨j, u, w, e1, e2, f⟩ z => no j u w e1 e2 (z ▸ f)), fun a h g => n7.gn a (n15.nn a h) (n15.gn a h g)⟩
      have x8 := finw x7
      have notD : ∀ {j : Nat} {u : T} {w : V}, (wipeE ρ6 vs)[j]? = some (some u) → σ[j]? = some (some w) → ¬ Fp H6 u w D := fun {j u w} e1 e2 f => ownD D (o6 D (ownw ⟨j, u, w, e1, e2, f⟩)) rfl
      have x9 : Iv K G0 H0 M (wipeE ρ6 vs) σ G7 (upd H6 D (.lst (accV ++ [v]))) := by
        have h0D : H0 D = none := xw.h0 hD
        refine ⟨fun a u e => ?_, x8.g0, x8.gf, fun a o nm e => ?_, fun a m => ?_, x8.len, x8.kd, fun i t e => ?_, fun i t w b e f pf => x8.own i t w b e f (Fp.mut (x8.vr e f) (notD e f) pf), fun i j t u w w' b e1 e2 f1 f2 p1 p2 => x8.dj i j t u w w' b e1 e2 f1 f2 (Fp.mut (x8.vr e1 f1) (notD e1 f1) p1) (Fp.mut (x8.vr e2 f2) (notD e2 f2) p2)⟩
        · rw [upd_ne (ne_of_none e gD7)]
          exact x8.gh _ _ e
        · rw [upd_ne (ne_of_none e h0D)]
          exact x8.up a o nm e
        · by_cases za : a = D
          · rw [za, upd_same]
            exact fun z => nomatch z
          · rw [upd_ne za]
            exact x8.mh a m
        · obtain ⟨w, h1, h2⟩ := x8.sl i t e
          exact ⟨w, h1, h2.mut (x8.kd i t e) (notD e h1) gD7⟩
      refine ⟨accV, eD6, r_smalll ?_, hlt, wipeE ρ6 vs, G7, accV ++ [v], acc ++ [z], x9, fun i t e => (wipeE_none e).1, g2.trans (r3.g.trans (g5.trans (g6.trans g7))), fun b ⟨j, u, w, e1, e2, f⟩ => o6 b (ownw ⟨j, u, w, e1, e2, Fp.mut (x8.vr e1 e2) (notD e1 e2) f⟩), ⟨fun a h => ?_, fun a o e no => ?_, n17.gn⟩, gD7, upd_same, ?_, by rw [List.length_append]; simp; omega, pn⟩
      · have := dpAll_len dA
        omega
      · have za : a ≠ D := fun z => h (z ▸ hD)
        rw [upd_ne za]
        exact n17.nn a h
      · rw [upd_ne (ne_of_none e hD)]
        exact n17.fr a o e no
      · exact dpAll_app (dpAll_same (r3.g.trans (g5.trans (g6.trans g7))) dA) (.cons v7 .nil)
  · have e : i = items.length := by omega
    subst e
    refine .inl ⟨(ig G2 H2 g2 x2.gh _).2 (Nat.le_refl _), ?_⟩
    have sb : Sub σ ρ H1 ρ2 H2 := fun j u w b e1 e2 f => by
      obtain ⟨k, u', w', e3, e4, f'⟩ := o2 b ⟨j, u, w, e1, e2, f⟩
      exact ⟨k, u', w', (wipeE_none e3).2, e4, f'⟩
    have fr2 : Fr σ ρ G1 H1 G2 H2 := ⟨n2.nn, fun a o e no => n2.fr a o e fun j u w e1 e2 f => no j u w (wipeE_none e1).2 e2 f, n2.gn⟩
    exact (p.next gg s1 n1) (.l acc) _ ρ2 G2 H2 (pd acc ρ2 p2) g2 x2 sb fr2 ⟨D, accV, rfl, eD, gD, dA⟩ fun b fb => by
      cases (fb : V.ref D = V.ref b)
      exact hD
end
end Dv

set_option Elab.async false
set_option linter.all false
set_option maxRecDepth 100000
set_option maxHeartbeats 4000000
namespace Dv
open PySem PySem.Spec PyProof.Rows L2 Px
section
variable {K : PySem.W.Frag}
/-! ### a def that changes its first list -/
def startM (N : List Str) (dk xs : List PyData) : Env := some (.p dk) :: (xs.map (fun d => some (.g d)) ++ List.replicate (N.length - (xs.length + 1)) none)
theorem startM_iv {G H : Hp} {p : Addr} {us ws : List V} {dk xs : List PyData} (N : List Str) (s : Same G H) (h1 : H p = some (.lst ws)) (h2 : G p = none) (h3 : DpAll K G ws dk) (d : DpAll K G us xs) : Iv K G H (fun a => a = p) (startM N dk xs) (L2.start N (.ref p :: us)) G H := by
  have hl := dpAll_len d
  have ez : ∀ t, (startM N dk xs)[0]? = some (some t) → t = .p dk := fun t e => (Option.some.inj (Option.some.inj e)).symm
  have get : ∀ (i : Nat) (t : T), (startM N dk xs)[i + 1]? = some (some t) → ∃ y, t = .g y ∧ ∃ v, (L2.start N (.ref p :: us))[i + 1]? = some (some v) ∧ Dp K G v y := fun i t e => by
    have e : (xs.map (fun d => some (T.g d)) ++ List.replicate (N.length - (xs.length + 1)) none)[i]? = some (some t) := e
    show ∃ y, t = .g y ∧ ∃ v, (us.map some ++ List.replicate (N.length - (us.length + 1)) none)[i]? = some (some v) ∧ Dp K G v y
    rw [List.getElem?_append] at e
    rw [List.getElem?_append]
    by_cases hi : i < xs.length
    · rw [if_pos (by rw [List.length_map]; exact hi), List.getElem?_map, List.getElem?_eq_getElem hi] at e
      cases (Option.some.inj (Option.some.inj e))
      obtain ⟨v, q1, q2⟩ := dpAll_get d (List.getElem?_eq_getElem hi)
      exact ⟨_, rfl, v, by rw [if_pos (by rw [List.length_map, hl]; exact hi), List.getElem?_map, q1]; rfl, q2⟩
    · rw [if_neg (by rw [List.length_map]; exact hi), List.getElem?_replicate] at e
      split at e <;> cases e
  refine ⟨s, Same.refl _, fun a h => .inl h, fun _ _ _ h => h, fun a m => by rw [m]; exact nn_of h1, ?_, fun i t e => ?_, fun i t e => ?_, fun i t v b e f q => ?_, fun i j t u v w b e1 e2 _ _ q1 q2 => ?_⟩
  · unfold startM L2.start
    simp [hl]
  · cases i with
    | zero => rw [ez t e]
    | succ i =>
      obtain ⟨y, rfl, _⟩ := get i t e
      rfl
  · cases i with
    | zero =>
      rw [ez t e]
      exact ⟨.ref p, rfl, p, ws, rfl, h1, h2, h3⟩
    | succ i =>
      obtain ⟨y, rfl, v, q1, q2⟩ := get i t e
      exact ⟨v, q1, q2⟩
  · cases i with
    | zero =>
      cases ez t e
      have f0 : V.ref p = v := Option.some.inj (Option.some.inj f)
      subst f0
      exact (V.ref.inj q).symm
    | succ i =>
      obtain ⟨y, rfl, _⟩ := get i t e
      exact q.elim
  · cases i with
    | zero =>
      cases j with
      | zero => rfl
      | succ j =>
        obtain ⟨y, rfl, _⟩ := get j u e2
        exact q2.elim
    | succ i =>
      obtain ⟨y, rfl, _⟩ := get i t e1
      exact q1.elim
theorem run_defM {c : List PyData → List PyData → (T → List PyData → Prop) → Prop} {vs : List V} {H : Hp} {Q : VK} {E : XK} {ts : TS} {ds : DS} (N : List Str) (h : LS K ts ds) (hq : spM K c vs H Q E)
    (hd : ∀ dk xs QD, c dk xs QD → ds ⟨fun ρ => ∃ dk', ρ[0]? = some (some (.p dk')) ∧ QD (.g .none) dk', fun t ρ => ∃ dk', ρ[0]? = some (some (.p dk')) ∧ QD t dk', fun _ => False, fun _ => False, xp0⟩ (startM N dk xs)) : ts { nx := fun _ H' => Q .non H', rt := Q } (L2.start N vs) H := by
  obtain ⟨G, p, us, ws, dk, xs, QD, rfl, s, h1, h2, h3, d, hc, k⟩ := hq
  have fin : ∀ {ρ : Env} {σ : L2.St} {G1 H1 : Hp} {dk' : List PyData} {t : T} {v : V}, Iv K G H (fun a => a = p) ρ σ G1 H1 → ρ[0]? = some (some (.p dk')) → QD t dk' → Vr K G1 H1 t v → (∀ b, Fp H1 t v b → H b = none) → Q v H1 := fun {ρ σ G1 H1 dk' t v} y e q a b => by
    obtain ⟨w, e1, b', ws', rfl, q1, q2, q3⟩ := y.sl 0 _ e
    have hb : b' = p := y.own 0 _ _ b' e e1 rfl
    subst hb
    exact k t v G1 H1 ws' dk' q ⟨y.g0, fun a o na e => y.up a o na e, y.gh, fun a ha ga => by
      cases z : G1 a with
      | none => rfl
      | some o =>
        rcases y.gf a (nn_of z) with z | z
        · exact absurd ga z
        · exact absurd z ha⟩ a b q1 q3
  exact h (DD := ⟨fun ρ => ∃ dk', ρ[0]? = some (some (.p dk')) ∧ QD (.g .none) dk', fun t ρ => ∃ dk', ρ[0]? = some (some (.p dk')) ∧ QD t dk', fun _ => False, fun _ => False, xp0⟩) (D := { nx := fun _ H' => Q .non H', rt := Q }) ⟨fun ρ σ G1 H1 y ⟨dk', e, q⟩ => fin y e q (show Vr K G1 H1 (.g .none) .non from Dp.non) fun _ f => f.elim, fun _ _ _ _ _ z => (z : False).elim, fun _ _ _ _ _ z => (z : False).elim, fun ρ σ G1 H1 t v y a b ⟨dk', e, q⟩ => fin y e q a b, fun _ _ _ _ _ _ z => (z : False).elim⟩ (startM_iv N s h1 h2 h3 d) (hd dk xs QD hc)
def BodyM (K : PySem.W.Frag) (N : List Str) (c : List PyData → List PyData → (T → List PyData → Prop) → Prop) (t : TS) : Prop := ∃ d, LS K t d ∧ ∀ dk xs QD, c dk xs QD → d ⟨fun ρ => ∃ dk', ρ[0]? = some (some (.p dk')) ∧ QD (.g .none) dk', fun t ρ => ∃ dk', ρ[0]? = some (some (.p dk')) ∧ QD t dk', fun _ => False, fun _ => False, xp0⟩ (startM N dk xs)
theorem bodyM_of {N : List Str} {c : List PyData → List PyData → (T → List PyData → Prop) → Prop} {t : TS} {d : DS} (h : LS K t d) (q : ∀ dk xs QD, c dk xs QD → d ⟨fun ρ => ∃ dk', ρ[0]? = some (some (.p dk')) ∧ QD (.g .none) dk', fun t ρ => ∃ dk', ρ[0]? = some (some (.p dk')) ∧ QD t dk', fun _ => False, fun _ => False, xp0⟩ (startM N dk xs)) : BodyM K N c t := ⟨d, h, q⟩
theorem ok_defM {P : Program} {w : World} {mg : Str → Option Value} {base : Heap} {x qual : Str} {st : Stmt} {f : Addr} {fd : FuncData} {N ps : List Str} {k : Nat} {c : List PyData → List PyData → (T → List PyData → Prop) → Prop} (F : Fun K x qual st f fd) (S : FnScope N ps (defScope st)) (len : ∀ dk xs QD, c dk xs QD → xs.length + 1 = ps.length)
    (hbody : ∀ (cdv : Value) (A : Around) (outer : List PySem.Env) (s : Shared) (H : Hp) (E : XK), Room k (A.deeper (envOfC qual (defScope st) s.heap.objs.size f cdv)) →
      ∃ t, PSs (cxOf CX0 P w K mg base N qual (defScope st) f cdv A outer s H E).nox (defBody st) t ∧ BodyM K N c t) : FnOk P w K mg base CX0 (k + 1) f fd ps (spM K c) := by
  refine F.ok S (fun vs H Q E h => ?_) (fun cdv A outer s H vs Q E hr h => ?_)
  · obtain ⟨G, p, us, ws, dk, xs, QD, rfl, _, _, _, _, d, hc, _⟩ := h
    rw [List.length_cons, dpAll_len d, len dk xs QD hc]
  · obtain ⟨t, h1, d, h2, h3⟩ := hbody cdv A outer s H E hr
    exact ⟨t, h1, run_defM N h2 h h3⟩
/-! ### lists of ints -/
abbrev inD (ns : List Int) : List PyData := ns.map PyData.int
theorem dpAll_inD {H : Hp} : ∀ {vs : List V} {ns : List Int}, DpAll K H vs (inD ns) → vs = intL ns
  | [], [], _ => rfl
  | _, n :: ns, .cons a b => by
    rw [dp_int a, dpAll_inD b]
    rfl
theorem dp_inD {H : Hp} {v : V} {ns : List Int} (h : Dp K H v (.list (inD ns))) : ∃ a, v = .ref a ∧ SqL K H a (intL ns) := by
  obtain ⟨a, xs, r, h1, h2⟩ := dp_lst h
  rw [dpAll_inD h2] at h1
  exact ⟨a, r, h1⟩
theorem dpAll_of_ints {H : Hp} : ∀ ns : List Int, DpAll K H (intL ns) (inD ns)
  | [] => .nil
  | n :: r => .cons (.int n) (dpAll_of_ints r)
theorem gr_same {G H H' : Hp} (s : Same G H) (h : Same H H') : Gr G H G H' := ⟨Same.refl _, h, s.trans h, fun _ _ g => g⟩
/-- a new list of ints -/
theorem Po.ints {QD : T → Prop} {G H H' : Hp} {Q : VK} {r : Addr} {ns : List Int} (p : Po K QD G H Q) (s : Same G H) (h : H r = none) (sm : Same H H') (e : H' r = some (.lst (intL ns))) (q : QD (.l (inD ns))) : Q (.ref r) H' :=
  p (.l (inD ns)) (.ref r) G H' q (gr_same s sm) ⟨r, _, rfl, e, s.free h, dpAll_of_ints ns⟩ fun b f => by
    cases (f : V.ref r = V.ref b)
    exact h
end
/-! ### step by step -/
section
variable {ρ : Env} {Q : T → Prop} {QB : Bool → Prop} {QL : List T → Prop} {i j : Nat} {x y : PyData} {t u : T} {ts : List T} {ds es xs : List PyData} {dss : List (List PyData)} {pa pb pc : Env → (T → Prop) → Prop} {dt du : Env → (Bool → Prop) → Prop} {dl : Env → (List T → Prop) → Prop} {dr dr' : DR} {dc : DC} {d1 d2 : DS} {n b ct : Env → Prop} {rt : T → Env → Prop}
theorem w_varG (h : ρ[i]? = some (some (.g x))) (q : Q (.g x)) : dVar i ρ Q := ⟨_, h, q⟩
theorem w_varL (h : ρ[i]? = some (some (.l ds))) (q : Q (.b ds)) : dVar i ρ Q := ⟨_, h, q⟩
theorem w_varP (h : ρ[i]? = some (some (.p ds))) (q : Q (.b ds)) : dVar i ρ Q := ⟨_, h, q⟩
theorem w_varLL (h : ρ[i]? = some (some (.ll dss))) (q : Q (.h (.list (dss.map .list)))) : dVar i ρ Q := ⟨_, h, q⟩
theorem w_varTT {us : List TI1} (h : ρ[i]? = some (some (.tt us))) (q : Q (.h (.tuple (us.map TI1.rd)))) : dVar i ρ Q := ⟨_, h, q⟩
theorem w_C (q : Q (.g x)) : dC x ρ Q := q
theorem w_op (q : pa ρ fun t => pb ρ fun u => dr t u Q) : dOp dr pa pb ρ Q := q
theorem w_I0 {gd : Int → Int → PyData} {k m : Int} (q : Q (.g (gd k m))) : dI0 gd (.g (.int k)) (.g (.int m)) Q := ⟨k, m, rfl, rfl, q⟩
theorem w_I {C : Int → Int → Prop} {gd : Int → Int → PyData} {k m : Int} (q : Q (.g (gd k m))) (hc : C k m) : dI C gd (.g (.int k)) (.g (.int m)) Q := ⟨k, m, rfl, rfl, hc, q⟩
theorem w_eqI {k m : Int} (q : Q (.g (.bool (decide (k = m))))) : dEq (.g (.int k)) (.g (.int m)) Q := ⟨rfl, q⟩
theorem w_neI {k m : Int} (q : Q (.g (.bool (!decide (k = m))))) : dNe (.g (.int k)) (.g (.int m)) Q := ⟨rfl, q⟩
theorem w_eqB {k m : Bool} (q : Q (.g (.bool (decide (k = m))))) : dEq (.g (.bool k)) (.g (.bool m)) Q := ⟨rfl, q⟩
theorem w_neB {k m : Bool} (q : Q (.g (.bool (!decide (k = m))))) : dNe (.g (.bool k)) (.g (.bool m)) Q := ⟨rfl, q⟩
theorem w_eqS {k m : Str} (q : Q (.g (.bool (decide (k = m))))) : dEq (.g (.str k)) (.g (.str m)) Q := ⟨rfl, q⟩
theorem w_neS {k m : Str} (q : Q (.g (.bool (!decide (k = m))))) : dNe (.g (.str k)) (.g (.str m)) Q := ⟨rfl, q⟩
theorem w_eqI1 {k : Int} (q : Q (.g (.bool true))) : dEq (.g (.int k)) (.g (.int k)) Q := ⟨rfl, by simpa [eqF] using q⟩
theorem w_neI1 {k : Int} (q : Q (.g (.bool false))) : dNe (.g (.int k)) (.g (.int k)) Q := ⟨rfl, by simpa [eqF] using q⟩
theorem w_eqB1 {k : Bool} (q : Q (.g (.bool true))) : dEq (.g (.bool k)) (.g (.bool k)) Q := ⟨rfl, by simpa [eqF] using q⟩
theorem w_neB1 {k : Bool} (q : Q (.g (.bool false))) : dNe (.g (.bool k)) (.g (.bool k)) Q := ⟨rfl, by simpa [eqF] using q⟩
theorem w_eqS1 {k : Str} (q : Q (.g (.bool true))) : dEq (.g (.str k)) (.g (.str k)) Q := ⟨rfl, by simpa [eqF] using q⟩
theorem w_neS1 {k : Str} (q : Q (.g (.bool false))) : dNe (.g (.str k)) (.g (.str k)) Q := ⟨rfl, by simpa [eqF] using q⟩
theorem w_eqF (h : scD t.rd u.rd = true) (q : Q (.g (.bool (eqF t.rd u.rd)))) : dEq t u Q := ⟨h, q⟩
theorem w_isN (n : t.dat = true) (q : Q (.g (.bool (eqF t.rd .none)))) : dIsN t (.g .none) Q := ⟨n, rfl, q⟩
theorem w_notN (n : t.dat = true) (q : Q (.g (.bool (!eqF t.rd .none)))) : dNotN t (.g .none) Q := ⟨n, rfl, q⟩
theorem w_neg {pa : Env → (T → Prop) → Prop} (q : pa ρ fun t => ∃ i, t.rd = .int i ∧ Q (.g (.int (-i)))) : dNeg pa ρ Q := q
theorem w_int {k : Int} {QI : Int → Prop} (q : QI k) : ∃ k', (T.g (.int k)).rd = .int k' ∧ QI k' := ⟨k, rfl, q⟩
theorem w_test (q : pa ρ fun t => ∃ c, t.rd = .bool c ∧ QB c) : dTest pa ρ QB := q
theorem w_bl {c : Bool} {QC : Bool → Prop} (q : QC c) : ∃ c', (T.g (.bool c)).rd = .bool c' ∧ QC c' := ⟨c, rfl, q⟩
theorem w_and (q : dt ρ fun c => if c = true then du ρ QB else QB false) : dAnd dt du ρ QB := q
theorem w_or (q : dt ρ fun c => if c = true then QB true else du ρ QB) : dOr dt du ρ QB := q
theorem w_not (q : dt ρ fun c => QB (!c)) : dNot dt ρ QB := q
theorem w_andV (q : pa ρ fun t => ∃ c, t.rd = .bool c ∧ if c = true then pb ρ Q else Q (.g (.bool false))) : dAndV pa pb ρ Q := q
theorem w_orV (q : pa ρ fun t => ∃ c, t.rd = .bool c ∧ if c = true then Q (.g (.bool true)) else pb ρ Q) : dOrV pa pb ρ Q := q
theorem w_notV (q : pa ρ fun t => ∃ c, t.rd = .bool c ∧ Q (.g (.bool (!c)))) : dNotV pa ρ Q := q
theorem w_ifE (q : dt ρ fun c => if c = true then pa ρ Q else pb ρ Q) : dIf dt pa pb ρ Q := q
theorem w_chain (q : pa ρ fun t => pb ρ fun u => dr t u fun z => ∃ k, z.rd = .bool k ∧ if k = true then pc ρ fun w => dr' u.bor w Q else Q (.g (.bool false))) : dChain dr dr' pa pb pc ρ Q := q
theorem w_anil (q : QL []) : dANil ρ QL := q
theorem w_acons (q : pa ρ fun t => dl ρ fun ts => QL (t.fz :: ts)) : dACons pa dl ρ QL := q
theorem w_tup (q : dl ρ fun ts => ∃ xs, stab ts = some xs ∧ xs.length ≤ 16777216 ∧ Q (.g (.tuple xs))) : dTup dl ρ Q := q
theorem w_lst (q : dl ρ fun ts => ∃ xs, stab ts = some xs ∧ xs.length ≤ 16777216 ∧ Q (.l xs)) : dLst dl ρ Q := q
theorem w_st {R : List PyData → Prop} (h : stab ts = some xs) (z : xs.length ≤ 16777216) (q : R xs) : ∃ xs, stab ts = some xs ∧ xs.length ≤ 16777216 ∧ R xs := ⟨xs, h, z, q⟩
theorem w_cb (q : dl ρ fun ts => dc ts Q) : dCB dc dl ρ Q := q
theorem w_len (h : seqD t.rd = some ds) (q : Q (.g (.int (ds.length : Nat)))) : dLen [t] Q := ⟨t, ds, rfl, h, q⟩
theorem w_list (h : t.el = some ds) (q : Q (.l ds)) : dListOf [t] Q := ⟨t, ds, rfl, h, q⟩
theorem w_tuple (h : t.el = some ds) (q : Q (.g (.tuple ds))) : dTupOf [t] Q := ⟨t, ds, rfl, .inl ⟨h, q⟩⟩
theorem w_tupleS (h : t.rd = .list ds) (sc : ds.all scalD = true) (q : Q (.g (.tuple ds))) : dTupOf [t] Q := ⟨t, ds, rfl, .inr ⟨h, sc, q⟩⟩
theorem w_cal {c : List PyData → (T → Prop) → Prop} (q : dl ρ fun ts => (∃ xs, stab ts = some xs ∧ c xs Q) ∨ (ts.all T.dat = true ∧ c (ts.map T.rd) fun t => scT t = true ∧ Q t)) : dCal c dl ρ Q := q
theorem w_calG {c : List PyData → (T → Prop) → Prop} (h : stab ts = some xs) (q : c xs Q) : (∃ xs, stab ts = some xs ∧ c xs Q) ∨ (ts.all T.dat = true ∧ c (ts.map T.rd) fun t => scT t = true ∧ Q t) := .inl ⟨xs, h, q⟩
theorem w_calR {c : List PyData → (T → Prop) → Prop} (n : ts.all T.dat = true) (q : c (ts.map T.rd) fun t => scT t = true ∧ Q t) : (∃ xs, stab ts = some xs ∧ c xs Q) ∨ (ts.all T.dat = true ∧ c (ts.map T.rd) fun t => scT t = true ∧ Q t) := .inr ⟨n, q⟩
theorem w_ixL {k : Int} (h : t.elL = some ds) (e : atI ds k = some x) (q : Q (.g x)) : dIxL t (.g (.int k)) Q := .inl ⟨ds, k, x, h, rfl, e, q⟩
theorem w_ixH {k : Int} (h : t.rd = .list ds) (e : atI ds k = some x) (q : Q (.h x)) : dIxL t (.g (.int k)) Q := .inr ⟨ds, k, x, h, rfl, e, q⟩
theorem w_ixT {k : Int} (h : t.elT = some ds) (e : atI ds k = some x) (q : Q (.g x)) : dIxT t (.g (.int k)) Q := .inl ⟨ds, k, x, h, rfl, e, q⟩
theorem w_ixTH {k : Int} (h : t.rd = .tuple ds) (e : atI ds k = some x) (q : Q (.h x)) : dIxT t (.g (.int k)) Q := .inr ⟨ds, k, x, h, rfl, e, q⟩
theorem w_cat (h1 : t.own = some ds) (h2 : u.own = some es) (z : ds.length + es.length ≤ 16777216) (q : Q (.l (ds ++ es))) : dCat t u Q := ⟨ds, es, h1, h2, z, q⟩
theorem w_sl {dr : DS3} {dlo dhi : Env → (Option Int → Prop) → Prop} (q : pa ρ fun t => dlo ρ fun lo => dhi ρ fun hi => dr t lo hi Q) : dSl dr pa dlo dhi ρ Q := q
theorem w_noPart {QO : Option Int → Prop} (q : QO none) : dNoPart ρ QO := q
theorem w_part {QO : Option Int → Prop} (q : pa ρ fun t => ∃ i, t.rd = .int i ∧ QO (some i)) : dPart pa ρ QO := q
theorem w_slL {lo hi : Option Int} (h : t.elL = some ds) (q : Q (.l (cutD ds lo hi))) : dSlL t lo hi Q := ⟨ds, h, q⟩
/-! statements -/
def SetK (i : Nat) (ρ : Env) (n : Env → Prop) (t : T) : Prop := (∃ d, t.fz = .g d ∧ n (ρ.set i (some (.g d)))) ∨ (t.slot = true ∧ t.isP = false ∧ n (ρ.set i (some t)))
def RetK (ρ : Env) (rt : T → Env → Prop) (t : T) : Prop := (∃ d, t.fz = .g d ∧ rt (.g d) ρ) ∨ rt t ρ
theorem w_seq (q : d1 ⟨fun ρ' => ∃ ρ'', Fz ρ' ρ'' ∧ d2 ⟨n, rt, b, ct, ex⟩ ρ'', rt, b, ct, ex⟩ ρ) : dSeq d1 d2 ⟨n, rt, b, ct, ex⟩ ρ := q
theorem w_same {D : DE} (q : d2 D ρ) : ∃ ρ'', Fz ρ ρ'' ∧ d2 D ρ'' := ⟨ρ, .refl ρ, q⟩
theorem w_fz {D : DE} {ρ' : Env} (i : Nat) (t : T) (h : ρ[i]? = some (some t)) (hp : t.nfz = false) (e : ρ.set i (some t.fz) = ρ') (q : ∃ ρ'', Fz ρ' ρ'' ∧ d2 D ρ'') : ∃ ρ'', Fz ρ ρ'' ∧ d2 D ρ'' := by
  subst e
  obtain ⟨r, f, q⟩ := q
  exact ⟨r, .fz i t h hp f, q⟩
theorem w_next (q : n ρ) : dNext ⟨n, rt, b, ct, ex⟩ ρ := q
theorem w_set (q : pa ρ fun t => SetK i ρ n t) : dSet i pa ⟨n, rt, b, ct, ex⟩ ρ := q
theorem w_setG (q : n (ρ.set i (some (.g x)))) : SetK i ρ n (.g x) := .inl ⟨x, rfl, q⟩
theorem w_setF (q : n (ρ.set i (some (.g (.list ds))))) : SetK i ρ n (.l ds) := .inl ⟨_, rfl, q⟩
theorem w_setO (q : n (ρ.set i (some (.l ds)))) : SetK i ρ n (.l ds) := .inr ⟨rfl, rfl, q⟩
theorem w_setLL (q : n (ρ.set i (some (.ll dss)))) : SetK i ρ n (.ll dss) := .inr ⟨rfl, rfl, q⟩
theorem w_setTT {us : List TI1} (q : n (ρ.set i (some (.tt us)))) : SetK i ρ n (.tt us) := .inr ⟨rfl, rfl, q⟩
theorem w_setTF {us : List TI1} (q : n (ρ.set i (some (.g (.tuple (us.map TI1.rd)))))) : SetK i ρ n (.tt us) := .inl ⟨_, rfl, q⟩
theorem w_setO0 (q : n (ρ.set i (some (.l [])))) : SetK i ρ n (.l []) := .inr ⟨rfl, rfl, q⟩
theorem w_asg {dg : PyData → Env → (Env → Prop) → Prop} (q : pa ρ fun t => ∃ d, t.fz = .g d ∧ dg d ρ n) : dAsg pa dg ⟨n, rt, b, ct, ex⟩ ρ := q
theorem w_fzG {R : PyData → Prop} (q : R x) : ∃ d, (T.g x).fz = .g d ∧ R d := ⟨x, rfl, q⟩
theorem w_fzL {R : PyData → Prop} (q : R (.list ds)) : ∃ d, (T.l ds).fz = .g d ∧ R d := ⟨_, rfl, q⟩
theorem w_gname {QE : Env → Prop} (q : QE (ρ.set i (some (.g x)))) : dName i x ρ QE := q
theorem w_gnil {QE : Env → Prop} (q : QE ρ) : dGNil [] ρ QE := ⟨rfl, q⟩
theorem w_gcons {dg : PyData → Env → (Env → Prop) → Prop} {dgs : List PyData → Env → (Env → Prop) → Prop} {r : List PyData} {QE : Env → Prop} (q : dg x ρ fun ρ' => dgs r ρ' QE) : dGCons dg dgs (x :: r) ρ QE := ⟨x, r, rfl, q⟩
theorem w_gtup {m : Nat} {dgs : List PyData → Env → (Env → Prop) → Prop} {QE : Env → Prop} (z : xs.length = m) (q : dgs xs ρ QE) : dGTup m dgs (.tuple xs) ρ QE := ⟨xs, rfl, z, q⟩
theorem w_ret (q : pa ρ fun t => RetK ρ rt t) : dRet pa ⟨n, rt, b, ct, ex⟩ ρ := q
theorem w_retG (q : rt (.g x) ρ) : RetK ρ rt (.g x) := .inr q
theorem w_retB (q : rt (.b ds) ρ) : RetK ρ rt (.b ds) := .inr q
theorem w_retO (q : rt (.l ds) ρ) : RetK ρ rt (.l ds) := .inr q
theorem w_retTT {us : List TI1} (q : rt (.tt us) ρ) : RetK ρ rt (.tt us) := .inr q
theorem w_retF (q : rt (.g (.list ds)) ρ) : RetK ρ rt (.l ds) := .inl ⟨_, rfl, q⟩
theorem w_retVG (h : ρ[i]? = some (some (.g x))) (q : rt (.g x) ρ) : dRetV i ⟨n, rt, b, ct, ex⟩ ρ := ⟨_, h, rfl, .inr q⟩
theorem w_retVL (h : ρ[i]? = some (some (.l ds))) (q : rt (.l ds) ρ) : dRetV i ⟨n, rt, b, ct, ex⟩ ρ := ⟨_, h, rfl, .inr q⟩
theorem w_retVF (h : ρ[i]? = some (some (.l ds))) (q : rt (.g (.list ds)) (ρ.set i (some (.g (.list ds))))) : dRetV i ⟨n, rt, b, ct, ex⟩ ρ := ⟨_, h, rfl, .inl ⟨_, rfl, q⟩⟩
theorem w_ifS (q : dt ρ fun c => if c = true then d1 ⟨n, rt, b, ct, ex⟩ ρ else d2 ⟨n, rt, b, ct, ex⟩ ρ) : dIfS dt d1 d2 ⟨n, rt, b, ct, ex⟩ ρ := q
theorem w_drop (q : pa ρ fun _ => n ρ) : dDrop pa ⟨n, rt, b, ct, ex⟩ ρ := q
theorem w_aug {f : Int → Int → Int} {k : Int} (h : ρ[i]? = some (some (.g (.int k)))) (q : pa ρ fun t => ∃ m, t.rd = .int m ∧ n (ρ.set i (some (.g (.int (f k m)))))) : dAug i f pa ⟨n, rt, b, ct, ex⟩ ρ := ⟨k, h, q⟩
theorem w_giveG (h : ρ[j]? = some (some (.g x))) (q : n (ρ.set i (some (.g x)))) : dGive i j ⟨n, rt, b, ct, ex⟩ ρ := .inl ⟨x, h, q⟩
theorem w_giveL (ne : i ≠ j) (h : ρ[j]? = some (some (.l ds))) (q : n ((ρ.set j none).set i (some (.l ds)))) : dGive i j ⟨n, rt, b, ct, ex⟩ ρ := .inr ⟨_, ne, h, rfl, q⟩
/-- xs.append(e) -/
theorem w_app (h : ρ[i]? = some (some t)) (m : t.mine = some ds) (q : dl ρ fun ts => ∃ x, ts = [.g x] ∧ ds.length < 16777216 ∧ n (ρ.set i (some (t.with (ds ++ [x]))))) : dMutS i mAppend dl ⟨n, rt, b, ct, ex⟩ ρ := by
  have e : (fun ts => ∃ x, ts = [T.g x] ∧ ds.length < 16777216 ∧ n (ρ.set i (some (t.with (ds ++ [x]))))) = fun ts => ∃ t ds, ρ[i]? = some (some t) ∧ t.mine = some ds ∧ mAppend ds ts fun ds' _ => n (ρ.set i (some (t.with ds'))) := by
    funext ts
    apply propext
    constructor
    · rintro ⟨x, a, b, c⟩
      exact ⟨t, ds, h, m, x, a, b, c⟩
    · rintro ⟨t', ds', h', m', x, a, b, c⟩
      rw [h] at h'
      cases Option.some.inj (Option.some.inj h')
      rw [m] at m'
      cases Option.some.inj m'
      exact ⟨x, a, b, c⟩
  rw [e] at q
  exact ⟨⟨t, ds, h, m⟩, q⟩
theorem w_app1 {R : PyData → Prop} (z : ds.length < 16777216) (q : R x) : ∃ x', [T.g x] = [.g x'] ∧ ds.length < 16777216 ∧ R x' := ⟨x, rfl, z, q⟩
/-- found.append(left.pop(k)) -/
theorem w_appPop (ne : i ≠ j) (hi : ρ[i]? = some (some (.l es))) (hj : ρ[j]? = some (some (.l ds))) (q : dl ρ fun ts => ∃ t k m y, ts = [t] ∧ t.rd = .int k ∧ -(2 ^ 63) ≤ k ∧ k < 2 ^ 63 ∧ seqIndex? k ds.length = some m ∧ ds[m]? = some y ∧ es.length < 16777216 ∧ n ((ρ.set j (some (.l (ds.eraseIdx m)))).set i (some (.l (es ++ [y]))))) : dAppPop i j dl ⟨n, rt, b, ct, ex⟩ ρ := by
  refine ⟨ne, ⟨_, _, hi, rfl⟩, ⟨_, _, hj, rfl⟩, ?_⟩
  have e : (fun ts => ∃ t k m y, ts = [t] ∧ t.rd = .int k ∧ -(2 ^ 63) ≤ k ∧ k < 2 ^ 63 ∧ seqIndex? k ds.length = some m ∧ ds[m]? = some y ∧ es.length < 16777216 ∧ n ((ρ.set j (some (.l (ds.eraseIdx m)))).set i (some (.l (es ++ [y]))))) =
      fun ts => ∃ t ds, ρ[j]? = some (some t) ∧ t.mine = some ds ∧ mPopAt ds ts fun ds' y => ∃ u es, ρ[i]? = some (some u) ∧ u.mine = some es ∧ es.length < 16777216 ∧ n ((ρ.set j (some (t.with ds'))).set i (some (u.with (es ++ [y])))) := by
    funext ts
    apply propext
    constructor
    · rintro ⟨t, k, m, y, a1, a2, a3, a4, a5, a6, a7, a8⟩
      exact ⟨_, _, hj, rfl, t, k, m, y, a1, a2, a3, a4, a5, a6, _, _, hi, rfl, a7, a8⟩
    · rintro ⟨t', ds', h', m', t, k, m, y, a1, a2, a3, a4, a5, a6, u', es', h2, m2, a7, a8⟩
      rw [hj] at h'
      cases Option.some.inj (Option.some.inj h')
      cases Option.some.inj m'
      rw [hi] at h2
      cases Option.some.inj (Option.some.inj h2)
      cases Option.some.inj m2
      exact ⟨t, k, m, y, a1, a2, a3, a4, a5, a6, a7, a8⟩
  rw [e] at q
  exact q
end
end Dv

set_option Elab.async false
set_option linter.all false
set_option maxRecDepth 100000
set_option maxHeartbeats 4000000
namespace Dv
open PySem PySem.Spec PyProof.Rows L2 Px
theorem op_mulI {X : Cx} : OpR X (binaryOp .Mult) (rI IntMulOk fun i j => .int (i * j)) := opI fun _ _ _ _ _ _ _ hc q => mul_int q hc
/-! ### isinstance -/
@[reducible] def tyN : PyData → String
  | .none => "NoneType" | .bool _ => "bool" | .int _ => "int" | .str _ => "str" | .list _ => "list" | .tuple _ => "tuple" | .dict _ => "dict"
section
variable {K : PySem.W.Frag} {ta : TE} {pa : Env → (T → Prop) → Prop}
theorem ty_of {H : Hp} {v : V} {x : PyData} (h : Dp K H v x) : TyX K H v (.type (tyN x)) := by
  cases h with
  | non => exact .base .non
  | bl b => exact .base (.bl b)
  | int i => exact .base (.int i)
  | str x => exact .base (.str x)
  | lst a _ => exact tyx_L a
  | tup a _ => exact tyx_T a
def dIsi (n : String) (pa : Env → (T → Prop) → Prop) : Env → (T → Prop) → Prop := fun ρ Q => pa ρ fun t => t.dat = true ∧ ∃ b, kitB (tyN t.rd) n = some b ∧ Q (.g (.bool b))
theorem lp_isi {n : String} (ha : LP K ta pa) : LP K (tCB (rIsi K) (tCons ta (tCons (tC (.ty n)) tNil))) (dIsi n pa) := fun x q p => ha x q fun t v G1 H1 ⟨nd, b, e, qt⟩ r1 v1 f1 =>
  ⟨v, .ty n, _, _, b, rfl, .ty n, ty_of (v1.dp r1.s nd), kit_ty e, (p.next r1).scal r1.s (.bl _) qt⟩
def dIsiT (n m : String) (pa : Env → (T → Prop) → Prop) : Env → (T → Prop) → Prop := fun ρ Q => pa ρ fun t => t.dat = true ∧ ∃ b c, kitB (tyN t.rd) n = some b ∧ kitB (tyN t.rd) m = some c ∧ Q (.g (.bool (b || c)))
theorem lp_isiT {n m : String} (ha : LP K ta pa) : LP K (tCB (rIsiT K) (tCons ta (tCons (tTup (tCons (tC (.ty n)) (tCons (tC (.ty m)) tNil))) tNil))) (dIsiT n m pa) := fun {G0 H0 M ρ σ G H QD Q} x q p => ha x q fun t v G1 H1 ⟨nd, b, c, e1, e2, qt⟩ r1 v1 f1 => by
  refine ⟨r_small (by simp), fun tp htp => ?_⟩
  have r2 : Gr G1 H1 G1 (upd H1 tp (.tup [.ty n, .ty m])) := .new r1.s htp
  exact r_isiT2 upd_same (TyX.same r2.h (ty_of (v1.dp r1.s nd))) e1 e2 rfl ((p.next (r1.trans r2)).scal r2.s (.bl _) qt)
end
section
variable {ρ : Env} {Q : T → Prop} {pa : Env → (T → Prop) → Prop}
def KIT1 (t : T) (n : String) (R : Bool → Prop) : Prop := t.dat = true ∧ ∃ b, kitB (tyN t.rd) n = some b ∧ R b
theorem w_isi {n : String} (q : pa ρ fun t => KIT1 t n fun b => Q (.g (.bool b))) : dIsi n pa ρ Q := q
def KIT2 (t : T) (n m : String) (R : Bool → Prop) : Prop := t.dat = true ∧ ∃ b c, kitB (tyN t.rd) n = some b ∧ kitB (tyN t.rd) m = some c ∧ R (b || c)
theorem w_isiT {n m : String} (q : pa ρ fun t => KIT2 t n m fun b => Q (.g (.bool b))) : dIsiT n m pa ρ Q := q
end
theorem kit_ex {t : T} {n : String} {b : Bool} {R : Bool → Prop} (h : kitB (tyN t.rd) n = some b) (q : R b) (d : t.dat = true := by rfl) : KIT1 t n R := ⟨d, b, h, q⟩
theorem kit_ex2 {t : T} {n m : String} {b c : Bool} {R : Bool → Prop} (h : kitB (tyN t.rd) n = some b) (h2 : kitB (tyN t.rd) m = some c) {z : Bool} (e : (b || c) = z) (q : R z) (d : t.dat = true := by rfl) : KIT2 t n m R := ⟨d, b, c, h, h2, e ▸ q⟩
/-! ### plain data -/
theorem eqvAll_len : ∀ {xs ys : List PyData}, PyData.eqvAll xs ys = true → xs.length = ys.length
  | [], [], _ => rfl
  | x :: xs, y :: ys, h => by
    have h' : (PyData.eqv x y && PyData.eqvAll xs ys) = true := by simpa [PyData.eqvAll] using h
    rw [List.length_cons, List.length_cons, eqvAll_len (Bool.and_eq_true_iff.mp h').2]
  | [], _ :: _, h => by simp [PyData.eqvAll] at h
  | _ :: _, [], h => by simp [PyData.eqvAll] at h
mutual
/-- no truth in it, no dict -/
def clean : PyData → Bool
  | .int _ => true | .str x => PyData.strOk x | .none => true
  | .list xs => cleanAll xs | .tuple xs => cleanAll xs
  | _ => false
def cleanAll : List PyData → Bool
  | [] => true
  | x :: xs => clean x && cleanAll xs
end
mutual
theorem eqv_clean : ∀ {x y : PyData}, clean x = true → clean y = true → (PyData.eqv x y = true ↔ x = y)
  | .int _, .int _, _, _ => by simp [PyData.eqv]
  | .str _, .str _, _, _ => by simp [PyData.eqv]
  | .none, .none, _, _ => by simp [PyData.eqv]
  | .list xs, .list ys, a, b => by
    have := eqvAll_clean (xs := xs) (ys := ys) (by simpa [clean] using a) (by simpa [clean] using b)
    simp [PyData.eqv, this]
  | .tuple xs, .tuple ys, a, b => by
    have := eqvAll_clean (xs := xs) (ys := ys) (by simpa [clean] using a) (by simpa [clean] using b)
    simp [PyData.eqv, this]
  | .int _, .str _, _, _ => by simp [PyData.eqv]
  | .int _, .none, _, _ => by simp [PyData.eqv]
  | .int _, .list _, _, _ => by simp [PyData.eqv]
  | .int _, .tuple _, _, _ => by simp [PyData.eqv]
  | .str _, .int _, _, _ => by simp [PyData.eqv]
  | .str _, .none, _, _ => by simp [PyData.eqv]
  | .str _, .list _, _, _ => by simp [PyData.eqv]
  | .str _, .tuple _, _, _ => by simp [PyData.eqv]
  | .none, .int _, _, _ => by simp [PyData.eqv]
  | .none, .str _, _, _ => by simp [PyData.eqv]
  | .none, .list _, _, _ => by simp [PyData.eqv]
  | .none, .tuple _, _, _ => by simp [PyData.eqv]
  | .list _, .int _, _, _ => by simp [PyData.eqv]
  | .list _, .str _, _, _ => by simp [PyData.eqv]
  | .list _, .none, _, _ => by simp [PyData.eqv]
  | .list _, .tuple _, _, _ => by simp [PyData.eqv]
  | .tuple _, .int _, _, _ => by simp [PyData.eqv]
  | .tuple _, .str _, _, _ => by simp [PyData.eqv]
  | .tuple _, .none, _, _ => by simp [PyData.eqv]
  | .tuple _, .list _, _, _ => by simp [PyData.eqv]
  | .bool _, _, a, _ => by simp [clean] at a
  | .dict _, _, a, _ => by simp [clean] at a
  | _, .bool _, _, b => by simp [clean] at b
  | _, .dict _, _, b => by simp [clean] at b
theorem eqvAll_clean : ∀ {xs ys : List PyData}, cleanAll xs = true → cleanAll ys = true → (PyData.eqvAll xs ys = true ↔ xs = ys)
  | [], [], _, _ => by simp [PyData.eqvAll]
  | [], _ :: _, _, _ => by simp [PyData.eqvAll]
  | _ :: _, [], _, _ => by simp [PyData.eqvAll]
  | x :: xs, y :: ys, a, b => by
    have a' : (clean x && cleanAll xs) = true := by simpa [cleanAll] using a
    have b' : (clean y && cleanAll ys) = true := by simpa [cleanAll] using b
    rw [Bool.and_eq_true] at a' b'
    have h1 := eqv_clean (x := x) (y := y) a'.1 b'.1
    have h2 := eqvAll_clean (xs := xs) (ys := ys) a'.2 b'.2
    simp [PyData.eqvAll, h1, h2]
end
theorem eqv_dec {x y : PyData} (a : clean x = true) (b : clean y = true) [Decidable (x = y)] : PyData.eqv x y = decide (x = y) := by
  have h := eqv_clean a b
  cases e : PyData.eqv x y with
  | true => exact (decide_eq_true (h.mp e)).symm
  | false => exact (decide_eq_false fun z => by rw [h.mpr z] at e; cases e).symm
theorem eqv_same {x : PyData} (a : clean x = true) : PyData.eqv x x = true := (eqv_clean a a).mpr rfl
mutual
theorem lay_clean : ∀ {x : PyData}, clean x = true → x.canLay0 = true
  | .int _, _ => rfl
  | .none, _ => rfl
  | .str _, h => by simpa [clean, PyData.canLay0] using h
  | .list xs, h => by
    have := layAll_clean (xs := xs) (by simpa [clean] using h)
    simpa [PyData.canLay0] using this
  | .tuple xs, h => by
    have := layAll_clean (xs := xs) (by simpa [clean] using h)
    simpa [PyData.canLay0] using this
  | .bool _, h => by simp [clean] at h
  | .dict _, h => by simp [clean] at h
theorem layAll_clean : ∀ {xs : List PyData}, cleanAll xs = true → PyData.canLayAll0 xs = true
  | [], _ => rfl
  | x :: xs, h => by
    have h' : (clean x && cleanAll xs) = true := by simpa [cleanAll] using h
    rw [Bool.and_eq_true] at h'
    have h1 := lay_clean (x := x) h'.1
    have h2 := layAll_clean (xs := xs) h'.2
    simp [PyData.canLayAll0, h1, h2]
end
theorem shaped_clean {x : PyData} (h : clean x = true) (d : x.depth ≤ 64) : SeqAt.shaped x = true := by
  unfold SeqAt.shaped
  rw [lay_clean h, decide_eq_true d]
  rfl
theorem cleanAll_iff {xs : List PyData} : cleanAll xs = true ↔ ∀ x ∈ xs, clean x = true := by
  induction xs with
  | nil => simp [cleanAll]
  | cons x xs ih => simp [cleanAll, ih]
theorem depthAll_le {xs : List PyData} {n : Nat} (h : ∀ x ∈ xs, x.depth ≤ n) : PyData.depthAll xs ≤ n := by
  induction xs with
  | nil => exact Nat.zero_le _
  | cons x xs ih =>
    have h1 := h x (by simp)
    have h2 := ih fun y hy => h y (List.mem_cons_of_mem _ hy)
    show max x.depth (PyData.depthAll xs) ≤ n
    omega
theorem clean_inD (ns : List Int) : cleanAll (inD ns) = true := by
  rw [cleanAll_iff]
  intro x hx
  obtain ⟨n, _, rfl⟩ := List.mem_map.mp hx
  rfl
theorem depth_inD (ns : List Int) : PyData.depthAll (inD ns) = 0 := depth_ints ns
theorem shaped_inD (ns : List Int) : SeqAt.shaped (.list (inD ns)) = true := shaped_ints ns
theorem inD_inj : ∀ {ns ms : List Int}, inD ns = inD ms → ns = ms
  | [], [], _ => rfl
  | n :: ns, m :: ms, h => by
    have h1 := (List.cons.inj h).1
    rw [PyData.int.inj h1, inD_inj (List.cons.inj h).2]
  | [], _ :: _, h => nomatch h
  | _ :: _, [], h => nomatch h
theorem eqv_inD (ns ms : List Int) : PyData.eqv (.list (inD ns)) (.list (inD ms)) = decide (ns = ms) := by
  have h := eqv_clean (x := .list (inD ns)) (y := .list (inD ms)) (by simpa [clean] using clean_inD ns) (by simpa [clean] using clean_inD ms)
  cases e : PyData.eqv (.list (inD ns)) (.list (inD ms)) with
  | true => exact (decide_eq_true (inD_inj (PyData.list.inj (h.mp e)))).symm
  | false => exact (decide_eq_false fun z => by rw [h.mpr (by rw [z])] at e; cases e).symm
/-! ### what the old promises say, over data -/
theorem inD_get {ns : List Int} {i : Nat} {x : PyData} (h : (inD ns)[i]? = some x) : ∃ n, ns[i]? = some n ∧ x = .int n := by
  rw [List.getElem?_map] at h
  cases e : ns[i]? with
  | none =>
    rw [e] at h
    cases h
  | some n =>
    rw [e] at h
    exact ⟨n, rfl, (Option.some.inj h).symm⟩
theorem rgD_get {lo : Int} {n i : Nat} {x : PyData} (h : (rgD lo n)[i]? = some x) : i < n ∧ x = .int (lo + (i : Nat)) := by
  unfold rgD at h
  rw [List.getElem?_map] at h
  by_cases hi : i < n
  · rw [List.getElem?_range hi] at h
    exact ⟨hi, (Option.some.inj h).symm⟩
  · rw [List.getElem?_eq_none (by simp; omega)] at h
    cases h
theorem rgD_len (lo : Int) (n : Nat) : (rgD lo n).length = n := by simp [rgD]
/-- a comprehension without effect over a list, as filterMap -/
theorem w_lc {ρ : Env} {Q : T → Prop} {di : Env → (Bool → List PyData → Prop) → Prop} {dg : PyData → Env → (Env → Prop) → Prop} {dt : Env → (Bool → Prop) → Prop} {de : Env → (T → Prop) → Prop} {vs : List Nat} (q : di ρ fun _ items => items.length ≤ 1000000 ∧ ∃ f : PyData → Option PyData, (∀ (i : Nat) (x : PyData), items[i]? = some x → dg x (wipeE ρ vs) fun ρ2 => dt ρ2 fun c => if c = true then de ρ2 fun t => ∃ y, t.fz = .g y ∧ f x = some y else f x = none) ∧ Q (.l (items.filterMap f))) : dLc di dg dt de vs ρ Q := q
/-- the things that are gone through -/
def RG1 (ts : List T) (R : Bool → List PyData → Prop) : Prop := ∃ t j, ts = [t] ∧ t.rd = .int j ∧ -(2 ^ 62) ≤ j ∧ j < 2 ^ 62 ∧ R true (rgD 0 j.toNat)
def RG2 (ts : List T) (R : Bool → List PyData → Prop) : Prop := ∃ t u i j, ts = [t, u] ∧ t.rd = .int i ∧ u.rd = .int j ∧ (-(2 ^ 62) ≤ i ∧ i < 2 ^ 62 ∧ -(2 ^ 62) ≤ j ∧ j < 2 ^ 62) ∧ R true (rgD i (j - i).toNat)
def ELL (t : T) (R : Bool → List PyData → Prop) : Prop := ∃ ds, t.elL = some ds ∧ R t.stb ds
def ELT (t : T) (R : Bool → List PyData → Prop) : Prop := ∃ ds, t.elT = some ds ∧ R true ds
def ENL (ts : List T) (R : Bool → List PyData → Prop) : Prop := ∃ t ds, ts = [t] ∧ t.elL = some ds ∧ R t.stb (enD ds)
section
variable {ρ : Env} {t : T} {ds : List PyData} {R : Bool → List PyData → Prop} {pa : Env → (T → Prop) → Prop} {dl : Env → (List T → Prop) → Prop}
theorem w_iList (q : pa ρ fun t => ELL t R) : dIList pa ρ R := q
theorem w_iTup (q : pa ρ fun t => ELT t R) : dITup pa ρ R := q
theorem w_iRg1 (q : dl ρ fun ts => RG1 ts R) : dIRg1 dl ρ R := q
theorem w_iRg2 (q : dl ρ fun ts => RG2 ts R) : dIRg2 dl ρ R := q
theorem w_iEnum (q : dl ρ fun ts => ENL ts R) : dIEnum dl ρ R := q
theorem w_ell (h : t.elL = some ds) (q : R t.stb ds) : ELL t R := ⟨ds, h, q⟩
theorem w_ellT (h : t.elL = some ds) (hs : t.stb = true) (q : R true ds) : ELL t R := ⟨ds, h, hs ▸ q⟩
theorem w_elt (h : t.elT = some ds) (q : R true ds) : ELT t R := ⟨ds, h, q⟩
theorem w_rg1 {m : Nat} {k : Int} (hk : k = (m : Int)) (hm : m < 2 ^ 62) (q : R true (rgD 0 m)) : RG1 [T.g (.int k)] R := by
  subst hk
  exact ⟨_, (m : Int), rfl, rfl, by omega, by omega, by rw [Int.toNat_natCast]; exact q⟩
theorem w_rg2 {a b : Int} {m : Nat} (ha : -(2 ^ 62) ≤ a ∧ a < 2 ^ 62 ∧ -(2 ^ 62) ≤ b ∧ b < 2 ^ 62) (hm : (b - a).toNat = m) (q : R true (rgD a m)) : RG2 [T.g (.int a), T.g (.int b)] R := by
  subst hm
  exact ⟨_, _, a, b, rfl, rfl, rfl, ha, q⟩
theorem w_enl (h : t.elL = some ds) (q : R t.stb (enD ds)) : ENL [t] R := ⟨t, ds, rfl, h, q⟩
end
theorem w_for {ρ : Env} {n b ct : Env → Prop} {rt : T → Env → Prop} {di : Env → (Bool → List PyData → Prop) → Prop} {dg : PyData → Env → (Env → Prop) → Prop} {db : DS} (q : di ρ fun st items => st = true ∧ ∃ Pv : Nat → Env → Prop, Pv 0 ρ ∧
  (∀ (i : Nat) (x : PyData) (ρ' : Env), items[i]? = some x → Pv i ρ' → dg x ρ' fun ρ2 => db ⟨Pv (i + 1), rt, n, Pv (i + 1), ex⟩ ρ2) ∧ ∀ ρ', Pv items.length ρ' → n ρ') : dFor di dg db ⟨n, rt, b, ct, ex⟩ ρ := q
theorem ints_of {P : Int → Prop} : ∀ {ds : List PyData}, (∀ d ∈ ds, ∃ n, d = .int n ∧ P n) → ∃ ns : List Int, ds = inD ns ∧ ∀ n ∈ ns, P n
  | [], _ => ⟨[], rfl, by simp⟩
  | d :: ds, h => by
    obtain ⟨n, rfl, p⟩ := h d (by simp)
    obtain ⟨ns, rfl, q⟩ := ints_of (ds := ds) fun e he => h e (List.mem_cons_of_mem _ he)
    exact ⟨n :: ns, rfl, fun k hk => (List.mem_cons.mp hk).elim (fun z => z ▸ p) (q k)⟩
theorem all_snoc {α : Type} {P : α → Prop} {xs : List α} {x : α} (h : ∀ y ∈ xs, P y) (hx : P x) : ∀ y ∈ xs ++ [x], P y := fun y hy => (List.mem_append.mp hy).elim (h y) fun z => by
  rw [List.mem_singleton.mp z]
  exact hx
theorem filterMap_map {items : List PyData} {f : PyData → PyData} : items.filterMap (fun x => some (f x)) = items.map f := by
  induction items with
  | nil => rfl
  | cons x xs ih => simp [List.filterMap_cons, ih]
end Dv

set_option Elab.async false
set_option linter.all false
set_option maxRecDepth 100000
set_option maxHeartbeats 4000000
namespace Dv
open PySem PySem.Spec PyProof.Rows L2 Px
theorem kit_int_tuple : kitB "int" "tuple" = some false := by decide +kernel
theorem kit_int_list : kitB "int" "list" = some false := by decide +kernel
theorem kit_int_str : kitB "int" "str" = some false := by decide +kernel
theorem kit_int_bool : kitB "int" "bool" = some false := by decide +kernel
theorem kit_int_int : kitB "int" "int" = some true := by decide +kernel
theorem kit_str_tuple : kitB "str" "tuple" = some false := by decide +kernel
theorem kit_str_list : kitB "str" "list" = some false := by decide +kernel
theorem kit_str_str : kitB "str" "str" = some true := by decide +kernel
theorem kit_str_bool : kitB "str" "bool" = some false := by decide +kernel
theorem kit_str_int : kitB "str" "int" = some false := by decide +kernel
theorem kit_list_tuple : kitB "list" "tuple" = some false := by decide +kernel
theorem kit_list_list : kitB "list" "list" = some true := by decide +kernel
theorem kit_list_str : kitB "list" "str" = some false := by decide +kernel
theorem kit_list_bool : kitB "list" "bool" = some false := by decide +kernel
theorem kit_list_int : kitB "list" "int" = some false := by decide +kernel
theorem kit_tuple_tuple : kitB "tuple" "tuple" = some true := by decide +kernel
theorem kit_tuple_list : kitB "tuple" "list" = some false := by decide +kernel
theorem kit_tuple_str : kitB "tuple" "str" = some false := by decide +kernel
theorem kit_tuple_bool : kitB "tuple" "bool" = some false := by decide +kernel
theorem kit_tuple_int : kitB "tuple" "int" = some false := by decide +kernel
theorem kit_bool_tuple : kitB "bool" "tuple" = some false := by decide +kernel
theorem kit_bool_list : kitB "bool" "list" = some false := by decide +kernel
theorem kit_bool_str : kitB "bool" "str" = some false := by decide +kernel
theorem kit_bool_bool : kitB "bool" "bool" = some true := by decide +kernel
theorem kit_bool_int : kitB "bool" "int" = some true := by decide +kernel
theorem kit_NoneType_tuple : kitB "NoneType" "tuple" = some false := by decide +kernel
theorem kit_NoneType_list : kitB "NoneType" "list" = some false := by decide +kernel
theorem kit_NoneType_str : kitB "NoneType" "str" = some false := by decide +kernel
theorem kit_NoneType_bool : kitB "NoneType" "bool" = some false := by decide +kernel
theorem kit_NoneType_int : kitB "NoneType" "int" = some false := by decide +kernel
section
variable {K : PySem.W.Frag}
def dMax2 : DC := fun ts Q => ∃ t u i j, ts = [t, u] ∧ t.rd = .int i ∧ u.rd = .int j ∧ Q (.g (.int (if j > i then j else i)))
def dMin2 : DC := fun ts Q => ∃ t u i j, ts = [t, u] ∧ t.rd = .int i ∧ u.rd = .int j ∧ Q (.g (.int (if j < i then j else i)))
theorem oc_max2 : OC K (fun xs H Q => ∃ i j, xs = [.int i, .int j] ∧ Q (.int (if j > i then j else i)) H) dMax2 := fun s h ⟨t, u, i, j, e, e1, e2, q⟩ p => by
  subst e
  obtain ⟨v, w, rfl, a, b⟩ := vrA2 h
  exact ⟨i, j, by rw [vr_int s a e1, vr_int s b e2], p.scal s (.int _) q⟩
theorem oc_min2 : OC K (fun xs H Q => ∃ i j, xs = [.int i, .int j] ∧ Q (.int (if j < i then j else i)) H) dMin2 := fun s h ⟨t, u, i, j, e, e1, e2, q⟩ p => by
  subst e
  obtain ⟨v, w, rfl, a, b⟩ := vrA2 h
  exact ⟨i, j, by rw [vr_int s a e1, vr_int s b e2], p.scal s (.int _) q⟩
/-- list(range(n)) -/
def dLRg (pa : Env → (T → Prop) → Prop) : Env → (T → Prop) → Prop := fun ρ Q => pa ρ fun t => ∃ m : Nat, t.rd = .int (m : Int) ∧ m ≤ 100000 ∧ Q (.l (rgD 0 m))
theorem dpAll_rg {H : Hp} (lo : Int) (m : Nat) : DpAll K H (rgV lo (lo + (m : Nat))) (rgD lo m) := by
  unfold rgV rgD
  rw [show (lo + (m : Nat) - lo).toNat = m by omega]
  generalize List.range m = xs
  induction xs with
  | nil => exact .nil
  | cons x xs ih => exact .cons (.int _) ih
theorem lp_lrg {ta : TE} {pa : Env → (T → Prop) → Prop} (ha : LP K ta pa) : LP K (tLstRg (tRg1 ta)) (dLRg pa) := fun {G0 H0 M ρ σ G H QD Q} x q p => by
  refine r_lrg1 (ha x q fun t v G1 H1 ⟨m, e, hm, qt⟩ r1 v1 f1 => ⟨(m : Int), vr_int r1.s v1 e, RgOk.of_le (by omega) (by omega) (by omega) (by omega), ?_⟩)
  have := (p.next r1).lst r1.s (dpAll_rg (K := K) 0 m) qt
  rw [Int.zero_add] at this
  exact this
end
section
variable {ρ : Env} {Q : T → Prop} {pa : Env → (T → Prop) → Prop}
theorem w_max2 {k m : Int} (q : Q (.g (.int (if m > k then m else k)))) : dMax2 [.g (.int k), .g (.int m)] Q := ⟨_, _, k, m, rfl, rfl, rfl, q⟩
theorem w_min2 {k m : Int} (q : Q (.g (.int (if m < k then m else k)))) : dMin2 [.g (.int k), .g (.int m)] Q := ⟨_, _, k, m, rfl, rfl, rfl, q⟩
def LRG (t : T) (Q : T → Prop) : Prop := ∃ m : Nat, t.rd = .int (m : Int) ∧ m ≤ 100000 ∧ Q (.l (rgD 0 m))
theorem w_lrg (q : pa ρ fun t => LRG t Q) : dLRg pa ρ Q := q
theorem w_lrg1 {k : Int} {m : Nat} (hk : k = (m : Int)) (hm : m ≤ 100000) (q : Q (.l (rgD 0 m))) : LRG (.g (.int k)) Q := by
  subst hk
  exact ⟨m, rfl, hm, q⟩
end
/-! ### lists of ints, gone through -/
def ifI (p : Int → Bool) : PyData → Option PyData
  | .int n => if p n = true then some (.int n) else none
  | _ => none
def mpI (f : Int → PyData) : PyData → Option PyData
  | .int n => some (f n)
  | _ => none
theorem fm_ifI (p : Int → Bool) : ∀ ns : List Int, (inD ns).filterMap (ifI p) = inD (ns.filter p)
  | [] => rfl
  | n :: ns => by
    show List.filterMap (ifI p) (.int n :: inD ns) = _
    rw [List.filterMap_cons, List.filter_cons]
    cases h : p n with
    | true =>
      simp only [ifI, h, if_true, fm_ifI p ns]
      rfl
    | false =>
      simp only [ifI, h, fm_ifI p ns]
      rfl
theorem fm_mpI (f : Int → PyData) : ∀ ns : List Int, (inD ns).filterMap (mpI f) = ns.map f
  | [] => rfl
  | n :: ns => by
    show List.filterMap (mpI f) (.int n :: inD ns) = _
    rw [List.filterMap_cons]
    simp only [mpI, fm_mpI f ns]
    rfl
theorem fm_mpII (f : Int → Int) (ns : List Int) : (inD ns).filterMap (mpI fun n => .int (f n)) = inD (ns.map f) := by
  rw [fm_mpI]
  simp [inD]
def rgI (lo : Int) (n : Nat) : List Int := (List.range n).map fun k => lo + (k : Nat)
theorem rgD_in (lo : Int) (n : Nat) : rgD lo n = inD (rgI lo n) := by simp [rgD, rgI, inD]
theorem rgI_len (lo : Int) (n : Nat) : (rgI lo n).length = n := by simp [rgI]
theorem mem_rgI {lo x : Int} {n : Nat} : x ∈ rgI lo n ↔ lo ≤ x ∧ x < lo + (n : Nat) := by
  unfold rgI
  rw [List.mem_map]
  constructor
  · rintro ⟨k, hk, rfl⟩
    have := List.mem_range.mp hk
    omega
  · rintro ⟨h1, h2⟩
    exact ⟨(x - lo).toNat, List.mem_range.mpr (by omega), by omega⟩
theorem rise_rgI (lo : Int) (n : Nat) : (rgI lo n).Pairwise (· < ·) := by
  unfold rgI
  rw [List.pairwise_map]
  exact List.pairwise_lt_range.imp fun h => by omega
theorem inD_len (ns : List Int) : (inD ns).length = ns.length := List.length_map _
theorem inD_at {ns : List Int} {k : Int} {n : Int} (h : atI ns k = some n) : atI (inD ns) k = some (.int n) := by
  unfold atI at h ⊢
  rw [inD_len]
  cases e : ixN ns.length k with
  | none =>
    rw [e] at h
    cases h
  | some j =>
    rw [e] at h
    show (inD ns)[j]? = _
    rw [List.getElem?_map, show ns[j]? = some n from h]
    rfl
theorem atI_of {α : Type} {xs : List α} {k : Int} {x : α} (h0 : 0 ≤ k) (h : xs[k.toNat]? = some x) : atI xs k = some x := by
  have h' := atI_nat h
  rwa [show ((k.toNat : Nat) : Int) = k by omega] at h'
theorem atI_ok {α : Type} {xs : List α} {k : Int} (h0 : 0 ≤ k) (h1 : k < xs.length) : ∃ x, atI xs k = some x ∧ xs[k.toNat]? = some x := by
  have hk : k.toNat < xs.length := by omega
  exact ⟨xs[k.toNat], atI_of h0 (List.getElem?_eq_getElem hk), List.getElem?_eq_getElem hk⟩
theorem inD_atI {ns : List Int} {k : Int} (h0 : 0 ≤ k) (h1 : k < ns.length) : atI (inD ns) k = some (.int (ns.getD k.toNat 0)) := by
  refine inD_at (atI_of h0 ?_)
  rw [List.getD_eq_getElem?_getD, List.getElem?_eq_getElem (by omega)]
  rfl
theorem seqIx_ok {k : Int} {n : Nat} (h0 : 0 ≤ k) (h1 : k < n) : seqIndex? k n = some k.toNat := by
  unfold seqIndex?
  simp only [show ¬ k < 0 by omega, if_false]
  simp [h0, h1]
theorem erase_perm {α : Type} : ∀ {xs ys : List α} {m : Nat} {y : α}, xs[m]? = some y → (xs.eraseIdx m ++ (ys ++ [y])).Perm (xs ++ ys)
  | [], _, _, _, h => by simp at h
  | x :: xs, ys, 0, y, h => by
    simp at h
    subst h
    show (xs ++ (ys ++ [x])).Perm (x :: (xs ++ ys))
    rw [← List.append_assoc]
    exact List.perm_append_singleton x (xs ++ ys)
  | x :: xs, ys, m + 1, y, h => by
    show (x :: (xs.eraseIdx m ++ (ys ++ [y]))).Perm (x :: (xs ++ ys))
    exact List.Perm.cons x (erase_perm (by simpa using h))
mutual
/-- its lists and tuples have at most 100000 items -/
def small : PyData → Bool
  | .list xs => decide (xs.length ≤ 100000) && smallAll xs
  | .tuple xs => decide (xs.length ≤ 100000) && smallAll xs
  | _ => true
def smallAll : List PyData → Bool
  | [] => true
  | x :: xs => small x && smallAll xs
end
theorem smallAll_iff {xs : List PyData} : smallAll xs = true ↔ ∀ x ∈ xs, small x = true := by
  induction xs with
  | nil => simp [smallAll]
  | cons x xs ih => simp [smallAll, ih]
theorem small_list {xs : List PyData} : small (.list xs) = true ↔ xs.length ≤ 100000 ∧ ∀ x ∈ xs, small x = true := by
  simp [small, smallAll_iff]
theorem small_tuple {xs : List PyData} : small (.tuple xs) = true ↔ xs.length ≤ 100000 ∧ ∀ x ∈ xs, small x = true := by
  simp [small, smallAll_iff]
theorem small_inD {ns : List Int} (h : ns.length ≤ 100000) : small (.list (inD ns)) = true := by
  rw [small_list, inD_len]
  refine ⟨h, fun x hx => ?_⟩
  obtain ⟨n, _, rfl⟩ := List.mem_map.mp hx
  rfl
/-! ### ranks -/
theorem below_map {f : Int → Int} {ns : List Int} (h : ∀ a ∈ ns, ∀ b ∈ ns, (f a < f b ↔ a < b)) {x : Int} (hx : x ∈ ns) : below (ns.map f) (f x) = below ns x := by
  unfold below
  rw [List.filter_map, List.length_map]
  congr 1
  apply List.filter_congr
  intro a ha
  simp only [Function.comp]
  exact decide_eq_decide.mpr (h a ha x hx)
theorem ranks_map {f : Int → Int} {ns : List Int} (h : ∀ a ∈ ns, ∀ b ∈ ns, (f a < f b ↔ a < b)) : ranks (ns.map f) = ranks ns := by
  unfold ranks
  rw [List.map_map]
  apply List.map_congr_left
  intro a ha
  simp only [Function.comp]
  rw [below_map h ha]
theorem below_mono {ns : List Int} {a b : Int} (h : a ≤ b) : below ns a ≤ below ns b := by
  unfold below
  rw [← List.countP_eq_length_filter, ← List.countP_eq_length_filter]
  exact List.countP_mono_left fun x _ hx => by
    have := of_decide_eq_true hx
    exact decide_eq_true (by omega)
theorem below_lt {ns : List Int} {a b : Int} (ha : a ∈ ns) : below ns a < below ns b ↔ a < b := by
  constructor
  · intro h
    by_cases c : a < b
    · exact c
    · have := below_mono (ns := ns) (a := b) (b := a) (by omega)
      omega
  · intro h
    unfold below
    induction ns with
    | nil => cases ha
    | cons x xs ih =>
      have mono : (xs.filter fun y => decide (y < a)).length ≤ (xs.filter fun y => decide (y < b)).length := below_mono (ns := xs) (by omega)
      rw [List.filter_cons, List.filter_cons]
      rcases List.mem_cons.mp ha with e | m
      · subst e
        rw [if_neg (by simp), if_pos (by simp [h])]
        simp only [List.length_cons]
        omega
      · have := ih m
        by_cases c1 : x < a
        · rw [if_pos (by simp [c1]), if_pos (by simp; omega)]
          simp only [List.length_cons]
          omega
        · rw [if_neg (by simp [c1])]
          by_cases c2 : x < b
          · rw [if_pos (by simp [c2])]
            simp only [List.length_cons]
            omega
          · rw [if_neg (by simp [c2])]
            exact this
theorem ranks_len (ns : List Int) : (ranks ns).length = ns.length := by unfold ranks; rw [List.length_map]
theorem ranks_nodup {ns : List Int} (h : ns.Nodup) : (ranks ns).Nodup := by
  unfold ranks List.Nodup
  rw [List.pairwise_map]
  refine List.Pairwise.imp_of_mem (fun {a b} ha hb hab => ?_) h
  intro e
  have h1 : ¬ below ns a < below ns b := by omega
  have h2 : ¬ below ns b < below ns a := by omega
  rw [below_lt ha] at h1
  rw [below_lt hb] at h2
  exact hab (by omega)
theorem below_le (ns : List Int) (x : Int) : below ns x ≤ ns.length := by
  unfold below
  exact List.length_filter_le _ _
section
variable {Q : T → Prop} {t u : T} {ns ms : List Int} {x : PyData}
theorem w_neInts (h1 : t.rd = .list (inD ns)) (h2 : u.rd = .list (inD ns)) (q : Q (.g (.bool false))) : dNeD t u Q := ⟨by rw [h1]; exact shaped_inD ns, by rw [h2]; exact shaped_inD ns, by rw [h1, h2, eqv_inD, decide_eq_true rfl]; exact q⟩
theorem w_eqInts (h1 : t.rd = .list (inD ns)) (h2 : u.rd = .list (inD ms)) (q : Q (.g (.bool (decide (ns = ms))))) : dEqD t u Q := ⟨by rw [h1]; exact shaped_inD ns, by rw [h2]; exact shaped_inD ms, by rw [h1, h2, eqv_inD]; exact q⟩
theorem w_neSame (h1 : t.rd = x) (h2 : u.rd = x) (c : clean x = true) (d : x.depth ≤ 64) (q : Q (.g (.bool false))) : dNeD t u Q := ⟨by rw [h1]; exact shaped_clean c d, by rw [h2]; exact shaped_clean c d, by rw [h1, h2, eqv_same c]; exact q⟩
theorem w_eqSame (h1 : t.rd = x) (h2 : u.rd = x) (c : clean x = true) (d : x.depth ≤ 64) (q : Q (.g (.bool true))) : dEqD t u Q := ⟨by rw [h1]; exact shaped_clean c d, by rw [h2]; exact shaped_clean c d, by rw [h1, h2, eqv_same c]; exact q⟩
theorem clean_ints (ns : List Int) : clean (.list (inD ns)) = true := by simpa [clean] using clean_inD ns
theorem depth_ints2 (ns : List Int) : (PyData.list (inD ns)).depth = 1 := depth_listI ns
end
/-! ### the program's put_to_order, over data -/
def cPut : List PyData → (T → Prop) → Prop := fun xs Q => ∃ ns : List Int, xs = [.list (inD ns)] ∧ ns.length ≤ 4000 ∧ ns.Nodup ∧ Q (.l (inD (ranks ns)))
end Dv

set_option Elab.async false
set_option linter.all false
set_option maxRecDepth 100000
set_option maxHeartbeats 4000000
namespace Dv
open PySem PySem.Spec PyProof.Rows L2 Px
/-! ### t + u, t * k: any tuples -/
def rCatA (K : PySem.W.Frag) : R2 := fun x y H Q => ∃ a b xs ys, x = .ref a ∧ y = .ref b ∧ SqT K H a xs ∧ SqT K H b ys ∧ xs.length + ys.length ≤ sizeLine ∧
  (xs = [] → Q (.ref b) H) ∧ (xs ≠ [] → ys = [] → Q (.ref a) H) ∧ (xs ≠ [] → ys ≠ [] → ∀ p, H p = none → Q (.ref p) (upd H p (.tup (xs ++ ys))))
section
variable {X : Cx}
theorem op_catA : OpR X (binaryOp .Add) (rCatA X.K) := by
  intro pins s σ H x y v u Q I rx ry h
  obtain ⟨a, b, xs, ys, rfl, rfl, ha, hb, hz, q0, q1, q2⟩ := h
  cases rx
  cases ry
  obtain ⟨its, r1, p1, _⟩ := I.tuple ha
  obtain ⟨its2, r2, p2, _⟩ := I.tuple hb
  by_cases hx : xs = []
  · have hi : its = [] := r1.nil_iff.mpr hx
    obtain ⟨⟨cls, dd, data, sl⟩, ho, hc, n, hd⟩ := id p1
    obtain ⟨⟨cls2, dd2, data2, sl2⟩, ho2, hc2, n2, hd2⟩ := id p2
    simp only at hc hd hc2 hd2
    subst hc hd hc2 hd2
    exact concat_meets ⟨_, ho, rfl⟩ ⟨_, ho2, rfl⟩ noFill_tuple_add seq_tuple_add PySem.F.slot_tuple_add PySem.F.entry_tuple_add (PySem.F.args_tuple_add_2 _ _)
      (tuple_addW0 a b its.toArray its2.toArray n n2 dd dd2 sl sl2 (by rw [hi]; rfl)) ⟨ho, ho2, ⟨.ref b, H, I, rfl, q0 hx⟩⟩
  · refine HT.cat_tup p1 p2 (fun z => hx (r1.nil_iff.mp z)) (fun z => ⟨.ref a, H, I, rfl, q1 hx (r2.nil_iff.mp z)⟩) (fun z => ?_) (by rw [← r1.length, ← r2.length]; exact hz)
    refine ⟨.ref s.heap.objs.size, _, I.laid (t' := s.toks) (o := .tup (xs ++ ys)) (fun b ob q => Heap.get?_push_of_some _ q) (Nat.le_refl _) ?_, rfl, q2 hx (fun w => z (r2.nil_iff.mpr w)) _ (I.hok.fresh (Nat.le_refl _))⟩
    exact ⟨by rw [List.length_append]; exact hz, _, r1.append r2, IsTup.new _ _⟩
theorem tuple_mul1 (l : Addr) (items : Array Value) (n : Nat) (dd : Option Addr) (sl : Array (Option Value)) (x : Int) (u : Tok) (c0 : (decide (x < -(2 ^ 63)) || decide (x ≥ 2 ^ 63)) = false) (c1 : (items.isEmpty || x == 1) = true) :
    Meets (Builtin.«tuple.__mul__» ⟨[.ref l, .int x u], []⟩) (fun _ R s => s.heap.get? l = some { cls := .type "tuple", dict := dd, data := .seq items n, slots := sl } ∧ R (.ok (.ret (Value.ref l))) { s with heap := s.heap, toks := s.toks }) :=
  .of_wp fun prog w A R s h => by
    obtain ⟨hp, g, d, tk, os⟩ := s
    obtain ⟨hl, h⟩ := h
    have f1 := AutoSeq1.idx_int
    wp_walk using wpAny_loadPart' hl
    repeat (first
      | (refine wpAny_ite_false (decide_eq_false (by rw [c0]; exact Bool.false_ne_true)) ?_; wp_walk using wpAny_loadPart' hl)
      | (refine wpAny_ite_true (decide_eq_true c1) ?_; wp_walk using wpAny_loadPart' hl))
    exact ⟨_, rfl, h⟩
theorem tuple_mul0 (l : Addr) (items : Array Value) (n : Nat) (dd : Option Addr) (sl : Array (Option Value)) (x : Int) (u : Tok) (c0 : (decide (x < -(2 ^ 63)) || decide (x ≥ 2 ^ 63)) = false) (c1 : (items.isEmpty || x == 1) = false) (c2 : (decide (x ≤ 0) || items.isEmpty) = true) :
    Meets (Builtin.«tuple.__mul__» ⟨[.ref l, .int x u], []⟩) (fun _ R s => s.heap.get? l = some { cls := .type "tuple", dict := dd, data := .seq items n, slots := sl } ∧
      R (.ok (.ret (Value.ref s.heap.objs.size))) { s with heap := s.heap.push { cls := Value.type "tuple", data := Data.seq #[] }, toks := s.toks }) :=
  .of_wp fun prog w A R s h => by
    obtain ⟨hp, g, d, tk, os⟩ := s
    obtain ⟨hl, h⟩ := h
    have f1 := AutoSeq1.idx_int
    wp_walk using wpAny_loadPart' hl
    repeat (first
      | (refine wpAny_ite_false (decide_eq_false (by rw [c0]; exact Bool.false_ne_true)) ?_; wp_walk using wpAny_loadPart' hl)
      | (refine wpAny_ite_false (decide_eq_false (by rw [c1]; exact Bool.false_ne_true)) ?_; wp_walk using wpAny_loadPart' hl)
      | (refine wpAny_ite_true (decide_eq_true c2) ?_; wp_walk using wpAny_loadPart' hl))
    exact ⟨_, rfl, h⟩
/-- tuple * k, k from 0 to 1000, the tuple not empty -/
def rRepA (K : PySem.W.Frag) : R2 := fun x y H Q => ∃ l k xs, x = .ref l ∧ y = .int k ∧ SqT K H l xs ∧ xs ≠ [] ∧ 0 ≤ k ∧ k ≤ 1000 ∧ xs.length ≤ 1000 ∧ (k = 1 → Q (.ref l) H) ∧ ∀ p, H p = none → Q (.ref p) (upd H p (.tup (List.replicate k.toNat xs).flatten))
theorem op_repA : OpR X (binaryOp .Mult) (rRepA X.K) := by
  intro pins s σ H x y v u Q I rx ry h
  obtain ⟨l, k, xs, rfl, rfl, hT, hne, h1, h2, hz, q1, q⟩ := h
  by_cases k2 : 2 ≤ k
  · exact op_repT pins s σ H _ _ _ _ Q I rx ry ⟨l, k, xs, rfl, rfl, hT, hne, k2, h2, hz, q⟩
  cases rx
  obtain ⟨t, rfl⟩ := ry
  obtain ⟨its, r, ⟨⟨cls, dd, data, sl⟩, ho, hc, n, hd⟩, hs⟩ := I.tuple hT
  simp only at hc hd
  subst hc hd
  have hn : its ≠ [] := fun e => hne (r.nil_iff.mp e)
  have hi : its.toArray.isEmpty = false := by
    cases its with
    | nil => exact absurd rfl hn
    | cons a b => rfl
  have c0 : (decide (k < -(2 ^ 63)) || decide (k ≥ 2 ^ 63)) = false := by
    rw [decide_eq_false (by omega), decide_eq_false (by omega)] <;> rfl
  by_cases k1 : k = 1
  · subst k1
    refine wpAny_binaryOp_repeat_ref (T := "tuple") (U := "int") (by decide) ⟨_, ho, rfl⟩ (fun s' => typeIs_int s' 1 t) noFill_tuple_mul F.fills_int_mul F.slot_int_rmul repeat_tuple F.slot_int_index.lookup
      (call_meets F.slot_int_rmul (typeIs_int s 1 t) F.entry_int_rmul (F.args_int_rmul_2 _ _) (int_rmul_tuple 1 t l its.toArray n dd sl)
        ⟨ho, rfl, ⟨_, ho, rfl⟩, call_meets F.slot_tuple_mul ⟨_, ho, rfl⟩ F.entry_tuple_mul (F.args_tuple_mul_2 _ _) (tuple_mul1 l its.toArray n dd sl 1 t c0 (by rw [hi]; rfl)) ⟨ho, ?_⟩⟩)
    exact ⟨.ref l, H, I, rfl, q1 rfl⟩
  · have k0 : k = 0 := by omega
    subst k0
    refine wpAny_binaryOp_repeat_ref (T := "tuple") (U := "int") (by decide) ⟨_, ho, rfl⟩ (fun s' => typeIs_int s' 0 t) noFill_tuple_mul F.fills_int_mul F.slot_int_rmul repeat_tuple F.slot_int_index.lookup
      (call_meets F.slot_int_rmul (typeIs_int s 0 t) F.entry_int_rmul (F.args_int_rmul_2 _ _) (int_rmul_tuple 0 t l its.toArray n dd sl)
        ⟨ho, rfl, ⟨_, ho, rfl⟩, call_meets F.slot_tuple_mul ⟨_, ho, rfl⟩ F.entry_tuple_mul (F.args_tuple_mul_2 _ _) (tuple_mul0 l its.toArray n dd sl 0 t c0 (by rw [hi]; rfl) (by rw [hi]; rfl)) ⟨ho, ?_⟩⟩)
    refine ⟨.ref s.heap.objs.size, _, I.laid (t' := s.toks) (o := .tup (List.replicate (0 : Int).toNat xs).flatten) (fun b ob q => Heap.get?_push_of_some _ q) (Nat.le_refl _) ?_, rfl, q _ (I.hok.fresh (Nat.le_refl _))⟩
    exact ⟨by simp, [], .nil, IsTup.new _ _⟩
end
theorem opCatA (K : PySem.W.Frag) {X : Cx} (hK : X.K = K) : OpR X (binaryOp .Add) (rCatA K) := hK ▸ op_catA
theorem opRepA (K : PySem.W.Frag) {X : Cx} (hK : X.K = K) : OpR X (binaryOp .Mult) (rRepA K) := hK ▸ op_repA
end Dv

set_option Elab.async false
set_option linter.all false
set_option maxRecDepth 100000
set_option maxHeartbeats 4000000
namespace Dv
open PySem PySem.Spec PyProof.Rows L2 Px
section
variable {K : PySem.W.Frag} {ta : TE} {pa : Env → (T → Prop) → Prop}
def dCatA : DR := fun t u Q => ∃ ds es, t.elT = some ds ∧ u.elT = some es ∧ ds.length + es.length ≤ 16777216 ∧ Q (.g (.tuple (ds ++ es)))
theorem dpAll_nil {H : Hp} {xs : List V} {ds : List PyData} (d : DpAll K H xs ds) : xs = [] ↔ ds = [] := by cases d <;> simp
theorem or_catA : OR K (rCatA K) dCatA := fun {G H t u v w QD Q} s a b ⟨ds, es, e1, e2, z, q⟩ p => by
  obtain ⟨l, xs, rfl, g1, h1, h2⟩ := elT_of s a e1
  obtain ⟨m, ys, rfl, g3, h3, h4⟩ := elT_of s b e2
  refine ⟨l, m, xs, ys, rfl, rfl, h1, h3, r_small (by rw [dpAll_len h2, dpAll_len h4]; exact z), fun e => ?_, fun _ e => ?_, fun _ _ => p.tup s (dpAll_app h2 h4) q⟩
  · have e0 := (dpAll_nil h2).mp e
    subst e0
    exact p (.g (.tuple es)) _ G H (by rw [List.nil_append] at q; exact q) (.refl s) (.tup g3 h4) nofp
  · have e0 := (dpAll_nil h4).mp e
    subst e0
    exact p (.g (.tuple ds)) _ G H (by rw [List.append_nil] at q; exact q) (.refl s) (.tup g1 h2) nofp
def dRepA : DR := fun t u Q => ∃ ds k, t.elT = some ds ∧ u.rd = .int k ∧ ds ≠ [] ∧ 0 ≤ k ∧ k ≤ 1000 ∧ ds.length ≤ 1000 ∧ Q (.g (.tuple (List.replicate k.toNat ds).flatten))
theorem or_repA : OR K (rRepA K) dRepA := fun {G H t u v w QD Q} s a b ⟨ds, k, e1, e2, ne, k0, k1, z, q⟩ p => by
  obtain ⟨l, xs, rfl, g1, h1, h2⟩ := elT_of s a e1
  refine ⟨l, k, xs, rfl, vr_int s b e2, h1, fun e => ne ((dpAll_nil h2).mp e), k0, k1, by rw [dpAll_len h2]; exact z, fun e => ?_, p.tup s (dpAll_rep h2 _) q⟩
  subst e
  exact p (.g (.tuple _)) _ G H q (.refl s) (.tup g1 (by simpa using h2)) nofp
/-- a list, a tuple as a test -/
def dTru (pa : Env → (T → Prop) → Prop) : Env → (Bool → Prop) → Prop := fun ρ Q => pa ρ fun t => ∃ ds, seqD t.rd = some ds ∧ Q (!ds.isEmpty)
theorem lt_tru (ha : LP K ta pa) : LT K (Px.tTru K ta) (dTru pa) := fun {G0 H0 M ρ σ G H QD Q} x q p => ha x q fun t v G1 H1 ⟨ds, e, qt⟩ r1 v1 f1 => by
  obtain ⟨a, xs, rfl, h1, h2⟩ := seq_dp (v1.dp r1.s (T.dat_of fun z => by rw [z] at e; cases e)) e
  have hb : xs.isEmpty = ds.isEmpty := by cases h2 <;> rfl
  refine ⟨_, ?_, p _ _ _ qt r1⟩
  rcases h1 with h1 | h1
  · exact .inl ⟨xs, h1, by rw [hb]⟩
  · exact .inr (.inl ⟨xs, h1, by rw [hb]⟩)
def TRU (t : T) (Q : Bool → Prop) : Prop := ∃ ds, seqD t.rd = some ds ∧ Q (!ds.isEmpty)
theorem w_tru {ρ : Env} {Q : Bool → Prop} (q : pa ρ fun t => TRU t Q) : dTru pa ρ Q := q
theorem w_tru1 {t : T} {ds : List PyData} {Q : Bool → Prop} (h : seqD t.rd = some ds) (q : Q (!ds.isEmpty)) : TRU t Q := ⟨ds, h, q⟩
end
def SIX (ds : List PyData) (t u : T) (R : List PyData → Prop) : Prop := ∃ k j x, u.rd = .int k ∧ ixN ds.length k = some j ∧ t.fz = .g x ∧ R (ds.set j x)
theorem w_setIx {ρ : Env} {i : Nat} {ds : List PyData} {n b ct : Env → Prop} {rt : T → Env → Prop} {pa pk : Env → (T → Prop) → Prop} (h : ρ[i]? = some (some (.l ds))) (q : pa ρ fun t => pk ρ fun u => SIX ds t u fun es => n (ρ.set i (some (.l es)))) : dSetIx i pk pa ⟨n, rt, b, ct, ex⟩ ρ := by
  refine ⟨⟨_, _, h, rfl⟩, ?_⟩
  have e : (fun t => pk ρ fun u => SIX ds t u fun es => n (ρ.set i (some (.l es)))) = fun t => pk ρ fun u => ∃ w ds k j x, ρ[i]? = some (some w) ∧ w.mine = some ds ∧ u.rd = .int k ∧ ixN ds.length k = some j ∧ t.fz = .g x ∧ n (ρ.set i (some (w.with (ds.set j x)))) := by
    funext t
    congr 1
    funext u
    apply propext
    constructor
    · rintro ⟨k, j, x, a, b, c, d⟩
      exact ⟨_, _, k, j, x, h, rfl, a, b, c, d⟩
    · rintro ⟨w, ds', k, j, x, h', m', a, b, c, d⟩
      rw [h] at h'
      cases Option.some.inj (Option.some.inj h')
      cases Option.some.inj m'
      exact ⟨k, j, x, a, b, c, d⟩
  rw [e] at q
  exact q
theorem w_six {ds : List PyData} {k : Int} {x : PyData} {R : List PyData → Prop} (h0 : 0 ≤ k) (h1 : k < ds.length) (q : R (ds.set k.toNat x)) : SIX ds (.g x) (.g (.int k)) R := ⟨k, k.toNat, x, rfl, by unfold ixN; rw [if_pos h0, if_pos h1], rfl, q⟩
theorem w_catA {t u : T} {ds es : List PyData} {Q : T → Prop} (h1 : t.elT = some ds) (h2 : u.elT = some es) (z : ds.length + es.length ≤ 16777216) (q : Q (.g (.tuple (ds ++ es)))) : dCatA t u Q := ⟨ds, es, h1, h2, z, q⟩
theorem w_slT {t : T} {ds : List PyData} {lo hi : Option Int} {Q : T → Prop} (h : t.elT = some ds) (n : ¬ (HT.sIx ds.length 0 lo = 0 ∧ HT.sIx ds.length ds.length hi = ds.length)) (q : Q (.g (.tuple (cutD ds lo hi)))) : dSlT t lo hi Q := ⟨ds, h, n, q⟩
theorem atI_zero {α : Type} {x : α} {r : List α} : atI (x :: r) 0 = some x := atI_of (by decide) rfl
theorem inD_last {n : Int} {r : List Int} (h : inD (n :: r) ≠ []) : (inD (n :: r)).getLast h = .int ((n :: r).getLastD 0) := by
  unfold inD
  rw [List.getLast_map, List.getLastD_eq_getLast?, List.getLast?_eq_some_getLast (by simp)]
  rfl
theorem w_ifT {b : Bool} {A B : Prop} (h : b = true) (q : A) : if b = true then A else B := by
  rw [if_pos h]
  exact q
theorem w_ifF {b : Bool} {A B : Prop} (h : b = false) (q : B) : if b = true then A else B := by
  rw [if_neg (by rw [h]; decide)]
  exact q
theorem atI_last {α : Type} {ds : List α} (h : ds ≠ []) : atI ds (-1) = some (ds.getLast h) := by
  have hl : 0 < ds.length := List.length_pos_iff.mpr h
  unfold atI ixN
  rw [if_neg (by omega), if_pos (by omega)]
  show ds[((-1 : Int) + (ds.length : Nat)).toNat]? = _
  rw [show ((-1 : Int) + (ds.length : Nat)).toNat = ds.length - 1 by omega, List.getElem?_eq_getElem (by omega), List.getLast_eq_getElem]
theorem sIx_m1 (n d : Nat) : HT.sIx n d (some (-1)) = n - 1 := by
  show (if (-1 : Int) < 0 then ((-1 : Int) + (n : Nat)).toNat else min (-1 : Int).toNat n) = _
  rw [if_pos (by decide)]
  omega
theorem cut_last (ds : List PyData) : cutD ds none (some (-1)) = ds.dropLast := by
  unfold cutD
  rw [HT.sIx_none, List.drop_zero, List.dropLast_eq_take, sIx_m1]
  rfl
theorem cut_tail (ds : List PyData) : cutD ds (some 1) none = ds.tail := by
  unfold cutD
  rw [HT.sIx_none]
  have e : HT.sIx ds.length 0 (some 1) = min 1 ds.length := HT.sIx_nat ds.length 0 1
  rw [e]
  cases ds with
  | nil => rfl
  | cons x xs =>
    simp [Nat.min_def]
theorem notwhole_last {ds : List PyData} (h : ds ≠ []) : ¬ (HT.sIx ds.length 0 none = 0 ∧ HT.sIx ds.length ds.length (some (-1)) = ds.length) := fun ⟨_, e⟩ => by
  have hl : 0 < ds.length := List.length_pos_iff.mpr h
  rw [sIx_m1] at e
  omega
theorem notwhole_tail {ds : List PyData} (h : ds ≠ []) : ¬ (HT.sIx ds.length 0 (some 1) = 0 ∧ HT.sIx ds.length ds.length none = ds.length) := fun ⟨e, _⟩ => by
  have hl : 0 < ds.length := List.length_pos_iff.mpr h
  have e2 : HT.sIx ds.length 0 (some 1) = min 1 ds.length := HT.sIx_nat ds.length 0 1
  omega
/-! ### nets, standings, moves -/
def wyD (w : Int × Int) : PyData := .tuple [.int w.1, .int w.2]
def ssD (ss : List Str) : List PyData := ss.map PyData.str
def wsD (ws : List (Int × Int)) : List PyData := ws.map wyD
def ntD (ss : List Str) (ws : List (Int × Int)) : PyData := .tuple [.list (ssD ss), .list (wsD ws)]
def hsD (hs : List (List Int)) : List PyData := hs.map fun h => PyData.tuple (inD h)
def stD (g : Int) (hs : List (List Int)) (o : Int) : PyData := .tuple [.int g, .tuple (hsD hs), .int o]
def optD : Option Int → PyData
  | none => .none
  | some n => .int n
def numLeave (ss : List Str) (od : List Int) (g : Int) (hs : List (List Int)) (a : Int) : Option Int :=
  if a = -1 then (if g < (od.length : Nat) then some (od.getD g.toNat 0) else none)
  else if hs.getD a.toNat [] = [] then none else if ss.getD a.toNat "line" = "pile" then some ((hs.getD a.toNat []).getLastD 0) else some ((hs.getD a.toNat []).headD 0)
def mayB (ss : List Str) (od : List Int) (g : Int) (hs : List (List Int)) (o : Int) (w : Int × Int) : Bool :=
  match numLeave ss od g hs w.1 with
  | none => false
  | some n => decide (w.2 ≠ -2) || decide (n = o)
def held1 (ss : List Str) (hs : List (List Int)) (a : Int) : List (List Int) := if a = -1 then hs else hs.set a.toNat (if ss.getD a.toNat "line" = "pile" then (hs.getD a.toNat []).dropLast else (hs.getD a.toNat []).tail)
def held2 (hs : List (List Int)) (b n : Int) : List (List Int) := if b = -2 then hs else hs.set b.toNat (hs.getD b.toNat [] ++ [n])
def mvD (ss : List Str) (g : Int) (hs : List (List Int)) (o : Int) (w : Int × Int) (n : Int) : PyData := stD (if w.1 = -1 then g + 1 else g) (held2 (held1 ss hs w.1) w.2 n) (if w.2 = -2 then o + 1 else o)
theorem held1_len (ss : List Str) (hs : List (List Int)) (a : Int) : (held1 ss hs a).length = hs.length := by
  unfold held1
  split
  · rfl
  · rw [List.length_set]
theorem held2_len (hs : List (List Int)) (b n : Int) : (held2 hs b n).length = hs.length := by
  unfold held2
  split
  · rfl
  · rw [List.length_set]
/-- a way between stations of so many -/
def WayIn (m : Nat) (w : Int × Int) : Prop := (w.1 = -1 ∨ (0 ≤ w.1 ∧ w.1 < m)) ∧ (w.2 = -2 ∨ (0 ≤ w.2 ∧ w.2 < m))
theorem hsD_at {hs : List (List Int)} {a : Int} (h0 : 0 ≤ a) (h1 : a < hs.length) : atI (hsD hs) a = some (.tuple (inD (hs.getD a.toNat []))) := by
  refine atI_of h0 ?_
  unfold hsD
  rw [List.getElem?_map, List.getD_eq_getElem?_getD, List.getElem?_eq_getElem (by omega)]
  rfl
theorem ssD_at {ss : List Str} {a : Int} (h0 : 0 ≤ a) (h1 : a < ss.length) : atI (ssD ss) a = some (.str (ss.getD a.toNat "line")) := by
  refine atI_of h0 ?_
  unfold ssD
  rw [List.getElem?_map, List.getD_eq_getElem?_getD, List.getElem?_eq_getElem (by omega)]
  rfl
theorem hsD_len (hs : List (List Int)) : (hsD hs).length = hs.length := by unfold hsD; rw [List.length_map]
theorem ssD_len (hs : List Str) : (ssD hs).length = hs.length := by unfold ssD; rw [List.length_map]
theorem wsD_len (hs : List (Int × Int)) : (wsD hs).length = hs.length := by unfold wsD; rw [List.length_map]
theorem hsD_set (hs : List (List Int)) (j : Nat) (h : List Int) : (hsD hs).set j (.tuple (inD h)) = hsD (hs.set j h) := by
  unfold hsD
  rw [List.map_set]
theorem inD_app (xs ys : List Int) : inD xs ++ inD ys = inD (xs ++ ys) := by simp [inD]
theorem inD_dropLast (xs : List Int) : (inD xs).dropLast = inD xs.dropLast := by simp [inD]
theorem inD_tail (xs : List Int) : (inD xs).tail = inD xs.tail := by simp [inD]
theorem inD_nil {xs : List Int} : inD xs = [] ↔ xs = [] := by simp [inD]
end Dv

set_option Elab.async false
set_option linter.all false
set_option maxRecDepth 100000
set_option maxHeartbeats 4000000
namespace Dv
open PySem PySem.Spec PyProof.Rows L2 Px
/-! ### a list of lists of one's own -/
section
variable {K : PySem.W.Frag} {G0 H0 G H G' H' : Hp} {M : Addr → Prop} {ρ : Env} {σ : L2.St}
theorem rows_set {ws : List V} {es : List PyData} (d : DpAll K G ws es) : ∀ {as : List Addr} {dss : List (List PyData)} {k : Nat} {b : Addr}, as.Nodup → as[k]? = some b → G b = none → Rows K G H as dss → Rows K G (upd H b (.lst ws)) as (dss.set k es)
  | [], _, _, _, _, h, _, _ => by simp at h
  | a :: as, [], _, _, _, _, _, h => h.elim
  | a :: as, ds :: dss, 0, b, nd, h, gb, ⟨⟨vs, h1, h2, h3⟩, q⟩ => by
    simp at h
    subst h
    refine ⟨⟨ws, upd_same, gb, d⟩, ?_⟩
    have na := (List.nodup_cons.mp nd).1
    clear nd h1 h2 h3
    induction as generalizing dss with
    | nil => cases dss with
      | nil => exact True.intro
      | cons _ _ => exact q.elim
    | cons c cs ih => cases dss with
      | nil => exact q.elim
      | cons e es =>
        obtain ⟨⟨us, p1, p2, p3⟩, q⟩ := q
        have nc : c ≠ a := fun z => na (by rw [z]; exact List.mem_cons_self)
        exact ⟨⟨us, by rw [upd_ne nc]; exact p1, p2, p3⟩, ih _ q fun z => na (List.mem_cons_of_mem _ z)⟩
  | a :: as, ds :: dss, k + 1, b, nd, h, gb, ⟨⟨vs, h1, h2, h3⟩, q⟩ => by
    have hb : as[k]? = some b := by simpa using h
    have na : a ≠ b := fun z => (List.nodup_cons.mp nd).1 (z ▸ List.mem_of_getElem? hb)
    exact ⟨⟨vs, by rw [upd_ne na]; exact h1, h2, h3⟩, rows_set d (List.nodup_cons.mp nd).2 hb gb q⟩
theorem Iv.mutLL (x : Iv K G0 H0 M ρ σ G H) {i k : Nat} {a b : Addr} {as : List Addr} {dss : List (List PyData)} {es : List PyData} {ws : List V} (e : ρ[i]? = some (some (.ll dss))) (f : σ[i]? = some (some (.ref a))) (ha : H a = some (.lst (as.map V.ref))) (hk : as[k]? = some b) (d : DpAll K G ws es) :
    Iv K G0 H0 M (ρ.set i (some (.ll (dss.set k es)))) σ G (upd H b (.lst ws)) := by
  obtain ⟨a', as', ea, h1, h2, h3, h4⟩ := x.vr e f
  cases ea
  rw [ha] at h1
  cases refs_inj (HO.lst.inj (Option.some.inj h1))
  have hbm := List.mem_of_getElem? hk
  have nab : a ≠ b := fun z => (List.nodup_cons.mp h3).1 (z ▸ hbm)
  have fpb : Fp H (.ll dss) (.ref a) b := ⟨a, as, rfl, ha, .inr hbm⟩
  obtain ⟨hb0, gb⟩ := Fp.there (x.vr e f) fpb
  have others : ∀ {j : Nat} {u : T} {w : V}, j ≠ i → ρ[j]? = some (some u) → σ[j]? = some (some w) → ¬ Fp H u w b := fun {j u w} nj e1 e2 p => nj (x.dj j i u _ w _ b e1 e e2 f p fpb)
  have ob : H0 b = none := x.own i _ _ b e f fpb
  have vr' : Vr K G (upd H b (.lst ws)) (.ll (dss.set k es)) (.ref a) := ⟨a, as, rfl, by rw [upd_ne nab]; exact ha, h2, h3, rows_set d (List.nodup_cons.mp h3).2 hk gb h4⟩
  have fp' : ∀ c, Fp (upd H b (.lst ws)) (.ll (dss.set k es)) (.ref a) c → Fp H (.ll dss) (.ref a) c := fun c ⟨a1, as1, e1, e2, e3⟩ => by
    cases e1
    rw [upd_ne nab, ha] at e2
    cases refs_inj (HO.lst.inj (Option.some.inj e2))
    exact ⟨a, as, rfl, ha, e3⟩
  refine ⟨fun c o ec => ?_, x.g0, x.gf, fun c o nm ec => ?_, fun c mc => ?_, by rw [List.length_set, x.len], kdset x.kd (fun z => (Option.some.inj z) ▸ rfl), fun j u e1 => ?_, fun j u w c e1 e2 p => ?_, fun j j' u u' w w' c e1 e2 e3 e4 p1 p2 => ?_⟩
  · rw [upd_ne (ne_of_none ec gb)]
    exact x.gh _ _ ec
  · rw [upd_ne (ne_of_none ec ob)]
    exact x.up c o nm ec
  · by_cases z : c = b
    · rw [z, upd_same]
      exact fun z => nomatch z
    · rw [upd_ne z]
      exact x.mh c mc
  · rcases set_at e1 with ⟨rfl, _, d1⟩ | ⟨ne, d1⟩
    · cases (Option.some.inj d1)
      exact ⟨_, f, vr'⟩
    · obtain ⟨w, w1, w2⟩ := x.sl j u d1
      exact ⟨w, w1, w2.mut (x.kd _ _ d1) (others ne d1 w1) gb⟩
  · rcases set_at e1 with ⟨rfl, _, d1⟩ | ⟨ne, d1⟩
    · cases (Option.some.inj d1)
      rw [f] at e2
      cases (Option.some.inj (Option.some.inj e2))
      have := x.own _ (.ll dss) _ c e f (fp' c p)
      exact this
    · exact x.own j u w c d1 e2 (Fp.mut (x.vr d1 e2) (others ne d1 e2) p)
  · rcases set_at e1 with ⟨rfl, _, d1⟩ | ⟨ne, d1⟩
    · cases (Option.some.inj d1)
      rw [f] at e3
      cases (Option.some.inj (Option.some.inj e3))
      rcases set_at e2 with ⟨rfl, _, _⟩ | ⟨ne2, d2⟩
      · rfl
      · exact x.dj _ _ _ _ _ _ c e d2 f e4 (fp' c p1) (Fp.mut (x.vr d2 e4) (others ne2 d2 e4) p2)
    · rcases set_at e2 with ⟨rfl, _, d2⟩ | ⟨ne2, d2⟩
      · cases (Option.some.inj d2)
        rw [f] at e4
        cases (Option.some.inj (Option.some.inj e4))
        exact x.dj _ _ _ _ _ _ c d1 e e3 f (Fp.mut (x.vr d1 e3) (others ne d1 e3) p1) (fp' c p2)
      · exact x.dj j j' u u' w w' c d1 d2 e3 e4 (Fp.mut (x.vr d1 e3) (others ne d1 e3) p1) (Fp.mut (x.vr d2 e4) (others ne2 d2 e4) p2)
end
section
variable {K : PySem.W.Frag} {ta tk : TE} {pa pk : Env → (T → Prop) → Prop} {al : TA} {dl : Env → (List T → Prop) → Prop}
/-- x[k].m(..), x a list of lists of one's own: the inner list changes -/
theorem mutP_core {i : Nat} {r : V → List V → Hp → VK → Prop} {dm : DM} (hk : LP K tk pk) (ha : LA K al dl) (hr : OM K r dm) {G0 H0 G H : Hp} {M : Addr → Prop} {ρ : Env} {σ : L2.St} (x : Iv K G0 H0 M ρ σ G H) {QE : Env → PyData → Prop} {Q : VK} {dss : List (List PyData)}
    (e : ρ[i]? = some (some (.ll dss))) (q : pk ρ fun u => ∃ (k : Int) (j : Nat) (ds : List PyData), u.rd = .int k ∧ ixN dss.length k = some j ∧ dss[j]? = some ds ∧ dl ρ fun ts => dm ds ts fun ds' y => QE (ρ.set i (some (.ll (dss.set j ds')))) y)
    (kk : ∀ ρ' y v G' H', QE ρ' y → Iv K G0 H0 M ρ' σ G' H' → Dp K G' v y → Q v H') : tBM K "list" r (tOp (rIxL K) (tVar i) tk) al σ H Q := by
  obtain ⟨v, f, a, as, rfl, h1, h2, h3, h4⟩ := x.sl _ _ e
  refine ⟨_, f, hk x q fun u w G1 H1 ⟨k, j, ds, e1, e2, e3, q⟩ r1 v1 f1 => ?_⟩
  have x1 := x.mono r1
  have h1' := r1.h _ _ h1
  have h4' := h4.mono r1
  obtain ⟨hl, hat⟩ := rows_at h4'
  have hj : j < as.length := by
    rw [hl]
    exact lt_of_at e3
  obtain ⟨ds', vs, e4, h5, h6, h7⟩ := hat j as[j] (List.getElem?_eq_getElem hj)
  rw [e3] at e4
  cases Option.some.inj e4
  refine ⟨a, as.map V.ref, k, .ref as[j], rfl, vr_int r1.s v1 e1, seq_of h1', ?_, tyV_list (seq_of h5), ha x1 q fun ts us G2 H2 qd r2 v2 => ?_⟩
  · unfold atI
    rw [List.length_map, hl, e2]
    show (as.map V.ref)[j]? = _
    rw [List.getElem?_map, List.getElem?_eq_getElem hj]
    rfl
  · have x2 := x1.mono r2
    exact hr r2.s (r2.h _ _ h5) (dpAll_same r2.g h7) v2 qd fun ds2 y xs2 v q1 d1 d2 => kk _ _ _ _ _ q1 (x2.mutLL e f (r2.h _ _ h1') (List.getElem?_eq_getElem hj) d1) d2
def dMutP (i : Nat) (dm : DM) (pk : Env → (T → Prop) → Prop) (dl : Env → (List T → Prop) → Prop) : DS := fun DD ρ => ∃ dss, ρ[i]? = some (some (.ll dss)) ∧ pk ρ fun u => ∃ (k : Int) (j : Nat) (ds : List PyData), u.rd = .int k ∧ ixN dss.length k = some j ∧ dss[j]? = some ds ∧ dl ρ fun ts => dm ds ts fun ds' _ => DD.nx (ρ.set i (some (.ll (dss.set j ds'))))
theorem ls_mutP {i : Nat} {r : V → List V → Hp → VK → Prop} {dm : DM} (hk : LP K tk pk) (ha : LA K al dl) (hr : OM K r dm) : LS K (tDrop (tBM K "list" r (tOp (rIxL K) (tVar i) tk) al)) (dMutP i dm pk dl) := fun {G0 H0 M DD D ρ σ G H} E x ⟨dss, e, q⟩ => mutP_core hk ha hr x (QE := fun ρ' _ => DD.nx ρ') e q fun ρ' y v G' H' q1 x1 _ => E.nx _ _ _ _ x1 q1
def dMutPA (i j : Nat) (dm : DM) (pk : Env → (T → Prop) → Prop) (dl : Env → (List T → Prop) → Prop) : DS := fun DD ρ => ∃ dss, ρ[i]? = some (some (.ll dss)) ∧ pk ρ fun u => ∃ (k : Int) (m : Nat) (ds : List PyData), u.rd = .int k ∧ ixN dss.length k = some m ∧ dss[m]? = some ds ∧ dl ρ fun ts => dm ds ts fun ds' y => DD.nx ((ρ.set i (some (.ll (dss.set m ds')))).set j (some (.g y)))
theorem ls_mutPA {i j : Nat} {r : V → List V → Hp → VK → Prop} {dm : DM} (hk : LP K tk pk) (ha : LA K al dl) (hr : OM K r dm) : LS K (tAsg (tBM K "list" r (tOp (rIxL K) (tVar i) tk) al) (gName j)) (dMutPA i j dm pk dl) := fun {G0 H0 M DD D ρ σ G H} E x ⟨dss, e, q⟩ => mutP_core hk ha hr x (QE := fun ρ' y => DD.nx (ρ'.set j (some (.g y)))) e q fun ρ' y v G' H' q1 x1 d => E.nx _ _ _ _ (x1.set0 (t := .g y) rfl d fun _ f => f.elim) q1
/-- [list(some) for some in xs], the items lists or tuples of frozen items: a list of lists of one's own -/
def elD : PyData → Option (List PyData)
  | .list ds => some ds | .tuple ds => some ds | _ => none
def dLcLL (di : Env → (Bool → List PyData → Prop) → Prop) : Env → (T → Prop) → Prop := fun ρ Q => di ρ fun _ items => items.length ≤ 1000000 ∧ ∃ dss : List (List PyData), items.map elD = dss.map some ∧ Q (.ll dss)
def dLcL (j : Nat) (di : Env → (Bool → List PyData → Prop) → Prop) : Env → (T → Prop) → Prop := fun ρ Q => j < ρ.length ∧ dLcLL di ρ Q
def dLcT (i j : Nat) : Env → (T → Prop) → Prop := fun ρ Q => j < ρ.length ∧ ∃ dss, ρ[i]? = some (some (.ll dss)) ∧ dss.length ≤ 1000000 ∧ Q (.l (dss.map .tuple))
theorem rows_app {G H : Hp} {b : Addr} {ds : List PyData} (hb : ∃ vs, H b = some (.lst vs) ∧ G b = none ∧ DpAll K G vs ds) : ∀ {as : List Addr} {dss : List (List PyData)}, Rows K G H as dss → Rows K G H (as ++ [b]) (dss ++ [ds])
  | [], [], _ => ⟨hb, True.intro⟩
  | _ :: _, _ :: _, ⟨h, q⟩ => ⟨h, rows_app hb q⟩
  | [], _ :: _, h => h.elim
  | _ :: _, [], h => h.elim
theorem rows_weak {G H G' H' : Hp} (g : Same G G') (h : Same H H') : ∀ {as : List Addr} {dss : List (List PyData)}, (∀ a ∈ as, G' a = none) → Rows K G H as dss → Rows K G' H' as dss
  | [], [], _, _ => True.intro
  | a :: as, _ :: _, n, ⟨⟨vs, h1, _, h3⟩, q⟩ => ⟨⟨vs, h _ _ h1, n a (by simp), dpAll_same g h3⟩, rows_weak g h (fun b hb => n b (List.mem_cons_of_mem _ hb)) q⟩
  | [], _ :: _, _, h => h.elim
  | _ :: _, [], _, h => h.elim
theorem lp_lcLL {wi : TI} {j : Nat} {vs : List Nat} {di : Env → (Bool → List PyData → Prop) → Prop} (hi : LI K wi di) (hj : vs.contains j = true) : LP K (tLc wi (gName j) tYes (tCB (rLst K) (tCons (tVar j) tNil)) vs) (dLcL j di) := fun {G0 H0 M ρ σ G H QD Q} x ⟨jl, q⟩ p => hi x q fun st items J G1 H1 ⟨hlen, dss, hd, qf⟩ r1 _ ih => by
  have hj' : j ∈ vs := by simpa using hj
  have hdl : items.length = dss.length := by
    have := congrArg List.length hd
    simpa using this
  intro D hD
  refine ⟨fun i m H' => m = items.length - i ∧ i ≤ items.length ∧ ∃ G' as, Gr G1 H1 G' H' ∧ G' D = none ∧ H' D = some (.lst (as.map V.ref)) ∧ (D :: as).Nodup ∧ (∀ a ∈ as, H1 a = none) ∧ Rows K G' H' as (dss.take i), ⟨items.length, by simp, Nat.zero_le _, G1, [], .new r1.s hD, r1.s.free hD, upd_same, by simp, by simp, True.intro⟩, ?_⟩
  rintro i m H2 ⟨rfl, hile, G2, as, r2, gD, eD, nd, fr, rw2⟩
  by_cases hlt : i < items.length
  · obtain ⟨go, yl⟩ := (ih G2 H2 r2.g r2.h r2.s i).1 hlt
    refine .inr ⟨go, fun H' => i + 1 ≤ items.length ∧ ∃ G' as, Gr G1 H1 G' H' ∧ G' D = none ∧ H' D = some (.lst (as.map V.ref)) ∧ (D :: as).Nodup ∧ (∀ a ∈ as, H1 a = none) ∧ Rows K G' H' as (dss.take (i + 1)), fun H' ⟨a, b⟩ => ⟨items.length - (i + 1), by omega, rfl, a, b⟩, fun y H3 hy => ?_⟩
    obtain ⟨G3, d, r3, ed, dy⟩ := yl y H3 hy
    have r13 := r2.trans r3
    refine ⟨by rw [wipe_set hj', wipe_wipe], ?_⟩
    have hds : ∃ ds, dss[i]? = some ds ∧ elD d = some ds := by
      have h1 : (items.map elD)[i]? = some (elD d) := by rw [List.getElem?_map, ed]; rfl
      rw [hd, List.getElem?_map] at h1
      cases e : dss[i]? with
      | none => rw [e] at h1; cases h1
      | some ds =>
        rw [e] at h1
        exact ⟨ds, rfl, (Option.some.inj h1).symm⟩
    obtain ⟨ds, eds, eld⟩ := hds
    have hseq : ∃ b ys, y = .ref b ∧ (SqL K H3 b ys ∨ SqT K H3 b ys) ∧ DpAll K G3 ys ds := by
      cases d with
      | list zs =>
        cases (Option.some.inj eld)
        obtain ⟨b, ys, e, h1, h2⟩ := dp_lst dy
        exact ⟨b, ys, e, .inl (r3.s.seq h1), h2⟩
      | tuple zs =>
        cases (Option.some.inj eld)
        obtain ⟨b, ys, e, h1, h2⟩ := dp_tup dy
        exact ⟨b, ys, e, .inr (same_seqT r3.s h1), h2⟩
      | _ => simp [elD] at eld
    obtain ⟨b, ys, rfl, hsq, dys⟩ := hseq
    refine ⟨_, List.getElem?_set_self (by rw [wipe_length, x.len]; exact jl), b, ys, rfl, hsq, fun l hl => ?_⟩
    have hD3 := r3.h _ _ eD
    have nDl : D ≠ l := ne_of_none hD3 hl
    have fl1 : H1 l = none := r13.h.free hl
    have nl : l ∉ as := fun m => by
      obtain ⟨k, hk⟩ := List.mem_iff_getElem?.mp m
      obtain ⟨_, vs', _, p1, _⟩ := (rows_at (rw2.mono r3)).2 k l hk
      rw [p1] at hl
      cases hl
    have g3l : G3 l = none := r3.s.free hl
    have gD3 : G3 D = none := r3.n D (nn_of eD) gD
    refine ⟨as.map V.ref, by rw [upd_ne nDl]; exact hD3, r_smalll ?_, hlt, G3, as ++ [l], ⟨r13.g, same_mut (same_mut r13.h fl1) hD, fun a u e => ?_, r13.n⟩, gD3, by rw [upd_same, List.map_append]; rfl, ?_, ?_, ?_⟩
    · have := (rows_at rw2).1
      rw [List.length_take] at this
      rw [List.length_map]
      omega
    · rw [upd_ne (ne_of_none e gD3), upd_ne (ne_of_none e g3l)]
      exact r13.s _ _ e
    · have nd0 := List.nodup_cons.mp nd
      rw [List.nodup_cons]
      refine ⟨fun m => ?_, ?_⟩
      · rcases List.mem_append.mp m with z | z
        · exact nd0.1 z
        · exact nDl (List.mem_singleton.mp z)
      · exact List.nodup_append.mpr ⟨nd0.2, List.nodup_cons.mpr ⟨by simp, by simp⟩, fun a ha c hc => by
          rw [List.mem_singleton.mp hc]
          exact fun z => nl (z ▸ ha)⟩
    · intro a ha
      rcases List.mem_append.mp ha with z | z
      · exact fr a z
      · rw [List.mem_singleton.mp z]
        exact fl1
    · rw [List.take_add_one, eds]
      refine rows_app ⟨ys, by rw [upd_ne nDl.symm, upd_same], g3l, dys⟩ ?_
      have nDas := (List.nodup_cons.mp nd).1
      have h1 := rw2.mono r3
      have : ∀ {bs : List Addr} {ess : List (List PyData)}, (∀ c ∈ bs, c ≠ l ∧ c ≠ D) → Rows K G3 H3 bs ess → Rows K G3 (upd (upd H3 l (.lst ys)) D (.lst (as.map V.ref ++ [.ref l]))) bs ess := by
        intro bs
        induction bs with
        | nil => intro ess _ h; cases ess with
          | nil => exact True.intro
          | cons _ _ => exact h.elim
        | cons c cs ihc => intro ess hn h; cases ess with
          | nil => exact h.elim
          | cons e es =>
            obtain ⟨⟨us, p1, p2, p3⟩, q⟩ := h
            have hc := hn c (by simp)
            exact ⟨⟨us, by rw [upd_ne hc.2, upd_ne hc.1]; exact p1, p2, p3⟩, ihc (fun z hz => hn z (List.mem_cons_of_mem _ hz)) q⟩
      exact this (fun c hc => ⟨fun z => nl (z ▸ hc), fun z => nDas (z ▸ hc)⟩) h1
  · have e : i = items.length := by omega
    subst e
    refine .inl ⟨(ih G2 H2 r2.g r2.h r2.s _).2 (Nat.le_refl _), ?_⟩
    rw [hdl, List.take_length] at rw2
    refine p (.ll dss) _ G2 H2 qf (r1.trans r2) ⟨D, as, rfl, eD, gD, nd, rw2⟩ fun b fb => ?_
    obtain ⟨a1, as1, e1, e2, e3⟩ := fb
    cases e1
    rw [eD] at e2
    cases refs_inj (HO.lst.inj (Option.some.inj e2))
    rcases e3 with rfl | e3
    · exact r1.h.free hD
    · exact r1.h.free (fr b e3)
/-- [tuple(some) for some in x], x a list of lists of one's own -/
theorem lp_lcTT {i j : Nat} {vs : List Nat} (hj : vs.contains j = true) : LP K (tLc (iList K (tVar i)) (gName j) tYes (tCB (rTupOf K) (tCons (tVar j) tNil)) vs) (dLcT i j) := fun {G0 H0 M ρ σ G H QD Q} x ⟨jl, dss, e, hlen, qf⟩ p => by
  have hj' : j ∈ vs := by simpa using hj
  obtain ⟨v, f, a, as, rfl, h1, h2, h3, h4⟩ := x.sl _ _ e
  obtain ⟨hl, hat⟩ := rows_at h4
  refine ⟨_, f, a, rfl, ⟨_, seq_of h1⟩, fun D hD => ?_⟩
  have naD : a ≠ D := ne_of_none h1 hD
  refine lc_list (xs := as.map V.ref) (fun k H' => ∃ G' acc, Gr G H G' H' ∧ G' D = none ∧ H' D = some (.lst acc) ∧ DpAll K G' acc ((dss.take k).map .tuple)) ⟨G, [], .new x.gh hD, x.gh.free hD, upd_same, .nil⟩ (fun k H' _ ⟨G', acc, r, _⟩ => seq_of (r.h _ _ h1)) ?_ ?_
  · rintro k y H2 hy ⟨G2, acc, r2, gD, eD, dA⟩
    obtain ⟨b, hb, rfl⟩ : ∃ b, as[k]? = some b ∧ y = .ref b := by
      rw [List.getElem?_map] at hy
      cases e : as[k]? with
      | none => rw [e] at hy; cases hy
      | some b =>
        rw [e] at hy
        exact ⟨b, rfl, (Option.some.inj hy).symm⟩
    obtain ⟨ds, ys, eds, h5, h6, h7⟩ := hat k b hb
    refine ⟨by rw [wipe_set hj', wipe_wipe], ?_⟩
    refine ⟨_, List.getElem?_set_self (by rw [wipe_length, x.len]; exact jl), b, ys, rfl, .inl ⟨seq_of (r2.h _ _ h5), fun l hl => ?_⟩⟩
    have nDl : D ≠ l := ne_of_none eD hl
    have g2l : G2 l = none := r2.s.free hl
    have r3 : Gr G2 H2 (upd G2 l (.tup ys)) (upd H2 l (.tup ys)) := .newG r2.s hl
    have r13 := r2.trans r3
    have gD3 : (upd G2 l (.tup ys)) D = none := by rw [upd_ne nDl]; exact gD
    refine ⟨acc, by rw [upd_ne nDl]; exact eD, r_smalll ?_, upd G2 l (.tup ys), acc ++ [.ref l], ⟨r13.g, same_mut r13.h hD, fun c u ec => ?_, r13.n⟩, gD3, upd_same, ?_⟩
    · have := dpAll_len dA
      rw [List.length_map, List.length_take] at this
      omega
    · rw [upd_ne (ne_of_none ec gD3)]
      exact r13.s _ _ ec
    · rw [List.take_add_one, eds, List.map_append]
      exact dpAll_app (dpAll_same r3.g dA) (.cons (.tup (tup_of upd_same) (dpAll_same r3.g (dpAll_same r2.g h7))) .nil)
  · rintro H2 ⟨G2, acc, r2, gD, eD, dA⟩
    rw [List.length_map, hl, List.take_length] at dA
    refine p (.l (dss.map .tuple)) _ G2 H2 qf r2 ⟨D, acc, rfl, eD, gD, dA⟩ fun b fb => ?_
    cases (fb : V.ref D = V.ref b)
    exact hD
end
section
variable {ρ : Env} {Q : T → Prop} {i j : Nat} {dss : List (List PyData)} {n b ct : Env → Prop} {rt : T → Env → Prop} {pk : Env → (T → Prop) → Prop} {dl : Env → (List T → Prop) → Prop} {dm : DM}
theorem w_lcL {di : Env → (Bool → List PyData → Prop) → Prop} (h : j < ρ.length) (q : di ρ fun _ items => items.length ≤ 1000000 ∧ ∃ dss : List (List PyData), items.map elD = dss.map some ∧ Q (.ll dss)) : dLcL j di ρ Q := ⟨h, q⟩
theorem w_lcT (h : j < ρ.length) (e : ρ[i]? = some (some (.ll dss))) (z : dss.length ≤ 1000000) (q : Q (.l (dss.map .tuple))) : dLcT i j ρ Q := ⟨h, dss, e, z, q⟩
def MPK (dss : List (List PyData)) (u : T) (R : Nat → List PyData → Prop) : Prop := ∃ (k : Int) (j : Nat) (ds : List PyData), u.rd = .int k ∧ ixN dss.length k = some j ∧ dss[j]? = some ds ∧ R j ds
theorem w_mutP (h : ρ[i]? = some (some (.ll dss))) (q : pk ρ fun u => MPK dss u fun m ds => dl ρ fun ts => dm ds ts fun ds' _ => n (ρ.set i (some (.ll (dss.set m ds'))))) : dMutP i dm pk dl ⟨n, rt, b, ct, ex⟩ ρ := ⟨dss, h, q⟩
theorem w_mutPA (h : ρ[i]? = some (some (.ll dss))) (q : pk ρ fun u => MPK dss u fun m ds => dl ρ fun ts => dm ds ts fun ds' y => n ((ρ.set i (some (.ll (dss.set m ds')))).set j (some (.g y)))) : dMutPA i j dm pk dl ⟨n, rt, b, ct, ex⟩ ρ := ⟨dss, h, q⟩
theorem w_mpk {k : Int} {ds : List PyData} {R : Nat → List PyData → Prop} (h0 : 0 ≤ k) (h : dss[k.toNat]? = some ds) (q : R k.toNat ds) : MPK dss (.g (.int k)) R := ⟨k, k.toNat, ds, rfl, by have := lt_of_at h; unfold ixN; rw [if_pos h0, if_pos (by omega)], h, q⟩
end
section
variable {K : PySem.W.Frag}
def dInt1 : DC := fun ts Q => ∃ t, ts = [t] ∧ ((∃ i, t.rd = .int i ∧ Q (.g (.int i))) ∨ ∃ k, t.rd = .bool k ∧ Q (.g (.int (if k then 1 else 0))))
theorem oc_int1 : OC K (fun xs H Q => (∃ i, xs = [.int i] ∧ Q (.int i) H) ∨ ∃ k, xs = [.bl k] ∧ Q (.int (if k then 1 else 0)) H) dInt1 := fun s h ⟨t, e, q⟩ p => by
  subst e
  obtain ⟨v, rfl, a⟩ := vrA1 h
  rcases q with ⟨i, e, q⟩ | ⟨k, e, q⟩
  · exact .inl ⟨i, by rw [vr_int s a e], p.scal s (.int _) q⟩
  · exact .inr ⟨k, by rw [vr_bl s a e], p.scal s (.int _) q⟩
theorem w_int1B {k : Bool} {Q : T → Prop} (q : Q (.g (.int (if k then 1 else 0)))) : dInt1 [.g (.bool k)] Q := ⟨_, rfl, .inr ⟨k, rfl, q⟩⟩
end
theorem clean_wy (w : Int × Int) : clean (wyD w) = true := rfl
theorem wyD_inj {a b : Int × Int} (h : wyD a = wyD b) : a = b := by
  unfold wyD at h
  have h1 := PyData.tuple.inj h
  have h2 := List.cons.inj h1
  have h3 := List.cons.inj h2.2
  exact Prod.ext (PyData.int.inj h2.1) (PyData.int.inj h3.1)
theorem eqv_wy (a b : Int × Int) : PyData.eqv (wyD a) (wyD b) = decide (a = b) := by
  have h := eqv_clean (clean_wy a) (clean_wy b)
  cases e : PyData.eqv (wyD a) (wyD b) with
  | true => exact (decide_eq_true (wyD_inj (h.mp e))).symm
  | false => exact (decide_eq_false fun z => by rw [h.mpr (by rw [z])] at e; cases e).symm
theorem any_wy (ws : List (Int × Int)) (m : Int × Int) : (wsD ws).any (fun z => PyData.eqv z (wyD m)) = decide (m ∈ ws) := by
  unfold wsD
  rw [List.any_map]
  induction ws with
  | nil => rfl
  | cons w ws ih =>
    rw [List.any_cons, ih]
    simp only [Function.comp, eqv_wy]
    by_cases h : w = m
    · subst h
      simp
    · have h' : ¬ m = w := fun z => h z.symm
      simp [h, h']
theorem depth_wy (w : Int × Int) : (wyD w).depth ≤ 1 := Nat.le_refl _
theorem clean_wsD (ws : List (Int × Int)) : clean (.list (wsD ws)) = true := by
  show cleanAll (wsD ws) = true
  rw [cleanAll_iff]
  intro x hx
  obtain ⟨w, _, rfl⟩ := List.mem_map.mp hx
  rfl
theorem depth_wsD (ws : List (Int × Int)) : (PyData.list (wsD ws)).depth ≤ 2 := by
  show PyData.depthAll (wsD ws) + 1 ≤ 2
  have := depthAll_le (xs := wsD ws) (n := 1) fun x hx => by
    obtain ⟨w, _, rfl⟩ := List.mem_map.mp hx
    exact depth_wy w
  omega
theorem shaped_wsD (ws : List (Int × Int)) : SeqAt.shaped (.list (wsD ws)) = true := shaped_clean (clean_wsD ws) (Nat.le_trans (depth_wsD ws) (by decide))
theorem shaped_wy (w : Int × Int) : SeqAt.shaped (wyD w) = true := shaped_clean rfl (Nat.le_trans (depth_wy w) (by decide))
theorem w_notInW {t u : T} {ws : List (Int × Int)} {m : Int × Int} {Q : T → Prop} (h1 : t.rd = wyD m) (h2 : u.rd = .list (wsD ws)) (q : Q (.g (.bool (!decide (m ∈ ws))))) : dNotInD t u Q := ⟨wsD ws, h2, by rw [h1]; exact shaped_wy m, by rw [h2]; exact shaped_wsD ws, by rw [h1, any_wy]; exact q⟩
theorem seqIx_last {n : Nat} (h : 0 < n) : seqIndex? (-1) n = some (n - 1) := by
  unfold seqIndex?
  simp only [show (-1 : Int) < 0 by decide, if_true]
  have h1 : (0 : Int) ≤ -1 + (n : Nat) := by omega
  have h2 : (-1 : Int) + (n : Nat) < (n : Nat) := by omega
  rw [decide_eq_true h1, decide_eq_true h2]
  show some _ = _
  congr 1
  omega
theorem erase_last {α : Type} : ∀ xs : List α, xs.eraseIdx (xs.length - 1) = xs.dropLast
  | [] => rfl
  | [_] => rfl
  | x :: y :: r => by
    show x :: ((y :: r).eraseIdx ((y :: r).length - 1)) = x :: (y :: r).dropLast
    rw [erase_last (y :: r)]
theorem pop_last {ns : List Int} (h : ns ≠ []) {Q : List PyData → PyData → Prop} (q : Q (inD ns.dropLast) (.int (ns.getLastD 0))) : mPopAt (inD ns) [.g (.int (-1))] Q := by
  have hl : 0 < ns.length := List.length_pos_iff.mpr h
  refine ⟨_, -1, ns.length - 1, .int (ns.getLastD 0), rfl, rfl, by decide, by decide, by rw [inD_len]; exact seqIx_last hl, ?_, ?_⟩
  · rw [List.getElem?_map, List.getElem?_eq_getElem (by omega), List.getLastD_eq_getLast?, List.getLast?_eq_getElem?, List.getElem?_eq_getElem (by omega)]
    rfl
  · have e : (inD ns).eraseIdx (ns.length - 1) = inD ns.dropLast := by
      rw [← inD_dropLast, ← erase_last (inD ns), inD_len]
    rw [e]
    exact q
theorem pop_first {ns : List Int} (h : ns ≠ []) {Q : List PyData → PyData → Prop} (q : Q (inD ns.tail) (.int (ns.headD 0))) : mPopAt (inD ns) [.g (.int 0)] Q := by
  cases ns with
  | nil => exact absurd rfl h
  | cons n r => exact ⟨_, 0, 0, .int n, rfl, rfl, by decide, by decide, seqIx_ok (k := 0) (by decide) (by rw [inD_len, List.length_cons]; omega), rfl, q⟩
theorem map_inD_set (hs : List (List Int)) (k : Nat) (h : List Int) : (hs.map inD).set k (inD h) = (hs.set k h).map inD := by rw [List.map_set]
theorem map_tuple_inD (hs : List (List Int)) : (hs.map inD).map PyData.tuple = hsD hs := by
  unfold hsD
  rw [List.map_map]
  rfl
theorem getD_small {hs : List (List Int)} {n : Nat} (hz : ∀ h ∈ hs, h.length ≤ n) (k : Nat) : (hs.getD k []).length ≤ n := by
  rw [List.getD_eq_getElem?_getD]
  cases e : hs[k]? with
  | none => simp
  | some y => exact hz y (List.mem_of_getElem? e)
theorem held1_small {ss : List Str} {hs : List (List Int)} {a : Int} {n : Nat} (hz : ∀ h ∈ hs, h.length ≤ n) : ∀ h ∈ held1 ss hs a, h.length ≤ n := fun h hh => by
  unfold held1 at hh
  split at hh
  · exact hz h hh
  · rcases List.mem_or_eq_of_mem_set hh with z | z
    · exact hz h z
    · have hb := getD_small hz a.toNat
      rw [z]
      split
      · rw [List.length_dropLast]
        omega
      · rw [List.length_tail]
        omega
mutual
def noNone : PyData → Bool
  | .none => false
  | .list xs => noNoneAll xs | .tuple xs => noNoneAll xs
  | _ => true
def noNoneAll : List PyData → Bool
  | [] => true
  | x :: xs => noNone x && noNoneAll xs
end
theorem noNoneAll_iff {xs : List PyData} : noNoneAll xs = true ↔ ∀ x ∈ xs, noNone x = true := by
  induction xs with
  | nil => simp [noNoneAll]
  | cons x xs ih => simp [noNoneAll, ih]
/-- what a step comes to -/
def stepD (ss : List Str) (ws : List (Int × Int)) (row : List Int) (g : Int) (hs : List (List Int)) (o : Int) (m : Int × Int) : PyData :=
  if m ∈ ws ∧ mayB ss (ranks row) g hs o m = true then (match numLeave ss (ranks row) g hs m.1 with | some n => mvD ss g hs o m n | none => .none) else .none
end Dv

set_option Elab.async false
set_option linter.all false
set_option maxRecDepth 100000
set_option maxHeartbeats 4000000
namespace Dv
open PySem PySem.Spec PyProof.Rows L2 Px
section
variable {K : PySem.W.Frag} {ta tb : TE} {da db : Env → (T → Env → Prop) → Prop} {pb : Env → (T → Prop) → Prop}
theorem lsm_ins' {i : Nat} (ha : LM K ta da) (hb : LP K tb pb) : LS K (tDrop (tBM K "list" (fun x vs H Q => ∃ (l : Addr) (xs : List V) (i : Int) (y : V), x = .ref l ∧ vs = [.int i, y] ∧ H l = some (.lst xs) ∧ xs.length < sizeLine ∧ 0 ≤ i ∧ i < 2 ^ 63 ∧
    Q .non (upd H l (.lst (xs.take i.toNat ++ [y] ++ xs.drop i.toNat)))) (tVar i) (tCons ta (tCons tb tNil)))) (sIns i da pb) := lsm_ins ha hb
def mCatV (i : Nat) (db : Env → (T → Env → Prop) → Prop) : Env → (T → Env → Prop) → Prop := fun ρ Q => IsMine i ρ ∧ db ρ fun u ρ1 => ∃ t ds es, ρ1[i]? = some (some t) ∧ t.mine = some ds ∧ u.own = some es ∧ ds.length + es.length ≤ 16777216 ∧ Q (.l (ds ++ es)) ρ1
/-- xs + e, xs one's own, e such a reading -/
theorem lm_catV {i : Nat} (hb : LM K tb db) : LM K (tOp rCat (tVar i) tb) (mCatV i db) := fun {G0 H0 M ρ σ G H QD Q} x ⟨⟨t0, ds0, e0, m0⟩, q⟩ p => by
  obtain ⟨a, vs, f, h1, _⟩ := mine_at (G1 := G) (H1 := H) x e0 m0
  refine ⟨_, f, hb x q fun u w ρ1 G1 H1 ⟨t, ds, es, e, m, eo, z, qt⟩ g1 x1 s1 n1 v1 f1 => ?_⟩
  obtain ⟨a', ws, ea, h2, h3⟩ := slot_ref x1 e m f
  cases ea
  obtain ⟨b, ys, rfl, h4, h5⟩ := own_of v1 eo
  exact ⟨a, b, ws, ys, rfl, rfl, h2, h4, r_small (by rw [dpAll_len h3, dpAll_len h5]; exact z), (PoMA.fin x1 p g1 s1 n1).lst x1.gh (dpAll_app h3 h5) qt⟩
def MCV (i : Nat) (u : T) (ρ1 : Env) (R : T → Env → Prop) : Prop := ∃ t ds es, ρ1[i]? = some (some t) ∧ t.mine = some ds ∧ u.own = some es ∧ ds.length + es.length ≤ 16777216 ∧ R (.l (ds ++ es)) ρ1
theorem w_catV {ρ : Env} {i : Nat} {ds : List PyData} {Q : T → Env → Prop} (h : ρ[i]? = some (some (.l ds))) (q : db ρ fun u ρ1 => MCV i u ρ1 Q) : mCatV i db ρ Q := ⟨⟨_, _, h, rfl⟩, q⟩
theorem w_mcv {ρ : Env} {i : Nat} {ds es : List PyData} {R : T → Env → Prop} (h : ρ[i]? = some (some (.l ds))) (z : ds.length + es.length ≤ 16777216) (q : R (.l (ds ++ es)) ρ) : MCV i (.l es) ρ R := ⟨_, ds, es, h, rfl, rfl, z, q⟩
end
section
variable {K : PySem.W.Frag} {te : TE} {de : Env → (T → Prop) → Prop} {al : TA} {dl : Env → (List PyData → Env → Prop) → Prop}
theorem Iv.uptoT {G0 H0 G H G' H' : Hp} {M : Addr → Prop} {σ : L2.St} {ρ : Env} (x : Iv K G0 H0 M ρ σ G H) {a : Addr} {o' : HO} (no : ∀ (j : Nat) (u : T) (w : V), ρ[j]? = some (some u) → σ[j]? = some (some w) → ¬ Fp H u w a) (h0 : H0 a = none) (r : GrM a G H G' H') (hw : H' a = some o') : Iv K G0 H0 M ρ σ G' H' ∧ Sub σ ρ H ρ H' := by
  refine ⟨⟨r.s, x.g0.trans r.g, fun b gb => ?_, fun b o nm eb => ?_, fun b mb => ?_, x.len, x.kd, fun k u e1 => ?_, fun k u w b e1 e2 p => x.own k u w b e1 e2 (Fp.upto r (x.vr e1 e2) (no k u w e1 e2) p), fun j k u u' w w' b e1 e2 e3 e4 p1 p2 => x.dj j k u u' w w' b e1 e2 e3 e4 (Fp.upto r (x.vr e1 e3) (no _ _ _ e1 e3) p1) (Fp.upto r (x.vr e2 e4) (no _ _ _ e2 e4) p2)⟩, fun j u w b e1 e2 p => ⟨j, u, w, e1, e2, Fp.upto r (x.vr e1 e2) (no _ _ _ e1 e2) p⟩⟩
  · by_cases g : G b = none
    · right
      apply x.h0
      cases q : H b with
      | none => rfl
      | some o => exact absurd (r.n b (nn_of q) g) gb
    · exact x.gf b g
  · exact r.h _ _ (fun z => by rw [z, h0] at eb; cases eb) (x.up b o nm eb)
  · by_cases z : b = a
    · rw [z, hw]
      exact fun z => nomatch z
    · cases q : H b with
      | none => exact absurd q (x.mh b mb)
      | some o =>
        rw [r.h _ _ z q]
        exact fun z => nomatch z
  · obtain ⟨w, w1, w2⟩ := x.sl k u e1
    exact ⟨w, w1, w2.upto r (x.kd _ _ e1) (no _ _ _ e1 w1)⟩
/-- a call by reference with a new list -/
def mCalT (c : List PyData → List PyData → (T → List PyData → Prop) → Prop) (de : Env → (T → Prop) → Prop) (dl : Env → (List PyData → Env → Prop) → Prop) : Env → (T → Env → Prop) → Prop := fun ρ Q => de ρ fun t => ∃ ds, t = .l ds ∧ dl ρ fun ys ρ1 => c ds ys fun z _ => Q z ρ1
theorem lm_calT {c : List PyData → List PyData → (T → List PyData → Prop) → Prop} {E : XK} (he : LP K te de) (h : LMA K al dl) : LM K (tCal (spM K c) E (tCons te al)) (mCalT c de dl) := fun {G0 H0 M ρ σ G H QD Q} x q p => he x q fun t v G1 H1 ⟨ds, et, qt⟩ r1 v1 f1 => by
  subst et
  obtain ⟨a, ws, rfl, h1, g1a, d1⟩ := v1
  have ha : H a = none := f1 a rfl
  have x1 := x.mono r1
  have noa : ∀ (j : Nat) (u : T) (w : V), ρ[j]? = some (some u) → σ[j]? = some (some w) → ¬ Fp H1 u w a := fun j u w e1 e2 f => (Fp.there (x.vr e1 e2) (Fp.mono r1 (x.vr e1 e2) f)).1 ha
  refine h x1 qt fun ys us ρ1 G2 H2 qc g2 x2 s2 n2 dys => ?_
  have h2 := n2.fr a _ h1 noa
  have g2a := n2.gn a (nn_of h1) g1a
  refine ⟨G2, a, us, ws, ds, ys, _, rfl, x2.gh, h2, g2a, dpAll_same g2 d1, dys, qc, fun z v G' H' ws' dk' qz r vz fz hp dd => ?_⟩
  have noa2 : ∀ (j : Nat) (u : T) (w : V), ρ1[j]? = some (some u) → σ[j]? = some (some w) → ¬ Fp H2 u w a := fun j u w e1 e2 f => by
    obtain ⟨k, u', w', e3, e4, f'⟩ := s2 j u w a e1 e2 f
    exact noa k u' w' e3 e4 f'
  obtain ⟨x3, s3⟩ := x2.uptoT noa2 (x.h0 ha) r hp
  have s12 : Sub σ ρ H ρ1 H2 := (sub_gr x r1).trans s2
  have fr12 : Fr σ ρ G H G2 H2 := (fr_gr r1).trans (sub_gr x r1) n2
  refine p z v ρ1 G' H' qz ((r1.g.trans g2).trans r.g) x3 (s12.trans s3) ⟨fun b hb => r.nn hp b (fr12.nn b hb), fun b o eb no => r.h _ _ (fun z => by rw [z, ha] at eb; cases eb) (fr12.fr b o eb no), fun b hb gb => r.n b (fr12.nn b hb) (fr12.gn b hb gb)⟩ vz fun b fb => ?_
  cases e : H b with
  | none => rfl
  | some o => exact absurd (fz b fb) (fr12.nn b (nn_of e))
end
/-! ### step by step, where something changes -/
section
variable {ρ : Env} {Q : T → Env → Prop} {QB : Bool → Env → Prop} {QL : List PyData → Env → Prop} {i : Nat} {pa : Env → (T → Prop) → Prop} {da db : Env → (T → Env → Prop) → Prop} {dt du : Env → (Bool → Env → Prop) → Prop} {dl : Env → (List PyData → Env → Prop) → Prop} {dr : DR} {dc : DC} {d1 d2 : DS} {n b ct : Env → Prop} {rt : T → Env → Prop}
theorem w_mP (q : pa ρ fun t => Q t ρ) : mP pa ρ Q := q
theorem w_mOp (q : da ρ fun t ρ1 => ∃ y, t.fz = .g y ∧ db ρ1 fun u ρ2 => dr (.g y) u fun z => Q z ρ2) : mOp dr da db ρ Q := q
theorem w_mNeg (q : da ρ fun t ρ1 => ∃ i, t.rd = .int i ∧ Q (.g (.int (-i))) ρ1) : mNeg da ρ Q := q
theorem w_mTest (q : da ρ fun t ρ1 => ∃ c, t.rd = .bool c ∧ QB c ρ1) : mTest da ρ QB := q
theorem w_mNot (q : dt ρ fun c ρ1 => QB (!c) ρ1) : mNot dt ρ QB := q
theorem w_mAnd (q : dt ρ fun c ρ1 => if c = true then du ρ1 QB else QB false ρ1) : mAnd dt du ρ QB := q
theorem w_mOr (q : dt ρ fun c ρ1 => if c = true then QB true ρ1 else du ρ1 QB) : mOr dt du ρ QB := q
theorem w_mANil (q : QL [] ρ) : mANil ρ QL := q
theorem w_mACons (q : da ρ fun t ρ1 => ∃ y, t.fz = .g y ∧ dl ρ1 fun ys ρ2 => QL (y :: ys) ρ2) : mACons da dl ρ QL := q
theorem w_mTup (q : dl ρ fun ys ρ1 => ys.length ≤ 16777216 ∧ Q (.g (.tuple ys)) ρ1) : mTup dl ρ Q := q
theorem w_mLst (q : dl ρ fun ys ρ1 => ys.length ≤ 16777216 ∧ Q (.l ys) ρ1) : mLst dl ρ Q := q
theorem w_mlen {ys : List PyData} {R : Prop} (z : ys.length ≤ 16777216) (q : R) : ys.length ≤ 16777216 ∧ R := ⟨z, q⟩
theorem w_mCB (q : dl ρ fun ys ρ1 => dc (ys.map .g) fun t => Q t ρ1) : mCB dc dl ρ Q := q
theorem w_mCal {c : List PyData → (T → Prop) → Prop} (q : dl ρ fun ys ρ1 => c ys fun t => Q t ρ1) : mCal c dl ρ Q := q
def CM (i : Nat) (c : List PyData → List PyData → (T → List PyData → Prop) → Prop) (Q : T → Env → Prop) (ys : List PyData) (ρ1 : Env) : Prop := ∃ t ds, ρ1[i]? = some (some t) ∧ t.mine = some ds ∧ c ds ys fun z ds' => Q z (ρ1.set i (some (t.with ds')))
theorem w_calMP {c : List PyData → List PyData → (T → List PyData → Prop) → Prop} {ds : List PyData} (h : ρ[i]? = some (some (.p ds))) (q : dl ρ fun ys ρ1 => CM i c Q ys ρ1) : mCalM i c dl ρ Q := ⟨⟨_, _, h, rfl⟩, q⟩
theorem w_calML {c : List PyData → List PyData → (T → List PyData → Prop) → Prop} {ds : List PyData} (h : ρ[i]? = some (some (.l ds))) (q : dl ρ fun ys ρ1 => CM i c Q ys ρ1) : mCalM i c dl ρ Q := ⟨⟨_, _, h, rfl⟩, q⟩
theorem w_cmP {c : List PyData → List PyData → (T → List PyData → Prop) → Prop} {ds ys : List PyData} (h : ρ[i]? = some (some (.p ds))) (q : c ds ys fun z ds' => Q z (ρ.set i (some (.p ds')))) : CM i c Q ys ρ := ⟨_, _, h, rfl, q⟩
theorem w_cmL {c : List PyData → List PyData → (T → List PyData → Prop) → Prop} {ds ys : List PyData} (h : ρ[i]? = some (some (.l ds))) (q : c ds ys fun z ds' => Q z (ρ.set i (some (.l ds')))) : CM i c Q ys ρ := ⟨_, _, h, rfl, q⟩
theorem w_sSet (q : da ρ fun t ρ1 => SetK i ρ1 n t) : sSet i da ⟨n, rt, b, ct, ex⟩ ρ := q
theorem w_sAsg {dg : PyData → Env → (Env → Prop) → Prop} (q : da ρ fun t ρ1 => ∃ d, t.fz = .g d ∧ dg d ρ1 n) : sAsg da dg ⟨n, rt, b, ct, ex⟩ ρ := q
theorem w_sRet (q : da ρ fun t ρ1 => RetK ρ1 rt t) : sRet da ⟨n, rt, b, ct, ex⟩ ρ := q
theorem w_sIf (q : dt ρ fun c ρ1 => if c = true then d1 ⟨n, rt, b, ct, ex⟩ ρ1 else d2 ⟨n, rt, b, ct, ex⟩ ρ1) : sIf dt d1 d2 ⟨n, rt, b, ct, ex⟩ ρ := q
theorem w_sDrop (q : da ρ fun _ ρ1 => n ρ1) : sDrop da ⟨n, rt, b, ct, ex⟩ ρ := q
def SAP (i : Nat) (n : Env → Prop) (t : T) (ρ1 : Env) : Prop := ∃ y u es, t.fz = .g y ∧ ρ1[i]? = some (some u) ∧ u.mine = some es ∧ es.length < 16777216 ∧ n (ρ1.set i (some (u.with (es ++ [y]))))
theorem w_sApp {ds : List PyData} (h : ρ[i]? = some (some (.l ds))) (q : da ρ fun t ρ1 => SAP i n t ρ1) : sApp i da ⟨n, rt, b, ct, ex⟩ ρ := ⟨⟨_, _, h, rfl⟩, q⟩
theorem w_sap {y : PyData} {ds : List PyData} (h : ρ[i]? = some (some (.l ds))) (z : ds.length < 16777216) (q : n (ρ.set i (some (.l (ds ++ [y]))))) : SAP i n (.g y) ρ := ⟨y, _, ds, rfl, h, rfl, z, q⟩
theorem w_sapL {es : List PyData} {ds : List PyData} (h : ρ[i]? = some (some (.l ds))) (z : ds.length < 16777216) (q : n (ρ.set i (some (.l (ds ++ [.list es]))))) : SAP i n (.l es) ρ := ⟨_, _, ds, rfl, h, rfl, z, q⟩
def SIN (i : Nat) (n : Env → Prop) (ρ1 : Env) (t t2 : T) : Prop := ∃ k y u es, t.rd = .int k ∧ t2.fz = .g y ∧ ρ1[i]? = some (some u) ∧ u.mine = some es ∧ es.length < 16777216 ∧ 0 ≤ k ∧ k < 2 ^ 63 ∧ n (ρ1.set i (some (u.with (es.take k.toNat ++ [y] ++ es.drop k.toNat))))
theorem w_sIns {ds : List PyData} (h : ρ[i]? = some (some (.l ds))) (q : da ρ fun t ρ1 => pa ρ1 fun t2 => SIN i n ρ1 t t2) : sIns i da pa ⟨n, rt, b, ct, ex⟩ ρ := ⟨⟨_, _, h, rfl⟩, q⟩
theorem w_sin {k : Int} {y : PyData} {ds : List PyData} (h : ρ[i]? = some (some (.l ds))) (z : ds.length < 16777216) (k0 : 0 ≤ k) (k1 : k < 2 ^ 63) (q : n (ρ.set i (some (.l (ds.take k.toNat ++ [y] ++ ds.drop k.toNat))))) : SIN i n ρ (.g (.int k)) (.g y) := ⟨k, y, _, ds, rfl, rfl, h, rfl, z, k0, k1, q⟩
def MRG (QI : Bool → List PyData → Env → Prop) (ys : List PyData) (ρ1 : Env) : Prop := ∃ j, ys = [.int j] ∧ -(2 ^ 62) ≤ j ∧ j < 2 ^ 62 ∧ QI true (rgD 0 j.toNat) ρ1
theorem w_mRg1 {QI : Bool → List PyData → Env → Prop} (q : dl ρ fun ys ρ1 => MRG QI ys ρ1) : mIRg1 dl ρ QI := q
theorem w_mrg {QI : Bool → List PyData → Env → Prop} {k : Int} {m : Nat} (hk : k = (m : Int)) (hm : m < 2 ^ 62) (q : QI true (rgD 0 m) ρ) : MRG QI [.int k] ρ := by
  subst hk
  exact ⟨(m : Int), rfl, by omega, by omega, by rw [Int.toNat_natCast]; exact q⟩
def MIL (QI : Bool → List PyData → Env → Prop) (t : T) (ρ1 : Env) : Prop := ∃ ds, t.fz = .g (.list ds) ∧ QI true ds ρ1
theorem w_mIList {QI : Bool → List PyData → Env → Prop} (q : da ρ fun t ρ1 => MIL QI t ρ1) : mIList da ρ QI := q
theorem w_milL {QI : Bool → List PyData → Env → Prop} {ds : List PyData} (q : QI true ds ρ) : MIL QI (.l ds) ρ := ⟨ds, rfl, q⟩
theorem w_milG {QI : Bool → List PyData → Env → Prop} {ds : List PyData} (q : QI true ds ρ) : MIL QI (.g (.list ds)) ρ := ⟨ds, rfl, q⟩
theorem w_iP {QI : Bool → List PyData → Env → Prop} {di : Env → (Bool → List PyData → Prop) → Prop} (q : di ρ fun st items => QI st items ρ) : iP di ρ QI := q
theorem w_sFor {di : Env → (Bool → List PyData → Env → Prop) → Prop} {dg : PyData → Env → (Env → Prop) → Prop} {db : DS} (q : di ρ fun st items ρ1 => st = true ∧ ∃ Pv : Nat → Env → Prop, Pv 0 ρ1 ∧
  (∀ (i : Nat) (x : PyData) (ρ' : Env), items[i]? = some x → Pv i ρ' → dg x ρ' fun ρ2 => db ⟨Pv (i + 1), rt, n, Pv (i + 1), ex⟩ ρ2) ∧ ∀ ρ', Pv items.length ρ' → n ρ') : sFor di dg db ⟨n, rt, b, ct, ex⟩ ρ := q
theorem w_mLc {di : Env → (Bool → List PyData → Env → Prop) → Prop} {dg : PyData → Env → (Env → Prop) → Prop} {vs : List Nat} (q : di ρ fun st items ρ1 =>
  st = true ∧ items.length ≤ 1000000 ∧ ∃ Pv : Nat → List PyData → Env → Prop, Pv 0 [] (wipeE ρ1 vs) ∧
    (∀ (i : Nat) (x : PyData) (acc : List PyData) (ρ' : Env), items[i]? = some x → acc.length ≤ i → Pv i acc ρ' → dg x ρ' fun ρ2 => dt ρ2 fun c ρ3 => if c = true then da ρ3 fun t ρ4 => ∃ y, t.fz = .g y ∧ Pv (i + 1) (acc ++ [y]) (wipeE ρ4 vs) else Pv (i + 1) acc (wipeE ρ3 vs)) ∧
    ∀ acc ρ', Pv items.length acc ρ' → Q (.l acc) ρ') : mLc di dg dt da vs ρ Q := q
end
theorem w_calT {ρ : Env} {Q : T → Env → Prop} {c : List PyData → List PyData → (T → List PyData → Prop) → Prop} {de : Env → (T → Prop) → Prop} {dl : Env → (List PyData → Env → Prop) → Prop} (q : de ρ fun t => ∃ ds, t = .l ds ∧ dl ρ fun ys ρ1 => c ds ys fun z _ => Q z ρ1) : mCalT c de dl ρ Q := q
theorem w_ct {ds : List PyData} {R : List PyData → Prop} (q : R ds) : ∃ ds', T.l ds = .l ds' ∧ R ds' := ⟨ds, rfl, q⟩
/-! ### the drawn deck -/
def cTake : List PyData → List PyData → (T → List PyData → Prop) → Prop := fun dk xs Q => ∃ d m : Int, dk = [.int d] ∧ 0 ≤ d ∧ xs = [.int m] ∧ 0 < m ∧ m < 10 ^ 70 ∧ ∀ r d' : Int, 0 ≤ r → r < m → 0 ≤ d' → Q (.g (.int r)) [.int d']
def cDeck : List PyData → (T → Prop) → Prop := fun xs Q => ∃ c : Int, xs = [.int c] ∧ ∀ d : Int, 0 ≤ d → Q (.l [.int d])
def cOrd : List PyData → List PyData → (T → List PyData → Prop) → Prop := fun dk xs Q => ∃ (d : Int) (n : Nat), dk = [.int d] ∧ 0 ≤ d ∧ xs = [.int n] ∧ n ≤ 1000 ∧ ∀ (ks : List Nat) (d' : Int), 0 ≤ d' → ks.Perm (List.range n) → Q (.l (inD (ks.map fun (k : Nat) => (k : Int)))) [.int d']
section
variable {ρ : Env} {Q : T → Env → Prop} {i : Nat} {d m : Int}
theorem w_takeP (h : ρ[i]? = some (some (.p [.int d]))) (d0 : 0 ≤ d) (m0 : 0 < m) (m1 : m < 10 ^ 70) (q : ∀ r d' : Int, 0 ≤ r → r < m → 0 ≤ d' → Q (.g (.int r)) (ρ.set i (some (.p [.int d'])))) : CM i cTake Q [.int m] ρ := ⟨_, _, h, rfl, d, m, rfl, d0, rfl, m0, m1, q⟩
theorem w_takeL (h : ρ[i]? = some (some (.l [.int d]))) (d0 : 0 ≤ d) (m0 : 0 < m) (m1 : m < 10 ^ 70) (q : ∀ r d' : Int, 0 ≤ r → r < m → 0 ≤ d' → Q (.g (.int r)) (ρ.set i (some (.l [.int d'])))) : CM i cTake Q [.int m] ρ := ⟨_, _, h, rfl, d, m, rfl, d0, rfl, m0, m1, q⟩
end
section
variable {K : PySem.W.Frag} {G H H' : Hp} {p : Addr}
theorem dp1_int {vs : List V} {d : Int} (h : DpAll K H vs [.int d]) : vs = [.int d] := by
  cases h with
  | cons a b =>
    cases b with
    | nil => rw [dp_int a]
theorem grM_upto (s : Same G H) (gp : G p = none) (u : Upto p H H') : GrM p G H G H' := ⟨Same.refl _, u, fun a o e => u a o (ne_of_none e gp) (s _ _ e), fun _ _ g => g⟩
end
end Dv

set_option Elab.async false
set_option linter.all false
set_option maxRecDepth 100000
set_option maxHeartbeats 4000000
namespace Dv
open PySem PySem.Spec PyProof.Rows L2 Px
/-! ### sorted(pairs) -/
def rSortedPD (K : PySem.W.Frag) : List V → Hp → VK → Prop := fun vs H Q => ∃ (a : Addr) (xs : List V) (k : V → Int × Int), vs = [V.ref a] ∧ SqL K H a xs ∧ (∀ x ∈ xs, ∃ t, x = V.ref t ∧ SqT K H t [.int (k x).1, .int (k x).2]) ∧
  ∀ ys p, SrtO.Srtd (ltP k) ys → SrtO.Stb (ltP k) ys xs → H p = none → Q (.ref p) (upd H p (.lst ys))
theorem cr_sortedPD {X : Cx} : CallR X (.builtin "sorted") (rSortedPD X.K) := by
  intro pins s σ H vs us Q I r h
  obtain ⟨a, xs, k, rfl, hs, hx, q⟩ := h
  obtain ⟨its, rv, hl, hz⟩ := I.list hs
  obtain ⟨u, rfl, ru⟩ := vals1 r
  obtain rfl : u = Value.ref a := ru
  obtain ⟨e1, e2⟩ := refs_back rv fun x m => by
    obtain ⟨t, e, _⟩ := hx x m
    exact ⟨t, e⟩
  refine SrtO.sorted_pairsO (k := fun u => k (backV u)) hl.isList (by rw [← rv.length]; exact hz) (fun v hv => ?_) fun h' d out h1 h2 kp hd hn => ?_
  · obtain ⟨t, rfl⟩ := e2 v hv
    have hm : V.ref t ∈ xs := by rw [e1]; exact List.mem_map.mpr ⟨_, hv, rfl⟩
    obtain ⟨t', e, ht⟩ := hx _ hm
    cases e
    obtain ⟨its2, r2, ⟨o, ho, hc, n, hd⟩, _⟩ := I.tuple ht
    obtain ⟨u1, u2, rfl, ri, rj⟩ := vals2 r2
    obtain ⟨t1, rfl⟩ := ri
    obtain ⟨t2, rfl⟩ := rj
    exact ⟨t, o, t1, t2, n, rfl, ho, hc, hd⟩
  · have h3 : ∀ u ∈ out, ∃ a, u = Value.ref a := fun u hu => e2 u (h2.perm.mem_iff.mp hu)
    obtain ⟨n, hn⟩ := hn
    have hb : SrtO.Stb (ltP k) (out.map backV) xs := by
      rw [e1]
      exact SrtO.Stb.map (ltP_swo k) backV h2
    refine ⟨.ref d, upd H d (.lst (out.map backV)), I.laid (t' := s.toks) kp hd ⟨?_, out, n, vals_back h3, hn⟩, rfl, q _ d (SrtO.srtd_map h1) hb (I.hok.fresh hd)⟩
    rw [hb.len]
    exact hz
/-- references to tuples of two ints -/
def PW (K : PySem.W.Frag) (H : Hp) : List V → List (Int × Int) → Prop
  | [], [] => True
  | x :: xs, w :: ws => (∃ t, x = V.ref t ∧ SqT K H t [.int w.1, .int w.2]) ∧ PW K H xs ws
  | _, _ => False
def rSortedW (K : PySem.W.Frag) : List V → Hp → VK → Prop := fun vs H Q => ∃ (a : Addr) (xs : List V) (ws : List (Int × Int)), vs = [V.ref a] ∧ SqL K H a xs ∧ PW K H xs ws ∧
  ∀ (k : V → Int × Int) (ys : List V) (p : Addr), ws = xs.map k → ys.Perm xs → (ys.map k).Pairwise leW → H p = none → Q (.ref p) (upd H p (.lst ys))
open Classical in
theorem cr_sortedW {X : Cx} : CallR X (.builtin "sorted") (rSortedW X.K) := by
  intro pins s σ H vs us Q I r h
  obtain ⟨a, xs, ws, rfl, hs, hx, q⟩ := h
  let k : V → Int × Int := fun v => if h : ∃ (w : Int × Int) (t : Addr), v = V.ref t ∧ SqT X.K H t [.int w.1, .int w.2] then h.choose else (0, 0)
  have hk : ∀ (w : Int × Int) (t : Addr), SqT X.K H t [.int w.1, .int w.2] → k (V.ref t) = w := fun w t ht => by
    have ex : ∃ (w : Int × Int) (t' : Addr), V.ref t = V.ref t' ∧ SqT X.K H t' [.int w.1, .int w.2] := ⟨w, t, rfl, ht⟩
    have e : k (V.ref t) = ex.choose := dif_pos ex
    rw [e]
    obtain ⟨t', e1, h1⟩ := ex.choose_spec
    cases e1
    have h2 := I.tuple_inj h1 ht
    have h3 := List.cons.inj h2
    have h4 := List.cons.inj h3.2
    exact Prod.ext (V.int.inj h3.1) (V.int.inj h4.1)
  have all : ∀ {xs : List V} {ws : List (Int × Int)}, PW X.K H xs ws → ws = xs.map k ∧ ∀ x ∈ xs, ∃ t, x = V.ref t ∧ SqT X.K H t [.int (k x).1, .int (k x).2] := by
    intro xs
    induction xs with
    | nil => intro ws h; cases ws with
      | nil => exact ⟨rfl, fun x hx => by cases hx⟩
      | cons _ _ => exact h.elim
    | cons x xs ih => intro ws h; cases ws with
      | nil => exact h.elim
      | cons w ws =>
        obtain ⟨⟨t, rfl, ht⟩, q⟩ := h
        obtain ⟨e, f⟩ := ih q
        have e0 := hk w t ht
        refine ⟨by rw [List.map_cons, e0, ← e], fun x hx => ?_⟩
        rcases List.mem_cons.mp hx with rfl | m
        · exact ⟨t, rfl, by rw [e0]; exact ht⟩
        · exact f x m
  obtain ⟨e, f⟩ := all hx
  refine cr_sortedPD pins s σ H _ us Q I r ⟨a, xs, k, rfl, hs, f, fun ys p hs hb hp => q k ys p e hb.perm ?_ hp⟩
  rw [List.pairwise_map]
  refine List.Pairwise.imp (fun {x y} h => ?_) hs
  have := SrtO.lexB_no.mp h
  unfold leW
  omega
theorem crSrtW (K : PySem.W.Frag) {X : Cx} (hK : X.K = K) : CallR X (.builtin "sorted") (rSortedW K) := hK ▸ cr_sortedW
section
variable {K : PySem.W.Frag}
theorem dp_wy {G : Hp} {v : V} {w : Int × Int} (h : Dp K G v (wyD w)) : ∃ t, v = .ref t ∧ SqT K G t [.int w.1, .int w.2] := by
  obtain ⟨t, xs, e, h1, h2⟩ := dp_tup h
  cases h2 with
  | cons a b =>
    cases b with
    | cons b c =>
      cases c with
      | nil =>
        rw [dp_int a, dp_int b] at h1
        exact ⟨t, e, h1⟩
theorem pw_of {G H : Hp} (s : Same G H) : ∀ {xs : List V} {ws : List (Int × Int)}, DpAll K G xs (wsD ws) → PW K H xs ws
  | [], [], _ => True.intro
  | v :: vs, w :: ws, .cons a b => by
    obtain ⟨t, e, ht⟩ := dp_wy a
    exact ⟨⟨t, e, same_seqT s ht⟩, pw_of s b⟩
  | [], _ :: _, h => by cases h
  | _ :: _, [], h => by cases h
theorem dp_key {G : Hp} {k : V → Int × Int} : ∀ {xs : List V} {ws : List (Int × Int)}, DpAll K G xs (wsD ws) → ws = xs.map k → ∀ x ∈ xs, Dp K G x (wyD (k x))
  | [], _, _, _, _, h => by cases h
  | v :: vs, w :: ws, .cons a b, e, x, h => by
    have e1 := List.cons.inj e
    rcases List.mem_cons.mp h with z | m
    · subst z
      rw [← e1.1]
      exact a
    · exact dp_key b e1.2 x m
  | v :: vs, [], h, _, _, _ => by cases h
theorem dpAll_map {G : Hp} {k : V → Int × Int} : ∀ {ys : List V}, (∀ y ∈ ys, Dp K G y (wyD (k y))) → DpAll K G ys (wsD (ys.map k))
  | [], _ => .nil
  | y :: ys, h => .cons (h y (by simp)) (dpAll_map fun z hz => h z (List.mem_cons_of_mem _ hz))
def dSortW : DC := fun ts Q => ∃ t ws, ts = [t] ∧ t.elL = some (wsD ws) ∧ ∀ us : List (Int × Int), us.Perm ws → us.Pairwise leW → Q (.l (wsD us))
theorem oc_sortW : OC K (rSortedW K) dSortW := fun {G H ts vs QD Q} s h ⟨t, ws, e, f, q⟩ p => by
  subst e
  obtain ⟨v, rfl, a⟩ := vrA1 h
  obtain ⟨l, xs, rfl, h1, h2⟩ := elL_of s a f
  refine ⟨l, xs, ws, rfl, h1, pw_of s h2, fun k ys r e pm hs hr => ?_⟩
  have d : DpAll K G ys (wsD (ys.map k)) := dpAll_map fun y hy => dp_key h2 e y (pm.mem_iff.mp hy)
  exact p.lst s d (q _ (by rw [e]; exact pm.map k) hs) r hr
theorem w_sortW {t : T} {ws : List (Int × Int)} {Q : T → Prop} (h : t.elL = some (wsD ws)) (q : ∀ us : List (Int × Int), us.Perm ws → us.Pairwise leW → Q (.l (wsD us))) : dSortW [t] Q := ⟨t, ws, rfl, h, q⟩
end
theorem inD_snoc (ns : List Int) (n : Int) : inD ns ++ [PyData.int n] = inD (ns ++ [n]) := by simp [inD]
theorem wsD_app (xs ys : List (Int × Int)) : wsD xs ++ wsD ys = wsD (xs ++ ys) := by simp [wsD]
theorem wsD_snoc (xs : List (Int × Int)) (w : Int × Int) : wsD xs ++ [wyD w] = wsD (xs ++ [w]) := by simp [wsD]
theorem ssD_snoc (xs : List Str) (w : Str) : ssD xs ++ [PyData.str w] = ssD (xs ++ [w]) := by simp [ssD]
def ifW (p : Int × Int → Bool) : PyData → Option PyData
  | .tuple [.int a, .int b] => if p (a, b) = true then some (.tuple [.int a, .int b]) else none
  | _ => none
theorem ifW_wy (p : Int × Int → Bool) (w : Int × Int) : ifW p (wyD w) = if p w = true then some (wyD w) else none := rfl
theorem fm_ifW (p : Int × Int → Bool) : ∀ ws : List (Int × Int), (wsD ws).filterMap (ifW p) = wsD (ws.filter p)
  | [] => rfl
  | w :: ws => by
    show List.filterMap (ifW p) (wyD w :: wsD ws) = _
    rw [List.filterMap_cons, ifW_wy, List.filter_cons, fm_ifW p ws]
    cases p w <;> rfl
theorem wsD_get {ws : List (Int × Int)} {i : Nat} {x : PyData} (h : (wsD ws)[i]? = some x) : ∃ w, ws[i]? = some w ∧ x = wyD w := by
  unfold wsD at h
  rw [List.getElem?_map] at h
  cases e : ws[i]? with
  | none => rw [e] at h; cases h
  | some w => rw [e] at h; exact ⟨w, rfl, (Option.some.inj h).symm⟩
theorem ssD_get {ws : List Str} {i : Nat} {x : PyData} (h : (ssD ws)[i]? = some x) : ∃ w, ws[i]? = some w ∧ x = .str w := by
  unfold ssD at h
  rw [List.getElem?_map] at h
  cases e : ws[i]? with
  | none => rw [e] at h; cases h
  | some w => rw [e] at h; exact ⟨w, rfl, (Option.some.inj h).symm⟩
theorem w_neWs {t u : T} {ws : List (Int × Int)} {Q : T → Prop} (h1 : t.rd = .list (wsD ws)) (h2 : u.rd = .list []) (q : Q (.g (.bool (!decide (ws = []))))) : dNeD t u Q := by
  refine ⟨by rw [h1]; exact shaped_wsD ws, by rw [h2]; rfl, ?_⟩
  rw [h1, h2]
  have e : PyData.eqv (.list (wsD ws)) (.list []) = decide (ws = []) := by
    cases ws with
    | nil => rfl
    | cons w ws => simp [wsD, PyData.eqv, PyData.eqvAll]
  rw [e]
  exact q
theorem stepD_none {ss : List Str} {ws : List (Int × Int)} {row : List Int} {g : Int} {hs : List (List Int)} {o : Int} {m : Int × Int} : eqF (stepD ss ws row g hs o m) .none = true ∨ ∃ n, eqF (stepD ss ws row g hs o m) .none = false ∧ m ∈ ws ∧ mayB ss (ranks row) g hs o m = true ∧ numLeave ss (ranks row) g hs m.1 = some n ∧ stepD ss ws row g hs o m = mvD ss g hs o m n := by
  unfold stepD
  by_cases h : m ∈ ws ∧ mayB ss (ranks row) g hs o m = true
  · rw [if_pos h]
    cases e : numLeave ss (ranks row) g hs m.1 with
    | none => exact .inl rfl
    | some n => exact .inr ⟨n, rfl, h.1, h.2, rfl, rfl⟩
  · rw [if_neg h]
    exact .inl rfl
theorem held2_small {hs : List (List Int)} {b x : Int} {n : Nat} (hz : ∀ h ∈ hs, h.length ≤ n) : ∀ h ∈ held2 hs b x, h.length ≤ n + 1 := fun h hh => by
  unfold held2 at hh
  split at hh
  · have := hz h hh
    omega
  · rcases List.mem_or_eq_of_mem_set hh with z | z
    · have := hz h z
      omega
    · have := getD_small hz b.toNat
      rw [z, List.length_append, List.length_singleton]
      omega
theorem clean_st (g : Int) (hs : List (List Int)) (o : Int) : clean (stD g hs o) = true := by
  have : cleanAll (hsD hs) = true := by
    rw [cleanAll_iff]
    intro x hx
    obtain ⟨h, _, rfl⟩ := List.mem_map.mp hx
    show cleanAll (inD h) = true
    exact clean_inD h
  simp [stD, clean, cleanAll, this]
theorem depth_st (g : Int) (hs : List (List Int)) (o : Int) : (stD g hs o).depth ≤ 3 := by
  have h1 : PyData.depthAll (hsD hs) ≤ 1 := depthAll_le fun x hx => by
    obtain ⟨h, _, rfl⟩ := List.mem_map.mp hx
    show PyData.depthAll (inD h) + 1 ≤ 1
    rw [depth_inD]
    omega
  show PyData.depthAll [.int g, .tuple (hsD hs), .int o] + 1 ≤ 3
  show max 0 (max (PyData.depthAll (hsD hs) + 1) (max 0 0)) + 1 ≤ 3
  omega
theorem small_st {g : Int} {hs : List (List Int)} {o : Int} (h1 : hs.length ≤ 1000) (h2 : ∀ h ∈ hs, h.length ≤ 1000) : small (stD g hs o) = true := by
  have : small (.tuple (hsD hs)) = true := by
    rw [small_tuple, hsD_len]
    refine ⟨by omega, fun x hx => ?_⟩
    obtain ⟨h, hh, rfl⟩ := List.mem_map.mp hx
    rw [small_tuple, inD_len]
    have := h2 h hh
    refine ⟨by omega, fun y hy => ?_⟩
    obtain ⟨n, _, rfl⟩ := List.mem_map.mp hy
    rfl
  rw [stD, small_tuple]
  refine ⟨by simp, fun x hx => ?_⟩
  simp only [List.mem_cons, List.not_mem_nil, or_false] at hx
  rcases hx with rfl | rfl | rfl
  · rfl
  · exact this
  · rfl
theorem noNone_st (g : Int) (hs : List (List Int)) (o : Int) : noNone (stD g hs o) = true := by
  have : noNoneAll (hsD hs) = true := by
    rw [noNoneAll_iff]
    intro x hx
    obtain ⟨h, _, rfl⟩ := List.mem_map.mp hx
    show noNoneAll (inD h) = true
    rw [noNoneAll_iff]
    intro y hy
    obtain ⟨n, _, rfl⟩ := List.mem_map.mp hy
    rfl
  simp [stD, noNone, noNoneAll, this]
end Dv

set_option Elab.async false
set_option linter.all false
set_option maxRecDepth 100000
set_option maxHeartbeats 4000000
namespace Dv
open PySem PySem.Spec PyProof.Rows L2 Px
def pmW (p : Int × Int → Bool) (f : Int × Int → PyData) : PyData → Option PyData
  | .tuple [.int a, .int b] => if p (a, b) = true then some (f (a, b)) else none
  | _ => none
theorem pmW_wy (p : Int × Int → Bool) (f : Int × Int → PyData) (w : Int × Int) : pmW p f (wyD w) = if p w = true then some (f w) else none := rfl
theorem fm_pmW (p : Int × Int → Bool) (f : Int × Int → PyData) : ∀ ws : List (Int × Int), (wsD ws).filterMap (pmW p f) = (ws.filter p).map f
  | [] => rfl
  | w :: ws => by
    show List.filterMap (pmW p f) (wyD w :: wsD ws) = _
    rw [List.filterMap_cons, pmW_wy, List.filter_cons, fm_pmW p f ws]
    cases p w <;> rfl
/-- pairs of a way and another thing -/
def pwD (f : Int × Int → PyData) (ws : List (Int × Int)) : List PyData := ws.map fun m => .tuple [wyD m, f m]
theorem pwD_len (f : Int × Int → PyData) (ws : List (Int × Int)) : (pwD f ws).length = ws.length := by simp [pwD]
theorem pwD_get {f : Int × Int → PyData} {ws : List (Int × Int)} {i : Nat} {x : PyData} (h : (pwD f ws)[i]? = some x) : ∃ w, ws[i]? = some w ∧ x = .tuple [wyD w, f w] := by
  unfold pwD at h
  rw [List.getElem?_map] at h
  cases e : ws[i]? with
  | none => rw [e] at h; cases h
  | some w => rw [e] at h; exact ⟨w, rfl, (Option.some.inj h).symm⟩
def fstD : PyData → Option PyData
  | .tuple [a, _] => some a
  | _ => none
theorem fm_fst (f : Int × Int → PyData) : ∀ ws : List (Int × Int), (pwD f ws).filterMap fstD = wsD ws
  | [] => rfl
  | w :: ws => by
    show List.filterMap fstD (PyData.tuple [wyD w, f w] :: pwD f ws) = wyD w :: wsD ws
    rw [List.filterMap_cons, fm_fst f ws]
    rfl
/-- the standing behind a move, where a number leaves -/
def mvO (ss : List Str) (od : List Int) (g : Int) (hs : List (List Int)) (o : Int) (m : Int × Int) : PyData :=
  match numLeave ss od g hs m.1 with
  | some n => mvD ss g hs o m n
  | none => .none
theorem mayB_num {ss : List Str} {od : List Int} {g : Int} {hs : List (List Int)} {o : Int} {m : Int × Int} (h : mayB ss od g hs o m = true) : ∃ n, numLeave ss od g hs m.1 = some n ∧ mvO ss od g hs o m = mvD ss g hs o m n := by
  unfold mayB at h
  unfold mvO
  cases e : numLeave ss od g hs m.1 with
  | none => rw [e] at h; cases h
  | some n => exact ⟨n, rfl, rfl⟩
theorem stepD_iff {ss : List Str} {ws : List (Int × Int)} {row : List Int} {g : Int} {hs : List (List Int)} {o : Int} {m : Int × Int} (hm : m ∈ ws) : (!eqF (stepD ss ws row g hs o m) .none) = mayB ss (ranks row) g hs o m := by
  cases hb : mayB ss (ranks row) g hs o m with
  | false =>
    unfold stepD
    rw [if_neg (fun z => by rw [hb] at z; cases z.2)]
    rfl
  | true =>
    rcases stepD_none (ss := ss) (ws := ws) (row := row) (g := g) (hs := hs) (o := o) (m := m) with z | ⟨n, z, _⟩
    · obtain ⟨n, hn, _⟩ := mayB_num hb
      unfold stepD at z
      rw [if_pos ⟨hm, hb⟩, hn] at z
      cases z
    · rw [z]; rfl
theorem clean_word {s : Str} (h : word s) : clean (.str s) = true := by
  rcases h with e | e <;> (subst e; simp [clean, PyData.strOk]; decide)
theorem small_wsD {ws : List (Int × Int)} (h : ws.length ≤ 1000) : small (.list (wsD ws)) = true := by
  rw [small_list, wsD_len]
  refine ⟨by omega, fun x hx => ?_⟩
  obtain ⟨w, _, rfl⟩ := List.mem_map.mp hx
  rfl
theorem noNone_wsD (ws : List (Int × Int)) : noNone (.list (wsD ws)) = true := by
  show noNoneAll (wsD ws) = true
  rw [noNoneAll_iff]
  intro x hx
  obtain ⟨w, _, rfl⟩ := List.mem_map.mp hx
  rfl
def pmI (p : Int → Bool) (f : Int → PyData) : PyData → Option PyData
  | .int n => if p n = true then some (f n) else none
  | _ => none
theorem pmI_int (p : Int → Bool) (f : Int → PyData) (n : Int) : pmI p f (.int n) = if p n = true then some (f n) else none := rfl
theorem fm_pmI (p : Int → Bool) (f : Int → PyData) : ∀ ns : List Int, (inD ns).filterMap (pmI p f) = (ns.filter p).map f
  | [] => rfl
  | n :: ns => by
    show List.filterMap (pmI p f) (.int n :: inD ns) = _
    rw [List.filterMap_cons, pmI_int, List.filter_cons, fm_pmI p f ns]
    cases p n <;> rfl
end Dv

set_option Elab.async false
set_option linter.all false
set_option maxRecDepth 100000
set_option maxHeartbeats 4000000
namespace Px
open PySem PySem.Spec PyProof.Rows L2
/-! ### isinstance of a kept error, or of None where none was caught -/
def rIsErTN (K : PySem.W.Frag) : List V → Hp → VK → Prop := fun xs H Q => rIsErT K xs H Q ∨ rIsiT K xs H Q
def rIsErN (K : PySem.W.Frag) : List V → Hp → VK → Prop := fun xs H Q => rIsEr K xs H Q ∨ rIsi K xs H Q
theorem crIsErTN (K : PySem.W.Frag) {X : Cx} (hK : X.K = K) : CallR X (.builtin "isinstance") (rIsErTN K) := by
  intro pins s σ H xs us Q I r h
  rcases h with h | h
  · exact crIsErT K hK pins s σ H xs us Q I r h
  · exact crIsiT K hK pins s σ H xs us Q I r h
theorem crIsErN (K : PySem.W.Frag) {X : Cx} (hK : X.K = K) : CallR X (.builtin "isinstance") (rIsErN K) := by
  intro pins s σ H xs us Q I r h
  rcases h with h | h
  · exact crIsEr K hK pins s σ H xs us Q I r h
  · exact crIsi K hK pins s σ H xs us Q I r h
/-- None is none of the class x -/
def ENon (K : PySem.W.Frag) (mg : Str → Option Value) (x : Str) : Prop := ∃ C, mg x = some (.ref C) ∧ PySem.W.subIn K (.type "NoneType") (.ref C) = some false
theorem enon_mk {K : PySem.W.Frag} {mg : Str → Option Value} {h : Heap} {x : Str} {C : Addr} (X : K.In h) (G : h.Ns mainGlobals mg) (a : PySem.W.nsIn K mainGlobals x = some (some (.ref C))) (s : PySem.W.subIn K (.type "NoneType") (.ref C) = some false) : ENon K mg x := ⟨C, PySem.W.mg_of X G a, s⟩
theorem kit_non {K : PySem.W.Frag} {mg : Str → Option Value} {x : Str} {C : Addr} (c : ECls K mg x C) (n : ENon K mg x) : PySem.W.kitOne K (.type "NoneType") (.ref C) = some false := by
  obtain ⟨D, h1, h2⟩ := n
  cases c.g.symm.trans h1
  unfold PySem.W.kitOne
  have h0 : (Value.type "NoneType" == Value.ref C) = false := by simp
  rw [h0, if_neg Bool.false_ne_true]
  show (if ((PySem.W.clsIn K C).isSome && PySem.W.typeIn K (.ref C) == some (.type "type")) = true then PySem.W.subIn K (.type "NoneType") (.ref C) else none) = some false
  have h3 : (PySem.W.clsIn K C).isSome = true := c.ic
  rw [h3, c.ty, if_pos (by rfl), h2]
section
variable {K : PySem.W.Frag} {H : Hp} {Q : VK}
theorem r_isErTN {a D tp : Addr} {cs : List V} {us : List Value} {b : Bool} (he : H a = some (ErO (.ref D) a)) (C : ExcC K D) (ht : H tp = some (.tup cs)) (k : Paired ClsV cs us) (e : PySem.W.kitAny K (.ref D) us = some b) (q : Q (.bl b) H) : rIsErTN K [.ref a, .ref tp] H Q := .inl (r_isErT he C ht k e q)
theorem r_isErN {a D : Addr} {c : V} {cv : Value} {b : Bool} (he : H a = some (ErO (.ref D) a)) (C : ExcC K D) (k : ClsV c cv) (e : PySem.W.kitOne K (.ref D) cv = some b) (q : Q (.bl b) H) : rIsErN K [.ref a, c] H Q := .inl (r_isEr he C k e q)
theorem r_isNoTN {tp : Addr} {cs : List V} {us : List Value} {b : Bool} (ht : H tp = some (.tup cs)) (k : Paired ClsV cs us) (e : PySem.W.kitAny K (.type "NoneType") us = some b) (q : Q (.bl b) H) : rIsErTN K [.non, .ref tp] H Q := .inr ⟨.non, tp, cs, _, us, b, rfl, ht, k, .base .non, e, q⟩
theorem r_isNoN {c : V} {cv : Value} {b : Bool} (k : ClsV c cv) (e : PySem.W.kitOne K (.type "NoneType") cv = some b) (q : Q (.bl b) H) : rIsErN K [.non, c] H Q := .inr ⟨.non, c, _, cv, b, rfl, k, .base .non, e, q⟩
end
end Px

set_option Elab.async false
set_option linter.all false
set_option maxRecDepth 100000
set_option maxHeartbeats 4000000
namespace Dv
open PySem PySem.Spec PyProof.Rows L2 Px
/-! ### doings: the walk of a row, the walk of tokens -/
abbrev MS := Int × List (List Int) × Int
def nextS (ss : List Str) (s : MS) (m : Int × Int) (n : Int) : MS := (if m.1 = -1 then s.1 + 1 else s.1, held2 (held1 ss s.2.1 m.1) m.2 n, if m.2 = -2 then s.2.2 + 1 else s.2.2)
def rStp (ss : List Str) (od : List Int) (s : MS) (m : Int × Int) : Option MS :=
  if mayB ss od s.1 s.2.1 s.2.2 m = true then (numLeave ss od s.1 s.2.1 m.1).map (nextS ss s m) else none
def rRun (ss : List Str) (ws : List (Int × Int)) (od : List Int) : List (Int × Int) → MS → Option MS
  | [], s => some s
  | m :: ms, s => if m ∈ ws then (rStp ss od s m).bind (rRun ss ws od ms) else none
def first0 (ss : List Str) : MS := (0, List.replicate ss.length [], 0)
def last0 (ss : List Str) (n : Nat) : MS := (n, List.replicate ss.length [], n)
def brings (ss : List Str) (ws : List (Int × Int)) (od : List Int) (ms : List (Int × Int)) : Bool := decide (rRun ss ws od ms (first0 ss) = some (last0 ss od.length))
/-- a walk's standing as told -/
def msD : Option MS → PyData
  | none => .none
  | some s => stD s.1 s.2.1 s.2.2
theorem stepD_ms (ss : List Str) (ws : List (Int × Int)) (row : List Int) (g : Int) (hs : List (List Int)) (o : Int) (m : Int × Int) :
    stepD ss ws row g hs o m = msD (if m ∈ ws then rStp ss (ranks row) (g, hs, o) m else none) := by
  unfold stepD rStp
  by_cases h1 : m ∈ ws
  · by_cases h2 : mayB ss (ranks row) g hs o m = true
    · rw [if_pos ⟨h1, h2⟩, if_pos h1, if_pos h2]
      cases numLeave ss (ranks row) g hs m.1 <;> rfl
    · rw [if_neg (fun z => h2 z.2), if_pos h1, if_neg h2]
      rfl
  · rw [if_neg (fun z => h1 z.1), if_neg h1]
    rfl
theorem rRun_app (ss : List Str) (ws : List (Int × Int)) (od : List Int) : ∀ (ms us : List (Int × Int)) (s : MS), rRun ss ws od (ms ++ us) s = (rRun ss ws od ms s).bind (rRun ss ws od us)
  | [], us, s => rfl
  | m :: ms, us, s => by
    show (if m ∈ ws then (rStp ss od s m).bind (rRun ss ws od (ms ++ us)) else none) = (if m ∈ ws then (rStp ss od s m).bind (rRun ss ws od ms) else none).bind _
    split
    · cases rStp ss od s m with
      | none => rfl
      | some t => exact rRun_app ss ws od ms us t
    · rfl
/-! tokens: a number's token is its place in the row; outs are the tokens that came out -/
abbrev TS0 := Int × List (List Int) × List Int
def tStp (ss : List Str) (td : List Int) (s : TS0) (m : Int × Int) : Option TS0 :=
  (numLeave ss td s.1 s.2.1 m.1).map fun n => (if m.1 = -1 then s.1 + 1 else s.1, held2 (held1 ss s.2.1 m.1) m.2 n, if m.2 = -2 then s.2.2 ++ [n] else s.2.2)
def tRun (ss : List Str) (td : List Int) : List (Int × Int) → TS0 → Option TS0
  | [], s => some s
  | m :: ms, s => (tStp ss td s m).bind (tRun ss td ms)
theorem tRun_app (ss : List Str) (td : List Int) : ∀ (ms us : List (Int × Int)) (s : TS0), tRun ss td (ms ++ us) s = (tRun ss td ms s).bind (tRun ss td us)
  | [], us, s => rfl
  | m :: ms, us, s => by
    show (tStp ss td s m).bind (tRun ss td (ms ++ us)) = ((tStp ss td s m).bind (tRun ss td ms)).bind _
    cases tStp ss td s m with
    | none => rfl
    | some t => exact tRun_app ss td ms us t
theorem getD_map_nil {α β : Type} (f : α → β) (hs : List (List α)) (i : Nat) : (hs.map (List.map f)).getD i [] = (hs.getD i []).map f := by
  rw [List.getD_eq_getElem?_getD, List.getD_eq_getElem?_getD, List.getElem?_map]
  cases hs[i]? <;> rfl
theorem numLeave_map (φ : Int → Int) (ss : List Str) (td : List Int) (g : Int) (hs : List (List Int)) (a : Int) (hg : 0 ≤ g) :
    numLeave ss (td.map φ) g (hs.map (List.map φ)) a = (numLeave ss td g hs a).map φ := by
  unfold numLeave
  rw [List.length_map, getD_map_nil]
  split
  · split
    · rename_i h
      have hl : g.toNat < td.length := by omega
      rw [List.getD_eq_getElem?_getD, List.getD_eq_getElem?_getD, List.getElem?_map, List.getElem?_eq_getElem hl]
      rfl
    · rfl
  · cases hs.getD a.toNat [] with
    | nil => rfl
    | cons x r =>
      have a1 : ¬ (φ x :: r.map φ) = [] := fun z => nomatch z
      have a2 : ¬ (x :: r) = [] := fun z => nomatch z
      rw [List.map_cons, if_neg a1, if_neg a2]
      split
      · show some (List.getLastD (φ x :: r.map φ) 0) = some (φ (List.getLastD (x :: r) 0))
        rw [List.getLastD_eq_getLast?, List.getLastD_eq_getLast?, ← List.map_cons, List.getLast?_map]
        cases e : (x :: r).getLast? with
        | none => simp at e
        | some y => rfl
      · rfl
theorem held1_map (φ : Int → Int) (ss : List Str) (hs : List (List Int)) (a : Int) : held1 ss (hs.map (List.map φ)) a = (held1 ss hs a).map (List.map φ) := by
  unfold held1
  split
  · rfl
  · rw [List.map_set, getD_map_nil]
    congr 1
    split
    · rw [List.map_dropLast]
    · rw [List.map_tail]
theorem held2_map (φ : Int → Int) (hs : List (List Int)) (b n : Int) : held2 (hs.map (List.map φ)) b (φ n) = (held2 hs b n).map (List.map φ) := by
  unfold held2
  split
  · rfl
  · rw [List.map_set, getD_map_nil, List.map_append]
    rfl
theorem tStp_outs {ss : List Str} {td : List Int} {s t : TS0} {m : Int × Int} (h : tStp ss td s m = some t) : s.2.2 <+: t.2.2 := by
  unfold tStp at h
  cases e : numLeave ss td s.1 s.2.1 m.1 with
  | none => rw [e] at h; cases h
  | some n =>
    rw [e] at h
    cases h
    show s.2.2 <+: if m.2 = -2 then s.2.2 ++ [n] else s.2.2
    split
    · exact List.prefix_append _ _
    · exact List.prefix_refl _
theorem tRun_outs {ss : List Str} {td : List Int} : ∀ {ms : List (Int × Int)} {s t : TS0}, tRun ss td ms s = some t → s.2.2 <+: t.2.2
  | [], s, t, h => by cases h; exact List.prefix_refl _
  | m :: ms, s, t, h => by
    have h : (tStp ss td s m).bind (tRun ss td ms) = some t := h
    cases e : tStp ss td s m with
    | none => rw [e] at h; cases h
    | some u =>
      rw [e] at h
      exact (tStp_outs e).trans (tRun_outs (ms := ms) h)
/-- a number's place among those that came out -/
def outAt (outs : List Int) (t : Int) : Int := (outs.idxOf t : Nat)
theorem outAt_next {xs ys : List Int} {n : Int} (nd : ys.Nodup) (h : xs ++ [n] <+: ys) : outAt ys n = xs.length := by
  obtain ⟨zs, rfl⟩ := h
  unfold outAt
  have hn : n ∉ xs := fun z => by
    rw [List.append_assoc] at nd
    exact (List.nodup_append.mp nd).2.2 n z n (by simp) rfl
  rw [List.append_assoc, List.idxOf_append, if_neg hn]
  simp
/-- the standing of a walk of tokens, each named by when it comes out -/
def phiS (outs : List Int) (s : TS0) : MS := (s.1, s.2.1.map (List.map (outAt outs)), (s.2.2.length : Nat))
theorem tok_step {ss : List Str} {td : List Int} {s t : TS0} {m : Int × Int} {outs : List Int} (h : tStp ss td s m = some t) (nd : outs.Nodup) (pre : t.2.2 <+: outs) (hg : 0 ≤ s.1) :
    rStp ss (td.map (outAt outs)) (phiS outs s) m = some (phiS outs t) := by
  unfold phiS
  unfold tStp at h
  cases e : numLeave ss td s.1 s.2.1 m.1 with
  | none => rw [e] at h; cases h
  | some n =>
    rw [e] at h
    cases h
    have e2 : numLeave ss (td.map (outAt outs)) s.1 (s.2.1.map (List.map (outAt outs))) m.1 = some (outAt outs n) := by rw [numLeave_map _ _ _ _ _ _ hg, e]; rfl
    have pre : (if m.2 = -2 then s.2.2 ++ [n] else s.2.2) <+: outs := pre
    have mb : mayB ss (td.map (outAt outs)) s.1 (s.2.1.map (List.map (outAt outs))) (s.2.2.length : Nat) m = true := by
      unfold mayB
      rw [e2]
      by_cases hb : m.2 = -2
      · rw [if_pos hb] at pre
        simp [outAt_next nd pre]
      · simp [hb]
    unfold rStp
    rw [if_pos mb, e2]
    show some (nextS ss _ m (outAt outs n)) = _
    unfold nextS
    rw [held1_map, held2_map]
    by_cases hb : m.2 = -2
    · simp [hb]
    · simp [hb]
theorem tok_run {ss : List Str} {ws : List (Int × Int)} {td : List Int} {outs : List Int} (nd : outs.Nodup) : ∀ {ms : List (Int × Int)} {s t : TS0}, tRun ss td ms s = some t → t.2.2 = outs → (∀ m ∈ ms, m ∈ ws) → 0 ≤ s.1 →
    rRun ss ws (td.map (outAt outs)) ms (phiS outs s) = some (phiS outs t)
  | [], s, t, h, _, _, _ => by cases h; rfl
  | m :: ms, s, t, h, e, hw, hg => by
    have h : (tStp ss td s m).bind (tRun ss td ms) = some t := h
    cases e1 : tStp ss td s m with
    | none => rw [e1] at h; cases h
    | some u =>
      rw [e1] at h
      have h : tRun ss td ms u = some t := h
      have pre := tRun_outs h
      rw [e] at pre
      show (if m ∈ ws then (rStp ss (td.map (outAt outs)) (phiS outs s) m).bind (rRun ss ws (td.map (outAt outs)) ms) else none) = some (phiS outs t)
      rw [if_pos (hw m (by simp)), tok_step e1 nd pre hg]
      refine tok_run nd (ms := ms) h e (fun k hk => hw k (List.mem_cons_of_mem _ hk)) ?_
      unfold tStp at e1
      cases e2 : numLeave ss td s.1 s.2.1 m.1 with
      | none => rw [e2] at e1; cases e1
      | some n =>
        rw [e2] at e1
        cases e1
        show (0 : Int) ≤ if m.1 = -1 then s.1 + 1 else s.1
        split <;> omega
/-! ### what the tokens are -/
theorem flat_set {x : List Int} : ∀ {hs : List (List Int)} {i : Nat}, i < hs.length → (hs.getD i [] ++ (hs.set i x).flatten).Perm (x ++ hs.flatten)
  | [], i, h => by simp at h
  | h0 :: hs, 0, _ => by
    show (h0 ++ (x ++ hs.flatten)).Perm (x ++ (h0 ++ hs.flatten))
    rw [← List.append_assoc, ← List.append_assoc]
    exact List.perm_append_comm.append_right _
  | h0 :: hs, i + 1, h => by
    have ih := flat_set (x := x) (hs := hs) (i := i) (by simpa using h)
    show (hs.getD i [] ++ (h0 ++ (hs.set i x).flatten)).Perm (x ++ (h0 ++ hs.flatten))
    refine (List.perm_append_comm_assoc _ _ _).trans ?_
    refine (ih.append_left h0).trans ?_
    exact List.perm_append_comm_assoc _ _ _
theorem flat_held1 {ss : List Str} {td : List Int} {g : Int} {hs : List (List Int)} {a n : Int} (h : numLeave ss td g hs a = some n) (ha : a ≠ -1) (hl : a.toNat < hs.length) : (n :: (held1 ss hs a).flatten).Perm hs.flatten := by
  unfold numLeave at h
  unfold held1
  rw [if_neg ha] at h ⊢
  have key : ∀ r : List Int, (n :: r).Perm (hs.getD a.toNat []) → (n :: (hs.set a.toNat r).flatten).Perm hs.flatten := fun r pm => by
    have f := flat_set (x := r) hl
    have h1 : ((n :: r) ++ (hs.set a.toNat r).flatten).Perm (r ++ hs.flatten) := (pm.append_right _).trans f
    have h2 : (r ++ (n :: (hs.set a.toNat r).flatten)).Perm (r ++ hs.flatten) := List.perm_middle.trans h1
    exact (List.perm_append_left_iff r).mp h2
  cases e : hs.getD a.toNat [] with
  | nil => rw [e] at h; simp at h
  | cons x r =>
    rw [e] at h
    rw [if_neg (by simp)] at h
    by_cases hp : ss.getD a.toNat "line" = "pile"
    · rw [if_pos hp] at h
      rw [if_pos hp]
      refine key _ ?_
      rw [e]
      have hne : (x :: r) ≠ [] := by simp
      have e2 : n = (x :: r).getLast hne := by
        rw [List.getLastD_eq_getLast?, List.getLast?_eq_some_getLast hne] at h
        exact (Option.some.inj h).symm
      have e3 := List.dropLast_concat_getLast hne
      rw [e2]
      have : ((x :: r).getLast hne :: (x :: r).dropLast).Perm ((x :: r).dropLast ++ [(x :: r).getLast hne]) := List.perm_append_singleton _ _ |>.symm
      rw [e3] at this
      exact this
    · rw [if_neg hp] at h
      rw [if_neg hp]
      refine key _ ?_
      rw [e]
      cases h
      exact List.Perm.refl _
theorem flat_held2 {hs : List (List Int)} {b n : Int} (hb : b ≠ -2) (hl : b.toNat < hs.length) : (held2 hs b n).flatten.Perm (n :: hs.flatten) := by
  unfold held2
  rw [if_neg hb]
  have f := flat_set (x := hs.getD b.toNat [] ++ [n]) hl
  rw [List.append_assoc] at f
  exact (List.perm_append_left_iff _).mp f
structure TokOk (m n : Nat) (lv : List Int) (s : TS0) : Prop where
  g0 : 0 ≤ s.1
  gn : s.1 ≤ n
  len : s.2.1.length = m
  pm : (s.2.2 ++ s.2.1.flatten).Perm (rgI 0 s.1.toNat)
  lv : ∀ k : Nat, s.2.1.getD k [] ≠ [] → (k : Int) ∈ lv
theorem rgI_succ (n : Nat) : rgI 0 (n + 1) = rgI 0 n ++ [(n : Int)] := by
  unfold rgI
  rw [List.range_succ, List.map_append]
  simp
theorem rgI_getD {n : Nat} {g : Int} (h0 : 0 ≤ g) (h1 : g < n) : (rgI 0 n).getD g.toNat 0 = g := by
  unfold rgI
  rw [List.getD_eq_getElem?_getD, List.getElem?_map, List.getElem?_range (by omega)]
  show (0 : Int) + (g.toNat : Nat) = g
  omega
theorem getD_set {α : Type} (hs : List (List α)) (i k : Nat) (x : List α) : (hs.set i x).getD k [] = if i = k ∧ i < hs.length then x else hs.getD k [] := by
  rw [List.getD_eq_getElem?_getD, List.getElem?_set]
  by_cases h : i = k
  · subst h
    by_cases h2 : i < hs.length
    · rw [if_pos rfl, if_pos h2, if_pos ⟨rfl, h2⟩]
      rfl
    · rw [if_pos rfl, if_neg h2, if_neg (fun z => h2 z.2), List.getD_eq_getElem?_getD, List.getElem?_eq_none (by omega)]
  · rw [if_neg h, if_neg (fun z => h z.1), List.getD_eq_getElem?_getD]
theorem tok_ok {ss : List Str} {n : Nat} {lv : List Int} {s : TS0} {m : Int × Int} {x : Int} (k : TokOk ss.length n lv s) (w : WayIn ss.length m) (hb : m.2 = -2 ∨ m.2 ∈ lv) (e : numLeave ss (rgI 0 n) s.1 s.2.1 m.1 = some x) :
    TokOk ss.length n lv (if m.1 = -1 then s.1 + 1 else s.1, held2 (held1 ss s.2.1 m.1) m.2 x, if m.2 = -2 then s.2.2 ++ [x] else s.2.2) := by
  obtain ⟨g0, gn, len, pm, hlv⟩ := k
  obtain ⟨g, hs, outs⟩ := s
  obtain ⟨a, b⟩ := m
  dsimp only at *
  have hg : a = -1 → x = g ∧ g < n := fun ha => by
    unfold numLeave at e
    rw [if_pos ha, rgI_len] at e
    by_cases hl : g < (n : Int)
    · rw [if_pos hl, rgI_getD g0 hl] at e
      exact ⟨(Option.some.inj e).symm, hl⟩
    · rw [if_neg hl] at e
      cases e
  have step1 : (outs ++ x :: (held1 ss hs a).flatten).Perm (rgI 0 (if a = -1 then g + 1 else g).toNat) := by
    by_cases ha : a = -1
    · obtain ⟨rfl, hl⟩ := hg ha
      rw [if_pos ha, show (x + 1).toNat = x.toNat + 1 by omega, rgI_succ, show ((x.toNat : Nat) : Int) = x by omega]
      have : held1 ss hs a = hs := by unfold held1; rw [if_pos ha]
      rw [this]
      refine (List.perm_middle).trans ?_
      refine (List.Perm.cons x pm).trans ?_
      exact (List.perm_append_singleton _ _).symm
    · rw [if_neg ha]
      have ha2 := w.1.resolve_left ha
      exact ((flat_held1 e ha (by rw [len]; omega)).append_left outs).trans pm
  refine ⟨by split <;> omega, ?_, by rw [held2_len, held1_len]; exact len, ?_, ?_⟩
  · show (if a = -1 then g + 1 else g) ≤ (n : Int)
    split
    · rename_i ha
      have := (hg ha).2
      omega
    · exact gn
  · show ((if b = -2 then outs ++ [x] else outs) ++ (held2 (held1 ss hs a) b x).flatten).Perm (rgI 0 (if a = -1 then g + 1 else g).toNat)
    refine List.Perm.trans ?_ step1
    by_cases hb2 : b = -2
    · rw [if_pos hb2]
      have : held2 (held1 ss hs a) b x = held1 ss hs a := by unfold held2; rw [if_pos hb2]
      rw [this, List.append_assoc]
      exact List.Perm.refl _
    · rw [if_neg hb2]
      have h2 := w.2.resolve_left hb2
      exact (flat_held2 hb2 (by rw [held1_len, len]; omega)).append_left outs
  · intro k hk
    dsimp only at hk
    have base : ∀ k : Nat, (held1 ss hs a).getD k [] ≠ [] → (k : Int) ∈ lv := fun k hk => by
      unfold held1 at hk
      by_cases ha : a = -1
      · rw [if_pos ha] at hk
        exact hlv k hk
      · rw [if_neg ha, getD_set] at hk
        refine hlv k fun z => ?_
        by_cases c : a.toNat = k ∧ a.toNat < hs.length
        · rw [if_pos c, c.1, z] at hk
          split at hk <;> exact hk rfl
        · rw [if_neg c] at hk
          exact hk z
    unfold held2 at hk
    by_cases hb2 : b = -2
    · rw [if_pos hb2] at hk
      exact base k hk
    · rw [if_neg hb2, getD_set] at hk
      by_cases c : b.toNat = k ∧ b.toNat < (held1 ss hs a).length
      · have h2 := w.2.resolve_left hb2
        have : (k : Int) = b := by omega
        rw [this]
        exact hb.resolve_left hb2
      · rw [if_neg c] at hk
        exact base k hk
theorem flatten_nil_iff {hs : List (List Int)} : hs.flatten = [] ↔ hs = List.replicate hs.length [] := by
  induction hs with
  | nil => simp
  | cons h hs ih =>
    rw [List.flatten_cons, List.append_eq_nil_iff, List.length_cons, List.replicate_succ, List.cons.injEq, ih]
theorem tok_done {m n : Nat} {lv : List Int} {s : TS0} (k : TokOk m n lv s) (h : s.2.2.length = n) : s.1 = n ∧ s.2.1 = List.replicate m [] ∧ s.2.2.Perm (rgI 0 n) := by
  have hl := k.pm.length_eq
  rw [List.length_append, rgI_len] at hl
  have h1 := k.gn
  have h0 := k.g0
  have hf : s.2.1.flatten = [] := List.length_eq_zero_iff.mp (by omega)
  have hg : s.1 = n := by omega
  have pm := k.pm
  rw [hf, List.append_nil, hg, Int.toNat_natCast] at pm
  exact ⟨hg, by rw [← k.len]; exact flatten_nil_iff.mp hf, pm⟩
theorem tok_more {m n : Nat} {lv : List Int} {s : TS0} (k : TokOk m n lv s) (h : s.2.2.length ≠ n) : s.1 < n ∨ ∃ j : Nat, s.2.1.getD j [] ≠ [] := by
  by_cases c : s.1 < n
  · exact .inl c
  · right
    have hl := k.pm.length_eq
    rw [List.length_append, rgI_len] at hl
    have h1 := k.gn
    have h0 := k.g0
    by_cases z : s.2.1.flatten = []
    · rw [z] at hl
      simp at hl
      omega
    · obtain ⟨x, hx⟩ := List.exists_mem_of_ne_nil _ z
      obtain ⟨l, hl2, hx2⟩ := List.mem_flatten.mp hx
      obtain ⟨j, hj⟩ := List.mem_iff_getElem?.mp hl2
      refine ⟨j, fun z2 => ?_⟩
      rw [List.getD_eq_getElem?_getD, hj] at z2
      rw [show l = [] from z2] at hx2
      cases hx2
theorem tok_outs_le {m n : Nat} {lv : List Int} {s : TS0} (k : TokOk m n lv s) : s.2.2.length ≤ n := by
  have hl := k.pm.length_eq
  rw [List.length_append, rgI_len] at hl
  have h1 := k.gn
  omega
theorem tok_held_le {m n : Nat} {lv : List Int} {s : TS0} (k : TokOk m n lv s) : ∀ h ∈ s.2.1, h.length ≤ n := fun h hh => by
  have hl := k.pm.length_eq
  rw [List.length_append, rgI_len] at hl
  have h1 := k.gn
  have := (List.sublist_flatten_of_mem hh).length_le
  omega
/-! ### the row that was planted -/
theorem outs_idx {outs : List Int} (nd : outs.Nodup) : outs.map (fun t => outs.idxOf t) = List.range outs.length := by
  refine List.ext_getElem (by simp) fun i h1 h2 => ?_
  rw [List.getElem_map, List.getElem_range]
  exact nd.idxOf_getElem i (by simpa using h1)
def plantRow (ns outs : List Int) (n : Nat) : List Int := (rgI 0 n).map fun t => ns.getD (outs.idxOf t) 0
theorem plant_perm {ns outs : List Int} {n : Nat} (hl : ns.length = n) (pm : outs.Perm (rgI 0 n)) : (plantRow ns outs n).Perm ns := by
  have nd : outs.Nodup := pm.nodup_iff.mpr ((rise_rgI 0 n).imp fun h => by omega)
  have ho : outs.length = n := by rw [pm.length_eq, rgI_len]
  unfold plantRow
  refine (pm.symm.map _).trans ?_
  have e : outs.map (fun t => ns.getD (outs.idxOf t) 0) = ns := by
    refine List.ext_getElem (by simp; omega) fun i h1 h2 => ?_
    rw [List.getElem_map, nd.idxOf_getElem i (by simpa using h1), List.getD_eq_getElem?_getD, List.getElem?_eq_getElem h2]
    rfl
  rw [e]
theorem plant_ranks {ns outs : List Int} {n : Nat} (hl : ns.length = n) (hr : ns.Pairwise (· < ·)) (pm : outs.Perm (rgI 0 n)) : ranks (plantRow ns outs n) = (rgI 0 n).map (outAt outs) := by
  have pp := plant_perm hl pm
  have ho : outs.length = n := by rw [pm.length_eq, rgI_len]
  unfold ranks
  rw [show (plantRow ns outs n).map (fun x => ((below (plantRow ns outs n) x : Nat) : Int)) = ((rgI 0 n).map fun t => ns.getD (outs.idxOf t) 0).map (fun x => ((below (plantRow ns outs n) x : Nat) : Int)) from rfl, List.map_map]
  refine List.map_congr_left fun t ht => ?_
  have hm : t ∈ outs := pm.mem_iff.mpr ht
  have hi : outs.idxOf t < ns.length := by rw [hl, ← ho]; exact List.idxOf_lt_length_iff.mpr hm
  show ((below (plantRow ns outs n) (ns.getD (outs.idxOf t) 0) : Nat) : Int) = ((outs.idxOf t : Nat) : Int)
  rw [← below_perm pp.symm, sorted_below hr (j := outs.idxOf t) (by rw [List.getD_eq_getElem?_getD, List.getElem?_eq_getElem hi]; rfl)]
theorem plant_brings {ss : List Str} {ws ms : List (Int × Int)} {n : Nat} {lv : List Int} {s : TS0} {ns : List Int} (k : TokOk ss.length n lv s) (r : tRun ss (rgI 0 n) ms (0, List.replicate ss.length [], []) = some s) (hw : ∀ m ∈ ms, m ∈ ws)
    (ho : s.2.2.length = n) (hl : ns.length = n) (hr : ns.Pairwise (· < ·)) : brings ss ws (ranks (plantRow ns s.2.2 n)) ms = true := by
  obtain ⟨e1, e2, e3⟩ := tok_done k ho
  have nd : s.2.2.Nodup := e3.nodup_iff.mpr ((rise_rgI 0 n).imp fun h => by omega)
  have run := tok_run (ws := ws) nd r rfl hw (Int.le_refl 0)
  unfold brings
  rw [plant_ranks hl hr e3]
  have f0 : phiS s.2.2 (0, List.replicate ss.length [], []) = first0 ss := by unfold phiS first0; simp
  have fl : phiS s.2.2 s = last0 ss n := by unfold phiS last0; rw [e1, e2, ho]; simp
  rw [f0, fl] at run
  rw [run, List.length_map, rgI_len]
  simp
end Dv

set_option Elab.async false
set_option linter.all false
set_option maxRecDepth 100000
set_option maxHeartbeats 4000000
namespace Px
open PySem PySem.Spec PyProof.Rows L2
/-! ### sorted(set(xs)) of a list of ints -/
/-- a set that was made just now -/
@[reducible] def freshSet (w : World) : Obj := { cls := .type "set", dict := none, data := .set #[] 0 (.fresh 0 0 (!w.params.followText "set-order")) }
section
variable {P : Program} {w : World} {A : Around} {E : Value → Shared → Prop} {s : Shared}
theorem set_of_list {l : Addr} {items : Array Value} (ns : List Int) {Q : Value → Shared → Prop} (hh : A.handled = none) (isl : s.heap.IsList l items) (hints : IntsAre items.toList ns) (few : ns.length + 1 < scanBound)
    (then_ : ∀ (h' : Heap) (tk c : Nat), SetR w h' s.heap.objs.size (fun j => decide (j ∈ ns)) c → c ≤ ns.length → (∀ b o, s.heap.get? b = some o → h'.get? b = some o) → Q (.ref s.heap.objs.size) { s with heap := h', toks := tk }) :
    wpAny (model P w) A (call (.type "set") [.ref l]) Q E s := by
  have isz : items.size = ns.length := by rw [← Array.length_toList]; exact IntsAre.length hints
  obtain ⟨c0, t0, mro0⟩ := F.called_set.mro
  have made0 := F.called_set.made; have sub0 := F.called_set.sub; have nt0 := F.called_set.notType; have cc0 := F.called_set.canCreate; have tc0 := F.typeCall_set_1 (.ref l)
  refine wpAny_call (hc := codeAny_of_tree ?_); show wpAny _ _ (callAny (.type "set") _) _ _ s
  refine wpAny_pure (And.intro (Code.quiet_builtin _ (by decide +kernel)) (codeAny_builtin F.entry_type_call ?_)); rw [Around.under_plain (weight_type_call_type "set" [.ref l] []) rfl]
  repeat (any_goals (first | assumption | wp_step))
  refine codeAny_mono (code_set_led1 (.ref l) (E := E) (Q₁ := fun obj u => obj = .ref s.heap.objs.size ∧ u = { s with heap := s.heap.push (freshSet w) }) (And.intro rfl rfl)) fun r u hr => ?_
  match r, hr with
  | .error e, hr => exact hr
  | .ok .next, hr => exact hr.elim
  | .ok .brk, hr => exact hr.elim
  | .ok .cont, hr => exact hr.elim
  | .ok (.ret obj), hr =>
    obtain ⟨e1, e2⟩ := hr
    subst e1 e2
    have got : (s.heap.push (freshSet w)).get? s.heap.objs.size = some (freshSet w) := Heap.get?_push_size _ rfl
    have isT : Shared.TypeIs { s with heap := s.heap.push (freshSet w) } (.ref s.heap.objs.size) "set" := ⟨_, got, rfl⟩
    have li0 := F.called_set.init.lookup; have bi0 := F.called_set.init.bind (.ref s.heap.objs.size)
    repeat (any_goals (first | assumption | wp_step))
    refine codeAny_mono (codeAny_call_builtin (R := wants (fun r u => r = Value.none ∧ ∃ h' tk c, u = { s with heap := h', toks := tk } ∧ SetR w h' s.heap.objs.size (fun j => decide (j ∈ ns)) c ∧ c ≤ ns.length ∧ ∀ b o, s.heap.get? b = some o → h'.get? b = some o) E) F.called_set.init.plain F.entry_set_init (check_set_init_1 isT ?_)) fun r u hr => ?_
    · obtain ⟨⟨kl, dc, dt, sl⟩, gl, ek, cap, ed⟩ := isl
      simp only at ek ed; subst ek ed
      have gl2 : (s.heap.push (freshSet w)).get? l = some { cls := .type "list", dict := dc, data := .seq items cap, slots := sl } := Heap.get?_push_of_some _ gl
      have sub1 := F.sub_list_set; have sub2 := F.sub_list_frozenset
      have nod : (Value.type "list" == Value.type "dict") = false := by decide
      have isl2 : (s.heap.push (freshSet w)).IsList l items := ⟨_, gl2, rfl, cap, rfl⟩
      unfold Builtin.«set.__init__» noKeywords Builtin.Frozenset.updateFrom; generalize eIt : pyIter = It0; wp_walk; subst eIt
      refine wpAny_pyIter_list isl2 (wpAny_bind (wpAny_runValue ?_))
      have lt1 : l < s.heap.objs.size := Heap.lt_size gl
      have sz1 : (s.heap.push (freshSet w)).objs.size = s.heap.objs.size + 1 := Heap.size_push _ _
      have calm3 : A.in1.in1.in1.handled = none := by simp [hh]
      have apart : s.heap.objs.size ∉ [(s.heap.push (freshSet w)).objs.size, l] := by
        intro z
        rw [sz1, List.mem_cons, List.mem_singleton] at z
        exact z.elim (Nat.ne_of_lt (Nat.lt_succ_self _)) (Nat.ne_of_gt lt1)
      refine set_update_ints ((Walks.list calm3 _ l (by rw [sz1]; exact Nat.ne_of_lt (Nat.lt_succ_of_lt lt1)) items).toS) s.heap.objs.size apart ns isz few (fun i v hv => ?_) (items.size - 0) 0 _ (by omega) (Nat.zero_le _) ⟨⟨_, Heap.get?_push_size _ rfl, rfl, rfl⟩, isl2.push _⟩ ⟨0, Nat.le_refl 0, setR_new_at (Heap.get?_push_of_some _ got)⟩ fun u c mv hc R => ?_
      · have hi : i < ns.length := isz ▸ (Array.getElem?_eq_some_iff.mp hv).1
        obtain ⟨tk, e⟩ := IntsAre.int_at hints i v (by rw [Array.getElem?_toList]; exact hv)
        exact ⟨ns[i], tk, List.getElem?_eq_getElem hi, by rw [e, List.getD_eq_getElem?_getD, List.getElem?_eq_getElem hi]; rfl⟩
      · obtain ⟨h', g2, d2, tk2, o2⟩ := u
        cases (show g2 = s.gens from mv.gens); cases (show d2 = s.drawn from mv.drawn); cases (show o2 = s.os from mv.os)
        show wpAny _ _ _ _ _ _; refine wpAny_pure ?_; show wpAny _ _ (ret Value.none) _ _ _
        refine wpAny_pure ⟨rfl, h', tk2, c, rfl, R, isz ▸ hc, fun b o e => ?_⟩
        have lb : b < s.heap.objs.size := Heap.lt_size e
        refine mv.heap b o (fun z => ?_) (Heap.get?_push_of_some _ (Heap.get?_push_of_some _ e))
        rw [sz1, List.mem_cons, List.mem_singleton] at z
        exact z.elim (Nat.ne_of_lt lb) (Nat.ne_of_lt (Nat.lt_succ_of_lt lb))
    · match r, hr with
      | .error e, hr => exact hr
      | .ok .next, hr => exact hr.elim
      | .ok .brk, hr => exact hr.elim
      | .ok .cont, hr => exact hr.elim
      | .ok (.ret v), hr =>
        obtain ⟨e1, h', tk, c, e2, R, hc, kp⟩ := hr
        subst e1 e2
        repeat (any_goals (first | assumption | wp_step))
        exact then_ _ _ _ R hc kp
end
/-- its members, rising -/
def tSortSet (K : PySem.W.Frag) (ta : TE) : TE := fun σ H Q => ta σ H fun x H1 => ∃ (l : Addr) (ns L : List Int), x = .ref l ∧ SqL K H1 l (ns.map V.int) ∧ ns.length ≤ 4000 ∧ L.length < 64 ∧ (∀ k ∈ ns, k ∈ L) ∧
  ∀ (us : List Int) (p : Addr), us.Pairwise (· < ·) → (∀ k : Int, k ∈ us ↔ k ∈ ns) → H1 p = none → Q (.ref p) (upd H1 p (.lst (us.map V.int)))
theorem peSortSet (K : PySem.W.Frag) {X : Cx} (hK : X.K = K) {a : Expr} {ta : TE} {p p2 q pos : Pos} (hg : Gl X "sorted") (hm : X.mg "sorted" = none) (hg2 : Gl X "set") (hm2 : X.mg "set" = none) (ha : PE X a ta) (hc : X.calm = true := by rfl)
    (na : starEach [a] X.env = (false, eval a X.env) :: starEach [] X.env := by rfl) : PE X (.Call (.Name "sorted" p) [.Call (.Name "set" p2) [a] [] q] [] pos) (tSortSet K ta) := by
  subst hK
  refine ⟨fun pins s σ H Q I h => ?_⟩
  refine Call_ (ld_blt I hg hm boot_sorted ?_)
  refine PyProof.Rows.callWith_builtin1 (PyProof.Rows.args_cons ?_ rfl) rfl rfl
  refine Call_ (ld_blt I hg2 hm2 boot_set ?_)
  refine PyProof.Rows.callWith_type1 (PyProof.Rows.args_cons (thn (ha.run pins s σ H _ I h) fun v s1 ⟨x, H1, I1, r1, q1⟩ => PyProof.Rows.args_nil ?_) na) na rfl
  obtain ⟨l, ns, L, rfl, hq, hl, hL, hsub, q1⟩ := q1
  cases r1
  obtain ⟨its, r, pl, hz⟩ := I1.list hq
  refine set_of_list ns (I1.ok.hd hc) pl.isList (by simpa using RZ.intsAre_vals r) (by unfold scanBound; omega) fun h' tk c R hc2 hk => ?_
  refine PyProof.Rows.args_nil ?_
  have I2 : Inv X pins σ H1 { s1 with heap := h', toks := tk } := I1.kept hk
  have hc3 : c < 64 := by
    obtain ⟨_, es, _, _, _, _, _, _, nd, hm, _, _, hn, _⟩ := R
    have : (es.toList.map keyOf).length ≤ L.length := nd.length_le_of_subset fun k hk => hsub k (of_decide_eq_true ((hm k).mpr hk))
    rw [List.length_map, Array.length_toList, hn] at this
    omega
  refine sorted_set R (I1.ok.hd hc) hc3 fun s' p out c3 us kp gg oo hp hg hi hs hm hl2 => ?_
  have fr : H1 p = none := I2.hok.fresh hp
  have hlen : (us.map V.int).length ≤ sizeLine := by rw [List.length_map, sizeLine_eq]; omega
  have J : Inv X pins σ (upd H1 p (.lst (us.map V.int))) { s1 with heap := s'.heap, gens := s'.gens, drawn := s'.drawn, toks := s'.toks } := Inv.call (s := { s1 with heap := h', toks := tk }) I2 (ch := []) (Un.laid kp hp fr) (I2.hok.laid kp hp ⟨hlen, out.toList, c3, vals_of_ints hi, hg⟩) (by rw [gg]; exact I2.bare) (fun _ z => nomatch z)
  have e : s' = { s1 with heap := s'.heap, gens := s'.gens, drawn := s'.drawn, toks := s'.toks } := by
    obtain ⟨a1, a2, a3, a4, a5⟩ := s'
    cases (show a5 = s1.os from oo)
    rfl
  rw [e]
  exact ⟨.ref p, _, J, rfl, q1 us p hs (fun k => (hm k).trans decide_eq_true_iff) fr⟩
end Px

set_option Elab.async false
set_option linter.all false
set_option maxRecDepth 100000
set_option maxHeartbeats 4000000
namespace Dv
open PySem PySem.Spec PyProof.Rows L2 Px
section
variable {K : PySem.W.Frag} {ta : TE} {da : Env → (T → Prop) → Prop} {al : TA} {dl : Env → (List T → Prop) → Prop}
theorem ints_dpAll {G : Hp} : ∀ {xs : List V} {ns : List Int}, DpAll K G xs (inD ns) → xs = ns.map V.int
  | [], [], _ => rfl
  | x :: xs, n :: ns, .cons a b => by rw [dp_int a, ints_dpAll b]; rfl
/-! ### sorted(set(xs)) -/
def dSortSet (da : Env → (T → Prop) → Prop) : Env → (T → Prop) → Prop := fun ρ Q => da ρ fun t => ∃ ns L : List Int, t.elL = some (inD ns) ∧ ns.length ≤ 4000 ∧ L.length < 64 ∧ (∀ k ∈ ns, k ∈ L) ∧ ∀ us : List Int, us.Pairwise (· < ·) → (∀ k : Int, k ∈ us ↔ k ∈ ns) → Q (.l (inD us))
theorem lp_sortSet (ha : LP K ta da) : LP K (tSortSet K ta) (dSortSet da) := fun x q p => ha x q fun t v G1 H1 ⟨ns, L, e, hl, hL, hs, qt⟩ r1 v1 f1 => by
  obtain ⟨a, xs, rfl, h1, h2⟩ := elL_of r1.s v1 e
  rw [ints_dpAll h2] at h1
  exact ⟨a, ns, L, rfl, h1, hl, hL, hs, fun us b hu hm hb => (p.next r1).lst r1.s (dpAll_of_ints us) (qt us hu hm) b hb⟩
theorem w_sortSet {ρ : Env} {Q : T → Prop} (q : da ρ fun t => ∃ ns L : List Int, t.elL = some (inD ns) ∧ ns.length ≤ 4000 ∧ L.length < 64 ∧ (∀ k ∈ ns, k ∈ L) ∧ ∀ us : List Int, us.Pairwise (· < ·) → (∀ k : Int, k ∈ us ↔ k ∈ ns) → Q (.l (inD us))) : dSortSet da ρ Q := q
/-! ### xs.index(k) -/
def dIndex (da : Env → (T → Prop) → Prop) (dl : Env → (List T → Prop) → Prop) : Env → (T → Prop) → Prop := fun ρ Q => da ρ fun t => ∃ ns : List Int, t.elL = some (inD ns) ∧ dl ρ fun ts => ∃ k : Int, ts = [.g (.int k)] ∧ k ∈ ns ∧ Q (.g (.int (ns.idxOf k : Nat)))
theorem idx_no {k : Int} : ∀ {ns : List Int} {m : Nat} {z : Int}, m < ns.idxOf k → ns[m]? = some z → z ≠ k
  | [], m, z, h, _ => by simp at h
  | x :: xs, m, z, h, e => by
    rw [List.idxOf_cons] at h
    by_cases c : x = k
    · subst c
      simp at h
    · have c2 : (x == k) = false := by simpa using c
      rw [c2] at h
      cases m with
      | zero =>
        cases (Option.some.inj e)
        exact c
      | succ m => exact idx_no (ns := xs) (m := m) (by simpa using h) (by simpa using e)
theorem idx_first {ns : List Int} {k : Int} (h : k ∈ ns) : ns[ns.idxOf k]? = some k ∧ ∀ (m : Nat) (z : Int), m < ns.idxOf k → ns[m]? = some z → z ≠ k := by
  have h1 := List.idxOf_lt_length_iff.mpr h
  exact ⟨by rw [List.getElem?_eq_getElem h1, List.getElem_idxOf], fun m z hm hz => idx_no hm hz⟩
theorem lp_index (ha : LP K ta da) (hl : LA K al dl) : LP K (tBM K "list" (L2.rIndex K) ta al) (dIndex da dl) := fun x q p => ha x q fun t v G1 H1 ⟨ns, e, qt⟩ r1 v1 f1 => by
  obtain ⟨a, xs, rfl, h1, h2⟩ := elL_of r1.s v1 e
  rw [ints_dpAll h2] at h1
  refine ⟨tyV_list h1, hl (x.mono r1) qt fun ts us G2 H2 ⟨k, e2, hk, qd⟩ r2 v2 => ?_⟩
  subst e2
  obtain ⟨w, rfl, b⟩ := vrA1 v2
  rw [dp_int b]
  obtain ⟨i1, i2⟩ := idx_first hk
  refine ⟨a, ns.map V.int, .int k, ns.idxOf k, .int k, rfl, rfl, r2.h.seq h1, rfl, by simp [List.all_map, flatV], by rw [List.getElem?_map, i1]; rfl, by simp [eqV], fun m z hm hz => ?_, (p.next (r1.trans r2)).scal r2.s (.int _) qd⟩
  rw [List.getElem?_map] at hz
  cases ez : ns[m]? with
  | none => rw [ez] at hz; cases hz
  | some y =>
    rw [ez] at hz
    cases hz
    have := i2 m y hm ez
    simp [eqV, this]
theorem w_index {ρ : Env} {Q : T → Prop} (q : da ρ fun t => ∃ ns : List Int, t.elL = some (inD ns) ∧ dl ρ fun ts => ∃ k : Int, ts = [.g (.int k)] ∧ k ∈ ns ∧ Q (.g (.int (ns.idxOf k : Nat)))) : dIndex da dl ρ Q := q
/-! ### [[] for k in xs] -/
def dLcE (di : Env → (Bool → List PyData → Prop) → Prop) : Env → (T → Prop) → Prop := fun ρ Q => di ρ fun _ items => items.length ≤ 1000000 ∧ Q (.ll (items.map fun _ => []))
theorem lp_lcE {wi : TI} {j : Nat} {vs : List Nat} {di : Env → (Bool → List PyData → Prop) → Prop} (hi : LI K wi di) (hj : vs.contains j = true) : LP K (tLc wi (gName j) tYes (tLst tNil) vs) (dLcE di) := fun {G0 H0 M ρ σ G H QD Q} x q p => hi x q fun st items J G1 H1 ⟨hlen, qf⟩ r1 _ ih => by
  have hj' : j ∈ vs := by simpa using hj
  obtain ⟨dss, hdss⟩ : ∃ dss : List (List PyData), dss = items.map fun _ => [] := ⟨_, rfl⟩
  rw [← hdss] at qf
  have hdl : items.length = dss.length := by rw [hdss, List.length_map]
  intro D hD
  refine ⟨fun i m H' => m = items.length - i ∧ i ≤ items.length ∧ ∃ G' as, Gr G1 H1 G' H' ∧ G' D = none ∧ H' D = some (.lst (as.map V.ref)) ∧ (D :: as).Nodup ∧ (∀ a ∈ as, H1 a = none) ∧ Rows K G' H' as (dss.take i), ⟨items.length, by simp, Nat.zero_le _, G1, [], .new r1.s hD, r1.s.free hD, upd_same, by simp, by simp, True.intro⟩, ?_⟩
  rintro i m H2 ⟨rfl, hile, G2, as, r2, gD, eD, nd, fr, rw2⟩
  by_cases hlt : i < items.length
  · obtain ⟨go, yl⟩ := (ih G2 H2 r2.g r2.h r2.s i).1 hlt
    refine .inr ⟨go, fun H' => i + 1 ≤ items.length ∧ ∃ G' as, Gr G1 H1 G' H' ∧ G' D = none ∧ H' D = some (.lst (as.map V.ref)) ∧ (D :: as).Nodup ∧ (∀ a ∈ as, H1 a = none) ∧ Rows K G' H' as (dss.take (i + 1)), fun H' ⟨a, b⟩ => ⟨items.length - (i + 1), by omega, rfl, a, b⟩, fun y H3 hy => ?_⟩
    obtain ⟨G3, d, r3, ed, dy⟩ := yl y H3 hy
    have r13 := r2.trans r3
    refine ⟨by rw [wipe_set hj', wipe_wipe], ?_⟩
    have eds : dss[i]? = some [] := by rw [hdss, List.getElem?_map, ed]; rfl
    refine ⟨r_small (by simp), fun l hl => ?_⟩
    have hD3 := r3.h _ _ eD
    have nDl : D ≠ l := ne_of_none hD3 hl
    have fl1 : H1 l = none := r13.h.free hl
    have nl : l ∉ as := fun m => by
      obtain ⟨k, hk⟩ := List.mem_iff_getElem?.mp m
      obtain ⟨_, vs', _, p1, _⟩ := (rows_at (rw2.mono r3)).2 k l hk
      rw [p1] at hl
      cases hl
    have g3l : G3 l = none := r3.s.free hl
    have gD3 : G3 D = none := r3.n D (nn_of eD) gD
    refine ⟨as.map V.ref, by rw [upd_ne nDl]; exact hD3, r_smalll ?_, hlt, G3, as ++ [l], ⟨r13.g, same_mut (same_mut r13.h fl1) hD, fun a u e => ?_, r13.n⟩, gD3, by rw [upd_same, List.map_append]; rfl, ?_, ?_, ?_⟩
    · have := (rows_at rw2).1
      rw [List.length_take] at this
      rw [List.length_map]
      omega
    · rw [upd_ne (ne_of_none e gD3), upd_ne (ne_of_none e g3l)]
      exact r13.s _ _ e
    · have nd0 := List.nodup_cons.mp nd
      rw [List.nodup_cons]
      refine ⟨fun m => ?_, ?_⟩
      · rcases List.mem_append.mp m with z | z
        · exact nd0.1 z
        · exact nDl (List.mem_singleton.mp z)
      · exact List.nodup_append.mpr ⟨nd0.2, List.nodup_cons.mpr ⟨by simp, by simp⟩, fun a ha c hc => by
          rw [List.mem_singleton.mp hc]
          exact fun z => nl (z ▸ ha)⟩
    · intro a ha
      rcases List.mem_append.mp ha with z | z
      · exact fr a z
      · rw [List.mem_singleton.mp z]
        exact fl1
    · rw [List.take_add_one, eds]
      refine rows_app ⟨[], by rw [upd_ne nDl.symm, upd_same], g3l, .nil⟩ ?_
      have nDas := (List.nodup_cons.mp nd).1
      have h1 := rw2.mono r3
      have : ∀ {bs : List Addr} {ess : List (List PyData)}, (∀ c ∈ bs, c ≠ l ∧ c ≠ D) → Rows K G3 H3 bs ess → Rows K G3 (upd (upd H3 l (.lst [])) D (.lst (as.map V.ref ++ [.ref l]))) bs ess := by
        intro bs
        induction bs with
        | nil => intro ess _ h; cases ess with
          | nil => exact True.intro
          | cons _ _ => exact h.elim
        | cons c cs ihc => intro ess hn h; cases ess with
          | nil => exact h.elim
          | cons e es =>
            obtain ⟨⟨us, p1, p2, p3⟩, q⟩ := h
            have hc := hn c (by simp)
            exact ⟨⟨us, by rw [upd_ne hc.2, upd_ne hc.1]; exact p1, p2, p3⟩, ihc (fun z hz => hn z (List.mem_cons_of_mem _ hz)) q⟩
      exact this (fun c hc => ⟨fun z => nl (z ▸ hc), fun z => nDas (z ▸ hc)⟩) h1
  · have e : i = items.length := by omega
    subst e
    refine .inl ⟨(ih G2 H2 r2.g r2.h r2.s _).2 (Nat.le_refl _), ?_⟩
    rw [hdl, List.take_length] at rw2
    refine p (.ll dss) _ G2 H2 qf (r1.trans r2) ⟨D, as, rfl, eD, gD, nd, rw2⟩ fun b fb => ?_
    obtain ⟨a1, as1, e1, e2, e3⟩ := fb
    cases e1
    rw [eD] at e2
    cases refs_inj (HO.lst.inj (Option.some.inj e2))
    rcases e3 with rfl | e3
    · exact r1.h.free hD
    · exact r1.h.free (fr b e3)
theorem w_lcE {ρ : Env} {Q : T → Prop} {di : Env → (Bool → List PyData → Prop) → Prop} (q : di ρ fun _ items => items.length ≤ 1000000 ∧ Q (.ll (items.map fun _ => []))) : dLcE di ρ Q := q
end
theorem opInD (K : PySem.W.Frag) {X : Cx} (hK : X.K = K) (hu : X.A.units + 65 < cLine) : OpR X (compareOp .In) (rInD K) := hK ▸ op_inD hu
theorem map_nil_ss : ∀ ss : List Str, (ssD ss).map (fun _ => ([] : List PyData)) = (List.replicate ss.length ([] : List Int)).map inD
  | [] => rfl
  | s :: ss => by
    show [] :: _ = [] :: _
    exact congrArg _ (map_nil_ss ss)
/-! ### k in xs, ints -/
theorem any_inD (ns : List Int) (k : Int) : (inD ns).any (fun z => PyData.eqv z (.int k)) = decide (k ∈ ns) := by
  induction ns with
  | nil => simp [inD]
  | cons n ns ih =>
    show (PyData.eqv (.int n) (.int k) || (inD ns).any _) = _
    rw [ih]
    by_cases h : n = k
    · subst h
      simp [PyData.eqv]
    · have : ¬ k = n := fun z => h z.symm
      simp [PyData.eqv, h, this]
theorem w_neIn {t u : T} {ns ms : List Int} {Q : T → Prop} (h1 : t.rd = .list (inD ns)) (h2 : u.rd = .list (inD ms)) (q : Q (.g (.bool (!decide (ns = ms))))) : dNeD t u Q := ⟨by rw [h1]; exact shaped_inD ns, by rw [h2]; exact shaped_inD ms, by rw [h1, h2, eqv_inD]; exact q⟩
theorem w_notInI {t u : T} {ns : List Int} {k : Int} {Q : T → Prop} (h1 : t.rd = .int k) (h2 : u.rd = .list (inD ns)) (q : Q (.g (.bool (!decide (k ∈ ns))))) : dNotInD t u Q := ⟨inD ns, h2, by rw [h1]; rfl, by rw [h2]; exact shaped_inD ns, by rw [h1, any_inD]; exact q⟩
theorem w_inI {t u : T} {ns : List Int} {k : Int} {Q : T → Prop} (h1 : t.rd = .int k) (h2 : u.rd = .list (inD ns)) (q : Q (.g (.bool (decide (k ∈ ns))))) : dInD t u Q := ⟨inD ns, h2, by rw [h1]; rfl, by rw [h2]; exact shaped_inD ns, by rw [h1, any_inD]; exact q⟩
end Dv

set_option Elab.async false
set_option linter.all false
set_option maxRecDepth 100000
set_option maxHeartbeats 4000000
namespace Dv
open PySem PySem.Spec PyProof.Rows L2 Px
/-! ### standings compared -/
theorem hsD_inj : ∀ {xs ys : List (List Int)}, hsD xs = hsD ys → xs = ys
  | [], [], _ => rfl
  | x :: xs, y :: ys, h => by
    have h1 := (List.cons.inj h).1
    have h2 := (List.cons.inj h).2
    rw [inD_inj (PyData.tuple.inj h1), hsD_inj h2]
  | [], _ :: _, h => nomatch h
  | _ :: _, [], h => nomatch h
theorem stD_inj {s t : MS} (h : stD s.1 s.2.1 s.2.2 = stD t.1 t.2.1 t.2.2) : s = t := by
  unfold stD at h
  have h := PyData.tuple.inj h
  have h1 := (List.cons.inj h).1
  have h2 := (List.cons.inj (List.cons.inj h).2).1
  have h3 := (List.cons.inj (List.cons.inj (List.cons.inj h).2).2).1
  obtain ⟨a, b, c⟩ := s
  obtain ⟨d, e, f⟩ := t
  simp only at h1 h2 h3
  rw [PyData.int.inj h1, hsD_inj (PyData.tuple.inj h2), PyData.int.inj h3]
theorem clean_ms (s : Option MS) : clean (msD s) = true := by
  cases s with
  | none => rfl
  | some s => exact clean_st _ _ _
theorem shaped_ms (s : Option MS) : SeqAt.shaped (msD s) = true := by
  cases s with
  | none => rfl
  | some s => exact shaped_clean (clean_st _ _ _) (Nat.le_of_lt_succ (Nat.lt_of_le_of_lt (depth_st _ _ _) (by decide)))
theorem eqv_ms (s : Option MS) (t : MS) : PyData.eqv (msD s) (stD t.1 t.2.1 t.2.2) = decide (s = some t) := by
  by_cases h : s = some t
  · subst h
    rw [decide_eq_true rfl]
    exact eqv_same (clean_st _ _ _)
  · rw [decide_eq_false h]
    cases e : PyData.eqv (msD s) (stD t.1 t.2.1 t.2.2) with
    | false => rfl
    | true =>
      exfalso
      have := (eqv_clean (clean_ms s) (clean_st _ _ _)).mp e
      cases s with
      | none => exact PyData.noConfusion this
      | some s => exact h (congrArg some (stD_inj this))
theorem w_eqMs {t u : T} {s : Option MS} {r : MS} {Q : T → Prop} (h1 : t.rd = msD s) (h2 : u.rd = stD r.1 r.2.1 r.2.2) (q : Q (.g (.bool (decide (s = some r))))) : dEqD t u Q := by
  refine ⟨by rw [h1]; exact shaped_ms s, by rw [h2]; exact shaped_ms (some r), ?_⟩
  rw [h1, h2, eqv_ms]
  exact q
/-! ### walks, move by move -/
theorem rRun_next {ss : List Str} {ws : List (Int × Int)} {od : List Int} {ms : List (Int × Int)} {i : Nat} {m : Int × Int} (s : MS) (h : ms[i]? = some m) :
    rRun ss ws od (ms.take (i + 1)) s = (rRun ss ws od (ms.take i) s).bind fun t => if m ∈ ws then rStp ss od t m else none := by
  rw [List.take_add_one, h, rRun_app]
  congr 1
  funext t
  show (if m ∈ ws then (rStp ss od t m).bind (rRun ss ws od []) else none) = _
  split
  · cases rStp ss od t m <;> rfl
  · rfl
theorem rRun_stuck {ss : List Str} {ws : List (Int × Int)} {od : List Int} {ms : List (Int × Int)} {i : Nat} {s : MS} (h : rRun ss ws od (ms.take i) s = none) : rRun ss ws od ms s = none := by
  have e : rRun ss ws od (ms.take i ++ ms.drop i) s = none := by rw [rRun_app, h]; rfl
  rwa [List.take_append_drop] at e
def SmallS (m n : Nat) (s : MS) : Prop := 0 ≤ s.1 ∧ s.2.1.length = m ∧ ∀ h ∈ s.2.1, h.length ≤ n
theorem small_next {ss : List Str} {od : List Int} {n : Nat} {s t : MS} {m : Int × Int} (h : SmallS ss.length n s) (e : rStp ss od s m = some t) : SmallS ss.length (n + 1) t := by
  unfold rStp at e
  split at e
  · cases e2 : numLeave ss od s.1 s.2.1 m.1 with
    | none => rw [e2] at e; cases e
    | some x =>
      rw [e2] at e
      cases e
      obtain ⟨h1, h2, h3⟩ := h
      refine ⟨?_, ?_, held2_small (held1_small h3)⟩
      · show (0 : Int) ≤ if m.1 = -1 then s.1 + 1 else s.1
        split <;> omega
      · show (held2 (held1 ss s.2.1 m.1) m.2 x).length = ss.length
        rw [held2_len, held1_len]
        exact h2
  · cases e
theorem small_first (ss : List Str) : SmallS ss.length 0 (first0 ss) := ⟨Int.le_refl 0, by simp [first0], fun h hh => by rw [List.eq_of_mem_replicate hh]; simp⟩
theorem rStp_of {ss : List Str} {od : List Int} {s : MS} {m : Int × Int} (h : mayB ss od s.1 s.2.1 s.2.2 m = true) : ∃ n, numLeave ss od s.1 s.2.1 m.1 = some n ∧ rStp ss od s m = some (nextS ss s m n) ∧ mvD ss s.1 s.2.1 s.2.2 m n = msD (some (nextS ss s m n)) := by
  obtain ⟨n, hn, _⟩ := mayB_num h
  refine ⟨n, hn, ?_, rfl⟩
  unfold rStp
  rw [if_pos h, hn]
  rfl
/-! ### parts of lists of ways -/
theorem cutD_ws (ms : List (Int × Int)) (lo hi : Option Int) : ∃ us : List (Int × Int), cutD (wsD ms) lo hi = wsD us ∧ us.length ≤ ms.length := by
  unfold cutD wsD
  refine ⟨(ms.drop (HT.sIx (ms.map wyD).length 0 lo)).take (HT.sIx (ms.map wyD).length (ms.map wyD).length hi - HT.sIx (ms.map wyD).length 0 lo), ?_, ?_⟩
  · rw [List.map_take, List.map_drop]
  · rw [List.length_take, List.length_drop]
    omega
/-! ### xs + ys, any lists -/
def rCatQ (K : PySem.W.Frag) : R2 := fun x y H Q => ∃ l b xs zs, x = .ref l ∧ y = .ref b ∧ SqL K H l xs ∧ SqL K H b zs ∧ xs.length + zs.length ≤ sizeLine ∧ ∀ p, H p = none → Q (.ref p) (upd H p (.lst (xs ++ zs)))
theorem op_catQ {X : Cx} : OpR X (binaryOp .Add) (rCatQ X.K) := by
  intro pins s σ H x y v u Q I rx ry h
  obtain ⟨a, b, xs, ys, rfl, rfl, ha, hb, hz, q⟩ := h
  cases rx
  cases ry
  obtain ⟨its, r1, p1, _⟩ := I.list ha
  obtain ⟨its2, r2, p2, _⟩ := I.list hb
  obtain ⟨⟨cls, dd, data, sl⟩, ho, hc, n, hd⟩ := p1.isList
  obtain ⟨⟨cls2, dd2, data2, sl2⟩, ho2, hc2, n2, hd2⟩ := p2.isList
  simp only at hc hd hc2 hd2
  subst hc hd hc2 hd2
  have l1 := r1.length
  have l2 := r2.length
  refine concat_meets ⟨_, ho, rfl⟩ ⟨_, ho2, rfl⟩ noFill_list_add seq_list_add PySem.F.slot_list_add PySem.F.entry_list_add (PySem.F.args_list_add_2 _ _)
    (list_addW a b its.toArray its2.toArray n n2 dd dd2 sl sl2 (by rw [List.size_toArray, List.size_toArray]; omega)) ⟨ho, ho2, ?_⟩
  refine ⟨.ref s.heap.objs.size, _, I.laid (t' := s.toks) (o := .lst (xs ++ ys)) (fun b ob q => Heap.get?_push_of_some _ q) (Nat.le_refl _) ?_, rfl, q _ (I.hok.fresh (Nat.le_refl _))⟩
  refine ⟨by rw [List.length_append]; exact hz, its ++ its2, 0, r1.append r2, ?_⟩
  rw [show its.toArray ++ its2.toArray = (its ++ its2).toArray by simp]
  exact Heap.get?_push_size _ rfl
theorem opCatQ (K : PySem.W.Frag) {X : Cx} (hK : X.K = K) : OpR X (binaryOp .Add) (rCatQ K) := hK ▸ op_catQ
/-! ### xs[k], xs[l] = a, b -/
section
variable {K : PySem.W.Frag} {ta tb tk tl : TE} {da db dk dl : Env → (T → Prop) → Prop}
def dCatQ : DR := fun t u Q => ∃ ds es, t.elL = some ds ∧ u.elL = some es ∧ ds.length + es.length ≤ 16777216 ∧ Q (.l (ds ++ es))
theorem or_catQ : OR K (rCatQ K) dCatQ := fun s a b ⟨ds, es, e1, e2, z, q⟩ p => by
  obtain ⟨l, xs, rfl, h1, h2⟩ := elL_of s a e1
  obtain ⟨m, ys, rfl, h3, h4⟩ := elL_of s b e2
  exact ⟨l, m, xs, ys, rfl, rfl, h1, h3, r_small (by rw [dpAll_len h2, dpAll_len h4]; exact z), p.lst s (dpAll_app h2 h4) q⟩
theorem w_catQ {t u : T} {ds es : List PyData} {Q : T → Prop} (h1 : t.elL = some ds) (h2 : u.elL = some es) (z : ds.length + es.length ≤ 16777216) (q : Q (.l (ds ++ es))) : dCatQ t u Q := ⟨ds, es, h1, h2, z, q⟩
def dSwap (i : Nat) (dk dl da db : Env → (T → Prop) → Prop) : DS := fun DD ρ => IsMine i ρ ∧ da ρ fun t => db ρ fun t2 => dk ρ fun u => ∃ w ds k j x y, ρ[i]? = some (some w) ∧ w.mine = some ds ∧ u.rd = .int k ∧ ixN ds.length k = some j ∧ t.fz = .g x ∧ t2.fz = .g y ∧
  dl (ρ.set i (some (w.with (ds.set j x)))) fun u2 => ∃ w2 ds2 k2 j2, (ρ.set i (some (w.with (ds.set j x))))[i]? = some (some w2) ∧ w2.mine = some ds2 ∧ u2.rd = .int k2 ∧ ixN ds2.length k2 = some j2 ∧ DD.nx ((ρ.set i (some (w.with (ds.set j x)))).set i (some (w2.with (ds2.set j2 y))))
theorem ls_swap {i n : Nat} (ha : LP K ta da) (hb : LP K tb db) (hk : LP K tk dk) (hl : LP K tl dl) (hn : n = 2) : LS K (tAsg (tTup (tCons ta (tCons tb tNil))) (gTup K n (gCons (gSub (tVar i) tk rSetL) (gCons (gSub (tVar i) tl rSetL) gNil)))) (dSwap i dk dl da db) := fun {G0 H0 M DD D ρ σ G H} E x ⟨⟨t0, ds0, e0, m0⟩, q⟩ => ha x q fun t v G1 H1 qt r1 v1 f1 => by
  obtain ⟨G2, r2, g2, v2⟩ := fz_post r1 v1 f1
  refine hb (x.mono r2) qt fun t2 v' G3 H3 qt2 r3 v3 f3 => ?_
  obtain ⟨G4, r4, g4, v4⟩ := fz_post r3 v3 f3
  refine ⟨r_small (by simp), fun p hp => ?_⟩
  have r5 : Gr G4 H3 G4 (upd H3 p (.tup [v, v'])) := .new r4.s hp
  have r6 := (r2.trans r4).trans r5
  obtain ⟨a, vs, f, h1, _⟩ := mine_at (G1 := G) (H1 := H) x e0 m0
  refine ⟨p, [v, v'], rfl, tup_of upd_same, hn.symm, v, [v'], rfl, _, f, hk (x.mono r6) qt2 fun u w G6 H6 ⟨w', ds, k, j, y, z, e, m, e1, e2, e3, e4, qk⟩ r7 v7 _ => ?_⟩
  have x7 := (x.mono r6).mono r7
  obtain ⟨a', us, ea, h2, h3⟩ := slot_ref x7 e m f
  cases ea
  rw [e3] at v2
  rw [e4] at v4
  have dy : Dp K G6 v y := dp_same ((r4.trans r5).trans r7).g v2
  have dz : Dp K G6 v' z := dp_same (r5.trans r7).g v4
  refine ⟨a, us, k, j, rfl, vr_int r7.s v7 e1, h2, by rw [dpAll_len h3]; exact e2, v', [], rfl, _, f, ?_⟩
  have x8 := x7.mut e f m (dpAll_set dy j h3)
  refine hl x8 qk fun u2 w2 G9 H9 ⟨w3, ds3, k3, j3, e5, m5, e6, e7, qn⟩ r9 v9 _ => ?_
  have x9 := x8.mono r9
  obtain ⟨a', us3, ea, h4, h5⟩ := slot_ref x9 e5 m5 f
  cases ea
  exact ⟨a, us3, k3, j3, rfl, vr_int r9.s v9 e6, h4, by rw [dpAll_len h5]; exact e7, rfl, E.nx _ _ _ _ (x9.mut e5 f m5 (dpAll_set (dp_same r9.g dz) j3 h5)) qn⟩
theorem w_swap {ρ : Env} {i : Nat} {ds : List PyData} {DD : DE} (h : ρ[i]? = some (some (.l ds))) (q : da ρ fun t => db ρ fun t2 => dk ρ fun u => ∃ w ds k j x y, ρ[i]? = some (some w) ∧ w.mine = some ds ∧ u.rd = .int k ∧ ixN ds.length k = some j ∧ t.fz = .g x ∧ t2.fz = .g y ∧
  dl (ρ.set i (some (w.with (ds.set j x)))) fun u2 => ∃ w2 ds2 k2 j2, (ρ.set i (some (w.with (ds.set j x))))[i]? = some (some w2) ∧ w2.mine = some ds2 ∧ u2.rd = .int k2 ∧ ixN ds2.length k2 = some j2 ∧ DD.nx ((ρ.set i (some (w.with (ds.set j x)))).set i (some (w2.with (ds2.set j2 y))))) : dSwap i dk dl da db DD ρ := ⟨⟨_, _, h, rfl⟩, q⟩
end
theorem w_eqWs {t u : T} {ws : List (Int × Int)} {Q : T → Prop} (h1 : t.rd = .list (wsD ws)) (h2 : u.rd = .list []) (q : Q (.g (.bool (decide (ws = []))))) : dEqD t u Q := by
  refine ⟨by rw [h1]; exact shaped_wsD ws, by rw [h2]; rfl, ?_⟩
  rw [h1, h2]
  have e : PyData.eqv (.list (wsD ws)) (.list []) = decide (ws = []) := by
    cases ws with
    | nil => rfl
    | cons w ws => simp [wsD, PyData.eqv, PyData.eqvAll]
  rw [e]
  exact q
theorem set_ws (ms : List (Int × Int)) (j : Nat) (x : Int × Int) : (wsD ms).set j (wyD x) = wsD (ms.set j x) := by
  unfold wsD
  rw [List.map_set]
theorem ws_at {ms : List (Int × Int)} {k : Int} (h0 : 0 ≤ k) (h1 : k < (ms.length : Nat)) : ∃ x, atI (wsD ms) k = some (wyD x) ∧ x ∈ ms := by
  obtain ⟨x, h2, h3⟩ := atI_ok (xs := ms) h0 h1
  exact ⟨x, atI_of h0 (by unfold wsD; rw [List.getElem?_map, h3]; rfl), List.mem_of_getElem? h3⟩
theorem ixN_ok {n : Nat} {k : Int} (h0 : 0 ≤ k) (h1 : k < n) : ixN n k = some k.toNat := by
  unfold ixN
  rw [if_pos h0, if_pos (by omega)]
end Dv

set_option Elab.async false
set_option linter.all false
set_option maxRecDepth 100000
set_option maxHeartbeats 4000000
namespace Dv
open PySem PySem.Spec PyProof.Rows L2 Px
/-! ### x is True, x is not True -/
def rIsBl : R2 := fun x y H Q => ∃ a b, x = .bl a ∧ y = .bl b ∧ Q (.bl (decide (a = b))) H
def rNotBl : R2 := fun x y H Q => ∃ a b, x = .bl a ∧ y = .bl b ∧ Q (.bl (!decide (a = b))) H
theorem opIsBl {X : Cx} : OpR X (compareOp .Is) rIsBl := op_is_bl
theorem opNotBl {X : Cx} : OpR X (compareOp .IsNot) rNotBl := op_isnot_bl
section
variable {K : PySem.W.Frag} {ta : TE} {da : Env → (T → Prop) → Prop}
def dIsBl : DR := fun t u Q => ∃ a b, t.rd = .bool a ∧ u.rd = .bool b ∧ Q (.g (.bool (decide (a = b))))
def dNotBl : DR := fun t u Q => ∃ a b, t.rd = .bool a ∧ u.rd = .bool b ∧ Q (.g (.bool (!decide (a = b))))
theorem or_isBl : OR K rIsBl dIsBl := fun s a b ⟨i, j, e1, e2, q⟩ p => ⟨i, j, vr_bl s a e1, vr_bl s b e2, p.scal s (.bl _) q⟩
theorem or_notBl : OR K rNotBl dNotBl := fun s a b ⟨i, j, e1, e2, q⟩ p => ⟨i, j, vr_bl s a e1, vr_bl s b e2, p.scal s (.bl _) q⟩
theorem w_isBl {t u : T} {a b : Bool} {Q : T → Prop} (h1 : t.rd = .bool a) (h2 : u.rd = .bool b) (q : Q (.g (.bool (decide (a = b))))) : dIsBl t u Q := ⟨a, b, h1, h2, q⟩
theorem w_notBl {t u : T} {a b : Bool} {Q : T → Prop} (h1 : t.rd = .bool a) (h2 : u.rd = .bool b) (q : Q (.g (.bool (!decide (a = b))))) : dNotBl t u Q := ⟨a, b, h1, h2, q⟩
/-! ### xs[::-1] -/
theorem dpAll_rev {G : Hp} : ∀ {xs : List V} {ds : List PyData}, DpAll K G xs ds → DpAll K G xs.reverse ds.reverse
  | [], [], _ => .nil
  | x :: xs, d :: ds, .cons a b => by
    rw [List.reverse_cons, List.reverse_cons]
    exact dpAll_app (dpAll_rev b) (.cons a .nil)
def dRevL (da : Env → (T → Prop) → Prop) : Env → (T → Prop) → Prop := fun ρ Q => da ρ fun t => ∃ ds, t.elL = some ds ∧ Q (.l ds.reverse)
theorem lp_revL (ha : LP K ta da) : LP K (tRevL K ta) (dRevL da) := fun x q p => ha x q fun t v G1 H1 ⟨ds, e, qt⟩ r1 v1 f1 => by
  obtain ⟨a, xs, rfl, h1, h2⟩ := elL_of r1.s v1 e
  exact ⟨a, xs, rfl, h1, (p.next r1).lst r1.s (dpAll_rev h2) qt⟩
theorem w_revL {ρ : Env} {Q : T → Prop} (q : da ρ fun t => ∃ ds, t.elL = some ds ∧ Q (.l ds.reverse)) : dRevL da ρ Q := q
end
theorem rev_ws (ms : List (Int × Int)) : (wsD ms).reverse = wsD ms.reverse := by
  unfold wsD
  rw [List.map_reverse]
/-- lists of moves -/
def dsD (us : List (List (Int × Int))) : List PyData := us.map fun u => .list (wsD u)
theorem dsD_len (us : List (List (Int × Int))) : (dsD us).length = us.length := by simp [dsD]
theorem dsD_snoc (us : List (List (Int × Int))) (u : List (Int × Int)) : dsD us ++ [.list (wsD u)] = dsD (us ++ [u]) := by simp [dsD]
theorem dsD_get {us : List (List (Int × Int))} {i : Nat} {x : PyData} (h : (dsD us)[i]? = some x) : ∃ u, us[i]? = some u ∧ x = .list (wsD u) := by
  unfold dsD at h
  rw [List.getElem?_map] at h
  cases e : us[i]? with
  | none => rw [e] at h; cases h
  | some w => rw [e] at h; exact ⟨w, rfl, (Option.some.inj h).symm⟩
theorem ints_at {ns : List Int} {k : Int} (h0 : 0 ≤ k) (h1 : k < (ns.length : Nat)) : atI (inD ns) k = some (.int (ns.getD k.toNat 0)) := inD_atI h0 h1
end Dv

set_option Elab.async false
set_option linter.all false
set_option maxRecDepth 100000
set_option maxHeartbeats 4000000
namespace Px
open PySem PySem.Spec PyProof.Rows L2
theorem met_full (val : Nat → Int) : ∀ i, (firstMet val i).length = i → ((List.range i).map val).Nodup
  | 0, _ => by simp
  | i + 1, h => by
    rw [firstMet_succ] at h
    have hle := firstMet_length_le val i
    unfold step_dedup at h
    by_cases c : (firstMet val i).any (· == val i) = true
    · rw [if_pos c] at h
      omega
    · rw [if_neg c, List.length_append, List.length_singleton] at h
      have ih := met_full val i (by omega)
      rw [List.range_succ, List.map_append, List.nodup_append]
      refine ⟨ih, by simp, fun a ha b hb e => ?_⟩
      rw [List.map_singleton, List.mem_singleton] at hb
      rw [firstMet_any] at c
      apply c
      rw [List.any_eq_true]
      exact ⟨a, ha, by rw [e, hb]; simp⟩
theorem distinct_full {ns : List Int} (h : (distinct ns).length = ns.length) : ns.Nodup := by
  have q := met_full (fun i => ns.getD i 0) ns.length h
  have e : (List.range ns.length).map (fun i => ns.getD i 0) = ns := by
    refine List.ext_getElem (by simp) fun i h1 h2 => ?_
    rw [List.getElem_map, List.getElem_range, List.getD_eq_getElem?_getD, List.getElem?_eq_getElem h2]
    rfl
  rwa [e] at q
theorem r_neInts2 {K : PySem.W.Frag} {H : Hp} {Q : VK} {a b : Addr} {ns ms : List Int} (h : SqL K H a (intL ns)) (h' : SqL K H b (intL ms)) (q : Q (.bl (!decide (ns = ms))) H) : rNeD K (.ref a) (.ref b) H Q := by
  refine ⟨_, _, dp_ints h, dp_ints h', shaped_ints ns, shaped_ints ms, ?_⟩
  have e := Dv.eqv_inD (ns := ns) (ms := ms)
  rw [show PyData.eqv (.list (ns.map PyData.int)) (.list (ms.map PyData.int)) = decide (ns = ms) from e]
  exact q
end Px
namespace Dv
open PySem PySem.Spec PyProof.Rows L2 Px
section
variable {K : PySem.W.Frag} {ta tb : TE} {da db : Env → (T → Env → Prop) → Prop}
/-- xs.insert(e, f), both such readings -/
def sIns2 (i : Nat) (da db : Env → (T → Env → Prop) → Prop) : DS := fun DD ρ => IsMine i ρ ∧ da ρ fun t ρ0 => ∃ k, t.rd = .int k ∧ db ρ0 fun t2 ρ1 => ∃ y u es, t2.fz = .g y ∧ ρ1[i]? = some (some u) ∧ u.mine = some es ∧ es.length < 16777216 ∧ 0 ≤ k ∧ k < 2 ^ 63 ∧ DD.nx (ρ1.set i (some (u.with (es.take k.toNat ++ [y] ++ es.drop k.toNat))))
theorem lsm_ins2 {i : Nat} (ha : LM K ta da) (hb : LM K tb db) : LS K (tDrop (tBM K "list" (fun x vs H Q => ∃ (l : Addr) (xs : List V) (i : Int) (y : V), x = .ref l ∧ vs = [.int i, y] ∧ H l = some (.lst xs) ∧ xs.length < sizeLine ∧ 0 ≤ i ∧ i < 2 ^ 63 ∧
    Q .non (upd H l (.lst (xs.take i.toNat ++ [y] ++ xs.drop i.toNat)))) (tVar i) (tCons ta (tCons tb tNil)))) (sIns2 i da db) := fun {G0 H0 M DD D ρ σ G H} E x ⟨⟨t0, ds0, e0, m0⟩, q⟩ => by
  obtain ⟨a, vs, f, h1, _⟩ := mine_at (G1 := G) (H1 := H) x e0 m0
  refine ⟨_, f, tyV_list (seq_of h1), ha x q fun t v ρ0 G1 H1 ⟨k, e1, qt⟩ g1 x1 s1 n1 v1 f1 => ?_⟩
  have ev := vr_int x1.gh v1 e1
  subst ev
  refine hb x1 qt fun t2 v2 ρ1 G2 H2 ⟨y, u, es, ey, e, m, z, b1, b2, q⟩ g2 x2 s2 n2 w2 f2 => ?_
  obtain ⟨G3, g3, x3, w3, n3⟩ := fz_after x1 x2 s2 n2 w2 f2
  rw [ey] at w3
  obtain ⟨a', ws, ea, h2, h3⟩ := slot_ref x3 e m f
  cases ea
  exact ⟨a, ws, k, v2, rfl, rfl, h2, r_smalll (by rw [dpAll_len h3]; exact z), b1, b2, E.nx _ _ _ _ (x3.mut e f m (dpAll_app (dpAll_app (dpAll_take _ h3) (.cons w3 .nil)) (dpAll_drop _ h3))) q⟩
theorem w_sIns2 {ρ : Env} {i : Nat} {ds : List PyData} {n b ct : Env → Prop} {rt : T → Env → Prop} (h : ρ[i]? = some (some (.l ds))) (q : da ρ fun t ρ0 => ∃ k, t.rd = .int k ∧ db ρ0 fun t2 ρ1 => SIN i n ρ1 (.g (.int k)) t2) : sIns2 i da db ⟨n, rt, b, ct, ex⟩ ρ := by
  refine ⟨⟨_, _, h, rfl⟩, ?_⟩
  have e : (fun t2 ρ1 => SIN i n ρ1 (.g (.int 0)) t2) = (fun t2 ρ1 => SIN i n ρ1 (.g (.int 0)) t2) := rfl
  refine cast ?_ q
  congr 1
  funext t ρ0
  refine congrArg _ (funext fun k => ?_)
  refine congrArg _ ?_
  congr 1
  funext t2 ρ1
  refine propext ⟨fun ⟨k', y, u, es, h1, h2, h3, h4, h5, h6, h7, h8⟩ => ?_, fun ⟨y, u, es, h2, h3, h4, h5, h6, h7, h8⟩ => ⟨k, y, u, es, rfl, h2, h3, h4, h5, h6, h7, h8⟩⟩
  cases (PyData.int.inj h1)
  exact ⟨y, u, es, h2, h3, h4, h5, h6, h7, h8⟩
end
end Dv

set_option Elab.async false
set_option linter.all false
set_option maxRecDepth 100000
set_option maxHeartbeats 4000000
namespace Dv
open PySem PySem.Spec PyProof.Rows L2 Px
section
variable {K : PySem.W.Frag} {ta : TE} {da : Env → (T → Env → Prop) → Prop}
/-- e[lo:hi], e such a reading -/
def mSl (dr : DS3) (da : Env → (T → Env → Prop) → Prop) (dlo dhi : Env → (Option Int → Prop) → Prop) : Env → (T → Env → Prop) → Prop := fun ρ Q => da ρ fun t ρ1 => ∃ y, t.fz = .g y ∧ dlo ρ1 fun lo => dhi ρ1 fun hi => dr (.g y) lo hi fun z => Q z ρ1
theorem lm_sl {r : V → Option Int → Option Int → Hp → VK → Prop} {dr : DS3} {tlo thi : TO} {dlo dhi : Env → (Option Int → Prop) → Prop} (ha : LM K ta da) (h1 : LO K tlo dlo) (h2 : LO K thi dhi) (hr : OS K r dr) : LM K (tSl r ta tlo thi) (mSl dr da dlo dhi) := fun {G0 H0 M ρ σ G H QD Q} x q p =>
  ha x q fun t v ρ1 G1 H1 ⟨y, ey, qt⟩ g1 x1 s1 n1 v1 f1 => by
    obtain ⟨G2, g2, x2, v2, n2⟩ := fz_after x x1 s1 n1 v1 f1
    rw [ey] at v2
    have p2 := p.next (g1.trans g2) s1 n2
    exact h1 x2 qt fun lo G3 H3 ql r3 => h2 (x2.mono r3) ql fun hi G4 H4 qh r4 => hr r4.s (show Vr K G4 H4 (.g y) v from dp_same (r3.trans r4).g v2) qh fun z z' G5 H5 qz r5 v5 f5 =>
      p2 z z' ρ1 G5 H5 qz ((r3.trans r4).trans r5).g (x2.mono ((r3.trans r4).trans r5)) (sub_gr x2 ((r3.trans r4).trans r5)) (fr_gr ((r3.trans r4).trans r5)) v5 fun b fb => (r3.trans r4).h.free (f5 b fb)
theorem w_mSl {ρ : Env} {Q : T → Env → Prop} {dr : DS3} {dlo dhi : Env → (Option Int → Prop) → Prop} (q : da ρ fun t ρ1 => ∃ y, t.fz = .g y ∧ dlo ρ1 fun lo => dhi ρ1 fun hi => dr (.g y) lo hi fun z => Q z ρ1) : mSl dr da dlo dhi ρ Q := q
end
section
variable {K : PySem.W.Frag} {tb : TE} {db : Env → (T → Env → Prop) → Prop}
/-- xs[e], xs one's own, e such a reading -/
def mIxV (i : Nat) (db : Env → (T → Env → Prop) → Prop) : Env → (T → Env → Prop) → Prop := fun ρ Q => IsMine i ρ ∧ db ρ fun u ρ1 => ∃ t ds k y, ρ1[i]? = some (some t) ∧ t.mine = some ds ∧ u.rd = .int k ∧ atI ds k = some y ∧ Q (.g y) ρ1
theorem lm_ixV {i : Nat} (hb : LM K tb db) : LM K (tOp (rIxL K) (tVar i) tb) (mIxV i db) := fun {G0 H0 M ρ σ G H QD Q} x ⟨⟨t0, ds0, e0, m0⟩, q⟩ p => by
  obtain ⟨a, vs, f, h1, _⟩ := mine_at (G1 := G) (H1 := H) x e0 m0
  refine ⟨_, f, hb x q fun u w ρ1 G1 H1 ⟨t, ds, k, y, e, m, ek, ey, qt⟩ g1 x1 s1 n1 v1 f1 => ?_⟩
  obtain ⟨a', ws, ea, h2, h3⟩ := slot_ref x1 e m f
  cases ea
  obtain ⟨z, z1, z2⟩ := dpAll_at h3 ey
  exact ⟨a, ws, k, z, rfl, vr_int x1.gh v1 ek, seq_of h2, z1, p (.g y) z ρ1 G1 H1 qt g1 x1 s1 n1 z2 fun _ f => f.elim⟩
theorem w_ixV {ρ : Env} {i : Nat} {ds : List PyData} {Q : T → Env → Prop} (h : ρ[i]? = some (some (.l ds))) (q : db ρ fun u ρ1 => ∃ t ds k y, ρ1[i]? = some (some t) ∧ t.mine = some ds ∧ u.rd = .int k ∧ atI ds k = some y ∧ Q (.g y) ρ1) : mIxV i db ρ Q := ⟨⟨_, _, h, rfl⟩, q⟩
end
/-! ### parts of lists of ints, just so -/
theorem cut_upto (ns : List Int) {k : Int} (h0 : 0 ≤ k) : cutD (inD ns) none (some k) = inD (ns.take k.toNat) := by
  obtain ⟨n, rfl⟩ := Int.eq_ofNat_of_zero_le h0
  unfold cutD
  rw [HT.sIx_none, HT.sIx_nat, List.drop_zero, Nat.sub_zero, Int.toNat_natCast]
  unfold inD
  rw [← List.map_take, List.length_map]
  congr 1
  by_cases h : n ≤ ns.length
  · rw [Nat.min_eq_left h]
  · rw [Nat.min_eq_right (by omega), List.take_length, List.take_of_length_le (by omega)]
theorem cut_from (ns : List Int) {k : Int} (h0 : 0 ≤ k) : cutD (inD ns) (some k) none = inD (ns.drop k.toNat) := by
  obtain ⟨n, rfl⟩ := Int.eq_ofNat_of_zero_le h0
  unfold cutD
  rw [HT.sIx_none, HT.sIx_nat, Int.toNat_natCast]
  unfold inD
  rw [List.length_map, ← List.map_drop, ← List.map_take]
  congr 1
  by_cases h : n ≤ ns.length
  · rw [Nat.min_eq_left h, List.take_of_length_le (by rw [List.length_drop]; omega)]
  · rw [Nat.min_eq_right (by omega), Nat.sub_self, List.take_zero, List.drop_eq_nil_of_le (by omega)]
/-! ### what is no order -/
def IsOrd (ns : List Int) : Prop := ns.Perm ((List.range ns.length).map fun (k : Nat) => (k : Int))
theorem ord_rgI {ns : List Int} (h : IsOrd ns) : ns.Perm (rgI 0 ns.length) := by
  have e : rgI 0 ns.length = (List.range ns.length).map fun (k : Nat) => (k : Int) := by
    unfold rgI
    refine List.map_congr_left fun k _ => ?_
    omega
  rw [e]
  exact h
theorem no_ord_far {ns : List Int} {x : Int} (h : x ∈ ns) (hx : x < 0 ∨ ns.length ≤ x) : ¬ IsOrd ns := fun o => by
  have := mem_rgI.mp ((ord_rgI o).mem_iff.mp h)
  omega
theorem no_ord_dup {ns : List Int} (h : ¬ ns.Nodup) : ¬ IsOrd ns := fun o => h ((ord_rgI o).nodup_iff.mpr ((rise_rgI 0 _).imp fun h => by omega))
theorem dup_at {ns : List Int} {i j : Nat} {x : Int} (hi : i < ns.length) (hj : ns[j]? = some x) (ne : j ≠ i) : ¬ (ns.take i ++ [x] ++ ns.drop (i + 1)).Nodup := fun nd => by
  rw [List.append_assoc] at nd
  obtain ⟨_, nd2, nd3⟩ := List.nodup_append.mp nd
  by_cases h : j < i
  · have m : x ∈ ns.take i := List.mem_of_getElem? (by rw [List.getElem?_take_of_lt h]; exact hj)
    exact nd3 x m x (by simp) rfl
  · have m : x ∈ ns.drop (i + 1) := by
      refine List.mem_of_getElem? (i := j - (i + 1)) ?_
      rw [List.getElem?_drop, show i + 1 + (j - (i + 1)) = j by omega]
      exact hj
    have := (List.nodup_cons.mp nd2).1
    exact this m
theorem ins_dup {ts : List Int} {k : Nat} {x : Int} (h : x ∈ ts) : ¬ (ts.take k ++ [x] ++ ts.drop k).Nodup := fun nd => by
  rw [List.append_assoc] at nd
  obtain ⟨_, nd2, nd3⟩ := List.nodup_append.mp nd
  rw [← List.take_append_drop k ts] at h
  rcases List.mem_append.mp h with m | m
  · exact nd3 x m x (by simp) rfl
  · exact (List.nodup_cons.mp nd2).1 m
theorem ins_mem {ts : List Int} {k : Nat} {x y : Int} (h : y ∈ ts) : y ∈ ts.take k ++ [x] ++ ts.drop k := by
  rw [← List.take_append_drop k ts] at h
  rcases List.mem_append.mp h with m | m
  · simp [m]
  · simp [m]
theorem ins_inD (rs : List Int) (k : Nat) (x : Int) : List.take k (inD rs) ++ [PyData.int x] ++ List.drop k (inD rs) = inD (rs.take k ++ [x] ++ rs.drop k) := by
  unfold inD
  rw [List.map_append, List.map_append, List.map_take, List.map_drop]
  rfl
theorem atI_below {ns : List Int} {k : Int} (h0 : k < 0) (h1 : 0 ≤ (ns.length : Int) + k) : atI (inD ns) k = some (.int (ns.getD ((ns.length : Int) + k).toNat 0)) := by
  unfold atI ixN
  rw [inD_len, if_neg (by omega), if_pos (by omega)]
  show (inD ns)[(k + (ns.length : Int)).toNat]? = _
  unfold inD
  rw [List.getElem?_map, show (k + (ns.length : Int)).toNat = ((ns.length : Int) + k).toNat by omega, List.getD_eq_getElem?_getD, List.getElem?_eq_getElem (by omega)]
  rfl
theorem enD_get {es : List Int} {i : Nat} {x : PyData} (h : (enD (inD es))[i]? = some x) : ∃ c : Int, x = .tuple [.int (i : Nat), .int c] := by
  unfold enD inD at h
  rw [List.getElem?_map, List.getElem?_zipIdx, List.getElem?_map] at h
  cases e : es[i]? with
  | none => rw [e] at h; simp at h
  | some c =>
    rw [e] at h
    refine ⟨c, ?_⟩
    have := Option.some.inj h
    rw [← this]
    simp
/-! ### steps round 307 -/
theorem gcd307 : ∀ s : Fin 306, Nat.gcd 307 (s.val + 1) = 1 := by decide +kernel
theorem step_inj {s : Int} (h0 : 1 ≤ s) (h1 : s ≤ 306) {a b : Int} (ha : 1 ≤ a) (ha2 : a ≤ 306) (hb : 1 ≤ b) (hb2 : b ≤ 306) (h : a * s % 307 = b * s % 307) : a = b := by
  have hd : (307 : Int) ∣ (a - b) * s := by
    have := Int.emod_emod_of_dvd
    rw [Int.sub_mul]
    exact Int.dvd_of_emod_eq_zero (Int.emod_eq_emod_iff_emod_sub_eq_zero.mp h)
  obtain ⟨n, hn⟩ := Int.eq_ofNat_of_zero_le (show 0 ≤ s by omega)
  have g : Nat.gcd 307 n = 1 := by
    have := gcd307 ⟨n - 1, by omega⟩
    rwa [show n - 1 + 1 = n by omega] at this
  have hc : Nat.Coprime 307 n := g
  have hd2 : 307 ∣ (a - b).natAbs * n := by
    have := Int.natAbs_dvd_natAbs.mpr hd
    rw [Int.natAbs_mul, hn] at this
    exact this
  have hd3 := hc.dvd_of_dvd_mul_right hd2
  have hlt : (a - b).natAbs < 307 := by omega
  have := Nat.eq_zero_of_dvd_of_lt hd3 hlt
  omega
theorem step_range {s : Int} (h0 : 1 ≤ s) (h1 : s ≤ 306) {a : Int} (ha : 1 ≤ a) (ha2 : a ≤ 306) : 1 ≤ a * s % 307 ∧ a * s % 307 ≤ 306 := by
  have p0 := Int.emod_nonneg (a * s) (b := 307) (by omega)
  have p1 := Int.emod_lt_of_pos (a * s) (b := 307) (by omega)
  refine ⟨?_, by omega⟩
  by_cases z : a * s % 307 = 0
  · exfalso
    obtain ⟨n, hn⟩ := Int.eq_ofNat_of_zero_le (show 0 ≤ s by omega)
    have g : Nat.gcd 307 n = 1 := by
      have := gcd307 ⟨n - 1, by omega⟩
      rwa [show n - 1 + 1 = n by omega] at this
    have hd2 : 307 ∣ a.natAbs * n := by
      have := Int.natAbs_dvd_natAbs.mpr (Int.dvd_of_emod_eq_zero z)
      rw [Int.natAbs_mul, hn] at this
      exact this
    have hd3 := Nat.Coprime.dvd_of_dvd_mul_right g hd2
    have := Nat.eq_zero_of_dvd_of_lt hd3 (by omega)
    omega
  · omega
/-- the numbers below 300, by steps round 307 -/
def stepOrd (s : Int) : List Int := ((rgI 1 306).map fun a => a * s % 307 - 1).filter fun n => decide (n < 300)
theorem stepOrd_len {s : Int} (h0 : 1 ≤ s) (h1 : s ≤ 306) : (stepOrd s).length = 300 := by
  have hm : ∀ a ∈ rgI 1 306, 1 ≤ a ∧ a ≤ 306 := fun a ha => by have := mem_rgI.mp ha; omega
  have nd : ((rgI 1 306).map fun a => a * s % 307 - 1).Nodup := by
    unfold List.Nodup
    rw [List.pairwise_map]
    refine List.Pairwise.imp_of_mem (fun {a b} ha hb hab e => ?_) (rise_rgI 1 306)
    have ha := hm a ha
    have hb := hm b hb
    have := step_inj h0 h1 ha.1 ha.2 hb.1 hb.2 (by omega)
    omega
  have sub : ∀ x ∈ (rgI 1 306).map (fun a => a * s % 307 - 1), x ∈ rgI 0 306 := fun x hx => by
    obtain ⟨a, ha, rfl⟩ := List.mem_map.mp hx
    have ha := hm a ha
    have := step_range h0 h1 ha.1 ha.2
    exact mem_rgI.mpr (by omega)
  have nd2 : (rgI 0 306).Nodup := (rise_rgI 0 306).imp fun h => by omega
  have all : ∀ y ∈ rgI 0 306, y ∈ (rgI 1 306).map fun a => a * s % 307 - 1 := fun y hy => by
    by_cases c : y ∈ (rgI 1 306).map fun a => a * s % 307 - 1
    · exact c
    · exfalso
      have nd3 : (y :: (rgI 1 306).map fun a => a * s % 307 - 1).Nodup := List.nodup_cons.mpr ⟨c, nd⟩
      have := nd3.length_le_of_subset (fun x hx => (List.mem_cons.mp hx).elim (fun e => e ▸ hy) (sub x))
      rw [List.length_cons, List.length_map, rgI_len, rgI_len] at this
      omega
  have pm : ((rgI 1 306).map fun a => a * s % 307 - 1).Perm (rgI 0 306) := (List.perm_ext_iff_of_nodup nd nd2).mpr fun a => ⟨sub a, all a⟩
  unfold stepOrd
  rw [(pm.filter _).length_eq]
  decide +kernel
end Dv

set_option Elab.async false
set_option linter.all false
set_option maxRecDepth 100000
set_option maxHeartbeats 4000000
namespace Px
open PySem PySem.Spec PyProof.Rows L2
/-! ### the law's own def, as its caller calls it: there nothing is being shown -/
def FnTop (P : Program) (w : World) (K : PySem.W.Frag) (mg : Str → Option Value) (base : Heap) (f : Addr) (fd : FuncData) (ps : List Str) (sp : Sp) : Prop :=
  ∀ (s : Shared) (H : Hp) (args : Args) (us : List Value) (vs : List V) (Q : VK) (E : XK), Env0 P w K mg base callerA [] s H → BindsTo s fd args (ps.zip us) → Vals vs us → sp vs H Q E →
    codeAny (model P w) callerA (.call (.ref f) args) (CR CX0 [] P w H s Q E) s
section
variable {P : Program} {w : World} {K : PySem.W.Frag} {mg : Str → Option Value} {base : Heap}
theorem top_of {x qual : Str} {st : Stmt} {f : Addr} {fd : FuncData} {N ps : List Str} {k : Nat} {sp : Sp} (F : Fun K x qual st f fd) (S : FnScope N ps (defScope st)) (room : Room (k + 1) callerA) (len : ∀ vs H Q E, sp vs H Q E → vs.length = ps.length)
    (body : ∀ (cdv : Value) (s : Shared) (H : Hp) (vs : List V) (Q : VK) (E : XK), Room k (callerA.deeper (envOfC qual (defScope st) s.heap.objs.size f cdv)) → sp vs H Q E →
      ∃ t, PSs (cxOf CX0 P w K mg base N qual (defScope st) f cdv callerA [] s H E).nox (defBody st) t ∧ t { nx := fun _ H' => Q .non H', rt := Q } (start N vs) H) : FnTop P w K mg base f fd ps sp := by
  intro s H args us vs Q E env bnd vals hsp
  obtain ⟨o1, o2, o3, o4, o5, o6, cdv, o7, o8, rfl, look, code⟩ := F.ex
  have kin : K.In s.heap := env.mod.kin.keeps (fun b o e => (env.bs b o e).1)
  have nolim : s.heap.NoLimit := env.mod.nolimit.keeps (fun b o e => (env.bs b o e).1)
  have kinds : ∀ y ∈ ps.zip us, (defScope st).names.lookup y.1 = some .local ∨ ((defScope st).names.lookup y.1 = some .cell ∧ ((cellsFrom (s.heap.objs.size + 1) (defScope st).names []).lookup y.1).isSome = true) := by
    rintro ⟨n, v⟩ hy
    exact (S.par n (List.of_mem_zip hy).1).elim .inl fun q => .inr ⟨q, PySem.W.cellsFrom_some _ _ _ (.inl q)⟩
  refine codeAny_call_function room.depth (kin _ _ look) rfl S.co S.gen rfl (PySem.W.codeRec_of kin code) (bnd _ _ _ _ (wpAny_newFunctionEnv_cells S.kind kinds fun e he s1 laid => ?_))
  subst he
  refine And.intro (nolim.keeps laid.toInCall.keep) (codeAny_func ?_)
  obtain ⟨t, pt, ht⟩ := body cdv s H vs Q E (room.deeper _) hsp
  have inv : Inv (cxOf CX0 P w K mg base N qual (defScope st) f cdv callerA [] s H E) [] (L2.start N vs) H s1 := inv_start S room.hd env (len _ _ _ _ hsp) vals laid
  refine wpAny_mono (pt.nox.run [] s1 (start N vs) H _ inv ht) (fun fl s2 out => ?_) (fun e s2 out => out)
  match fl, out with
  | .ret u, ⟨v, σ2, H2, J, rv, q⟩ => exact ⟨v, H2, J.os, J.bare, J.base, J.hok, rv, q⟩
  | .next, ⟨σ2, H2, J, q⟩ => exact ⟨V.non, H2, J.os, J.bare, J.base, J.hok, rfl, q⟩
  | .brk, ⟨_, _, _, q⟩ => exact q.elim
  | .cont, ⟨_, _, _, q⟩ => exact q.elim
/-- the call of the law, from such a promise -/
theorem top_call {mb : Str → Option Value} {fa a : Addr} {fd : FuncData} {x : Str} {sp : Sp} {s1 : Shared} {vs : List Value} {ns : List Int} (kin : K.In s1.heap) (glob : s1.heap.Ns mainGlobals mg) (blt : s1.heap.Ns builtinsNs mb) (boot : ∀ x : Str, x ≠ "__name__" → mb x = bootBuiltins x)
    (nolim : s1.heap.NoLimit) (gens : s1.gens = #[]) (script : s1.heap.get? a = some { cls := .type "list", data := .seq vs.toArray }) (cells : IntsAre vs ns) (few : ns.length ≤ sizeLine)
    (F : ∀ base : Heap, K.In base → base.Ns mainGlobals mg → FnTop P w K mg base fa fd [x] sp) (bnd : ∀ (s : Shared) (u : Value), BindsTo s fd ⟨[u], []⟩ [(x, u)])
    (want : ∀ H : Hp, Only H → SqL K H a (ns.map V.int) → sp [.ref a] H (fun v _ => v = .bl true) fun _ _ _ => False) :
    codeAny (model P w) callerA (.call (.ref fa) ⟨[.ref a], []⟩) (fun r s' => r = .ok (.ret (.bool true)) ∧ OldK s1.heap s'.heap ∧ s'.os = s1.os ∧ AllBare s'.gens) s1 := by
  have rel := vals_ints cells
  have same_len := cells.length
  have go : ∀ H : Hp, Only H → SqL K H a (ns.map V.int) → HOk P w H s1.heap → (∀ b, H b ≠ none → b = a ∧ K.lookup a = none) →
      codeAny (model P w) callerA (.call (.ref fa) ⟨[.ref a], []⟩) (fun r s' => r = .ok (.ret (.bool true)) ∧ OldK s1.heap s'.heap ∧ s'.os = s1.os ∧ AllBare s'.gens) s1 := by
    intro H only seq hok alone
    have other : ∀ {b : Addr}, ¬ (b = a ∧ K.lookup a = none) → H b = none := fun {b} h => by
      by_cases c : H b = none
      · exact c
      · exact absurd (alone b c) h
    have dicts : ∀ {b : Addr} {o : Obj} {es : Array DictEntry} {ep : Nat}, s1.heap.get? b = some o → o.data = .dict es ep → H b = none := fun {b o es ep} e d => other fun z => by
      obtain ⟨rfl, _⟩ := z
      rw [script] at e
      cases e
      exact Data.noConfusion d
    have space : ∀ {b : Addr} {m : Str → Option Value}, s1.heap.Ns b m → (hidT s1.heap H).Ns b m := fun {b m} h => by
      obtain ⟨o, es, ep, e, d, r⟩ := h
      exact ⟨o, es, ep, hidT_get e (dicts e d), d, r⟩
    have kin2 : K.In (hidT s1.heap H) := fun b o e => hidT_get (kin b o e) (other fun z => by
      obtain ⟨rfl, z2⟩ := z
      rw [z2] at e
      cases e)
    obtain ⟨mc, lim1, lim2⟩ := nolim
    have md : Mod K mg (hidT s1.heap H) := ⟨kin2, space glob, ⟨mb, space blt, boot⟩, ⟨mc, space lim1, lim2⟩⟩
    have env : Env0 P w K mg (hidT s1.heap H) callerA [] s1 H := ⟨rfl, md, fun b o e => of_hidT e, Nat.le_of_eq (hidT_size _ _), trivial, fun b hb => (nomatch hb), hok, .of_eq gens⟩
    have run := F _ kin2 (space glob) s1 H ⟨[.ref a], []⟩ [.ref a] [.ref a] (fun v _ => v = .bl true) (fun _ _ _ => False) env (bnd s1 (.ref a)) (.cons rfl .nil) (want H only seq)
    refine codeAny_mono run fun r s2 out => ?_
    match r, out with
    | .error e, out => exact False.elim out
    | .ok .next, out => exact False.elim out
    | .ok .brk, out => exact False.elim out
    | .ok .cont, out => exact False.elim out
    | .ok (.ret u), ⟨v, H2, os, bare, un, hok2, rv, q⟩ =>
      have q : v = .bl true := q
      subst q
      have eu : u = Value.bool true := rv
      subst eu
      refine ⟨rfl, OldK.of_keep fun b o e => ?_, os, bare⟩
      rcases only b with z | ⟨ob, xs, z⟩
      · exact un.keep b o e z (fun m => (nomatch m)) (by simp)
      · have k1 := (hok b _ z).1
        have k2 := (hok2 b _ (un.frzs b ob _ z)).1
        rw [e] at k1
        cases k1
        exact k2
  by_cases c : ∃ o, K.lookup a = some o
  · obtain ⟨o, look⟩ := c
    have e := kin a o look
    rw [script] at e
    cases e
    refine go (fun _ => none) (fun _ => .inl rfl) (.inr ⟨_, vs.toArray, _, look, rfl, rfl, rfl, ?_, by simpa using rel⟩) (fun b u z => (nomatch z)) fun b z => absurd rfl z
    rw [List.size_toArray, same_len]
    exact few
  · have none_ : K.lookup a = none := by
      cases q : K.lookup a with
      | none => rfl
      | some o => exact absurd ⟨o, q⟩ c
    let H : Hp := fun b => if b = a then some (.frz { cls := .type "list", data := .seq vs.toArray } (.lst (ns.map V.int))) else none
    have at_ : H a = some (.frz { cls := .type "list", data := .seq vs.toArray } (.lst (ns.map V.int))) := if_pos rfl
    have off : ∀ {b : Addr}, b ≠ a → H b = none := fun h => if_neg h
    refine go H (fun b => ?_) (.inl (.inr ⟨{ cls := .type "list", data := .seq vs.toArray }, at_⟩)) (fun b u z => ?_) fun b z => ?_
    · by_cases hb : b = a
      · subst hb
        exact .inr ⟨_, _, at_⟩
      · exact .inl (off hb)
    · by_cases hb : b = a
      · subst hb
        rw [at_] at z
        cases z
        exact ⟨script, by rw [List.length_map]; exact few, vs, _, rel, script⟩
      · rw [off hb] at z
        cases z
    · by_cases hb : b = a
      · exact ⟨hb, none_⟩
      · exact absurd (off hb) z
end
theorem walk_top {l : PySem.W.OpenLaw} {n : Nat} {q : Program} {loose : List Str} {XP : (Str → Option Value) → Heap → Prop} {YP : World → Heap → Prop} {d : DefRec} {K : Params → PySem.W.Frag} {sp : World → Sp} {x : Str} (most : l.most = some n) (few : n ≤ sizeLine) (plain : d.params.defaults = [])
    (kin : ∀ (w : World) (h : Heap), YP w h → (K w.params).In h)
    (F : ∀ (w : World) (mg : Str → Option Value) (fa : Addr) (h : Heap), (K w.params).In h → h.Ns mainGlobals mg → mg d.name = some (.ref fa) → ∃ fd : FuncData, (∀ (s : Shared) (u : Value), BindsTo s fd ⟨[u], []⟩ [(x, u)]) ∧ ∀ base : Heap, (K w.params).In base → base.Ns mainGlobals mg → FnTop l.prog w (K w.params) mg base fa fd [x] (sp w))
    (want : ∀ (w : World) (H : Hp) (a : Addr) (ns : List Int), ns.length ≤ n → Only H → SqL (K w.params) H a (ns.map V.int) → sp w [.ref a] H (fun v _ => v = .bl true) fun _ _ _ => False) :
    PySem.W.WalkO q loose XP YP l.row.toRowW d [] (fun f vs => PySem.call f vs) := by
  refine Att.attach_call most plain fun w s0 s1 mg mb fa o pm cd doc a vs ns G Y ho hd hcd hmg script cells len gens => ?_
  obtain ⟨fd, bnd, top⟩ := F w mg fa _ (kin w _ Y) G.T.g hmg
  exact top_call (kin w _ Y) G.T.g G.T.b G.T.builtins G.T.nolimit gens script cells (Nat.le_trans len few) top bnd fun H only seq => want w H a ns len only seq
theorem top_end {P : Program} {w : World} {K : PySem.W.Frag} {mg : Str → Option Value} {x : Str} {sp : Sp} {st : Stmt} {fa : Addr} (D : Dfn K mg "law" st)
    (hb : ∀ (kV doc pm : Value) (an : Option Addr) (cdv ct : Value) (us : List Value), us.length = ([x] : List Str).length → bindArgs (PySem.W.fnOf "law" "law" (defArgs st) (defBody st) (defScope st) .none kV doc pm an cdv ct) ⟨us, []⟩ = pure (([x] : List Str).zip us))
    (h : ∀ base f fd, Fun K "law" "law" st f fd → FnTop P w K mg base f fd [x] sp) (hfa : mg "law" = some (.ref fa)) :
    ∃ fd : FuncData, (∀ (s : Shared) (u : Value), BindsTo s fd ⟨[u], []⟩ [(x, u)]) ∧ ∀ base : Heap, K.In base → base.Ns mainGlobals mg → FnTop P w K mg base fa fd [x] sp := by
  obtain ⟨f, fd, hm, F⟩ := D.ex
  have e := hfa.symm.trans hm
  cases e
  refine ⟨fd, fun s u => ?_, fun base _ _ => h base _ _ F⟩
  obtain ⟨oc, od, kV, doc, pm, an, cdv, ct, osl, rfl, _⟩ := F.ex
  exact .of_eq (hb kV doc pm an cdv ct [u] rfl)
/-! ### repr of data, where nothing is being shown -/
def rReprD (K : PySem.W.Frag) : List V → Hp → VK → Prop := fun xs H Q => ∃ (a : Addr) (d : PyData), xs = [.ref a] ∧ Dp K H (.ref a) d ∧ d.showable = true ∧ d.hasDict = false ∧ d.depth ≤ 60 ∧ d.shown.length ≤ sizeLine ∧ Q (.str d.shown) H
theorem crReprD (K : PySem.W.Frag) {X : Cx} (hK : X.K = K) (hg : X.A.guards = some []) (hu : X.A.units + 65 < cLine) : CallR X (.builtin "repr") (rReprD K) := by
  subst hK
  intro pins s σ H xs us Q I r h
  obtain ⟨a, d, rfl, dp, sh, nd, dep, sz, q⟩ := h
  obtain ⟨u, rfl, ru⟩ := vals1 r
  obtain rfl : u = Value.ref a := ru
  obtain ⟨as, rd⟩ := Dp.reads I d (.ref a) (.ref a) dp rfl
  refine repr_of_reads' rd sh (fun z => by rw [nd] at z; cases z) hg (by omega) (fun b o e => e) (fun h' t tk kp => ?_) sz
  exact ⟨.str d.shown, H, I.kept kp, ⟨_, rfl⟩, q⟩
end Px
namespace Dv
open PySem PySem.Spec PyProof.Rows L2 Px
section
variable {K : PySem.W.Frag}
theorem ok_top {P : Program} {w : World} {mg : Str → Option Value} {base : Heap} {x qual : Str} {st : Stmt} {f : Addr} {fd : FuncData} {N ps : List Str} {k : Nat} {c : List PyData → (T → Prop) → Prop} (F : Fun K x qual st f fd) (S : FnScope N ps (defScope st)) (room : Room (k + 1) callerA) (len : ∀ xs QD, c xs QD → xs.length = ps.length)
    (hbody : ∀ (cdv : Value) (s : Shared) (H : Hp) (E : XK), Room k (callerA.deeper (envOfC qual (defScope st) s.heap.objs.size f cdv)) →
      ∃ t, PSs (cxOf CX0 P w K mg base N qual (defScope st) f cdv callerA [] s H E).nox (defBody st) t ∧ Body K N c t) : FnTop P w K mg base f fd ps (spD K c) := by
  refine top_of F S room (fun vs H Q E h => ?_) (fun cdv s H vs Q E hr h => ?_)
  · obtain ⟨G, xs, QD, _, d, hc, _⟩ := h
    rw [dpAll_len d, len xs QD hc]
  · obtain ⟨t, h1, d, h2, h3⟩ := hbody cdv s H E hr
    exact ⟨t, h1, run_def N h2 h h3⟩
theorem FnTop.imp {P : Program} {w : World} {mg : Str → Option Value} {base : Heap} {f : Addr} {fd : FuncData} {ps : List Str} {sp sp' : Sp} (F : FnTop P w K mg base f fd ps sp) (h : ∀ vs H Q E, sp' vs H Q E → sp vs H Q E) : FnTop P w K mg base f fd ps sp' :=
  fun s H args us vs Q E env bnd vals hsp => F s H args us vs Q E env bnd vals (h _ _ _ _ hsp)
@[reducible] def isSq : PyData → Bool
  | .list _ => true | .tuple _ => true | _ => false
def dRepr : DC := fun ts Q => ∃ t d, ts = [t] ∧ t.rd = d ∧ isSq d = true ∧ d.showable = true ∧ d.hasDict = false ∧ d.depth ≤ 60 ∧ d.shown.length ≤ 16777216 ∧ Q (.g (.str d.shown))
theorem oc_repr : OC K (rReprD K) dRepr := fun {G H ts vs QD Q} s h ⟨t, d, e, f, sq, h1, h2, h3, h4, q⟩ p => by
  subst e f
  obtain ⟨v, rfl, a⟩ := vrA1 h
  have dp := a.dp s (T.dat_of fun z => by rw [z] at sq; cases sq)
  obtain ⟨r, rfl⟩ : ∃ r, v = .ref r := by
    cases e : t.rd with
    | list xs => rw [e] at dp; obtain ⟨r, _, e2, _⟩ := dp_lst dp; exact ⟨r, e2⟩
    | tuple xs => rw [e] at dp; obtain ⟨r, _, e2, _⟩ := dp_tup dp; exact ⟨r, e2⟩
    | _ => rw [e] at sq; cases sq
  exact ⟨r, _, rfl, dp, h1, h2, h3, r_small h4, p.scal s (.str _) q⟩
theorem w_repr {t : T} {d : PyData} {Q : T → Prop} (h : t.rd = d) (sq : isSq d = true) (h1 : d.showable = true) (h2 : d.hasDict = false) (h3 : d.depth ≤ 60) (h4 : d.shown.length ≤ 16777216) (q : Q (.g (.str d.shown))) : dRepr [t] Q := ⟨t, d, rfl, h, sq, h1, h2, h3, h4, q⟩
end
end Dv

set_option Elab.async false
set_option linter.all false
set_option maxRecDepth 100000
set_option maxHeartbeats 4000000
namespace Dv
open PySem PySem.Spec PyProof.Rows L2 Px
/-! ### what repr wants of nets, rows and doings -/
structure ReprOk (B : Nat) (d : PyData) : Prop where
  sh : d.showable = true
  nd : d.hasDict = false
  lv : d.leavesShort 80 = true
  wt : d.weight ≤ B
theorem rp_int {i : Int} (h : -(10 ^ 65) < i ∧ i < 10 ^ 65) : ReprOk 220 (.int i) := by
  have hn : i.natAbs < 10 ^ 65 := by omega
  have hl : i.natAbs.log2 < 217 := by
    by_cases z : i.natAbs = 0
    · rw [z]; decide
    · exact (Nat.log2_lt z).mpr (Nat.lt_of_lt_of_le hn (by decide))
  refine ⟨decide_eq_true (by omega), rfl, decide_eq_true ?_, ?_⟩
  · have := int_text_length_le10 (a := i) (k := 65) (by decide) hn
    show (Str.ofString (toString i)).length ≤ 80
    rw [PySem.ofString_length]
    omega
  · unfold PyData.weight
    split <;> omega
theorem rp_all {B : Nat} : ∀ {xs : List PyData}, (∀ x ∈ xs, ReprOk B x) → PyData.showableAll xs = true ∧ PyData.hasDictAll xs = false ∧ PyData.leavesShortAll 80 xs = true ∧ PyData.weightAll xs ≤ (B + 1) * xs.length
  | [], _ => ⟨rfl, rfl, rfl, Nat.zero_le _⟩
  | x :: xs, h => by
    have a := h x (by simp)
    obtain ⟨b1, b2, b3, b4⟩ := rp_all (xs := xs) fun y hy => h y (List.mem_cons_of_mem _ hy)
    refine ⟨?_, ?_, ?_, ?_⟩
    · show (x.showable && PyData.showableAll xs) = true
      rw [a.sh, b1]; rfl
    · show (x.hasDict || PyData.hasDictAll xs) = false
      rw [a.nd, b2]; rfl
    · show (x.leavesShort 80 && PyData.leavesShortAll 80 xs) = true
      rw [a.lv, b3]; rfl
    · show x.weight + 1 + PyData.weightAll xs ≤ (B + 1) * (xs.length + 1)
      have := a.wt
      rw [Nat.mul_succ]
      omega
theorem rp_list {B C n : Nat} {xs : List PyData} (h : ∀ x ∈ xs, ReprOk B x) (hn : xs.length ≤ n) (hc : (B + 1) * n ≤ C) : ReprOk C (.list xs) := by
  obtain ⟨a, b, c, d⟩ := rp_all h
  exact ⟨a, b, c, Nat.le_trans d (Nat.le_trans (Nat.mul_le_mul_left _ hn) hc)⟩
theorem rp_tuple {B C n : Nat} {xs : List PyData} (h : ∀ x ∈ xs, ReprOk B x) (hn : xs.length ≤ n) (hc : (B + 1) * n ≤ C) : ReprOk C (.tuple xs) := by
  obtain ⟨a, b, c, d⟩ := rp_all h
  exact ⟨a, b, c, Nat.le_trans d (Nat.le_trans (Nat.mul_le_mul_left _ hn) hc)⟩
theorem ReprOk.mono {B C : Nat} {d : PyData} (h : ReprOk B d) (hc : B ≤ C) : ReprOk C d := ⟨h.sh, h.nd, h.lv, Nat.le_trans h.wt hc⟩
theorem ReprOk.len {B : Nat} {d : PyData} (h : ReprOk B d) (hb : B ≤ 200000) : d.shown.length ≤ 16777216 := by
  have := PyData.shown_le 80 (by decide) d h.lv
  have h2 := h.wt
  have : (80 + 2) * d.weight ≤ 82 * B := Nat.mul_le_mul_left _ h2
  omega
theorem rp_inD {ns : List Int} {n : Nat} (h : ∀ x ∈ ns, -(10 ^ 65) < x ∧ x < 10 ^ 65) (hn : ns.length ≤ n) : ReprOk (221 * n) (.list (inD ns)) := by
  refine rp_list (B := 220) (n := n) (fun x hx => ?_) (by rw [inD_len]; exact hn) (Nat.le_refl _)
  obtain ⟨k, hk, rfl⟩ := List.mem_map.mp hx
  exact rp_int (h k hk)
theorem rp_wsD {ws : List (Int × Int)} {m n : Nat} (h : ∀ w ∈ ws, WayIn m w) (hm : m ≤ 1000) (hn : ws.length ≤ n) : ReprOk (443 * n) (.list (wsD ws)) := by
  refine rp_list (B := 442) (n := n) (fun x hx => ?_) (by rw [wsD_len]; exact hn) (Nat.le_refl _)
  obtain ⟨⟨a, b⟩, hw, rfl⟩ := List.mem_map.mp hx
  obtain ⟨h1, h2⟩ := h _ hw
  dsimp only at h1 h2
  have b1 : -(10 ^ 65) < a ∧ a < 10 ^ 65 := by rcases h1 with z | z <;> omega
  have b2 : -(10 ^ 65) < b ∧ b < 10 ^ 65 := by rcases h2 with z | z <;> omega
  refine rp_tuple (B := 220) (n := 2) (fun y hy => ?_) (by simp) (by decide)
  simp only [List.mem_cons, List.not_mem_nil, or_false] at hy
  rcases hy with rfl | rfl
  · exact rp_int b1
  · exact rp_int b2
theorem rp_ssD {ss : List Str} {n : Nat} (h : ∀ s ∈ ss, word s) (hn : ss.length ≤ n) : ReprOk (5 * n) (.list (ssD ss)) := by
  refine rp_list (B := 4) (n := n) (fun x hx => ?_) (by rw [ssD_len]; exact hn) (Nat.le_refl _)
  obtain ⟨s, hs, rfl⟩ := List.mem_map.mp hx
  rcases h s hs with e | e <;> (subst e; exact ⟨rfl, rfl, by decide, by decide⟩)
/-- (net, row, doing) -/
theorem rp_three {ss : List Str} {ws ms : List (Int × Int)} {row : List Int} (hs : ∀ s ∈ ss, word s) (hsl : ss.length ≤ 6) (hw : ∀ w ∈ ws, WayIn ss.length w) (hwl : ws.length ≤ 100) (hr : ∀ x ∈ row, -(10 ^ 65) < x ∧ x < 10 ^ 65) (hrl : row.length ≤ 100) (hm : ∀ m ∈ ms, m ∈ ws) (hml : ms.length ≤ 100) :
    ReprOk 200000 (.tuple [ntD ss ws, .list (inD row), .list (wsD ms)]) := by
  have a := rp_ssD hs hsl
  have b := rp_wsD hw (by omega) hwl
  have c := rp_inD hr hrl
  have d := rp_wsD (fun m z => hw m (hm m z)) (by omega) hml
  have nt : ReprOk 90000 (ntD ss ws) := rp_tuple (B := 44300) (n := 2) (fun x hx => by
    simp only [List.mem_cons, List.not_mem_nil, or_false] at hx
    rcases hx with rfl | rfl
    · exact a.mono (by decide)
    · exact b) (by simp) (by decide)
  obtain ⟨q1, q2, q3, q4⟩ := rp_all (B := 90000) (xs := [ntD ss ws, .list (inD row), .list (wsD ms)]) fun x hx => by
    simp only [List.mem_cons, List.not_mem_nil, or_false] at hx
    rcases hx with rfl | rfl | rfl
    · exact nt
    · exact c.mono (by decide)
    · exact d.mono (by decide)
  refine ⟨q1, q2, q3, ?_⟩
  show PyData.weightAll [ntD ss ws, .list (inD row), .list (wsD ms)] ≤ 200000
  have e : PyData.weightAll [ntD ss ws, .list (inD row), .list (wsD ms)] = (ntD ss ws).weight + 1 + ((PyData.list (inD row)).weight + 1 + ((PyData.list (wsD ms)).weight + 1 + 0)) := rfl
  rw [e]
  have := nt.wt
  have := c.wt
  have := d.wt
  omega
end Dv

set_option Elab.async false
set_option linter.all false
set_option maxRecDepth 100000
set_option maxHeartbeats 4000000
namespace Px
open PySem PySem.Spec PyProof.Rows L2
/-! ### try without `as`: nothing else is let out -/
theorem takes_no {X : Cx} : Takes X (fun _ _ _ _ => False) := fun u s' ⟨_, _, _, _, _, _, _, _, _, _, _, _, _, _, _, _, w⟩ => w.elim
end Px
namespace Dv
open PySem PySem.Spec PyProof.Rows L2 Px
/-- what is told of a move that may, or may not, be done -/
def behD (ss : List Str) (ws : List (Int × Int)) (od : List Int) (g : Int) (hs : List (List Int)) (o : Int) (m : Int × Int) : PyData :=
  if m ∈ ws ∧ mayB ss od g hs o m = true then mvO ss od g hs o m else .str "none"
def toldD (ss : List Str) (ws : List (Int × Int)) (od : List Int) (g : Int) (hs : List (List Int)) (o : Int) : List PyData := .list (wsD (ws.filter (mayB ss od g hs o))) :: ws.map (behD ss ws od g hs o)
theorem behD_st (ss : List Str) (ws : List (Int × Int)) (od : List Int) (g : Int) (hs : List (List Int)) (o : Int) (m : Int × Int) : behD ss ws od g hs o m = .str "none" ∨ ∃ g' hs' o', behD ss ws od g hs o m = stD g' hs' o' := by
  unfold behD
  split
  · rename_i h
    obtain ⟨n, _, he⟩ := mayB_num h.2
    exact .inr ⟨_, _, _, he⟩
  · exact .inl rfl
theorem clean_told (ss : List Str) (ws : List (Int × Int)) (od : List Int) (g : Int) (hs : List (List Int)) (o : Int) : clean (.list (toldD ss ws od g hs o)) = true := by
  show cleanAll (toldD ss ws od g hs o) = true
  rw [cleanAll_iff]
  intro x hx
  rcases List.mem_cons.mp hx with rfl | hx
  · exact clean_wsD _
  · obtain ⟨m, _, rfl⟩ := List.mem_map.mp hx
    rcases behD_st ss ws od g hs o m with e | ⟨g', hs', o', e⟩
    · rw [e]; (simp [clean, PyData.strOk]; decide)
    · rw [e]; exact clean_st _ _ _
theorem depth_told (ss : List Str) (ws : List (Int × Int)) (od : List Int) (g : Int) (hs : List (List Int)) (o : Int) : (PyData.list (toldD ss ws od g hs o)).depth ≤ 64 := by
  show PyData.depthAll (toldD ss ws od g hs o) + 1 ≤ 64
  have := depthAll_le (xs := toldD ss ws od g hs o) (n := 60) fun x hx => by
    rcases List.mem_cons.mp hx with rfl | hx
    · exact Nat.le_trans (depth_wsD _) (by decide)
    · obtain ⟨m, _, rfl⟩ := List.mem_map.mp hx
      rcases behD_st ss ws od g hs o m with e | ⟨g', hs', o', e⟩
      · rw [e]; decide
      · rw [e]; exact Nat.le_trans (depth_st _ _ _) (by decide)
  omega
theorem toldD_len (ss : List Str) (ws : List (Int × Int)) (od : List Int) (g : Int) (hs : List (List Int)) (o : Int) : (toldD ss ws od g hs o).length = ws.length + 1 := by
  unfold toldD
  rw [List.length_cons, List.length_map]
theorem fm_all (f : Int × Int → PyData) (ws : List (Int × Int)) : (wsD ws).filterMap (pmW (fun _ => true) f) = ws.map f := by
  rw [fm_pmW, List.filter_eq_self.mpr (fun _ _ => rfl)]
/-! ranks of rows that are ordered alike -/
theorem ranks_ranks (ns : List Int) : ranks (ranks ns) = ranks ns := by
  refine (show ranks (ns.map fun x => (below ns x : Int)) = ranks ns from ranks_map fun a ha b _ => ?_)
  have := below_lt (ns := ns) (a := a) (b := b) ha
  omega
theorem below_rev (ns : List Int) (x : Int) : below ns.reverse x = below ns x := below_perm (List.reverse_perm ns) x
theorem ranks_rev (ns : List Int) : ranks ns.reverse = (ranks ns).reverse := by
  unfold ranks
  rw [← List.map_reverse]
  exact List.map_congr_left fun x _ => by rw [below_rev]
theorem below_lt_len {ns : List Int} {x : Int} (h : x ∈ ns) : below ns x < ns.length := by
  unfold below
  rcases Nat.lt_or_ge (ns.filter fun y => decide (y < x)).length ns.length with z | z
  · exact z
  · have e := List.length_filter_eq_length_iff.mp (Nat.le_antisymm (List.length_filter_le _ _) z) x h
    have := of_decide_eq_true e
    omega
/-- the numbers that stand where the row's ranks say -/
def byRanks (ns row : List Int) : List Int := (ranks row).map fun k => ns.getD k.toNat 0
theorem getD_lt {ns : List Int} (h : ns.Pairwise (· < ·)) {i j : Nat} (hi : i < ns.length) (hj : j < ns.length) : ns.getD i 0 < ns.getD j 0 ↔ i < j := by
  have mono : ∀ {i j : Nat}, i < j → j < ns.length → ns.getD i 0 < ns.getD j 0 := fun {i j} a b => by
    rw [List.getD_eq_getElem?_getD, List.getD_eq_getElem?_getD, List.getElem?_eq_getElem b, List.getElem?_eq_getElem (by omega)]
    exact List.pairwise_iff_getElem.mp h i j (by omega) b a
  constructor
  · intro z
    rcases Nat.lt_trichotomy i j with q | q | q
    · exact q
    · subst q; omega
    · have := mono q hi; omega
  · intro z
    exact mono z hj
theorem ranks_byRanks {ns row : List Int} (h : ns.Pairwise (· < ·)) (hl : ns.length = row.length) : ranks (byRanks ns row) = ranks row := by
  rw [← ranks_ranks row]
  refine (show ranks ((ranks row).map fun k => ns.getD k.toNat 0) = ranks (ranks row) from ranks_map fun a ha b hb => ?_)
  obtain ⟨x, hx, rfl⟩ := List.mem_map.mp ha
  obtain ⟨y, hy, rfl⟩ := List.mem_map.mp hb
  have h1 := below_lt_len hx
  have h2 := below_lt_len hy
  rw [Int.toNat_natCast, Int.toNat_natCast, getD_lt h (by omega) (by omega)]
  omega
theorem byRanks_len (ns row : List Int) : (byRanks ns row).length = row.length := by
  unfold byRanks
  rw [List.length_map, ranks_len]
theorem nodup_byRanks {ns row : List Int} (h : ns.Pairwise (· < ·)) (hl : ns.length = row.length) (hr : row.Nodup) : (byRanks ns row).Nodup := by
  have e : byRanks ns row = row.map fun x => ns.getD (below row x) 0 := by
    unfold byRanks ranks
    rw [List.map_map]
    exact List.map_congr_left fun x _ => by simp only [Function.comp, Int.toNat_natCast]
  rw [e]
  unfold List.Nodup at hr ⊢
  rw [List.pairwise_map]
  refine List.Pairwise.imp_of_mem (fun {a b} ha hb hab => ?_) hr
  have h1 := below_lt_len ha
  have h2 := below_lt_len hb
  have c1 := getD_lt h (i := below row a) (j := below row b) (by omega) (by omega)
  have c2 := getD_lt h (i := below row b) (j := below row a) (by omega) (by omega)
  have b1 := below_lt (ns := row) (a := a) (b := b) ha
  have b2 := below_lt (ns := row) (a := b) (b := a) hb
  intro e
  rw [e] at c1 c2
  omega
end Dv

set_option Elab.async false
set_option linter.all false
set_option maxRecDepth 100000
set_option maxHeartbeats 4000000
namespace Dv
open PySem PySem.Spec PyProof.Rows L2 Px
/-! ### the standings of a doing, move by move -/
def msT (s : MS) : PyData := stD s.1 s.2.1 s.2.2
def mssD (ss : List MS) : List PyData := ss.map msT
theorem mssD_len (ss : List MS) : (mssD ss).length = ss.length := by simp [mssD]
theorem mssD_snoc (ss : List MS) (s : MS) : mssD ss ++ [msT s] = mssD (ss ++ [s]) := by simp [mssD]
theorem mssD_get {ss : List MS} {i : Nat} {x : PyData} (h : (mssD ss)[i]? = some x) : ∃ s, ss[i]? = some s ∧ x = msT s := by
  unfold mssD at h
  rw [List.getElem?_map] at h
  cases e : ss[i]? with
  | none => rw [e] at h; cases h
  | some s => rw [e] at h; exact ⟨s, rfl, (Option.some.inj h).symm⟩
/-- the standings behind the first, as far as the moves may be done -/
def goneB (ss : List Str) (ws : List (Int × Int)) (od : List Int) : List (Int × Int) → MS → List MS
  | [], _ => []
  | m :: ms, s => match (if m ∈ ws then rStp ss od s m else none) with
    | some t => t :: goneB ss ws od ms t
    | none => []
def goneS (ss : List Str) (ws : List (Int × Int)) (od : List Int) (ms : List (Int × Int)) : List MS := first0 ss :: goneB ss ws od ms (first0 ss)
theorem goneB_run {ss : List Str} {ws : List (Int × Int)} {od : List Int} : ∀ (ms : List (Int × Int)) (s t : MS), rRun ss ws od ms s = some t ↔ ((goneB ss ws od ms s).length = ms.length ∧ (s :: goneB ss ws od ms s).getLast? = some t)
  | [], s, t => by
    show some s = some t ↔ (0 = 0 ∧ some s = some t)
    simp
  | m :: ms, s, t => by
    show (if m ∈ ws then (rStp ss od s m).bind (rRun ss ws od ms) else none) = some t ↔ ((match (if m ∈ ws then rStp ss od s m else none) with | some t => t :: goneB ss ws od ms t | none => []).length = ms.length + 1 ∧ (s :: (match (if m ∈ ws then rStp ss od s m else none) with | some t => t :: goneB ss ws od ms t | none => [])).getLast? = some t)
    by_cases hm : m ∈ ws
    · rw [if_pos hm, if_pos hm]
      cases h : rStp ss od s m with
      | none => simp
      | some u =>
        show rRun ss ws od ms u = some t ↔ _
        rw [goneB_run ms u t, List.getLast?_cons_cons]
        simp
    · rw [if_neg hm, if_neg hm]
      simp
/-- what holds of each standing on the way -/
def StGood (ss : List Str) (od : List Int) (s : MS) : Prop := s.2.1.length = ss.length ∧ 0 ≤ s.1 ∧ s.1 ≤ od.length ∧ 0 ≤ s.2.2 ∧ (rgI 0 s.2.2.toNat ++ s.2.1.flatten).Perm (od.take s.1.toNat)
theorem good_first (ss : List Str) (od : List Int) : StGood ss od (first0 ss) := by
  unfold first0
  refine ⟨by simp, Int.le_refl _, by show (0 : Int) ≤ _; omega, Int.le_refl _, ?_⟩
  have h : (List.replicate ss.length ([] : List Int)).flatten = [] := by simp
  show (rgI 0 0 ++ (List.replicate ss.length ([] : List Int)).flatten).Perm (od.take 0)
  rw [h]
  exact List.Perm.refl _
theorem rStp_some {ss : List Str} {od : List Int} {s t : MS} {m : Int × Int} (h : rStp ss od s m = some t) : mayB ss od s.1 s.2.1 s.2.2 m = true ∧ ∃ n, numLeave ss od s.1 s.2.1 m.1 = some n ∧ t = nextS ss s m n := by
  unfold rStp at h
  by_cases hb : mayB ss od s.1 s.2.1 s.2.2 m = true
  · rw [if_pos hb] at h
    cases hn : numLeave ss od s.1 s.2.1 m.1 with
    | none => rw [hn] at h; cases h
    | some n => rw [hn] at h; exact ⟨hb, n, rfl, (Option.some.inj h).symm⟩
  · rw [if_neg hb] at h
    cases h
theorem good_step {ss : List Str} {od : List Int} {s t : MS} {m : Int × Int} (k : StGood ss od s) (w : WayIn ss.length m) (h : rStp ss od s m = some t) : StGood ss od t := by
  obtain ⟨g, hs, o⟩ := s
  obtain ⟨a, b⟩ := m
  obtain ⟨kl, kg, kn, ko, pm⟩ := k
  obtain ⟨hb, n, hn, rfl⟩ := rStp_some h
  dsimp only at kl kg kn ko pm hb hn w
  have key : 0 ≤ (if a = -1 then g + 1 else g) ∧ (if a = -1 then g + 1 else g) ≤ od.length ∧ (rgI 0 o.toNat ++ (n :: (held1 ss hs a).flatten)).Perm (od.take (if a = -1 then g + 1 else g).toNat) := by
    by_cases ha : a = -1
    · subst ha
      unfold numLeave at hn
      rw [if_pos rfl] at hn
      by_cases hg : g < od.length
      · rw [if_pos hg] at hn
        have e : held1 ss hs (-1) = hs := by unfold held1; rw [if_pos rfl]
        rw [if_pos rfl, e]
        refine ⟨by omega, by omega, ?_⟩
        have e2 : (g + 1).toNat = g.toNat + 1 := by omega
        have e3 : od.take (g.toNat + 1) = od.take g.toNat ++ [n] := by
          have hl : g.toNat < od.length := by omega
          have := Option.some.inj hn
          rw [List.take_add_one, ← this, List.getD_eq_getElem?_getD, List.getElem?_eq_getElem hl]
          rfl
        rw [e2, e3]
        exact (List.perm_middle.trans (List.perm_append_singleton n _).symm).trans (pm.append_right [n])
      · rw [if_neg hg] at hn
        cases hn
    · rw [if_neg ha]
      have hw := w.1.resolve_left ha
      have f := flat_held1 hn ha (by omega)
      exact ⟨kg, kn, (f.append_left _).trans pm⟩
  obtain ⟨k1, k2, k3⟩ := key
  have hl1 := held1_len ss hs a
  unfold nextS
  refine ⟨by show (held2 (held1 ss hs a) b n).length = _; rw [held2_len, hl1]; exact kl, k1, k2, by show 0 ≤ (if b = -2 then o + 1 else o); split <;> omega, ?_⟩
  show (rgI 0 (if b = -2 then o + 1 else o).toNat ++ (held2 (held1 ss hs a) b n).flatten).Perm (od.take (if a = -1 then g + 1 else g).toNat)
  by_cases hc : b = -2
  · subst hc
    have e : held2 (held1 ss hs a) (-2) n = held1 ss hs a := by unfold held2; rw [if_pos rfl]
    rw [e, if_pos rfl, show (o + 1).toNat = o.toNat + 1 by omega, rgI_succ]
    have en : n = o := by
      unfold mayB at hb
      rw [show numLeave ss od g hs (a, (-2 : Int)).1 = some n from hn] at hb
      simpa using hb
    rw [List.append_assoc, show ((o.toNat : Nat) : Int) = n by omega]
    exact k3
  · rw [if_neg hc]
    have hw := w.2.resolve_left hc
    have f := flat_held2 (n := n) (hs := held1 ss hs a) hc (by omega)
    exact (f.append_left _).trans k3
theorem good_all {ss : List Str} {ws : List (Int × Int)} {od : List Int} (hw : ∀ w ∈ ws, WayIn ss.length w) : ∀ (ms : List (Int × Int)) (s : MS), StGood ss od s → ∀ t ∈ goneB ss ws od ms s, StGood ss od t
  | [], s, k, t, ht => by cases ht
  | m :: ms, s, k, t, ht => by
    unfold goneB at ht
    by_cases hm : m ∈ ws
    · rw [if_pos hm] at ht
      cases h : rStp ss od s m with
      | none => rw [h] at ht; cases ht
      | some u =>
        rw [h] at ht
        have ku := good_step k (hw m hm) h
        rcases List.mem_cons.mp ht with e | e
        · rw [e]; exact ku
        · exact good_all hw ms u ku t e
    · rw [if_neg hm] at ht
      cases ht
/-- nothing may be done where all has come out -/
theorem last_stuck {ss : List Str} {od : List Int} {m : Int × Int} : rStp ss od (last0 ss od.length) m = none := by
  cases h : rStp ss od (last0 ss od.length) m with
  | none => rfl
  | some t =>
    obtain ⟨_, n, hn, _⟩ := rStp_some h
    exfalso
    unfold numLeave last0 at hn
    dsimp only at hn
    by_cases ha : m.1 = -1
    · rw [if_pos ha, if_neg (by omega)] at hn
      cases hn
    · rw [if_neg ha, if_pos] at hn
      · cases hn
      · rw [List.getD_eq_getElem?_getD, List.getElem?_replicate]
        split <;> rfl
theorem no_prefix {ss : List Str} {ws ms : List (Int × Int)} {od : List Int} {k : Nat} (h : brings ss ws od ms = true) (hk : k < ms.length) : brings ss ws od (ms.take k) = false := by
  cases hb : brings ss ws od (ms.take k) with
  | false => rfl
  | true =>
    exfalso
    have h1 := of_decide_eq_true h
    have h2 := of_decide_eq_true hb
    have e := rRun_app ss ws od (ms.take k) (ms.drop k) (first0 ss)
    rw [List.take_append_drop, h1, h2] at e
    cases hd : ms.drop k with
    | nil =>
      have := congrArg List.length hd
      rw [List.length_drop] at this
      simp at this
      omega
    | cons m us =>
      rw [hd] at e
      have e : some (last0 ss od.length) = if m ∈ ws then (rStp ss od (last0 ss od.length) m).bind (rRun ss ws od us) else none := e
      rw [last_stuck] at e
      split at e <;> cases e
theorem atI_snoc {α : Type} (ds : List α) (x : α) : atI (ds ++ [x]) (-1) = some x := by
  rw [atI_last (by simp)]
  simp
theorem flat_small {hs : List (List Int)} {n : Nat} (h : hs.flatten.length ≤ n) : ∀ x ∈ hs, x.length ≤ n := fun x hx => by
  induction hs with
  | nil => cases hx
  | cons y ys ih =>
    rw [List.flatten_cons, List.length_append] at h
    rcases List.mem_cons.mp hx with e | e
    · rw [e]; omega
    · exact ih (by omega) e
theorem good_small {ss : List Str} {od : List Int} {s : MS} (k : StGood ss od s) : (∀ h ∈ s.2.1, h.length ≤ od.length) ∧ s.2.2 ≤ od.length := by
  have e := k.2.2.2.2.length_eq
  rw [List.length_append, List.length_take, rgI_len] at e
  have := k.2.2.2.1
  exact ⟨flat_small (by omega), by omega⟩
theorem goneB_no {ss : List Str} {ws ms : List (Int × Int)} {od : List Int} {s : MS} {m : Int × Int} (h : ¬ (m ∈ ws ∧ mayB ss od s.1 s.2.1 s.2.2 m = true)) : goneB ss ws od (m :: ms) s = [] := by
  unfold goneB
  by_cases hm : m ∈ ws
  · rw [if_pos hm]
    unfold rStp
    rw [if_neg (fun z => h ⟨hm, z⟩)]
  · rw [if_neg hm]
theorem goneB_yes {ss : List Str} {ws ms : List (Int × Int)} {od : List Int} {s : MS} {m : Int × Int} {n : Int} (hm : m ∈ ws) (hb : mayB ss od s.1 s.2.1 s.2.2 m = true) (hn : numLeave ss od s.1 s.2.1 m.1 = some n) :
    rStp ss od s m = some (nextS ss s m n) ∧ goneB ss ws od (m :: ms) s = nextS ss s m n :: goneB ss ws od ms (nextS ss s m n) := by
  have e : rStp ss od s m = some (nextS ss s m n) := by
    unfold rStp
    rw [if_pos hb, hn]
    rfl
  refine ⟨e, ?_⟩
  show (match (if m ∈ ws then rStp ss od s m else none) with | some t => t :: goneB ss ws od ms t | none => []) = _
  rw [if_pos hm, e]
section
variable {K : PySem.W.Frag}
/-! sorted(ints), as data -/
def dSortI : DC := fun ts Q => ∃ (t : T) (ns : List Int), ts = [t] ∧ t.elL = some (inD ns) ∧ ∀ us : List Int, us.Perm ns → us.Pairwise (· ≤ ·) → Q (.l (inD us))
theorem oc_sortI : OC K (rSortedI K) dSortI := fun {G H ts vs QD Q} s h ⟨t, ns, e, f, q⟩ p => by
  subst e
  obtain ⟨v, rfl, a⟩ := vrA1 h
  obtain ⟨l, xs, rfl, h1, h2⟩ := elL_of s a f
  have e := ints_dpAll h2
  subst e
  exact ⟨l, ns, rfl, h1, fun us r pm hs hr => p.lst s (dpAll_of_ints us) (q us pm hs) r hr⟩
theorem w_sortI {t : T} {ns : List Int} {Q : T → Prop} (h : t.elL = some (inD ns)) (q : ∀ us : List Int, us.Perm ns → us.Pairwise (· ≤ ·) → Q (.l (inD us))) : dSortI [t] Q := ⟨t, ns, rfl, h, q⟩
end
theorem sortI_unique {xs ys : List Int} (h1 : xs.Pairwise (· ≤ ·)) (h2 : ys.Pairwise (· ≤ ·)) (pm : xs.Perm ys) : xs = ys := List.Perm.eq_of_pairwise (fun a b _ _ h h' => Int.le_antisymm h h') h1 h2 pm
section
variable {K : PySem.W.Frag} {ta tk : TE} {da dk : Env → (T → Env → Prop) → Prop}
/-- xs[k] = e, both such readings -/
def sSetIx (i : Nat) (da dk : Env → (T → Env → Prop) → Prop) : DS := fun DD ρ => IsMine i ρ ∧ da ρ fun t ρ0 => ∃ y, t.fz = .g y ∧ dk ρ0 fun u ρ1 => ∃ w ds k j, ρ1[i]? = some (some w) ∧ w.mine = some ds ∧ u.rd = .int k ∧ ixN ds.length k = some j ∧ DD.nx (ρ1.set i (some (w.with (ds.set j y))))
theorem lsm_setIx {i : Nat} (ha : LM K ta da) (hk : LM K tk dk) : LS K (tAsg ta (gSub (tVar i) tk rSetL)) (sSetIx i da dk) := fun {G0 H0 M DD D ρ σ G H} E x ⟨⟨t0, ds0, e0, m0⟩, q⟩ => by
  obtain ⟨a, vs, f, h1, _⟩ := mine_at (G1 := G) (H1 := H) x e0 m0
  refine ha x q fun t v ρ0 G1 H1 ⟨y, ey, qt⟩ g1 x1 s1 n1 v1 f1 => ?_
  obtain ⟨G2, g2, x2, v2, n2⟩ := fz_after x x1 s1 n1 v1 f1
  rw [ey] at v2
  refine ⟨_, f, hk x2 qt fun u w ρ1 G3 H3 ⟨w', ds, k, j, e, m, e1, e2, q⟩ g3 x3 s3 n3 v3 f3 => ?_⟩
  obtain ⟨a', ws, ea, h2, h3⟩ := slot_ref x3 e m f
  cases ea
  exact ⟨a, ws, k, j, rfl, vr_int x3.gh v3 e1, h2, by rw [dpAll_len h3]; exact e2, E.nx _ _ _ _ (x3.mut e f m (dpAll_set (dp_same g3 v2) j h3)) q⟩
theorem w_sSetIx {ρ : Env} {i : Nat} {ds : List PyData} {DD : DE} (h : ρ[i]? = some (some (.l ds))) (q : da ρ fun t ρ0 => ∃ y, t.fz = .g y ∧ dk ρ0 fun u ρ1 => ∃ w ds k j, ρ1[i]? = some (some w) ∧ w.mine = some ds ∧ u.rd = .int k ∧ ixN ds.length k = some j ∧ DD.nx (ρ1.set i (some (w.with (ds.set j y))))) : sSetIx i da dk DD ρ := ⟨⟨_, _, h, rfl⟩, q⟩
end
theorem cut_uptoW (ms : List (Int × Int)) (k : Nat) : cutD (wsD ms) none (some (k : Int)) = wsD (ms.take k) := by
  unfold cutD wsD
  rw [HT.sIx_nat]
  show (List.drop 0 (ms.map wyD)).take (min k (ms.map wyD).length - 0) = _
  rw [List.drop_zero, List.map_take, List.length_map, Nat.sub_zero]
  rw [show min k ms.length = min k (ms.map wyD).length by rw [List.length_map], ← List.take_eq_take_min]
theorem fm_no : ∀ xs : List PyData, xs.filterMap (fun _ => (none : Option PyData)) = []
  | [] => rfl
  | _ :: xs => fm_no xs
/-- whether a doing brings out, from its standings -/
theorem gone_brings {ss : List Str} {ws : List (Int × Int)} {od : List Int} {ms : List (Int × Int)} : ∃ (us : List MS) (s : MS), goneS ss ws od ms = us ++ [s] ∧ (brings ss ws od ms = (decide ((goneS ss ws od ms).length = ms.length + 1) && decide (s = last0 ss od.length))) := by
  have hne : goneS ss ws od ms ≠ [] := by unfold goneS; simp
  refine ⟨(goneS ss ws od ms).dropLast, (goneS ss ws od ms).getLast hne, (List.dropLast_concat_getLast hne).symm, ?_⟩
  have h := goneB_run (ss := ss) (ws := ws) (od := od) ms (first0 ss) (last0 ss od.length)
  have e : (first0 ss :: goneB ss ws od ms (first0 ss)).getLast? = some ((goneS ss ws od ms).getLast hne) := List.getLast?_eq_some_getLast hne
  rw [e] at h
  unfold brings
  rw [Bool.eq_iff_iff, decide_eq_true_iff, Bool.and_eq_true, decide_eq_true_iff, decide_eq_true_iff, h]
  have hl : (goneS ss ws od ms).length = (goneB ss ws od ms (first0 ss)).length + 1 := rfl
  constructor
  · rintro ⟨a, b⟩
    exact ⟨by omega, Option.some.inj b⟩
  · rintro ⟨a, b⟩
    exact ⟨by omega, by rw [b]⟩
end Dv

set_option Elab.async false
set_option linter.all false
set_option maxRecDepth 100000
set_option maxHeartbeats 4000000
namespace Dv
open PySem PySem.Spec PyProof.Rows L2 Px
/-! ### stations renamed: station k is called os[k] -/
def renI (os : List Int) (a : Int) : Int := if 0 ≤ a then os.getD a.toNat 0 else a
def renW (os : List Int) (w : Int × Int) : Int × Int := (renI os w.1, renI os w.2)
/-- os holds each number below m once -/
def Ren (m : Nat) (os : List Int) : Prop := os.Perm (rgI 0 m)
theorem Ren.len {m : Nat} {os : List Int} (h : Ren m os) : os.length = m := by rw [List.Perm.length_eq h, rgI_len]
theorem Ren.nd {m : Nat} {os : List Int} (h : Ren m os) : os.Nodup := (List.Perm.nodup_iff h).mpr ((rise_rgI 0 m).imp fun z => by omega)
theorem Ren.mem {m : Nat} {os : List Int} (h : Ren m os) {x : Int} : x ∈ os ↔ 0 ≤ x ∧ x < m := by
  rw [List.Perm.mem_iff h, mem_rgI]
  omega
theorem Ren.at_ {m : Nat} {os : List Int} (h : Ren m os) {a : Int} (h0 : 0 ≤ a) (h1 : a < m) : 0 ≤ os.getD a.toNat 0 ∧ os.getD a.toNat 0 < m := by
  have hl := h.len
  rw [← h.mem, List.getD_eq_getElem?_getD, List.getElem?_eq_getElem (by omega)]
  exact List.getElem_mem _
theorem Ren.inj {m : Nat} {os : List Int} (h : Ren m os) {a b : Int} (h0 : 0 ≤ a) (h1 : a < m) (h2 : 0 ≤ b) (h3 : b < m) (e : os.getD a.toNat 0 = os.getD b.toNat 0) : a = b := by
  have hl := h.len
  rw [List.getD_eq_getElem?_getD, List.getD_eq_getElem?_getD, List.getElem?_eq_getElem (by omega), List.getElem?_eq_getElem (by omega)] at e
  have := (List.getElem_inj h.nd).mp e
  omega
theorem Ren.way {m : Nat} {os : List Int} (h : Ren m os) {w : Int × Int} (hw : WayIn m w) : WayIn m (renW os w) := by
  obtain ⟨a, b⟩ := w
  unfold renW renI
  refine ⟨?_, ?_⟩
  · rcases hw.1 with e | ⟨e1, e2⟩
    · left; show (if 0 ≤ a then _ else a) = -1; have e : a = -1 := e; rw [if_neg (by omega)]; exact e
    · right; show 0 ≤ (if 0 ≤ a then _ else a) ∧ (if 0 ≤ a then _ else a) < _; have e1 : 0 ≤ a := e1; rw [if_pos e1]; exact h.at_ e1 e2
  · rcases hw.2 with e | ⟨e1, e2⟩
    · left; show (if 0 ≤ b then _ else b) = -2; have e : b = -2 := e; rw [if_neg (by omega)]; exact e
    · right; show 0 ≤ (if 0 ≤ b then _ else b) ∧ (if 0 ≤ b then _ else b) < _; have e1 : 0 ≤ b := e1; rw [if_pos e1]; exact h.at_ e1 e2
/-- what stood at k stands at os[k] -/
def renL {α : Type} (d : α) (os : List Int) (xs : List α) : List α := (List.range os.length).map fun (k : Nat) => xs.getD (os.idxOf (k : Int)) d
theorem renL_len {α : Type} (d : α) (os : List Int) (xs : List α) : (renL d os xs).length = os.length := by unfold renL; simp
theorem idx_at {os : List Int} (nd : os.Nodup) {a : Nat} (h : a < os.length) : os.idxOf (os.getD a 0) = a := by
  have e := outs_idx nd
  have e2 : (os.map fun t => os.idxOf t)[a]? = (List.range os.length)[a]? := by rw [e]
  rw [List.getElem?_map, List.getElem?_eq_getElem h, List.getElem?_eq_getElem (by simpa using h)] at e2
  rw [List.getD_eq_getElem?_getD, List.getElem?_eq_getElem h]
  simpa using e2
theorem at_idx {os : List Int} {k : Int} (h : k ∈ os) : os.getD (os.idxOf k) 0 = k := by
  have := List.idxOf_lt_length_iff.mpr h
  rw [List.getD_eq_getElem?_getD, (idx_first h).1]
  rfl
theorem renL_at {α : Type} {d : α} {m : Nat} {os : List Int} {xs : List α} (h : Ren m os) {a : Int} (h0 : 0 ≤ a) (h1 : a < m) : (renL d os xs).getD (os.getD a.toNat 0).toNat d = xs.getD a.toNat d := by
  have hl := h.len
  obtain ⟨b0, b1⟩ := h.at_ h0 h1
  unfold renL
  rw [List.getD_eq_getElem?_getD, List.getElem?_map, List.getElem?_eq_getElem (by rw [List.length_range]; omega)]
  show xs.getD (os.idxOf (((List.range os.length)[(os.getD a.toNat 0).toNat]'_ : Nat) : Int)) d = _
  rw [List.getElem_range, show (((os.getD a.toNat 0).toNat : Nat) : Int) = os.getD a.toNat 0 by omega, idx_at h.nd (by omega)]
theorem renL_get {α : Type} {d : α} {os : List Int} {xs : List α} {k : Nat} (h : k < (renL d os xs).length) : (renL d os xs)[k] = xs.getD (os.idxOf (k : Int)) d := by
  unfold renL
  simp
theorem getD_set2 {α : Type} (d : α) (xs : List α) (i k : Nat) (x : α) : (xs.set i x).getD k d = if i = k ∧ i < xs.length then x else xs.getD k d := by
  rw [List.getD_eq_getElem?_getD, List.getD_eq_getElem?_getD, List.getElem?_set]
  by_cases h : i = k
  · subst h
    by_cases h2 : i < xs.length
    · rw [if_pos rfl, if_pos h2, if_pos ⟨rfl, h2⟩]; rfl
    · rw [if_pos rfl, if_neg h2, if_neg (fun z => h2 z.2), List.getElem?_eq_none (by omega)]
  · rw [if_neg h, if_neg (fun z => h z.1)]
theorem renL_set {α : Type} {d : α} {m : Nat} {os : List Int} {xs : List α} {y : α} (h : Ren m os) (hx : xs.length = m) {a : Int} (h0 : 0 ≤ a) (h1 : a < m) : (renL d os xs).set (os.getD a.toNat 0).toNat y = renL d os (xs.set a.toNat y) := by
  have hl := h.len
  obtain ⟨b0, b1⟩ := h.at_ h0 h1
  refine List.ext_getElem (by rw [List.length_set, renL_len, renL_len]) fun k k1 k2 => ?_
  rw [renL_len] at k2
  have hk : ((k : Nat) : Int) ∈ os := h.mem.mpr ⟨by omega, by omega⟩
  rw [List.getElem_set, renL_get, renL_get, getD_set2]
  by_cases c : (os.getD a.toNat 0).toNat = k
  · have e : os.getD a.toNat 0 = (k : Int) := by omega
    have e2 : os.idxOf (k : Int) = a.toNat := by rw [← e]; exact idx_at h.nd (by omega)
    rw [if_pos c, if_pos ⟨e2.symm, by omega⟩]
  · rw [if_neg c, if_neg]
    rintro ⟨e, _⟩
    have e2 := at_idx hk
    rw [← e] at e2
    omega
theorem numLeave_ren {m : Nat} {os : List Int} {ss : List Str} {od : List Int} {g : Int} {hs : List (List Int)} {a : Int} (h : Ren m os) (ha : a = -1 ∨ (0 ≤ a ∧ a < m)) : numLeave (renL "line" os ss) od g (renL [] os hs) (renI os a) = numLeave ss od g hs a := by
  unfold renI
  rcases ha with rfl | ⟨h0, h1⟩
  · rfl
  · rw [if_pos h0]
    obtain ⟨b0, b1⟩ := h.at_ h0 h1
    unfold numLeave
    rw [renL_at h h0 h1, renL_at h h0 h1, if_neg (show ¬ os.getD a.toNat 0 = -1 by omega), if_neg (show ¬ a = -1 by omega)]
theorem held1_ren {m : Nat} {os : List Int} {ss : List Str} {hs : List (List Int)} {a : Int} (h : Ren m os) (hl : hs.length = m) (ha : a = -1 ∨ (0 ≤ a ∧ a < m)) : held1 (renL "line" os ss) (renL [] os hs) (renI os a) = renL [] os (held1 ss hs a) := by
  unfold renI
  rcases ha with rfl | ⟨h0, h1⟩
  · rfl
  · rw [if_pos h0]
    obtain ⟨b0, b1⟩ := h.at_ h0 h1
    unfold held1
    rw [if_neg (show ¬ os.getD a.toNat 0 = -1 by omega), if_neg (show ¬ a = -1 by omega), renL_at h h0 h1, renL_at h h0 h1, renL_set h hl h0 h1]
theorem held2_ren {m : Nat} {os : List Int} {hs : List (List Int)} {b n : Int} (h : Ren m os) (hl : hs.length = m) (hb : b = -2 ∨ (0 ≤ b ∧ b < m)) : held2 (renL [] os hs) (renI os b) n = renL [] os (held2 hs b n) := by
  unfold renI
  rcases hb with rfl | ⟨h0, h1⟩
  · rfl
  · rw [if_pos h0]
    obtain ⟨b0, b1⟩ := h.at_ h0 h1
    unfold held2
    rw [if_neg (show ¬ os.getD b.toNat 0 = -2 by omega), if_neg (show ¬ b = -2 by omega), renL_at h h0 h1, renL_set h hl h0 h1]
theorem renI_out {m : Nat} {os : List Int} {b : Int} (h : Ren m os) (hb : b = -2 ∨ (0 ≤ b ∧ b < m)) : renI os b = -2 ↔ b = -2 := by
  unfold renI
  rcases hb with rfl | ⟨h0, h1⟩
  · rw [if_neg (by omega)]
  · rw [if_pos h0]
    have := h.at_ h0 h1
    omega
theorem renI_in {m : Nat} {os : List Int} {a : Int} (h : Ren m os) (ha : a = -1 ∨ (0 ≤ a ∧ a < m)) : renI os a = -1 ↔ a = -1 := by
  unfold renI
  rcases ha with rfl | ⟨h0, h1⟩
  · rw [if_neg (by omega)]
  · rw [if_pos h0]
    have := h.at_ h0 h1
    omega
theorem mayB_ren {m : Nat} {os : List Int} {ss : List Str} {od : List Int} {g : Int} {hs : List (List Int)} {o : Int} {w : Int × Int} (h : Ren m os) (hw : WayIn m w) : mayB (renL "line" os ss) od g (renL [] os hs) o (renW os w) = mayB ss od g hs o w := by
  unfold mayB
  rw [show (renW os w).1 = renI os w.1 from rfl, show (renW os w).2 = renI os w.2 from rfl, numLeave_ren h hw.1]
  cases numLeave ss od g hs w.1 with
  | none => rfl
  | some n =>
    show (decide (renI os w.2 ≠ -2) || decide (n = o)) = (decide (w.2 ≠ -2) || decide (n = o))
    rw [decide_eq_decide.mpr (not_congr (renI_out h hw.2))]
def renMS (os : List Int) (s : MS) : MS := (s.1, renL [] os s.2.1, s.2.2)
theorem nextS_ren {m : Nat} {os : List Int} {ss : List Str} {s : MS} {w : Int × Int} {n : Int} (h : Ren m os) (hl : s.2.1.length = m) (hw : WayIn m w) : nextS (renL "line" os ss) (renMS os s) (renW os w) n = renMS os (nextS ss s w n) := by
  unfold nextS renMS
  rw [show (renW os w).1 = renI os w.1 from rfl, show (renW os w).2 = renI os w.2 from rfl]
  rw [held1_ren h hl hw.1, held2_ren h (by rw [held1_len]; exact hl) hw.2]
  by_cases c1 : w.1 = -1
  · rw [if_pos c1, if_pos ((renI_in h hw.1).mpr c1)]
    by_cases c2 : w.2 = -2
    · rw [if_pos c2, if_pos ((renI_out h hw.2).mpr c2)]
    · rw [if_neg c2, if_neg (fun z => c2 ((renI_out h hw.2).mp z))]
  · rw [if_neg c1, if_neg (fun z => c1 ((renI_in h hw.1).mp z))]
    by_cases c2 : w.2 = -2
    · rw [if_pos c2, if_pos ((renI_out h hw.2).mpr c2)]
    · rw [if_neg c2, if_neg (fun z => c2 ((renI_out h hw.2).mp z))]
theorem rStp_ren {m : Nat} {os : List Int} {ss : List Str} {od : List Int} {s : MS} {w : Int × Int} (h : Ren m os) (hl : s.2.1.length = m) (hw : WayIn m w) : rStp (renL "line" os ss) od (renMS os s) (renW os w) = (rStp ss od s w).map (renMS os) := by
  unfold rStp
  rw [show mayB (renL "line" os ss) od (renMS os s).1 (renMS os s).2.1 (renMS os s).2.2 (renW os w) = mayB ss od s.1 s.2.1 s.2.2 w from mayB_ren h hw]
  by_cases hb : mayB ss od s.1 s.2.1 s.2.2 w = true
  · rw [if_pos hb, if_pos hb, show numLeave (renL "line" os ss) od (renMS os s).1 (renMS os s).2.1 (renW os w).1 = numLeave ss od s.1 s.2.1 w.1 from numLeave_ren h hw.1]
    cases numLeave ss od s.1 s.2.1 w.1 with
    | none => rfl
    | some n =>
      show some (nextS (renL "line" os ss) (renMS os s) (renW os w) n) = some (renMS os (nextS ss s w n))
      rw [nextS_ren h hl hw]
  · rw [if_neg hb, if_neg hb]
    rfl
theorem rStp_len {ss : List Str} {od : List Int} {s t : MS} {w : Int × Int} (h : rStp ss od s w = some t) : t.2.1.length = s.2.1.length := by
  obtain ⟨_, n, _, rfl⟩ := rStp_some h
  show (held2 (held1 ss s.2.1 w.1) w.2 n).length = _
  rw [held2_len, held1_len]
theorem rRun_ren {m : Nat} {os : List Int} {ss : List Str} {ws ws' : List (Int × Int)} {od : List Int} (h : Ren m os) (hw : ∀ w ∈ ws, WayIn m w) (hw' : ∀ w ∈ ws, renW os w ∈ ws') : ∀ (ms : List (Int × Int)) (s : MS), s.2.1.length = m → (∀ w ∈ ms, w ∈ ws) →
    rRun (renL "line" os ss) ws' od (ms.map (renW os)) (renMS os s) = (rRun ss ws od ms s).map (renMS os)
  | [], s, _, _ => rfl
  | w :: ms, s, hl, hm => by
    have hin := hm w (by simp)
    show (if renW os w ∈ ws' then (rStp (renL "line" os ss) od (renMS os s) (renW os w)).bind (rRun (renL "line" os ss) ws' od (ms.map (renW os))) else none) = (if w ∈ ws then (rStp ss od s w).bind (rRun ss ws od ms) else none).map (renMS os)
    rw [if_pos (hw' w hin), if_pos hin, rStp_ren h hl (hw w hin)]
    cases e : rStp ss od s w with
    | none => rfl
    | some t => exact rRun_ren h hw hw' ms t (by rw [rStp_len e]; exact hl) fun z hz => hm z (List.mem_cons_of_mem _ hz)
theorem renL_rep {α : Type} (d : α) (os : List Int) (n : Nat) (hn : os.length = n) : renL d os (List.replicate n d) = List.replicate n d := by
  refine List.ext_getElem (by rw [renL_len, List.length_replicate]; exact hn) fun k k1 k2 => ?_
  rw [renL_get, List.getElem_replicate, List.getD_eq_getElem?_getD, List.getElem?_replicate]
  split <;> rfl
theorem renL_inj {α : Type} {d : α} {m : Nat} {os : List Int} {xs ys : List α} (h : Ren m os) (hx : xs.length = m) (hy : ys.length = m) (e : renL d os xs = renL d os ys) : xs = ys := by
  refine List.ext_getElem (by omega) fun k k1 k2 => ?_
  have a := renL_at (d := d) (xs := xs) h (a := (k : Int)) (by omega) (by omega)
  have b := renL_at (d := d) (xs := ys) h (a := (k : Int)) (by omega) (by omega)
  rw [e, b] at a
  rw [Int.toNat_natCast, List.getD_eq_getElem?_getD, List.getD_eq_getElem?_getD, List.getElem?_eq_getElem k1, List.getElem?_eq_getElem k2] at a
  exact a.symm
theorem rRun_len {ss : List Str} {ws : List (Int × Int)} {od : List Int} : ∀ {ms : List (Int × Int)} {s t : MS}, rRun ss ws od ms s = some t → t.2.1.length = s.2.1.length
  | [], s, t, h => by cases h; rfl
  | w :: ms, s, t, h => by
    have h : (if w ∈ ws then (rStp ss od s w).bind (rRun ss ws od ms) else none) = some t := h
    by_cases hm : w ∈ ws
    · rw [if_pos hm] at h
      cases e : rStp ss od s w with
      | none => rw [e] at h; cases h
      | some u =>
        rw [e] at h
        rw [rRun_len (show rRun ss ws od ms u = some t from h), rStp_len e]
    · rw [if_neg hm] at h
      cases h
/-- a doing brings the same rows out of the net renamed -/
theorem brings_ren {os : List Int} {ss : List Str} {ws ws' ms : List (Int × Int)} {od : List Int} (h : Ren ss.length os) (hw : ∀ w ∈ ws, WayIn ss.length w) (hw' : ∀ w ∈ ws, renW os w ∈ ws') (hm : ∀ w ∈ ms, w ∈ ws) :
    brings (renL "line" os ss) ws' od (ms.map (renW os)) = brings ss ws od ms := by
  have hl := h.len
  unfold brings
  have e0 : first0 (renL "line" os ss) = renMS os (first0 ss) := by
    unfold first0 renMS
    rw [renL_len, hl, renL_rep [] os _ hl]
  have e1 : last0 (renL "line" os ss) od.length = renMS os (last0 ss od.length) := by
    unfold last0 renMS
    rw [renL_len, hl, renL_rep [] os _ hl]
  rw [e0, e1, rRun_ren h hw hw' ms (first0 ss) (by unfold first0; simp) hm]
  apply decide_eq_decide.mpr
  cases e : rRun ss ws od ms (first0 ss) with
  | none => simp
  | some t =>
    have tl := rRun_len e
    constructor
    · intro z
      have z := Option.some.inj (show some (renMS os t) = some (renMS os (last0 ss od.length)) from z)
      unfold renMS at z
      have z1 := (Prod.mk.inj z).1
      have z2 := (Prod.mk.inj (Prod.mk.inj z).2).1
      have z3 := (Prod.mk.inj (Prod.mk.inj z).2).2
      have z4 := renL_inj h (by rw [tl]; unfold first0; simp) (by unfold last0; simp) z2
      exact congrArg some (Prod.ext z1 (Prod.ext z4 z3))
    · intro z
      rw [z]
      rfl
/-! ### a drawn net's ways, whole -/
def KindW (m : Nat) (os : List Int) (w : Int × Int) : Prop := (∃ a b : Nat, a < b ∧ b < m ∧ w = (os.getD a 0, os.getD b 0)) ∨ (∃ k : Nat, k < m ∧ w = (-1, (k : Int))) ∨ (∃ k : Nat, k < m ∧ w = ((k : Int), -2)) ∨ w = (-1, -2)
theorem Ren.atN {m : Nat} {os : List Int} (h : Ren m os) {a : Nat} (h1 : a < m) : 0 ≤ os.getD a 0 ∧ os.getD a 0 < m := by
  have := h.at_ (a := (a : Int)) (by omega) (by omega)
  rwa [Int.toNat_natCast] at this
theorem Ren.injN {m : Nat} {os : List Int} (h : Ren m os) {a b : Nat} (h1 : a < m) (h3 : b < m) (e : os.getD a 0 = os.getD b 0) : a = b := by
  have := h.inj (a := (a : Int)) (b := (b : Int)) (by omega) (by omega) (by omega) (by omega) (by rw [Int.toNat_natCast, Int.toNat_natCast]; exact e)
  omega
theorem kind_in {m : Nat} {os : List Int} {w : Int × Int} (h : Ren m os) (k : KindW m os w) : WayIn m w := by
  rcases k with ⟨a, b, h1, h2, rfl⟩ | ⟨k, hk, rfl⟩ | ⟨k, hk, rfl⟩ | rfl
  · exact ⟨.inr (h.atN (by omega)), .inr (h.atN h2)⟩
  · exact ⟨.inl rfl, .inr ⟨by show 0 ≤ ((k : Nat) : Int); omega, by show ((k : Nat) : Int) < _; omega⟩⟩
  · exact ⟨.inr ⟨by show 0 ≤ ((k : Nat) : Int); omega, by show ((k : Nat) : Int) < _; omega⟩, .inl rfl⟩
  · exact ⟨.inl rfl, .inl rfl⟩
theorem kind_acyc {m : Nat} {os : List Int} {ws : List (Int × Int)} (h : Ren m os) (k : ∀ w ∈ ws, KindW m os w) : Acyc ws := by
  have hl := h.len
  refine ⟨fun v => os.idxOf v, fun w hw hi => ?_⟩
  unfold inner at hi
  simp only [Bool.and_eq_true, Bool.not_eq_true', decide_eq_false_iff_not] at hi
  rcases k w hw with ⟨a, b, h1, h2, rfl⟩ | ⟨k, hk, rfl⟩ | ⟨k, hk, rfl⟩ | rfl
  · show os.idxOf (os.getD a 0) < os.idxOf (os.getD b 0)
    rw [idx_at h.nd (by omega), idx_at h.nd (by omega)]
    exact h1
  · exact absurd rfl hi.1
  · exact absurd rfl hi.2
  · exact absurd rfl hi.1
theorem nd_app {ws us : List (Int × Int)} (h1 : ws.Nodup) (h2 : us.Nodup) (h : ∀ w ∈ ws, ∀ u ∈ us, w ≠ u) : (ws ++ us).Nodup := List.nodup_append.mpr ⟨h1, h2, h⟩
theorem nd_one {us : List (Int × Int)} {u : Int × Int} (h1 : us.Nodup) (h : ∀ w ∈ us, w ≠ u) : (us ++ [u]).Nodup := nd_app h1 (by simp) fun w hw v hv => by rw [List.mem_singleton.mp hv]; exact h w hw
theorem Ren.ins {i : Nat} {os : List Int} (h : Ren i os) (k : Nat) : Ren (i + 1) (os.take k ++ [(i : Int)] ++ os.drop k) := by
  unfold Ren at h ⊢
  rw [rgI_succ]
  have e : (os.take k ++ [(i : Int)] ++ os.drop k).Perm ([(i : Int)] ++ os) := by
    rw [List.append_assoc]
    refine List.perm_append_comm_assoc _ _ _ |>.trans ?_
    rw [List.take_append_drop]
  exact (e.trans List.perm_append_comm).trans (h.append_right _)
end Dv

set_option Elab.async false
set_option linter.all false
set_option maxRecDepth 100000
set_option maxHeartbeats 4000000
/-! Tuples whose lists are one's own (t[k].m(..)); xs.pop(k) as an expression; clear, reverse; sum. -/
namespace Dv
open PySem PySem.Spec PyProof.Rows L2 Px
theorem era_perm {α : Type} {xs : List α} {k : Nat} (h : k < xs.length) : (xs[k] :: xs.eraseIdx k).Perm xs := by
  rw [List.eraseIdx_eq_take_drop_succ]
  refine List.perm_middle.symm.trans ?_
  rw [List.getElem_cons_drop h, List.take_append_drop]
theorem era_map {α β : Type} (f : α → β) (xs : List α) (k : Nat) : (xs.map f).eraseIdx k = (xs.eraseIdx k).map f := by
  rw [List.eraseIdx_eq_take_drop_succ, List.eraseIdx_eq_take_drop_succ, List.map_append, List.map_take, List.map_drop]
theorem rep01 {x : PyData} {c : Bool} : (List.replicate (if c = true then (1 : Int) else 0).toNat [x]).flatten = if c = true then [x] else [] := by
  cases c <;> rfl
theorem w_rep01 {x : PyData} {c : Bool} {Q : T → Prop} (q : Q (.l (if c = true then [x] else []))) : dRep (.l [x]) (.g (.int (if c = true then 1 else 0))) Q := by
  refine ⟨[x], _, rfl, rfl, ?_, ?_, ?_, by rw [rep01]; exact q⟩ <;> cases c <;> simp
theorem enI_get {es : List Int} {i : Nat} {x : PyData} (h : (enD (inD es))[i]? = some x) : i < es.length ∧ x = .tuple [.int (i : Nat), .int (es.getD i 0)] := by
  unfold enD inD at h
  rw [List.getElem?_map] at h
  cases e : ((es.map PyData.int).zipIdx)[i]? with
  | none => rw [e] at h; cases h
  | some p =>
    rw [e] at h
    rw [List.getElem?_zipIdx, List.getElem?_map] at e
    cases e2 : es[i]? with
    | none => rw [e2] at e; cases e
    | some c =>
      rw [e2] at e
      cases (Option.some.inj e)
      have := (Option.some.inj h)
      rw [← this, List.getD_eq_getElem?_getD, e2]
      exact ⟨lt_of_at e2, by simp⟩
theorem opt_ws {c : Bool} {a b : Int} : (if c = true then [PyData.tuple [.int a, .int b]] else []) = wsD (if c = true then [(a, b)] else []) := by
  cases c <;> rfl
theorem w_repW {c : Bool} {a b : Int} {Q : T → Prop} (q : ∀ wa : List (Int × Int), wa.length ≤ 1 → (∀ w ∈ wa, w = (a, b)) → wa.Nodup → Q (.l (wsD wa))) : dRep (.l [.tuple [.int a, .int b]]) (.g (.int (if c = true then 1 else 0))) Q := by
  refine w_rep01 ?_
  rw [opt_ws]
  cases c
  · exact q [] (by simp) (by simp) (by simp)
  · exact q [(a, b)] (by simp) (by simp) (by simp)
section
variable {K : PySem.W.Frag} {G0 H0 G H G' H' : Hp} {M : Addr → Prop} {ρ : Env} {σ : L2.St}
/-- the k-th item is a list of one's own: where it stands -/
theorem wv_at {es : List PyData} : ∀ {vs : List V} {us : List TI1} {as : List Addr} {k : Nat} {ds : List PyData}, Wv vs us as → us[k]? = some (.ow ds) →
    ∃ (j : Nat) (b : Addr), as[j]? = some b ∧ vs[k]? = some (.ref b) ∧ (ows us)[j]? = some ds ∧ Wv vs (us.set k (.ow es)) as ∧ ows (us.set k (.ow es)) = (ows us).set j es
  | [], [], _, _, _, _, h => by simp at h
  | _ :: vs, .fr x :: us, as, 0, ds, w, h => by simp at h
  | _ :: vs, .fr x :: us, as, k + 1, ds, w, h => by
    obtain ⟨j, b, h1, h2, h3, h4, h5⟩ := wv_at (vs := vs) (us := us) (k := k) w (by simpa using h)
    exact ⟨j, b, h1, by simpa using h2, h3, h4, h5⟩
  | v :: vs, .ow x :: us, a :: as, 0, ds, w, h => by
    have e : x = ds := by simpa using h
    subst e
    exact ⟨0, a, rfl, by rw [← w.1]; rfl, rfl, w, rfl⟩
  | v :: vs, .ow x :: us, a :: as, k + 1, ds, w, h => by
    obtain ⟨j, b, h1, h2, h3, h4, h5⟩ := wv_at (vs := vs) (us := us) (k := k) w.2 (by simpa using h)
    exact ⟨j + 1, b, by simpa using h1, by simpa using h2, by simpa using h3, ⟨w.1, h4⟩, by
      show x :: ows (us.set k (.ow es)) = _
      rw [h5]
      rfl⟩
  | [], _ :: _, _, _, _, w, _ => by cases ‹TI1› <;> exact w.elim
  | _ :: _, [], _, _, _, w, _ => w.elim
  | _ :: _, .ow _ :: _, [], _, _, w, _ => w.elim
theorem frs_set {es : List PyData} : ∀ {vs : List V} {us : List TI1} {k : Nat} {ds : List PyData}, us[k]? = some (.ow ds) → Frs K G vs us → Frs K G vs (us.set k (.ow es))
  | [], [], _, _, h, _ => by simp at h
  | _ :: vs, .fr x :: us, 0, ds, h, f => by simp at h
  | _ :: vs, .fr x :: us, k + 1, ds, h, f => ⟨f.1, frs_set (vs := vs) (us := us) (k := k) (by simpa using h) f.2⟩
  | _ :: vs, .ow x :: us, 0, ds, h, f => f
  | _ :: vs, .ow x :: us, k + 1, ds, h, f => frs_set (vs := vs) (us := us) (k := k) (by simpa using h) f
  | [], _ :: _, _, _, _, f => by cases ‹TI1› <;> exact f.elim
  | _ :: _, [], _, _, _, f => f.elim
theorem Iv.mutTT (x : Iv K G0 H0 M ρ σ G H) {i k : Nat} {a b : Addr} {vs : List V} {us : List TI1} {ds es : List PyData} {ws : List V} (e : ρ[i]? = some (some (.tt us))) (f : σ[i]? = some (some (.ref a))) (ha : H a = some (.tup vs)) (hu : us[k]? = some (.ow ds)) (hv : vs[k]? = some (.ref b)) (d : DpAll K G ws es) :
    Iv K G0 H0 M (ρ.set i (some (.tt (us.set k (.ow es))))) σ G (upd H b (.lst ws)) := by
  obtain ⟨a', vs', as, ea, h1, h2, h3, h4, h5, h6⟩ := x.vr e f
  cases ea
  rw [ha] at h1
  cases HO.tup.inj (Option.some.inj h1)
  obtain ⟨j, b', hk, hv', ho, hw', he'⟩ := wv_at (es := es) h4 hu
  rw [hv] at hv'
  cases V.ref.inj (Option.some.inj hv')
  have hbm := List.mem_of_getElem? hk
  have nab : a ≠ b := fun z => (List.nodup_cons.mp h3).1 (z ▸ hbm)
  have fpb : Fp H (.tt us) (.ref a) b := ⟨a, vs, as, rfl, ha, h4, .inr hbm⟩
  obtain ⟨hb0, gb⟩ := Fp.there (x.vr e f) fpb
  have others : ∀ {j : Nat} {u : T} {w : V}, j ≠ i → ρ[j]? = some (some u) → σ[j]? = some (some w) → ¬ Fp H u w b := fun {j u w} nj e1 e2 p => nj (x.dj j i u _ w _ b e1 e e2 f p fpb)
  have ob : H0 b = none := x.own i _ _ b e f fpb
  have vr' : Vr K G (upd H b (.lst ws)) (.tt (us.set k (.ow es))) (.ref a) := ⟨a, vs, as, rfl, by rw [upd_ne nab]; exact ha, h2, h3, hw', frs_set hu h5, by rw [he']; exact rows_set d (List.nodup_cons.mp h3).2 hk gb h6⟩
  have fp' : ∀ c, Fp (upd H b (.lst ws)) (.tt (us.set k (.ow es))) (.ref a) c → Fp H (.tt us) (.ref a) c := fun c ⟨a1, vs1, as1, e1, e2, e3, e4⟩ => by
    cases e1
    rw [upd_ne nab, ha] at e2
    cases HO.tup.inj (Option.some.inj e2)
    cases wv_uniq hw' e3
    exact ⟨a, vs, as, rfl, ha, h4, e4⟩
  refine ⟨fun c o ec => ?_, x.g0, x.gf, fun c o nm ec => ?_, fun c mc => ?_, by rw [List.length_set, x.len], kdset x.kd (fun z => (Option.some.inj z) ▸ rfl), fun j u e1 => ?_, fun j u w c e1 e2 p => ?_, fun j j' u u' w w' c e1 e2 e3 e4 p1 p2 => ?_⟩
  · rw [upd_ne (ne_of_none ec gb)]
    exact x.gh _ _ ec
  · rw [upd_ne (ne_of_none ec ob)]
    exact x.up c o nm ec
  · by_cases z : c = b
    · rw [z, upd_same]
      exact fun z => nomatch z
    · rw [upd_ne z]
      exact x.mh c mc
  · rcases set_at e1 with ⟨rfl, _, d1⟩ | ⟨ne, d1⟩
    · cases (Option.some.inj d1)
      exact ⟨_, f, vr'⟩
    · obtain ⟨w, w1, w2⟩ := x.sl j u d1
      exact ⟨w, w1, w2.mut (x.kd _ _ d1) (others ne d1 w1) gb⟩
  · rcases set_at e1 with ⟨rfl, _, d1⟩ | ⟨ne, d1⟩
    · cases (Option.some.inj d1)
      rw [f] at e2
      cases (Option.some.inj (Option.some.inj e2))
      have := x.own _ (.tt us) _ c e f (fp' c p)
      exact this
    · exact x.own j u w c d1 e2 (Fp.mut (x.vr d1 e2) (others ne d1 e2) p)
  · rcases set_at e1 with ⟨rfl, _, d1⟩ | ⟨ne, d1⟩
    · cases (Option.some.inj d1)
      rw [f] at e3
      cases (Option.some.inj (Option.some.inj e3))
      rcases set_at e2 with ⟨rfl, _, _⟩ | ⟨ne2, d2⟩
      · rfl
      · exact x.dj _ _ _ _ _ _ c e d2 f e4 (fp' c p1) (Fp.mut (x.vr d2 e4) (others ne2 d2 e4) p2)
    · rcases set_at e2 with ⟨rfl, _, d2⟩ | ⟨ne2, d2⟩
      · cases (Option.some.inj d2)
        rw [f] at e4
        cases (Option.some.inj (Option.some.inj e4))
        exact x.dj _ _ _ _ _ _ c d1 e e3 f (Fp.mut (x.vr d1 e3) (others ne d1 e3) p1) (fp' c p2)
      · exact x.dj j j' u u' w w' c d1 d2 e3 e4 (Fp.mut (x.vr d1 e3) (others ne d1 e3) p1) (Fp.mut (x.vr d2 e4) (others ne2 d2 e4) p2)
end
section
variable {K : PySem.W.Frag} {ta tk : TE} {pa pk : Env → (T → Prop) → Prop} {al : TA} {dl : Env → (List T → Prop) → Prop}
theorem tt_item {G0 H0 G H : Hp} {M : Addr → Prop} {ρ : Env} {σ : L2.St} (x : Iv K G0 H0 M ρ σ G H) {i k : Nat} {a : Addr} {us : List TI1} {ds : List PyData} (e : ρ[i]? = some (some (.tt us))) (f : σ[i]? = some (some (.ref a))) (hu : us[k]? = some (.ow ds)) :
    ∃ (vs ws : List V) (b : Addr), H a = some (.tup vs) ∧ vs.length = us.length ∧ vs[k]? = some (.ref b) ∧ H b = some (.lst ws) ∧ DpAll K G ws ds := by
  have vr := x.vr e f
  obtain ⟨a', vs, as, ea, h1, h2, h3, h4, h5, h6⟩ := vr
  cases ea
  obtain ⟨j, b, hk, hv, ho, _, _⟩ := wv_at (es := []) h4 hu
  obtain ⟨ds', ws, q1, q2, q3, q4⟩ := (rows_at h6).2 j b hk
  rw [ho] at q1
  cases Option.some.inj q1
  have hl := dpAll_len (tt_dp x.gh h4 h5 h6)
  rw [List.length_map] at hl
  exact ⟨vs, ws, b, h1, hl, hv, q2, q4⟩
/-- t[k].m(..), t a tuple with lists of one's own -/
def dMutT (i : Nat) (dm : DM) (pk : Env → (T → Prop) → Prop) (dl : Env → (List T → Prop) → Prop) : DS := fun DD ρ => ∃ us, ρ[i]? = some (some (.tt us)) ∧ pk ρ fun u => ∃ (k : Int) (j : Nat) (ds : List PyData), u.rd = .int k ∧ ixN us.length k = some j ∧ us[j]? = some (.ow ds) ∧ dl ρ fun ts => dm ds ts fun ds' _ => DD.nx (ρ.set i (some (.tt (us.set j (.ow ds')))))
theorem ls_mutT {i : Nat} {r : V → List V → Hp → VK → Prop} {dm : DM} (hk : LP K tk pk) (ha : LA K al dl) (hr : OM K r dm) : LS K (tDrop (tBM K "list" r (tOp (rIxT K) (tVar i) tk) al)) (dMutT i dm pk dl) := fun {G0 H0 M DD D ρ σ G H} E x ⟨us, e, q⟩ => by
  obtain ⟨v, f, vr⟩ := x.sl _ _ e
  obtain ⟨a, vs0, as0, rfl, _⟩ := id vr
  refine ⟨_, f, hk x q fun u w G1 H1 ⟨k, j, ds, e1, e2, e3, q⟩ r1 v1 f1 => ?_⟩
  have x1 := x.mono r1
  obtain ⟨vs, ws, b, h1, hl, hv, hb, hd⟩ := tt_item x1 e f e3
  refine ⟨a, vs, k, .ref b, rfl, vr_int r1.s v1 e1, tup_of h1, ?_, tyV_list (seq_of hb), ha x1 q fun ts us' G2 H2 qd r2 v2 => ?_⟩
  · unfold atI
    rw [hl, e2]
    exact hv
  · have x2 := x1.mono r2
    exact hr r2.s (r2.h _ _ hb) (dpAll_same r2.g hd) v2 qd fun ds2 y xs2 v q1 d1 d2 => E.nx _ _ _ _ (x2.mutTT e f (r2.h _ _ h1) e3 hv d1) q1
def dMutT0 (i : Nat) (dm : DM) (pk : Env → (T → Prop) → Prop) : DS := fun DD ρ => ∃ us, ρ[i]? = some (some (.tt us)) ∧ pk ρ fun u => ∃ (k : Int) (j : Nat) (ds : List PyData), u.rd = .int k ∧ ixN us.length k = some j ∧ us[j]? = some (.ow ds) ∧ dm ds [] fun ds' _ => DD.nx (ρ.set i (some (.tt (us.set j (.ow ds')))))
theorem ls_mutT0 {i : Nat} {r : V → List V → Hp → VK → Prop} {dm : DM} (hk : LP K tk pk) (hr : OM K r dm) : LS K (tDrop (tBM0 K "list" r (tOp (rIxT K) (tVar i) tk))) (dMutT0 i dm pk) := fun {G0 H0 M DD D ρ σ G H} E x ⟨us, e, q⟩ => by
  obtain ⟨v, f, vr⟩ := x.sl _ _ e
  obtain ⟨a, vs0, as0, rfl, _⟩ := id vr
  refine ⟨_, f, hk x q fun u w G1 H1 ⟨k, j, ds, e1, e2, e3, q⟩ r1 v1 f1 => ?_⟩
  have x1 := x.mono r1
  obtain ⟨vs, ws, b, h1, hl, hv, hb, hd⟩ := tt_item x1 e f e3
  refine ⟨a, vs, k, .ref b, rfl, vr_int r1.s v1 e1, tup_of h1, ?_, tyV_list (seq_of hb), ?_⟩
  · unfold atI
    rw [hl, e2]
    exact hv
  · exact hr (ts := []) (vs := []) x1.gh hb hd True.intro q fun ds2 y xs2 v q1 d1 d2 => E.nx _ _ _ _ (x1.mutTT e f h1 e3 hv d1) q1
def MTK (us : List TI1) (u : T) (R : Nat → List PyData → Prop) : Prop := ∃ (k : Int) (j : Nat) (ds : List PyData), u.rd = .int k ∧ ixN us.length k = some j ∧ us[j]? = some (.ow ds) ∧ R j ds
theorem w_mutT {ρ : Env} {i : Nat} {us : List TI1} {dm : DM} {n b ct : Env → Prop} {rt : T → Env → Prop} (h : ρ[i]? = some (some (.tt us))) (q : pk ρ fun u => MTK us u fun j ds => dl ρ fun ts => dm ds ts fun ds' _ => n (ρ.set i (some (.tt (us.set j (.ow ds')))))) : dMutT i dm pk dl ⟨n, rt, b, ct, ex⟩ ρ := ⟨us, h, q⟩
theorem w_mutT0 {ρ : Env} {i : Nat} {us : List TI1} {dm : DM} {n b ct : Env → Prop} {rt : T → Env → Prop} (h : ρ[i]? = some (some (.tt us))) (q : pk ρ fun u => MTK us u fun j ds => dm ds [] fun ds' _ => n (ρ.set i (some (.tt (us.set j (.ow ds')))))) : dMutT0 i dm pk ⟨n, rt, b, ct, ex⟩ ρ := ⟨us, h, q⟩
theorem w_mtk {us : List TI1} {k : Int} {ds : List PyData} {R : Nat → List PyData → Prop} (h0 : 0 ≤ k) (h : us[k.toNat]? = some (.ow ds)) (q : R k.toNat ds) : MTK us (.g (.int k)) R := ⟨k, k.toNat, ds, rfl, by have := lt_of_at h; unfold ixN; rw [if_pos h0, if_pos (by omega)], h, q⟩
/-! ### clear, reverse -/
def mClear : DM := fun _ ts Q => ts = [] ∧ Q [] .none
theorem om_clear : OM K rClear mClear := fun {G H a xs ds ts vs QD Q} s h d v ⟨e, q⟩ k => by
  subst e
  obtain rfl := vrA0 v
  exact ⟨a, xs, rfl, rfl, h, k _ _ _ _ q .nil .non⟩
theorem w_mapp {ds : List PyData} {x : PyData} {R : List PyData → PyData → Prop} (z : ds.length < 16777216) (q : R (ds ++ [x]) .none) : mAppend ds [.g x] R := ⟨x, rfl, z, q⟩
theorem w_clear {ds : List PyData} {R : List PyData → PyData → Prop} (q : R [] .none) : mClear ds [] R := ⟨rfl, q⟩
/-! ### xs.pop(k) in an expression -/
def mPopX (i : Nat) (dl : Env → (List T → Prop) → Prop) : Env → (T → Env → Prop) → Prop := fun ρ Q => IsMine i ρ ∧ dl ρ fun ts => ∃ t ds, ρ[i]? = some (some t) ∧ t.mine = some ds ∧ mPopAt ds ts fun ds' y => Q (.g y) (ρ.set i (some (t.with ds')))
theorem lm_popX {i : Nat} (ha : LA K al dl) : LM K (tBM K "list" rPopAt (tVar i) al) (mPopX i dl) := fun {G0 H0 M ρ σ G H QD Q} x ⟨⟨t0, ds0, e0, m0⟩, q⟩ p => by
  obtain ⟨a, vs, f, h1, _⟩ := mine_at (G1 := G) (H1 := H) x e0 m0
  refine ⟨_, f, tyV_list (seq_of h1), ha x q fun ts us G1 H1 ⟨t, ds, e, m, qd⟩ r1 v1 => ?_⟩
  have x1 := x.mono r1
  obtain ⟨a', ws, ea, h2, h3⟩ := slot_ref x1 e m f
  cases ea
  refine om_popAt r1.s h2 h3 v1 qd fun ds' y xs' v q1 d1 d2 => ?_
  have ga : G1 a = none := by
    obtain ⟨a2, vs2, ea, _, h, _⟩ := mine_of (x1.vr e f) m
    cases ea
    exact h
  have r : GrM a G1 H1 G1 (upd H1 a (.lst xs')) := ⟨Same.refl _, fun b o ne eb => by rw [upd_ne ne]; exact eb, fun b o eb => by rw [upd_ne (ne_of_none eb ga)]; exact r1.s _ _ eb, fun _ _ g => g⟩
  obtain ⟨x2, s2⟩ := x1.upto e f m r upd_same d1
  exact (p.next r1.g (sub_gr x r1) (fr_gr r1)) (.g y) v _ G1 _ q1 (Same.refl _) x2 s2 ⟨r.nn upd_same, fun b o eb no => r.h _ _ (fun z => no i t (.ref a) e f (by rw [z]; exact mine_fp (x1.vr e f) m)) eb, r.n⟩ d2 fun _ f => f.elim
def PPX (i : Nat) (ρ : Env) (ds : List PyData) (ts : List T) (Q : T → Env → Prop) : Prop := mPopAt ds ts fun ds' y => Q (.g y) (ρ.set i (some (.l ds')))
theorem w_popX {ρ : Env} {i : Nat} {ds : List PyData} {Q : T → Env → Prop} (h : ρ[i]? = some (some (.l ds))) (q : dl ρ fun ts => PPX i ρ ds ts Q) : mPopX i dl ρ Q := ⟨⟨_, _, h, rfl⟩, by
  have e : (fun ts => ∃ t ds, ρ[i]? = some (some t) ∧ t.mine = some ds ∧ mPopAt ds ts fun ds' y => Q (.g y) (ρ.set i (some (t.with ds')))) = fun ts => PPX i ρ ds ts Q := by
    funext ts
    apply propext
    constructor
    · rintro ⟨t, ds2, e1, e2, q2⟩
      rw [h] at e1
      cases (Option.some.inj (Option.some.inj e1))
      cases (Option.some.inj e2)
      exact q2
    · intro q2
      exact ⟨_, _, h, rfl, q2⟩
  rw [e]
  exact q⟩
theorem w_ppx {ρ : Env} {i : Nat} {ds : List PyData} {k : Int} {y : PyData} {Q : T → Env → Prop} (h0 : 0 ≤ k) (h1 : k < ds.length) (hl : ds.length < 2 ^ 62) (hy : ds[k.toNat]? = some y) (q : Q (.g y) (ρ.set i (some (.l (ds.eraseIdx k.toNat))))) : PPX i ρ ds [.g (.int k)] Q :=
  ⟨_, k, k.toNat, y, rfl, rfl, by omega, by omega, by unfold seqIndex?; simp only [h0, if_true, h1, if_pos, decide_true, Bool.and_true, Int.not_lt.mpr h0, if_false], hy, q⟩
end
end Dv

set_option Elab.async false
set_option linter.all false
set_option maxRecDepth 100000
set_option maxHeartbeats 4000000
namespace Px
open PySem PySem.Spec PyProof.Rows L2 Srt
/-! ### sorted(set(xs)) of a list of pairs of whole numbers, whatever their sign -/
/-- the pair that a value of the heap is -/
def prK (L : List (Addr × List Int)) (v : Value) : Int × Int := match v with
  | .ref b => match L.find? fun q => decide (q.1 = b) with
    | some q => (q.2.getD 0 0, q.2.getD 1 0)
    | none => (0, 0)
  | _ => (0, 0)
theorem prK_of {L : List (Addr × List Int)} (one : ∀ q ∈ L, ∀ r ∈ L, q.1 = r.1 → q = r) {q : Addr × List Int} (hq : q ∈ L) : prK L (.ref q.1) = (q.2.getD 0 0, q.2.getD 1 0) := by
  show (match L.find? fun z => decide (z.1 = q.1) with | some z => (z.2.getD 0 0, z.2.getD 1 0) | none => ((0 : Int), (0 : Int))) = _
  cases e : L.find? fun z => decide (z.1 = q.1) with
  | none =>
    have := List.find?_eq_none.mp e q hq
    simp at this
  | some z =>
    have h1 := List.mem_of_find?_eq_some e
    have h2 : z.1 = q.1 := of_decide_eq_true (List.find?_some (p := fun (z : Addr × List Int) => decide (z.1 = q.1)) e)
    rw [one z h1 q hq h2]
section
variable {P : Program} {w : World} {A : Around} {E : Value → Shared → Prop} {s : Shared}
theorem isPair_of {h : Heap} {b : Addr} {k : List Int} (i : TS.TupInts h (.ref b) k) (hl : k.length = 2) : Srt.IsPair h (.ref b) (k.getD 0 0) (k.getD 1 0) := by
  obtain ⟨a, xs, e, ⟨o, ho, hc, hd⟩, hi⟩ := i
  obtain ⟨n, hd⟩ := hd
  obtain ⟨ys⟩ := xs
  match ys, k, hl, hi with
  | _, [x, y], _, .cons _ t (.cons _ u .nil) => exact ⟨a, o, t, u, n, e, ho, hc, hd⟩
/-- sorted of a set of pairs -/
theorem sorted_setW {a : Addr} {L : List (Addr × List Int)} {es : Array (Int × Value)} {ep : Nat} {t : SetTable} {Q : Value → Shared → Prop} (R : SetTR P w s.heap a L es ep t) (calm : A.handled = none) (two : ∀ q ∈ L, q.2.length = 2)
    (then_ : ∀ (s' : Shared) (p : Addr) (out : List Value) (n : Nat), (∀ b o, s.heap.get? b = some o → s'.heap.get? b = some o) → s'.gens = s.gens → s'.os = s.os → s.heap.objs.size ≤ p → s'.heap.get? p = some (seqObj "list" out.toArray n) →
      out.Perm (L.map fun q => Value.ref q.1) → SrtO.Srtd (fun v u => SrtO.lexB (prK L v) (prK L u)) out → Q (.ref p) s') :
    wpAny (model P w) A (call (.builtin "sorted") [.ref a]) Q E s := by
  have one : ∀ q ∈ L, ∀ r ∈ L, q.1 = r.1 → q = r := fun q hq r hr e => by
    have i1 := R.tup q hq
    rw [e] at i1
    exact Prod.ext e (i1.inj (R.tup r hr))
  obtain ⟨o0, g0, x0, d0⟩ := R.ob
  have small := R.size
  have few := R.few
  refine Calls.call_function_entry kind_sorted plain_sorted entry_sorted (args_sorted1 _) ?_
  unfold Builtin.«sorted»
  refine wpAny_bind (m := checkCount "sorted" 1 1 _) (wpAny_pure ?_)
  refine wpAny_bind (collect_set (A := A.in1) calm ⟨o0, g0, x0.1, d0⟩ R.fits (by unfold scanBound; omega) R.tab.ris R.led fun s1 vs kept big eg eo pm => ?_)
  rw [R.rows, show (rowsOf P w L).map (·.2) = L.map (fun q => Value.ref q.1) by unfold rowsOf; rw [List.map_map]; rfl] at pm
  have vl : vs.length < 64 := by rw [pm.length_eq, List.length_map]; exact few
  refine wpAny_bind (wpAny_newList ?_ (by rw [sizeLine_eq]; omega))
  have gl : (s1.heap.push (seqObj "list" vs.toArray 0)).get? s1.heap.objs.size = some (seqObj "list" vs.toArray 0) := Heap.get?_push_size _ rfl
  have pr : ∀ v ∈ vs, Srt.IsPair (s1.heap.push (seqObj "list" vs.toArray 0)) v (prK L v).1 (prK L v).2 := fun v hv => by
    obtain ⟨q, hq, rfl⟩ := List.mem_map.mp (pm.mem_iff.mp hv)
    rw [prK_of one hq]
    exact isPair_of (tupInts_of (P := P) (w := w) (isT_keep (R.tup q hq) fun b u e => Heap.get?_push_of_some _ (kept b u e))) (two q hq)
  refine wpAny_bind (wpAny_holding (wpAny_call_entry slot_list_sort ⟨_, gl, rfl⟩ entry_list_sort (SrtO.list_sort_ord (s := { s1 with heap := s1.heap.push (seqObj "list" vs.toArray 0) }) (SrtO.swo_lex (prK L)) gl (by rw [sizeLine_eq]; omega) (fun h2 => SrtO.pairs_sortableO (by omega) pr fun o e => ?_) fun out hs hb => ⟨_, rfl, ?_⟩) (args_list_sort _)))
  · have e' : some o = some (seqObj "list" vs.toArray 0) := e.symm.trans gl
    cases e'
    intro c
    exact absurd (Value.type.inj c) (by decide)
  · obtain ⟨c, hc⟩ := sortedHeap_at (vs := vs) (out := out.toArray) gl
    refine wpAny_pure ⟨_, rfl, then_ _ s1.heap.objs.size out c (fun b u e => ?_) eg eo ?_ hc (hb.perm.trans pm) hs⟩
    · have k1 := kept b u e
      have lt1 := Heap.lt_size k1
      show (sortedHeap (s1.heap.push (seqObj "list" vs.toArray 0)) s1.heap.objs.size vs out.toArray).get? b = some u
      rw [sortedHeap_old (Nat.ne_of_lt lt1) (by rw [size_push']; exact Nat.lt_succ_of_lt lt1)]
      exact Heap.get?_push_of_some _ k1
    · exact big
end
theorem perm_unmap {α β : Type} {f : α → β} {zs xs : List β} (p : zs.Perm xs) : ∀ {ys : List α}, zs = ys.map f → ∃ us : List α, us.Perm ys ∧ xs = us.map f := by
  induction p with
  | nil =>
    intro ys e
    cases ys with
    | nil => exact ⟨[], List.Perm.refl _, rfl⟩
    | cons _ _ => cases e
  | cons x _ ih =>
    intro ys e
    cases ys with
    | nil => cases e
    | cons y ys =>
      obtain ⟨e1, e2⟩ := List.cons.inj e
      obtain ⟨us, h1, h2⟩ := ih e2
      exact ⟨y :: us, h1.cons _, by rw [List.map_cons, ← h2, e1]⟩
  | swap x y l =>
    intro ys e
    cases ys with
    | nil => cases e
    | cons a ys =>
      cases ys with
      | nil => cases e
      | cons b ys =>
        obtain ⟨e1, e2⟩ := List.cons.inj e
        obtain ⟨e3, e4⟩ := List.cons.inj e2
        exact ⟨b :: a :: ys, List.Perm.swap _ _ _, by rw [List.map_cons, List.map_cons, ← e4, e1, e3]⟩
  | trans _ _ ih1 ih2 =>
    intro ys e
    obtain ⟨us, h1, h2⟩ := ih1 e
    obtain ⟨vs, h3, h4⟩ := ih2 h2
    exact ⟨vs, h3.trans h1, h4⟩
def k2 (q : Addr × List Int) : Int × Int := (q.2.getD 0 0, q.2.getD 1 0)
def ltW (a b : Int × Int) : Prop := a.1 < b.1 ∨ (a.1 = b.1 ∧ a.2 < b.2)
theorem two_eq {k m : List Int} (h1 : k.length = 2) (h2 : m.length = 2) (e0 : k.getD 0 0 = m.getD 0 0) (e1 : k.getD 1 0 = m.getD 1 0) : k = m := by
  match k, m, h1, h2 with
  | [a, b], [c, d], _, _ =>
    simp at e0 e1
    rw [e0, e1]
def tSortSetW (K : PySem.W.Frag) (ta : TE) : TE := fun σ H Q => ta σ H fun x H1 => ∃ (l : Addr) (ks : List (Addr × List Int)), x = .ref l ∧ SqL K H1 l (ks.map fun p => V.ref p.1) ∧ (∀ p ∈ ks, SqT K H1 p.1 (p.2.map V.int)) ∧ ks.length < 64 ∧ (∀ p ∈ ks, p.2.length = 2) ∧
  ∀ (us : List (Addr × List Int)) (p : Addr), (∀ q ∈ us, q ∈ ks) → (∀ q ∈ ks, k2 q ∈ us.map k2) → (us.map k2).Pairwise ltW → H1 p = none → Q (.ref p) (upd H1 p (.lst (us.map fun q => V.ref q.1)))
theorem peSortSetW (K : PySem.W.Frag) {X : Cx} (hK : X.K = K) {a : Expr} {ta : TE} {p p2 q pos : Pos} (hu : X.A.units + 64 < cLine) (hg : Gl X "sorted") (hm : X.mg "sorted" = none) (hg2 : Gl X "set") (hm2 : X.mg "set" = none) (ha : PE X a ta) (hc : X.calm = true := by rfl)
    (na : starEach [a] X.env = (false, eval a X.env) :: starEach [] X.env := by rfl) : PE X (.Call (.Name "sorted" p) [.Call (.Name "set" p2) [a] [] q] [] pos) (tSortSetW K ta) := by
  subst hK
  refine ⟨fun pins s σ H Q I h => ?_⟩
  refine Call_ (ld_blt I hg hm boot_sorted ?_)
  refine PyProof.Rows.callWith_builtin1 (PyProof.Rows.args_cons ?_ rfl) rfl rfl
  refine Call_ (ld_blt I hg2 hm2 boot_set ?_)
  refine PyProof.Rows.callWith_type1 (PyProof.Rows.args_cons (thn (ha.run pins s σ H _ I h) fun v s1 ⟨x, H1, I1, r1, q1⟩ => PyProof.Rows.args_nil ?_) na) na rfl
  obtain ⟨l, ks, rfl, hq, ht, hl, h2, q1⟩ := q1
  cases r1
  obtain ⟨its, r, pl, hz⟩ := I1.list hq
  refine call_set_tups (P := X.prog) (w := X.w) ks (I1.ok.hd hc) pl.isList (by simpa using refs_of_vals r) (fun p hp => I1.isT (ht p hp)) hl (by omega) fun h' tk L es ep t R g k => ?_
  refine PyProof.Rows.args_nil ?_
  have I2 : Inv X pins σ H1 { s1 with heap := h', toks := tk } := I1.kept (t' := tk) k
  have sub : ∀ q ∈ L, q ∈ ks := fun q hq => List.mem_of_mem_take (g.sub q hq)
  have all : ∀ q ∈ ks, q.2 ∈ L.map (·.2) := fun q hq => g.all q (by rw [List.take_length]; exact hq)
  have few := R.few
  have nd := R.nd
  have one : ∀ q ∈ L, ∀ r ∈ L, q.1 = r.1 → q = r := fun q hq r hr e => by
    have i1 := R.tup q hq
    rw [e] at i1
    exact Prod.ext e (i1.inj (R.tup r hr))
  refine sorted_setW (s := { s1 with heap := h', toks := tk }) R (I1.ok.hd hc) (fun q hq => h2 q (sub q hq)) fun s' p out n kp gg oo hp hgl pm hs => ?_
  obtain ⟨us, pu, rfl⟩ := perm_unmap pm.symm rfl
  have fr : H1 p = none := I2.hok.fresh hp
  have hlen : (us.map fun q => V.ref q.1).length ≤ sizeLine := by rw [List.length_map, pu.length_eq, sizeLine_eq]; omega
  have J : Inv X pins σ (upd H1 p (.lst (us.map fun q => V.ref q.1))) { s1 with heap := s'.heap, gens := s'.gens, drawn := s'.drawn, toks := s'.toks } := Inv.call (s := { s1 with heap := h', toks := tk }) I2 (ch := []) (Un.laid kp hp fr) (I2.hok.laid kp hp ⟨hlen, us.map fun q => Value.ref q.1, n, vals_of_refs us, hgl⟩) (by rw [gg]; exact I2.bare) (fun _ z => nomatch z)
  have e : s' = { s1 with heap := s'.heap, gens := s'.gens, drawn := s'.drawn, toks := s'.toks } := by
    obtain ⟨a1, a2, a3, a4, a5⟩ := s'
    cases (show a5 = s1.os from oo)
    rfl
  rw [e]
  refine ⟨.ref p, _, J, rfl, q1 us p (fun q hq => sub q (pu.mem_iff.mp hq)) (fun q hq => ?_) ?_ fr⟩
  · obtain ⟨r, hr, e⟩ := List.mem_map.mp (all q hq)
    exact List.mem_map.mpr ⟨r, pu.mem_iff.mpr hr, by unfold k2; rw [e]⟩
  · rw [List.pairwise_map]
    have nu : (us.map (·.2)).Nodup := (pu.map (·.2)).nodup_iff.mpr nd
    have hs2 : us.Pairwise fun q r => SrtO.lexB (k2 r) (k2 q) = false := by
      have := List.pairwise_map.mp hs
      refine List.Pairwise.imp_of_mem (fun {q r} hq hr h => ?_) this
      have h : SrtO.lexB (prK L (Value.ref r.1)) (prK L (Value.ref q.1)) = false := h
      rw [prK_of one (pu.mem_iff.mp hq), prK_of one (pu.mem_iff.mp hr)] at h
      exact h
    refine List.Pairwise.imp_of_mem (fun {q r} hq hr h => ?_) (hs2.and (List.pairwise_map.mp nu))
    have h3 := SrtO.lexB_no.mp h.1
    have ne : ¬ ((k2 q).1 = (k2 r).1 ∧ (k2 q).2 = (k2 r).2) := fun z => h.2 (two_eq (h2 q (sub q (pu.mem_iff.mp hq))) (h2 r (sub r (pu.mem_iff.mp hr))) z.1 z.2)
    unfold ltW
    omega
end Px
namespace Dv
open PySem PySem.Spec PyProof.Rows L2 Px Srt
section
variable {K : PySem.W.Frag} {H H' : Hp}
theorem pw_at : ∀ {xs : List V} {ws : List (Int × Int)} {i : Nat} {x : V}, PW K H xs ws → xs[i]? = some x → ∃ t w, x = .ref t ∧ ws[i]? = some w ∧ SqT K H t [.int w.1, .int w.2]
  | [], [], _, _, _, e => by simp at e
  | _ :: _, w :: _, 0, _, ⟨⟨t, h1, h2⟩, _⟩, e => ⟨t, w, by rw [← h1]; exact (by simpa using e.symm), rfl, h2⟩
  | _ :: xs, _ :: ws, i + 1, _, ⟨_, r⟩, e => by
    obtain ⟨t, w, h1, h2, h3⟩ := pw_at (i := i) r (by simpa using e)
    exact ⟨t, w, h1, by simpa using h2, h3⟩
  | [], _ :: _, _, _, h, _ => h.elim
  | _ :: _, [], _, _, h, _ => h.elim
theorem pw_len : ∀ {xs : List V} {ws : List (Int × Int)}, PW K H xs ws → xs.length = ws.length
  | [], [], _ => rfl
  | _ :: _, _ :: _, ⟨_, r⟩ => by rw [List.length_cons, List.length_cons, pw_len r]
  | [], _ :: _, h => h.elim
  | _ :: _, [], h => h.elim
theorem pw_same (s : Same H H') : ∀ {xs : List V} {ws : List (Int × Int)}, PW K H xs ws → PW K H' xs ws
  | [], [], _ => True.intro
  | _ :: _, _ :: _, ⟨⟨t, h1, h2⟩, r⟩ => ⟨⟨t, h1, same_seqT s h2⟩, pw_same s r⟩
  | [], _ :: _, h => h.elim
  | _ :: _, [], h => h.elim
theorem pw_keys : ∀ {xs : List V} {ws : List (Int × Int)}, PW K H xs ws → ∃ ks : List (Addr × List Int), (ks.map fun p => V.ref p.1) = xs ∧ ks.map (·.2) = ws.map w2 ∧ ∀ p ∈ ks, SqT K H p.1 (p.2.map V.int)
  | [], [], _ => ⟨[], rfl, rfl, by simp⟩
  | _ :: _, (a, b) :: _, ⟨⟨t, h1, h2⟩, r⟩ => by
    obtain ⟨ks, e1, e2, e3⟩ := pw_keys r
    refine ⟨(t, [a, b]) :: ks, by rw [List.map_cons, e1, h1], by rw [List.map_cons, List.map_cons, e2]; rfl, fun p hp => ?_⟩
    rcases List.mem_cons.mp hp with rfl | hp
    · exact h2
    · exact e3 p hp
  | [], _ :: _, h => h.elim
  | _ :: _, [], h => h.elim
end
/-- len(set(xs)) of pairs that stand anywhere -/
def tLenSetQ (K : PySem.W.Frag) (ta : TE) : TE := fun σ H Q => ta σ H fun x H1 => ∃ (l : Addr) (xs : List V) (ws : List (Int × Int)), x = .ref l ∧ SqL K H1 l xs ∧ PW K H1 xs ws ∧ ws.length < 64 ∧ ∀ n : Nat, (ws.Nodup ↔ n = ws.length) → Q (.int (n : Nat)) H1
theorem r_lenSetQ {K : PySem.W.Frag} {ta : TE} {σ : L2.St} {H : Hp} {Q : VK} (q : ta σ H fun x H1 => ∃ (l : Addr) (xs : List V) (ws : List (Int × Int)), x = .ref l ∧ SqL K H1 l xs ∧ PW K H1 xs ws ∧ ws.length < 64 ∧ ∀ n : Nat, (ws.Nodup ↔ n = ws.length) → Q (.int (n : Nat)) H1) : tLenSetQ K ta σ H Q := q
theorem peLenSetQ (K : PySem.W.Frag) {X : Cx} (hK : X.K = K) {a : Expr} {ta : TE} {p p2 q pos : Pos} (hu : X.A.units + 64 < cLine) (hg : Gl X "len") (hm : X.mg "len" = none) (hg2 : Gl X "set") (hm2 : X.mg "set" = none) (ha : PE X a ta) (hc : X.calm = true := by rfl)
    (na : starEach [a] X.env = (false, eval a X.env) :: starEach [] X.env := by rfl) : PE X (.Call (.Name "len" p) [.Call (.Name "set" p2) [a] [] q] [] pos) (tLenSetQ K ta) := by
  subst hK
  refine ⟨fun pins s σ H Q I h => ?_⟩
  refine Call_ (ld_blt I hg hm boot_len ?_)
  refine PyProof.Rows.callWith_builtin1 (PyProof.Rows.args_cons ?_ rfl) rfl rfl
  refine Call_ (ld_blt I hg2 hm2 boot_set ?_)
  refine PyProof.Rows.callWith_type1 (PyProof.Rows.args_cons (thn (ha.run pins s σ H _ I h) fun v s1 ⟨x, H1, I1, r1, q1⟩ => PyProof.Rows.args_nil ?_) na) na rfl
  obtain ⟨l, xs, ws, rfl, hq, hw, hl, q1⟩ := q1
  cases r1
  obtain ⟨ks, e1, e2, e3⟩ := pw_keys hw
  subst e1
  obtain ⟨its, r, pl, hz⟩ := I1.list hq
  have hlk : ks.length = ws.length := by
    have h1 := congrArg List.length e2
    rw [List.length_map, List.length_map] at h1
    exact h1
  refine call_set_tups (P := X.prog) (w := X.w) ks (I1.ok.hd hc) pl.isList (by simpa using refs_of_vals r) (fun p hp => I1.isT (e3 p hp)) (by omega) (by omega) fun h' tk L es ep t R g k => ?_
  refine PyProof.Rows.args_nil ?_
  obtain ⟨o, ho, hex, hd⟩ := R.ob
  have I2 : Inv X pins σ H1 { s1 with heap := h', toks := tk } := I1.kept (t' := tk) k
  have hs := SetTR.size (s := { s1 with heap := h', toks := tk }) R
  have hf := R.few
  have hn : (ws.Nodup ↔ L.length = ws.length) := by
    have h1 := set_count (ks := ks) (L := L) R.nd (fun p hp => List.mem_of_mem_take (g.sub p hp)) (fun p hp => g.all p (by rw [List.take_length]; exact hp))
    rw [e2, hlk] at h1
    refine ⟨fun h => h1.mp ?_, fun h => ?_⟩
    · unfold List.Nodup
      rw [List.pairwise_map]
      exact h.imp fun hne e => hne (w2_inj e)
    · have h2 := h1.mpr h
      unfold List.Nodup at h2
      rw [List.pairwise_map] at h2
      exact h2.imp fun hne e => hne (by rw [e])
  exact call_len_set ho hex hd (SetTR.fits (s := { s1 with heap := h', toks := tk }) R) (by rw [hs] <;> omega) ⟨.int (L.length : Nat), H1, I2.tok _, ⟨_, by rw [hs]⟩, q1 _ hn⟩
theorem r_srtW {K : PySem.W.Frag} {H : Hp} {Q : VK} {a : Addr} {xs : List V} {ws : List (Int × Int)} (h : SqL K H a xs) (hw : PW K H xs ws)
    (q : ∀ (k : V → Int × Int) (ys : List V) (p : Addr), ws = xs.map k → ys.Perm xs → (ys.map k).Pairwise leW → H p = none → Q (.ref p) (upd H p (.lst ys))) : rSortedW K [.ref a] H Q := ⟨a, xs, ws, rfl, h, hw, q⟩
end Dv
namespace Dv
open PySem PySem.Spec PyProof.Rows L2 Px
theorem dp_ssD {K : PySem.W.Frag} {G : Hp} : ∀ {xs : List V} {ss : List Str}, DpAll K G xs (ssD ss) → xs = ss.map V.str
  | [], [], _ => rfl
  | x :: xs, n :: ns, .cons a b => by rw [dp_str a, dp_ssD b]; rfl
theorem ssD_dp {K : PySem.W.Frag} {G : Hp} : ∀ (ss : List Str), DpAll K G (ss.map V.str) (ssD ss)
  | [] => .nil
  | s :: ss => .cons (.str s) (ssD_dp ss)
end Dv
namespace Dv
open PySem PySem.Spec PyProof.Rows L2 Px
section
variable {K : PySem.W.Frag} {ta : TE} {da : Env → (T → Prop) → Prop}
theorem keys_ws {G H : Hp} (s : Same G H) : ∀ {xs : List V} {ws : List (Int × Int)}, DpAll K G xs (wsD ws) → ∃ ks : List (Addr × List Int), (ks.map fun p => V.ref p.1) = xs ∧ ks.map k2 = ws ∧ (∀ p ∈ ks, SqT K H p.1 (p.2.map V.int)) ∧ (∀ p ∈ ks, p.2.length = 2) ∧ ∀ p ∈ ks, Dp K G (.ref p.1) (wyD (k2 p))
  | [], [], _ => ⟨[], rfl, rfl, by simp, by simp, by simp⟩
  | v :: xs, w :: ws, .cons a b => by
    obtain ⟨ks, h1, h2, h3, h4, h5⟩ := keys_ws s b
    obtain ⟨t, ys, rfl, ht, hd⟩ := dp_tup a
    have ey : ys = [V.int w.1, V.int w.2] := by
      cases hd with
      | cons q1 q2 =>
        cases q2 with
        | cons q2 q3 =>
          cases q3
          rw [dp_int q1, dp_int q2]
    subst ey
    refine ⟨(t, [w.1, w.2]) :: ks, by rw [List.map_cons, h1], by rw [List.map_cons, h2]; rfl, fun p hp => ?_, fun p hp => ?_, fun p hp => ?_⟩
    · rcases List.mem_cons.mp hp with rfl | hp
      · exact same_seqT s ht
      · exact h3 p hp
    · rcases List.mem_cons.mp hp with rfl | hp
      · rfl
      · exact h4 p hp
    · rcases List.mem_cons.mp hp with rfl | hp
      · exact a
      · exact h5 p hp
def dSortSetW (da : Env → (T → Prop) → Prop) : Env → (T → Prop) → Prop := fun ρ Q => da ρ fun t => ∃ ws : List (Int × Int), t.elL = some (wsD ws) ∧ ws.length < 64 ∧ ∀ us : List (Int × Int), us.Pairwise ltW → (∀ w, w ∈ us ↔ w ∈ ws) → Q (.l (wsD us))
theorem lp_sortSetW (ha : LP K ta da) : LP K (tSortSetW K ta) (dSortSetW da) := fun x q p => ha x q fun t v G1 H1 ⟨ws, e, hl, qt⟩ r1 v1 f1 => by
  obtain ⟨a, xs, rfl, h1, h2⟩ := elL_of r1.s v1 e
  obtain ⟨ks, e1, e2, e3, e4, e5⟩ := keys_ws r1.s h2
  refine ⟨a, ks, rfl, by rw [e1]; exact h1, e3, ?_, e4, fun us b hs ha hw hb => ?_⟩
  · have := congrArg List.length e2
    rw [List.length_map] at this
    omega
  · refine (p.next r1).lst r1.s (ds := wsD (us.map k2)) ?_ (qt (us.map k2) hw fun w => ⟨fun hm => ?_, fun hm => ?_⟩) b hb
    · have : ∀ us : List (Addr × List Int), (∀ q ∈ us, q ∈ ks) → DpAll K G1 (us.map fun q => V.ref q.1) (wsD (us.map k2)) := fun us => by
        induction us with
        | nil => intro _; exact .nil
        | cons u us ih =>
          intro h
          exact .cons (e5 u (h u (by simp))) (ih fun q hq => h q (List.mem_cons_of_mem _ hq))
      exact this us hs
    · obtain ⟨q, hq, rfl⟩ := List.mem_map.mp hm
      rw [← e2]
      exact List.mem_map_of_mem (hs q hq)
    · rw [← e2] at hm
      obtain ⟨q, hq, rfl⟩ := List.mem_map.mp hm
      exact ha q hq
theorem w_sortSetW {ρ : Env} {Q : T → Prop} (q : da ρ fun t => ∃ ws : List (Int × Int), t.elL = some (wsD ws) ∧ ws.length < 64 ∧ ∀ us : List (Int × Int), us.Pairwise ltW → (∀ w, w ∈ us ↔ w ∈ ws) → Q (.l (wsD us))) : dSortSetW da ρ Q := q
end
end Dv

set_option Elab.async false
set_option linter.all false
set_option maxRecDepth 100000
set_option maxHeartbeats 4000000
namespace Px
open PySem PySem.Spec PyProof.Rows L2
/-! ### min(xs, default=d), max(xs, default=d) of ints -/
theorem reads_ints {h : Heap} : ∀ {ns : List Int} {vs : List Value}, IntsAre vs ns → ReadsAll h vs (ns.map PyData.int) []
  | [], _, .nil => .nil
  | _ :: _, _, .cons n t r => ReadsAll.cons (as := []) (bs := []) (.int n t) (reads_ints r)
theorem alike_ints (ns : List Int) : PySem.W.AlikeAll (ns.map PyData.int) := by
  refine ⟨fun x hx y hy => ?_, fun x hx => ?_⟩
  · obtain ⟨i, _, rfl⟩ := List.mem_map.mp hx
    obtain ⟨j, _, rfl⟩ := List.mem_map.mp hy
    rfl
  · obtain ⟨i, _, rfl⟩ := List.mem_map.mp hx
    exact fun z => nomatch z
theorem depthAll_ints : ∀ ns : List Int, PyData.depthAll (ns.map PyData.int) = 0 := depth_ints
theorem foldl_min_mem : ∀ (ns : List Int) (n : Int), (ns.foldl min n ∈ n :: ns) ∧ ∀ y ∈ n :: ns, ns.foldl min n ≤ y
  | [], n => ⟨by simp, fun y hy => by rw [List.mem_singleton.mp hy]; exact Int.le_refl _⟩
  | k :: ns, n => by
    obtain ⟨h1, h2⟩ := foldl_min_mem ns (min n k)
    refine ⟨?_, fun y hy => ?_⟩
    · rw [List.foldl_cons]
      rcases List.mem_cons.mp h1 with e | m
      · rw [e]
        by_cases c : n ≤ k
        · rw [Int.min_eq_left c]; simp
        · rw [Int.min_eq_right (by omega)]; simp
      · exact List.mem_cons_of_mem _ (List.mem_cons_of_mem _ m)
    · rw [List.foldl_cons]
      have hm := h2 (min n k) (by simp)
      rcases List.mem_cons.mp hy with rfl | hy
      · omega
      · rcases List.mem_cons.mp hy with rfl | hy
        · omega
        · exact h2 y (List.mem_cons_of_mem _ hy)
theorem foldl_max_mem : ∀ (ns : List Int) (n : Int), (ns.foldl max n ∈ n :: ns) ∧ ∀ y ∈ n :: ns, y ≤ ns.foldl max n
  | [], n => ⟨by simp, fun y hy => by rw [List.mem_singleton.mp hy]; exact Int.le_refl _⟩
  | k :: ns, n => by
    obtain ⟨h1, h2⟩ := foldl_max_mem ns (max n k)
    refine ⟨?_, fun y hy => ?_⟩
    · rw [List.foldl_cons]
      rcases List.mem_cons.mp h1 with e | m
      · rw [e]
        by_cases c : n ≤ k
        · rw [Int.max_eq_right c]; simp
        · rw [Int.max_eq_left (by omega)]; simp
      · exact List.mem_cons_of_mem _ (List.mem_cons_of_mem _ m)
    · rw [List.foldl_cons]
      have hm := h2 (max n k) (by simp)
      rcases List.mem_cons.mp hy with rfl | hy
      · omega
      · rcases List.mem_cons.mp hy with rfl | hy
        · omega
        · exact h2 y (List.mem_cons_of_mem _ hy)
def rMinDf (K : PySem.W.Frag) : List V → List V → Hp → VK → Prop := fun vs zs H Q => ∃ (a : Addr) (ns : List Int) (d : Int), vs = [V.ref a] ∧ zs = [.int d] ∧ SqL K H a (ns.map V.int) ∧ (ns = [] → Q (.int d) H) ∧ ∀ m ∈ ns, (∀ y ∈ ns, m ≤ y) → Q (.int m) H
def rMaxDf (K : PySem.W.Frag) : List V → List V → Hp → VK → Prop := fun vs zs H Q => ∃ (a : Addr) (ns : List Int) (d : Int), vs = [V.ref a] ∧ zs = [.int d] ∧ SqL K H a (ns.map V.int) ∧ (ns = [] → Q (.int d) H) ∧ ∀ m ∈ ns, (∀ y ∈ ns, y ≤ m) → Q (.int m) H
theorem ints_inj {ns : List Int} {y : PyData} {ys : List PyData} (e : ns.map PyData.int = y :: ys) : ∃ n ms, ns = n :: ms ∧ y = .int n ∧ ys = ms.map PyData.int := by
  cases ns with
  | nil => cases e
  | cons n ms =>
    obtain ⟨e1, e2⟩ := List.cons.inj e
    exact ⟨n, ms, rfl, e1.symm, e2.symm⟩
theorem reads_int {h : Heap} {v : Value} {i : Int} {bs : List Addr} (r : Reads h v (.int i) bs) : ∃ t, v = .int i t := by
  cases r
  exact ⟨_, rfl⟩
theorem crMinDf (K : PySem.W.Frag) {X : Cx} (hK : X.K = K) (hc : X.calm = true) (hu : X.A.units + 65 < cLine) : CallRK X (.builtin "min") [Str.ofString "default"] (rMinDf K) := by
  subst hK
  intro pins s σ H vs zs us ws Q I r rz h
  obtain ⟨a, ns, d, rfl, rfl, hs, q0, q⟩ := h
  obtain ⟨its, rv, hl, _⟩ := I.list hs
  obtain ⟨w1, rfl, t, rfl⟩ := vals1 rz
  rw [Vals.ref1 r]
  refine PySem.W.min_list_default (I.ok.hd hc) hl.isList (reads_ints (by simpa using rv.ints)) (alike_ints ns) (by rw [depthAll_ints]; omega) (fun e h' tk hk => ?_) fun y ys i v h' tk bs e hv rd hk => ?_
  · exact ⟨.int d, H, I.kept hk, ⟨_, rfl⟩, q0 (List.map_eq_nil_iff.mp e)⟩
  · obtain ⟨n, ms, rfl, rfl, rfl⟩ := ints_inj e
    rw [PySem.W.minD_ints] at rd
    obtain ⟨t', rfl⟩ := reads_int rd
    obtain ⟨h1, h2⟩ := foldl_min_mem ms n
    exact ⟨.int _, H, I.kept hk, ⟨_, rfl⟩, q _ h1 h2⟩
theorem crMaxDf (K : PySem.W.Frag) {X : Cx} (hK : X.K = K) (hc : X.calm = true) (hu : X.A.units + 65 < cLine) : CallRK X (.builtin "max") [Str.ofString "default"] (rMaxDf K) := by
  subst hK
  intro pins s σ H vs zs us ws Q I r rz h
  obtain ⟨a, ns, d, rfl, rfl, hs, q0, q⟩ := h
  obtain ⟨its, rv, hl, _⟩ := I.list hs
  obtain ⟨w1, rfl, t, rfl⟩ := vals1 rz
  rw [Vals.ref1 r]
  refine PySem.W.max_list_default (I.ok.hd hc) hl.isList (reads_ints (by simpa using rv.ints)) (alike_ints ns) (by rw [depthAll_ints]; omega) (fun e h' tk hk => ?_) fun y ys i v h' tk bs e hv rd hk => ?_
  · exact ⟨.int d, H, I.kept hk, ⟨_, rfl⟩, q0 (List.map_eq_nil_iff.mp e)⟩
  · obtain ⟨n, ms, rfl, rfl, rfl⟩ := ints_inj e
    rw [PySem.W.maxD_ints] at rd
    obtain ⟨t', rfl⟩ := reads_int rd
    obtain ⟨h1, h2⟩ := foldl_max_mem ms n
    exact ⟨.int _, H, I.kept hk, ⟨_, rfl⟩, q _ h1 h2⟩
end Px
namespace Dv
open PySem PySem.Spec PyProof.Rows L2 Px
section
variable {K : PySem.W.Frag} {ta tb tc te : TE} {da db dc de : Env → (T → Prop) → Prop} {al ak : TA} {dl dk : Env → (List T → Prop) → Prop}
/-- a built-in called with keywords -/
abbrev DCK := List T → List T → (T → Prop) → Prop
def OCK (K : PySem.W.Frag) (r : List V → List V → Hp → VK → Prop) (dr : DCK) : Prop := ∀ {G H : Hp} {ts us : List T} {vs ws : List V} {QD : T → Prop} {Q : VK}, Same G H → VrA K G H ts vs → VrA K G H us ws → dr ts us QD → Po K QD G H Q → r vs ws H Q
def dCKw (dr : DCK) (dl dk : Env → (List T → Prop) → Prop) : Env → (T → Prop) → Prop := fun ρ Q => dl ρ fun ts => dk ρ fun us => dr ts us Q
theorem lp_ckw {r : List V → List V → Hp → VK → Prop} {dr : DCK} (ha : LA K al dl) (hk : LA K ak dk) (hr : OCK K r dr) : LP K (tCKw r al ak) (dCKw dr dl dk) := fun x q p => ha x q fun ts vs G1 H1 qt r1 v1 => hk (x.mono r1) qt fun us ws G2 H2 qu r2 v2 =>
  hr r2.s (v1.weak r2.g r2.h) v2 qu ((p.next r1).next r2)
theorem w_ckw {ρ : Env} {dr : DCK} {Q : T → Prop} (q : dl ρ fun ts => dk ρ fun us => dr ts us Q) : dCKw dr dl dk ρ Q := q
def dMinDf : DCK := fun ts us Q => ∃ t u ns d, ts = [t] ∧ us = [u] ∧ t.elL = some (inD ns) ∧ u.rd = .int d ∧ (ns = [] → Q (.g (.int d))) ∧ ∀ m ∈ ns, (∀ y ∈ ns, m ≤ y) → Q (.g (.int m))
def dMaxDf : DCK := fun ts us Q => ∃ t u ns d, ts = [t] ∧ us = [u] ∧ t.elL = some (inD ns) ∧ u.rd = .int d ∧ (ns = [] → Q (.g (.int d))) ∧ ∀ m ∈ ns, (∀ y ∈ ns, y ≤ m) → Q (.g (.int m))
theorem ock_min : OCK K (rMinDf K) dMinDf := fun {G H ts us vs ws QD Q} s a b ⟨t, u, ns, d, e1, e2, e3, e4, q0, q⟩ p => by
  subst e1 e2
  obtain ⟨v, rfl, a1⟩ := vrA1 a
  obtain ⟨w, rfl, b1⟩ := vrA1 b
  obtain ⟨l, xs, rfl, h1, h2⟩ := elL_of s a1 e3
  rw [ints_dpAll h2] at h1
  exact ⟨l, ns, d, rfl, by rw [vr_int s b1 e4], h1, fun e => p.scal s (.int d) (q0 e), fun m hm hy => p.scal s (.int m) (q m hm hy)⟩
theorem ock_max : OCK K (rMaxDf K) dMaxDf := fun {G H ts us vs ws QD Q} s a b ⟨t, u, ns, d, e1, e2, e3, e4, q0, q⟩ p => by
  subst e1 e2
  obtain ⟨v, rfl, a1⟩ := vrA1 a
  obtain ⟨w, rfl, b1⟩ := vrA1 b
  obtain ⟨l, xs, rfl, h1, h2⟩ := elL_of s a1 e3
  rw [ints_dpAll h2] at h1
  exact ⟨l, ns, d, rfl, by rw [vr_int s b1 e4], h1, fun e => p.scal s (.int d) (q0 e), fun m hm hy => p.scal s (.int m) (q m hm hy)⟩
theorem w_minDf {t : T} {ns : List Int} {d : Int} {Q : T → Prop} (h : t.elL = some (inD ns)) (q0 : ns = [] → Q (.g (.int d))) (q : ∀ m ∈ ns, (∀ y ∈ ns, m ≤ y) → Q (.g (.int m))) : dMinDf [t] [.g (.int d)] Q := ⟨t, _, ns, d, rfl, rfl, h, rfl, q0, q⟩
theorem w_maxDf {t : T} {ns : List Int} {d : Int} {Q : T → Prop} (h : t.elL = some (inD ns)) (q0 : ns = [] → Q (.g (.int d))) (q : ∀ m ∈ ns, (∀ y ∈ ns, y ≤ m) → Q (.g (.int m))) : dMaxDf [t] [.g (.int d)] Q := ⟨t, _, ns, d, rfl, rfl, h, rfl, q0, q⟩
/-! ### abs, sum, max and min of a list of ints -/
def dAbs : DC := fun ts Q => ∃ t i, ts = [t] ∧ t.rd = .int i ∧ Q (.g (.int (if i < 0 then -i else i)))
theorem oc_abs : OC K (fun xs H Q => ∃ i, xs = [V.int i] ∧ Q (.int (if i < 0 then -i else i)) H) dAbs := fun {G H ts vs QD Q} s h ⟨t, i, e, f, q⟩ p => by
  subst e
  obtain ⟨v, rfl, a⟩ := vrA1 h
  exact ⟨i, by rw [vr_int s a f], p.scal s (.int _) q⟩
theorem w_abs {i : Int} {Q : T → Prop} (q : Q (.g (.int (if i < 0 then -i else i)))) : dAbs [.g (.int i)] Q := ⟨_, i, rfl, rfl, q⟩
def dSumI : DC := fun ts Q => ∃ t ns, ts = [t] ∧ t.elL = some (inD ns) ∧ Q (.g (.int ns.sum))
theorem oc_sumI : OC K (L2.rSum K) dSumI := fun {G H ts vs QD Q} s h ⟨t, ns, e, f, q⟩ p => by
  subst e
  obtain ⟨v, rfl, a⟩ := vrA1 h
  obtain ⟨l, xs, rfl, h1, h2⟩ := elL_of s a f
  rw [ints_dpAll h2] at h1
  exact ⟨l, ns, rfl, h1, p.scal s (.int _) q⟩
theorem w_sumI {t : T} {ns : List Int} {Q : T → Prop} (h : t.elL = some (inD ns)) (q : Q (.g (.int ns.sum))) : dSumI [t] Q := ⟨t, ns, rfl, h, q⟩
def dMaxL : DC := fun ts Q => ∃ t ns, ts = [t] ∧ t.elL = some (inD ns) ∧ 0 < ns.length ∧ ∀ m, m ∈ ns → (∀ y, y ∈ ns → y ≤ m) → Q (.g (.int m))
def dMinL : DC := fun ts Q => ∃ t ns, ts = [t] ∧ t.elL = some (inD ns) ∧ 0 < ns.length ∧ ∀ m, m ∈ ns → (∀ y, y ∈ ns → m ≤ y) → Q (.g (.int m))
theorem oc_maxL : OC K (L2.rMax K) dMaxL := fun {G H ts vs QD Q} s h ⟨t, ns, e, f, z, q⟩ p => by
  subst e
  obtain ⟨v, rfl, a⟩ := vrA1 h
  obtain ⟨l, xs, rfl, h1, h2⟩ := elL_of s a f
  rw [ints_dpAll h2] at h1
  exact ⟨l, ns, rfl, h1, z, fun m hm hy => p.scal s (.int _) (q m hm hy)⟩
theorem oc_minL : OC K (L2.rMin K) dMinL := fun {G H ts vs QD Q} s h ⟨t, ns, e, f, z, q⟩ p => by
  subst e
  obtain ⟨v, rfl, a⟩ := vrA1 h
  obtain ⟨l, xs, rfl, h1, h2⟩ := elL_of s a f
  rw [ints_dpAll h2] at h1
  exact ⟨l, ns, rfl, h1, z, fun m hm hy => p.scal s (.int _) (q m hm hy)⟩
theorem w_maxL {t : T} {ns : List Int} {Q : T → Prop} (h : t.elL = some (inD ns)) (z : 0 < ns.length) (q : ∀ m, m ∈ ns → (∀ y, y ∈ ns → y ≤ m) → Q (.g (.int m))) : dMaxL [t] Q := ⟨t, ns, rfl, h, z, q⟩
theorem w_minL {t : T} {ns : List Int} {Q : T → Prop} (h : t.elL = some (inD ns)) (z : 0 < ns.length) (q : ∀ m, m ∈ ns → (∀ y, y ∈ ns → m ≤ y) → Q (.g (.int m))) : dMinL [t] Q := ⟨t, ns, rfl, h, z, q⟩
/-! ### range with a step, reversed(range(..)) -/
def rgC (lo c : Int) (n : Nat) : List PyData := (List.range n).map fun k => PyData.int (lo + (k : Nat) * c)
theorem rgC_len (lo c : Int) (n : Nat) : (rgC lo c n).length = n := by simp [rgC]
theorem rgC_get {lo c : Int} {n i : Nat} {x : PyData} (h : (rgC lo c n)[i]? = some x) : i < n ∧ x = .int (lo + (i : Nat) * c) := by
  have hi := lt_of_at h
  rw [rgC_len] at hi
  unfold rgC at h
  rw [List.getElem?_map, List.getElem?_range hi] at h
  exact ⟨hi, (Option.some.inj h).symm⟩
theorem itc_at {lo c : Int} {n : Nat} {G' H' : Hp} (s : Same G' H') : ItAt K (Itc lo c n) (rgC lo c n) G' H' := fun i => by
  rw [rgC_len]
  refine ⟨fun hi => ⟨hi, fun x H'' y => ?_⟩, fun hi => hi⟩
  obtain ⟨rfl, rfl⟩ := y
  refine ⟨G', .int (lo + (i : Nat) * c), .refl s, ?_, .int _⟩
  simp [rgC, hi]
def dIRg3 (dl : Env → (List T → Prop) → Prop) : Env → (Bool → List PyData → Prop) → Prop := fun ρ Q => dl ρ fun ts => ∃ (t u v : T) (i j c : Int) (n : Nat), ts = [t, u, v] ∧ t.rd = .int i ∧ u.rd = .int j ∧ v.rd = .int c ∧ RgC i j c n ∧ Q true (rgC i c n)
theorem vrA3 {G H : Hp} {t u z : T} {vs : List V} (h : VrA K G H [t, u, z] vs) : ∃ a b c, vs = [a, b, c] ∧ Vr K G H t a ∧ Vr K G H u b ∧ Vr K G H z c := by
  match vs, h with
  | [a, b, c], ⟨h1, _, h2, _, h3, _, _⟩ => exact ⟨a, b, c, rfl, h1, h2, h3⟩
theorem li_rg3 (h : LA K al dl) : LI K (iRng3 al) (dIRg3 dl) := fun {G0 H0 M ρ σ G H QD R} x q k => h x q fun ts vs G1 H1 ⟨t, u, z, i, j, c, n, e, e1, e2, e3, b, qt⟩ r1 v1 => by
  subst e
  obtain ⟨a1, a2, a3, rfl, h1, h2, h3⟩ := vrA3 v1
  have ig : ItG K (Itc i c n) G1 (rgC i c n) := fun G' H' g s => itc_at s
  exact ⟨i, j, c, n, by rw [vr_int r1.s h1 e1, vr_int r1.s h2 e2, vr_int r1.s h3 e3], b, k true _ _ G1 H1 qt r1 (fun _ => ig) ig.h⟩
def RG3 (ts : List T) (R : Bool → List PyData → Prop) : Prop := ∃ (t u v : T) (i j c : Int) (n : Nat), ts = [t, u, v] ∧ t.rd = .int i ∧ u.rd = .int j ∧ v.rd = .int c ∧ RgC i j c n ∧ R true (rgC i c n)
theorem w_iRg3 {ρ : Env} {R : Bool → List PyData → Prop} (q : dl ρ fun ts => RG3 ts R) : dIRg3 dl ρ R := q
/-- downwards -/
theorem w_rg3d {i j : Int} {m : Nat} {R : Bool → List PyData → Prop} (b : -(2 ^ 62) ≤ i ∧ i < 2 ^ 62 ∧ -(2 ^ 62) ≤ j ∧ j < 2 ^ 62) (e : (i - j).toNat = m) (q : R true (rgC i (-1) m)) : RG3 [.g (.int i), .g (.int j), .g (.int (-1))] R :=
  ⟨_, _, _, i, j, -1, m, rfl, rfl, rfl, rfl, e ▸ RgC.neg b.1 b.2.1 b.2.2.1 b.2.2.2, q⟩
def dIRev1 (da : Env → (T → Prop) → Prop) : Env → (Bool → List PyData → Prop) → Prop := fun ρ Q => da ρ fun t => ∃ n : Nat, t.rd = .int (n : Nat) ∧ n < 2 ^ 60 ∧ Q true (rgC ((n : Int) - 1) (-1) n)
theorem li_rev1 (ha : LP K ta da) : LI K (iRevR (tRg1 ta)) (dIRev1 da) := fun {G0 H0 M ρ σ G H QD R} x q k => ha x q fun t v G1 H1 ⟨n, e, hn, qt⟩ r1 v1 f1 => by
  have ig : ItG K (Itc ((n : Int) - 1) (-1) n) G1 (rgC ((n : Int) - 1) (-1) n) := fun G' H' g s => itc_at s
  refine ⟨n, vr_int r1.s v1 e, by omega, by omega, by omega, by omega, ?_⟩
  have e1 : (0 : Int) + ((((n : Int) - 0).toNat : Nat) : Int) - 1 = (n : Int) - 1 := by omega
  have e2 : ((n : Int) - 0).toNat = n := by omega
  rw [e1, e2]
  exact k true _ _ G1 H1 qt r1 (fun _ => ig) ig.h
def RV1 (t : T) (R : Bool → List PyData → Prop) : Prop := ∃ n : Nat, t.rd = .int (n : Nat) ∧ n < 2 ^ 60 ∧ R true (rgC ((n : Int) - 1) (-1) n)
theorem w_iRev1 {ρ : Env} {R : Bool → List PyData → Prop} (q : da ρ fun t => RV1 t R) : dIRev1 da ρ R := q
theorem w_rv1 {k : Int} {n : Nat} {R : Bool → List PyData → Prop} (e : k = (n : Nat)) (h : n < 2 ^ 60) (q : R true (rgC ((n : Int) - 1) (-1) n)) : RV1 (.g (.int k)) R := ⟨n, by rw [e], h, q⟩
def dIRev2 (da db : Env → (T → Prop) → Prop) : Env → (Bool → List PyData → Prop) → Prop := fun ρ Q => da ρ fun t => db ρ fun u => ∃ (a : Int) (n : Nat), t.rd = .int a ∧ u.rd = .int (a + n) ∧ -(2 ^ 60) < a ∧ a < 2 ^ 60 ∧ n < 2 ^ 60 ∧ Q true (rgC (a + (n : Int) - 1) (-1) n)
theorem li_rev2 (ha : LP K ta da) (hb : LP K tb db) : LI K (iRevR (tRg2 ta tb)) (dIRev2 da db) := fun {G0 H0 M ρ σ G H QD R} x q k => ha x q fun t v G1 H1 qt r1 v1 f1 => hb (x.mono r1) qt fun u w G2 H2 ⟨a, n, e, e', h1, h2, hn, qt⟩ r2 v2 f2 => by
  have ig : ItG K (Itc (a + (n : Int) - 1) (-1) n) G2 (rgC (a + (n : Int) - 1) (-1) n) := fun G' H' g s => itc_at s
  refine ⟨a, a + n, vr_int r2.s (v1.mono r2) e, vr_int r2.s v2 e', by omega, by omega, by omega, by omega, ?_⟩
  have e1 : a + (((a + (n : Int) - a).toNat : Nat) : Int) - 1 = a + (n : Int) - 1 := by omega
  have e2 : (a + (n : Int) - a).toNat = n := by omega
  rw [e1, e2]
  exact k true _ _ G2 H2 qt (r1.trans r2) (fun _ => ig) ig.h
/-- maxima -/
theorem max_uniq {ns : List Int} {m k : Int} (h1 : m ∈ ns) (h2 : ∀ y ∈ ns, y ≤ m) (h3 : k ∈ ns) (h4 : ∀ y ∈ ns, y ≤ k) : m = k := by
  have := h2 k h3
  have := h4 m h1
  omega
/-- xs[k] = e, xs by reference -/
theorem w_setIxP {ρ : Env} {i : Nat} {ds : List PyData} {n b ct : Env → Prop} {rt : T → Env → Prop} {pa pk : Env → (T → Prop) → Prop} (h : ρ[i]? = some (some (.p ds))) (q : pa ρ fun t => pk ρ fun u => SIX ds t u fun es => n (ρ.set i (some (.p es)))) : dSetIx i pk pa ⟨n, rt, b, ct, ex⟩ ρ := by
  refine ⟨⟨_, _, h, rfl⟩, ?_⟩
  have e : (fun t : T => pk ρ fun u => ∃ w ds k j x, ρ[i]? = some (some w) ∧ w.mine = some ds ∧ u.rd = .int k ∧ ixN ds.length k = some j ∧ t.fz = .g x ∧ n (ρ.set i (some (w.with (ds.set j x))))) = fun t => pk ρ fun u => SIX ds t u fun es => n (ρ.set i (some (.p es))) := by
    funext t
    congr 1
    funext u
    apply propext
    constructor
    · rintro ⟨w, ds2, k, j, x, e1, e2, q2⟩
      rw [h] at e1
      cases (Option.some.inj (Option.some.inj e1))
      cases (Option.some.inj e2)
      exact ⟨k, j, x, q2⟩
    · rintro ⟨k, j, x, q2⟩
      exact ⟨_, ds, k, j, x, h, rfl, q2⟩
  exact e ▸ q
/-- a reel: what is left, and the mixed number -/
def Reel (a b : Int) : Prop := 0 ≤ a ∧ 0 ≤ b ∧ b < 2147483647
def cTakeR : List PyData → List PyData → (T → List PyData → Prop) → Prop := fun dk xs Q => ∃ a b m : Int, dk = [.int a, .int b] ∧ Reel a b ∧ xs = [.int m] ∧ 0 < m ∧ m < 10 ^ 9 ∧ ∀ r a' b' : Int, 0 ≤ r → r < m → Reel a' b' → Q (.g (.int r)) [.int a', .int b']
theorem w_takeRL {ρ : Env} {Q : T → Env → Prop} {i : Nat} {a b m : Int} (h : ρ[i]? = some (some (.l [.int a, .int b]))) (h0 : Reel a b) (m0 : 0 < m) (m1 : m < 10 ^ 9) (q : ∀ r a' b' : Int, 0 ≤ r → r < m → Reel a' b' → Q (.g (.int r)) (ρ.set i (some (.l [.int a', .int b'])))) : CM i cTakeR Q [.int m] ρ := ⟨_, _, h, rfl, a, b, m, rfl, h0, rfl, m0, m1, q⟩
theorem w_takeRP {ρ : Env} {Q : T → Env → Prop} {i : Nat} {a b m : Int} (h : ρ[i]? = some (some (.p [.int a, .int b]))) (h0 : Reel a b) (m0 : 0 < m) (m1 : m < 10 ^ 9) (q : ∀ r a' b' : Int, 0 ≤ r → r < m → Reel a' b' → Q (.g (.int r)) (ρ.set i (some (.p [.int a', .int b'])))) : CM i cTakeR Q [.int m] ρ := ⟨_, _, h, rfl, a, b, m, rfl, h0, rfl, m0, m1, q⟩
def cReel : List PyData → (T → Prop) → Prop := fun xs Q => ∃ c : Int, xs = [.int c] ∧ ∀ a b : Int, Reel a b → Q (.l [.int a, .int b])
def cRowR : List PyData → List PyData → (T → List PyData → Prop) → Prop := fun dk xs Q => ∃ (a b : Int) (n : Nat), dk = [.int a, .int b] ∧ Reel a b ∧ xs = [.int (n : Nat)] ∧ n ≤ 1000 ∧ ∀ (ns : List Int) (a' b' : Int), Reel a' b' → ns.length ≤ n → ns.Nodup → (∀ x ∈ ns, -(10 ^ 60) < x ∧ x < 10 ^ 60) → Q (.l (inD ns)) [.int a', .int b']
/-- one of four -/
theorem pick4 {k : Int} {x0 x1 x2 x3 : Int} (h0 : 0 ≤ k) (h1 : k ≤ 3) : ∃ x, atI [PyData.int x0, PyData.int x1, PyData.int x2, PyData.int x3] k = some (.int x) ∧ (x = x0 ∨ x = x1 ∨ x = x2 ∨ x = x3) := by
  have : k = 0 ∨ k = 1 ∨ k = 2 ∨ k = 3 := by omega
  rcases this with rfl | rfl | rfl | rfl
  · exact ⟨x0, rfl, by simp⟩
  · exact ⟨x1, rfl, by simp⟩
  · exact ⟨x2, rfl, by simp⟩
  · exact ⟨x3, rfl, by simp⟩
theorem pick2i {k : Int} {x0 x1 : Int} (h0 : 0 ≤ k) (h1 : k ≤ 1) : ∃ x, atI [PyData.int x0, PyData.int x1] k = some (.int x) ∧ (x = x0 ∨ x = x1) := by
  have : k = 0 ∨ k = 1 := by omega
  rcases this with rfl | rfl
  · exact ⟨x0, rfl, by simp⟩
  · exact ⟨x1, rfl, by simp⟩
theorem nodup_map_of {α β : Type} {f : α → β} {xs : List α} (h : xs.Nodup) (inj : ∀ a b, a ∈ xs → b ∈ xs → f a = f b → a = b) : (xs.map f).Nodup := by
  unfold List.Nodup
  rw [List.pairwise_map]
  exact List.Pairwise.imp_of_mem (fun {a b} ha hb ne e => ne (inj a b ha hb e)) h
theorem inD_map (f : Int → Int) (xs : List Int) : inD (xs.map f) = xs.map fun x => PyData.int (f x) := by rw [inD, List.map_map]; rfl
/-- xs.pop(k), k read by what changes something -/
def mPopXM (i : Nat) (dl : Env → (List PyData → Env → Prop) → Prop) : Env → (T → Env → Prop) → Prop := fun ρ Q => IsMine i ρ ∧ dl ρ fun ys ρ1 => ∃ (t : T) (ds : List PyData) (k : Int) (y : PyData), ρ1[i]? = some (some t) ∧ t.mine = some ds ∧ ys = [.int k] ∧ 0 ≤ k ∧ k < ds.length ∧ ds.length < 2 ^ 62 ∧ ds[k.toNat]? = some y ∧ Q (.g y) (ρ1.set i (some (t.with (ds.eraseIdx k.toNat))))
theorem lm_popXM {i : Nat} {dl : Env → (List PyData → Env → Prop) → Prop} (ha : LMA K al dl) : LM K (tBM K "list" rPopAt (tVar i) al) (mPopXM i dl) := fun {G0 H0 M ρ σ G H QD Q} x ⟨⟨t0, ds0, e0, m0⟩, q⟩ p => by
  obtain ⟨a, vs, f, h1, _⟩ := mine_at (G1 := G) (H1 := H) x e0 m0
  refine ⟨_, f, tyV_list (seq_of h1), ha x q fun ys us ρ1 G1 H1 ⟨t, ds, k, y, e, m, ey, k0, k1, hz, hy, qd⟩ g1 x1 s1 n1 d => ?_⟩
  obtain ⟨a', ws, ea, h2, h3⟩ := slot_ref x1 e m f
  cases ea
  subst ey
  have v1 : VrA K G1 H1 [.g (.int k)] us := by
    cases d with
    | cons d1 d2 =>
      cases d2
      exact ⟨d1, fun _ _ f => f, True.intro⟩
  refine om_popAt x1.gh h2 h3 v1 (QD := fun ds' y' => ds' = ds.eraseIdx k.toNat ∧ y' = y) ⟨_, k, k.toNat, y, rfl, rfl, by omega, by omega, by unfold seqIndex?; simp only [k0, if_true, k1, if_pos, decide_true, Bool.and_true, Int.not_lt.mpr k0, if_false], hy, rfl, rfl⟩ fun ds' y' xs' v q1 d1 d2 => ?_
  obtain ⟨rfl, rfl⟩ := q1
  have ga : G1 a = none := by
    obtain ⟨a2, vs2, ea, _, h, _⟩ := mine_of (x1.vr e f) m
    cases ea
    exact h
  have r : GrM a G1 H1 G1 (upd H1 a (.lst xs')) := ⟨Same.refl _, fun b o ne eb => by rw [upd_ne ne]; exact eb, fun b o eb => by rw [upd_ne (ne_of_none eb ga)]; exact x1.gh _ _ eb, fun _ _ g => g⟩
  obtain ⟨x2, s2⟩ := x1.upto e f m r upd_same d1
  exact (p.next g1 s1 n1) (.g y') v _ G1 _ qd (Same.refl _) x2 s2 ⟨r.nn upd_same, fun b o eb no => r.h _ _ (fun z => no i t (.ref a) e f (by rw [z]; exact mine_fp (x1.vr e f) m)) eb, r.n⟩ d2 fun _ f => f.elim
def PPM (i : Nat) (Q : T → Env → Prop) (ys : List PyData) (ρ1 : Env) : Prop := ∃ (t : T) (ds : List PyData) (k : Int) (y : PyData), ρ1[i]? = some (some t) ∧ t.mine = some ds ∧ ys = [.int k] ∧ 0 ≤ k ∧ k < ds.length ∧ ds.length < 2 ^ 62 ∧ ds[k.toNat]? = some y ∧ Q (.g y) (ρ1.set i (some (t.with (ds.eraseIdx k.toNat))))
theorem w_popXM {ρ : Env} {i : Nat} {ds : List PyData} {dl : Env → (List PyData → Env → Prop) → Prop} {Q : T → Env → Prop} (h : ρ[i]? = some (some (.l ds))) (q : dl ρ fun ys ρ1 => PPM i Q ys ρ1) : mPopXM i dl ρ Q := ⟨⟨_, _, h, rfl⟩, q⟩
theorem w_ppm {ρ : Env} {i : Nat} {ds : List PyData} {k : Int} {y : PyData} {Q : T → Env → Prop} (h : ρ[i]? = some (some (.l ds))) (h0 : 0 ≤ k) (h1 : k < ds.length) (hl : ds.length < 2 ^ 62) (hy : ds[k.toNat]? = some y) (q : Q (.g y) (ρ.set i (some (.l (ds.eraseIdx k.toNat))))) : PPM i Q [.int k] ρ := ⟨_, ds, k, y, h, rfl, rfl, h0, h1, hl, hy, q⟩
/-- steps round a prime -/
def stepsR (m b : Int) (n : Nat) : List Int := (List.range n).map fun (k : Nat) => ((k : Int) * b + 3) % m
theorem stepsR_nodup {p b : Nat} (hg : Nat.Coprime p b) : (stepsR p b p).Nodup := by
  refine nodup_map_of List.nodup_range fun x y hx hy e => ?_
  rw [List.mem_range] at hx hy
  have h1 : ((p : Nat) : Int) ∣ ((x : Int) - y) * b := by
    have h2 := Int.emod_emod_of_dvd
    have h3 : (((x : Int) * b + 3) - ((y : Int) * b + 3)) % (p : Int) = 0 := Int.emod_eq_emod_iff_emod_sub_eq_zero.mp e
    have h4 := Int.dvd_of_emod_eq_zero h3
    have h5 : ((x : Int) * b + 3) - ((y : Int) * b + 3) = ((x : Int) - y) * b := by
      rw [Int.sub_mul]
      omega
    rw [h5] at h4
    exact h4
  have h6 : p ∣ ((x : Int) - y).natAbs * b := by
    have := Int.natAbs_dvd_natAbs.mpr h1
    rw [Int.natAbs_mul, Int.natAbs_natCast, Int.natAbs_natCast] at this
    exact this
  have h7 : p ∣ ((x : Int) - y).natAbs := hg.dvd_of_dvd_mul_right h6
  have h8 : ((x : Int) - y).natAbs < p := by omega
  have h9 := Nat.eq_zero_of_dvd_of_lt h7 h8
  omega
theorem coprimes : ∀ p ∈ [101, 149, 211, 293], ∀ b, 1 ≤ b → b < p → Nat.Coprime p b := by
  have h : ∀ p ∈ [101, 149, 211, 293], ∀ b ∈ List.range p, b = 0 ∨ Nat.gcd p b = 1 := by decide +kernel
  intro p hp b h1 h2
  rcases h p hp b (List.mem_range.mpr h2) with z | z
  · omega
  · exact z
def cLongR : List PyData → List PyData → (T → List PyData → Prop) → Prop := fun dk xs Q => ∃ a b : Int, dk = [.int a, .int b] ∧ Reel a b ∧ xs = [] ∧ ∀ (ns : List Int) (a' b' : Int), Reel a' b' → ns.length ≤ 300 → ns.Nodup → Q (.l (inD ns)) [.int a', .int b']
def cAlike4 (n : Nat) : List PyData → (T → Prop) → Prop := fun xs Q => ∃ d, xs = [d, d] ∧ clean d = true ∧ d.depth < n ∧ small d = true ∧ Q (.g (.bool true))
/-- not xs, as a value -/
def dNotT (da : Env → (T → Prop) → Prop) : Env → (T → Prop) → Prop := fun ρ Q => da ρ fun t => ∃ ds, seqD t.rd = some ds ∧ Q (.g (.bool (!!ds.isEmpty)))
theorem lp_notT (ha : LP K ta da) : LP K (tNotT K ta) (dNotT da) := fun x q p => ha x q fun t v G1 H1 ⟨ds, e, qt⟩ r1 v1 _ => by
  obtain ⟨a, xs, rfl, h1, h2⟩ := seq_dp (v1.dp r1.s (T.dat_of fun z => by rw [z] at e; cases e)) e
  have hb : xs.isEmpty = ds.isEmpty := by cases h2 <;> rfl
  refine ⟨!ds.isEmpty, ?_, (p.next r1).scal r1.s (.bl _) qt⟩
  rcases h1 with h1 | h1
  · exact .inl ⟨xs, h1, by rw [hb]⟩
  · exact .inr (.inl ⟨xs, h1, by rw [hb]⟩)
theorem peNotT (K : PySem.W.Frag) {X : Cx} (hK : X.K = K) {a : Expr} {pos : Pos} (ha : PE X a ta) : PE X (.UnaryOp .Not a pos) (tNotT K ta) := hK ▸ pe_notT ha
theorem w_notT {ρ : Env} {Q : T → Prop} (q : da ρ fun t => TRU t fun b => Q (.g (.bool (!b)))) : dNotT da ρ Q := q
theorem w_neInts2 {t u : T} {ns ms : List Int} {Q : T → Prop} (h1 : t.rd = .list (inD ns)) (h2 : u.rd = .list (inD ms)) (q : Q (.g (.bool (!decide (ns = ms))))) : dNeD t u Q := ⟨by rw [h1]; exact shaped_inD ns, by rw [h2]; exact shaped_inD ms, by rw [h1, h2, eqv_inD]; exact q⟩
end
end Dv

set_option Elab.async false
set_option linter.all false
set_option maxRecDepth 100000
set_option maxHeartbeats 4000000
/-! Falling pieces of a row: lengths from the right, the first longest one. -/
namespace Dv
open PySem PySem.Spec PyProof.Rows L2 Px
def fstep (x : Int) (m : Int) (p : Int × Int) : Int := if p.1 < x then (if p.2 + 1 > m then p.2 + 1 else m) else m
def gmz (x : Int) (zs : List (Int × Int)) : Int := zs.foldl (fstep x) 1
def falls : List Int → List Int
  | [] => []
  | x :: r => gmz x (r.zip (falls r)) :: falls r
theorem falls_len : ∀ r : List Int, (falls r).length = r.length
  | [] => rfl
  | x :: r => by
    show (falls r).length + 1 = _
    rw [falls_len r]
    rfl
theorem gmz_snoc (x : Int) (zs : List (Int × Int)) (p : Int × Int) : gmz x (zs ++ [p]) = fstep x (gmz x zs) p := by
  unfold gmz
  rw [List.foldl_append]
  rfl
/-- the greatest: 1, or one more than one below -/
theorem gmz_spec (x : Int) (zs : List (Int × Int)) : (1 ≤ gmz x zs) ∧ (∀ p ∈ zs, p.1 < x → p.2 + 1 ≤ gmz x zs) ∧ (gmz x zs = 1 ∨ ∃ p ∈ zs, p.1 < x ∧ gmz x zs = p.2 + 1) := by
  have h : ∀ (zs : List (Int × Int)) (m : Int), m ≤ zs.foldl (fstep x) m ∧ (∀ p ∈ zs, p.1 < x → p.2 + 1 ≤ zs.foldl (fstep x) m) ∧ (zs.foldl (fstep x) m = m ∨ ∃ p ∈ zs, p.1 < x ∧ zs.foldl (fstep x) m = p.2 + 1) := by
    intro zs
    induction zs with
    | nil => intro m; exact ⟨Int.le_refl _, by simp, .inl rfl⟩
    | cons z zs ih =>
      intro m
      obtain ⟨h1, h2, h3⟩ := ih (fstep x m z)
      rw [List.foldl_cons]
      have hs : m ≤ fstep x m z ∧ (z.1 < x → z.2 + 1 ≤ fstep x m z) ∧ (fstep x m z = m ∨ (z.1 < x ∧ fstep x m z = z.2 + 1)) := by
        unfold fstep
        split
        · split
          · refine ⟨by omega, fun _ => by omega, .inr ⟨by assumption, rfl⟩⟩
          · refine ⟨by omega, fun _ => by omega, .inl rfl⟩
        · refine ⟨by omega, fun _ => by omega, .inl rfl⟩
      refine ⟨by omega, fun p hp hx => ?_, ?_⟩
      · rcases List.mem_cons.mp hp with rfl | hp
        · have := hs.2.1 hx
          omega
        · exact h2 p hp hx
      · rcases h3 with e | ⟨p, hp, hx, e⟩
        · rcases hs.2.2 with e2 | ⟨hx, e2⟩
          · exact .inl (by rw [e, e2])
          · exact .inr ⟨z, by simp, hx, by rw [e, e2]⟩
        · exact .inr ⟨p, List.mem_cons_of_mem _ hp, hx, e⟩
  exact h zs 1
theorem falls_drop : ∀ (k : Nat) (r : List Int), falls (r.drop k) = (falls r).drop k
  | 0, _ => rfl
  | k + 1, [] => rfl
  | k + 1, x :: r => falls_drop k r
theorem falls_at {r : List Int} {k : Nat} (h : k < r.length) : (falls r)[k]? = some (gmz (r.getD k 0) ((r.drop (k + 1)).zip (falls (r.drop (k + 1))))) := by
  have e : r.drop k = r.getD k 0 :: r.drop (k + 1) := by
    rw [List.getD_eq_getElem?_getD, List.getElem?_eq_getElem h]
    exact (List.getElem_cons_drop h).symm
  have e2 := falls_drop k r
  rw [e] at e2
  have : ((falls r).drop k)[0]? = some (gmz (r.getD k 0) ((r.drop (k + 1)).zip (falls (r.drop (k + 1))))) := by
    rw [← e2]
    rfl
  rw [List.getElem?_drop] at this
  simpa using this
theorem getD_of {α : Type} {d : α} {xs : List α} {k : Nat} {x : α} (h : xs[k]? = some x) : xs.getD k d = x := by rw [List.getD_eq_getElem?_getD, h]; rfl
theorem zip_at {r fs : List Int} {p : Int × Int} (h : p ∈ r.zip fs) : ∃ j : Nat, r[j]? = some p.1 ∧ fs[j]? = some p.2 := by
  obtain ⟨j, hj⟩ := List.mem_iff_getElem?.mp h
  rw [List.getElem?_zip_eq_some] at hj
  exact ⟨j, hj⟩
theorem falls_pos {r : List Int} {k : Nat} (h : k < r.length) : 1 ≤ (falls r).getD k 0 := by
  rw [getD_of (falls_at h)]
  exact (gmz_spec _ _).1
/-- behind a number with a longer piece stands a lesser one with one shorter by one -/
theorem falls_next {r : List Int} {k : Nat} {l : Int} (h : k < r.length) (e : (falls r).getD k 0 = l + 1) (hl : 1 ≤ l) : ∃ j, k < j ∧ j < r.length ∧ r.getD j 0 < r.getD k 0 ∧ (falls r).getD j 0 = l := by
  rw [getD_of (falls_at h)] at e
  rcases (gmz_spec (r.getD k 0) ((r.drop (k + 1)).zip (falls (r.drop (k + 1))))).2.2 with z | ⟨p, hp, hx, z⟩
  · omega
  · obtain ⟨j, h1, h2⟩ := zip_at hp
    rw [falls_drop] at h2
    rw [List.getElem?_drop] at h1 h2
    have hj := lt_of_at h1
    exact ⟨k + 1 + j, by omega, hj, by rw [getD_of h1]; exact hx, by rw [getD_of h2]; omega⟩
theorem falls_le {r : List Int} {k j : Nat} (hk : k < j) (hj : j < r.length) (hx : r.getD j 0 < r.getD k 0) : (falls r).getD j 0 + 1 ≤ (falls r).getD k 0 := by
  rw [getD_of (falls_at (show k < r.length by omega))]
  refine (gmz_spec (r.getD k 0) _).2.1 (r.getD j 0, (falls r).getD j 0) ?_ hx
  refine List.mem_iff_getElem?.mpr ⟨j - (k + 1), ?_⟩
  rw [List.getElem?_zip_eq_some]
  have e : k + 1 + (j - (k + 1)) = j := by omega
  refine ⟨?_, ?_⟩
  · rw [List.getElem?_drop, e, List.getElem?_eq_getElem hj, List.getD_eq_getElem?_getD, List.getElem?_eq_getElem hj]
    rfl
  · have hj2 : j < (falls r).length := by rw [falls_len]; exact hj
    rw [falls_drop, List.getElem?_drop, e, List.getElem?_eq_getElem hj2]
    show some (falls r)[j] = some ((falls r).getD j 0)
    rw [List.getD_eq_getElem?_getD, List.getElem?_eq_getElem hj2]
    rfl
/-- only the order counts -/
theorem falls_map {f : Int → Int} : ∀ {r : List Int}, (∀ a ∈ r, ∀ b ∈ r, f a < f b ↔ a < b) → falls (r.map f) = falls r
  | [], _ => rfl
  | x :: r, h => by
    have ih := falls_map (f := f) (r := r) fun a ha b hb => h a (List.mem_cons_of_mem _ ha) b (List.mem_cons_of_mem _ hb)
    show gmz (f x) ((r.map f).zip (falls (r.map f))) :: falls (r.map f) = gmz x (r.zip (falls r)) :: falls r
    rw [ih]
    congr 1
    generalize falls r = fs
    unfold gmz
    have : ∀ (r : List Int) (fs : List Int) (m : Int), (∀ a ∈ r, f a < f x ↔ a < x) → ((r.map f).zip fs).foldl (fstep (f x)) m = (r.zip fs).foldl (fstep x) m := by
      intro r
      induction r with
      | nil => intro fs m _; rfl
      | cons y r ih =>
        intro fs m hy
        cases fs with
        | nil => rfl
        | cons g fs =>
          rw [List.map_cons, List.zip_cons_cons, List.zip_cons_cons, List.foldl_cons, List.foldl_cons]
          have e : fstep (f x) m (f y, g) = fstep x m (y, g) := by
            unfold fstep
            have := hy y (by simp)
            by_cases c : y < x
            · rw [if_pos (this.mpr c), if_pos c]
            · rw [if_neg (fun z => c (this.mp z)), if_neg c]
          rw [e]
          exact ih fs _ fun a ha => hy a (List.mem_cons_of_mem _ ha)
    exact this r fs 1 fun a ha => h a (List.mem_cons_of_mem _ ha) x (by simp)
theorem ranks_cmp {ns : List Int} {a b : Int} (ha : a ∈ ns) (hb : b ∈ ns) : (below ns a : Int) < (below ns b : Int) ↔ a < b := by
  have := below_lt (ns := ns) (a := a) (b := b) ha
  omega
theorem falls_ranks (ns : List Int) : falls (ranks ns) = falls ns := by
  show falls (ns.map fun x => (below ns x : Int)) = _
  exact falls_map fun a ha b hb => ranks_cmp ha hb
/-! ### the first longest one -/
/-- the greatest of all, 0 of none -/
def mx0 (fs : List Int) : Int := fs.foldl max 0
theorem mx0_spec (fs : List Int) : 0 ≤ mx0 fs ∧ (∀ y ∈ fs, y ≤ mx0 fs) ∧ (mx0 fs = 0 ∨ mx0 fs ∈ fs) := by
  obtain ⟨h1, h2⟩ := foldl_max_mem fs 0
  refine ⟨h2 0 (by simp), fun y hy => h2 y (List.mem_cons_of_mem _ hy), ?_⟩
  rcases List.mem_cons.mp h1 with z | z
  · exact .inl z
  · exact .inr z
/-- k may be the next place of a piece, where so many are wanted from it on -/
def Nxt (row fs : List Int) (P : List Nat) (l : Int) (k : Nat) : Prop := k < row.length ∧ (∀ p, P.getLast? = some p → p < k ∧ row.getD k 0 < row.getD p 0) ∧ fs.getD k 0 = l
def IsF (row fs : List Int) (M : Int) (P : List Nat) : Prop := ∀ (t : Nat) (h : t < P.length), Nxt row fs (P.take t) (M - t) P[t] ∧ ∀ j, j < P[t] → ¬ Nxt row fs (P.take t) (M - t) j
theorem IsF.nil (row fs : List Int) (M : Int) : IsF row fs M [] := fun t h => by simp at h
theorem IsF.snoc {row fs : List Int} {M : Int} {P : List Nat} {k : Nat} (h : IsF row fs M P) (n : Nxt row fs P (M - P.length) k) (f : ∀ j, j < k → ¬ Nxt row fs P (M - P.length) j) : IsF row fs M (P ++ [k]) := fun t ht => by
  rw [List.length_append] at ht
  by_cases e : t < P.length
  · have e1 : (P ++ [k])[t]'(by rw [List.length_append]; omega) = P[t] := List.getElem_append_left e
    have e2 : (P ++ [k]).take t = P.take t := by rw [List.take_append_of_le_length (by omega)]
    rw [e1, e2]
    exact h t e
  · have e3 : t = P.length := by simp at ht; omega
    subst e3
    have e1 : (P ++ [k])[P.length]'(by simp) = k := by simp
    have e2 : (P ++ [k]).take P.length = P := by simp
    rw [e1, e2]
    exact ⟨n, f⟩
theorem IsF.uniq {row fs : List Int} {M : Int} {P R : List Nat} (h : IsF row fs M P) (k : IsF row fs M R) (l : P.length = R.length) : P = R := by
  have : ∀ t, t ≤ P.length → P.take t = R.take t := by
    intro t
    induction t with
    | zero => intro _; rfl
    | succ t ih =>
      intro ht
      have e := ih (by omega)
      have h1 := h t (by omega)
      have h2 := k t (by omega)
      rw [e] at h1
      have e2 : P[t] = R[t]'(by omega) := by
        rcases Nat.lt_trichotomy P[t] (R[t]'(by omega)) with z | z | z
        · exact absurd h1.1 (h2.2 _ z)
        · exact z
        · exact absurd h2.1 (h1.2 _ z)
      rw [List.take_add_one, List.take_add_one, List.getElem?_eq_getElem (show t < P.length by omega), List.getElem?_eq_getElem (show t < R.length by omega), e, e2]
  have := this P.length (Nat.le_refl _)
  rw [List.take_length, l, List.take_length] at this
  exact this
theorem IsF.rise {row fs : List Int} {M : Int} {P : List Nat} (h : IsF row fs M P) {t : Nat} (ht : t < P.length) : P[t] < row.length := (h t ht).1.1
/-- while the piece is not whole there is a next place -/
theorem IsF.more {row : List Int} {P : List Nat} (h : IsF row (falls row) (mx0 (falls row)) P) (hl : (P.length : Int) < mx0 (falls row)) : ∃ k, Nxt row (falls row) P (mx0 (falls row) - P.length) k := by
  obtain ⟨m0, m1, m2⟩ := mx0_spec (falls row)
  cases e : P.getLast? with
  | none =>
    have e1 := List.getLast?_eq_none_iff.mp e
    subst e1
    have e0 : (([] : List Nat).length : Int) = 0 := rfl
    rw [e0] at hl ⊢
    rcases m2 with z | z
    · omega
    · obtain ⟨k, hk⟩ := List.mem_iff_getElem?.mp z
      have := lt_of_at hk
      rw [falls_len] at this
      exact ⟨k, this, by simp, by rw [getD_of hk]; omega⟩
  | some p =>
    have hpos : 0 < P.length := by
      cases P with
      | nil => cases e
      | cons a r => simp
    have ep : P[P.length - 1]'(by omega) = p := by
      rw [List.getLast?_eq_getElem?] at e
      rw [List.getElem?_eq_getElem (show P.length - 1 < P.length by omega)] at e
      exact Option.some.inj e
    have hp := (h (P.length - 1) (by omega)).1
    rw [ep] at hp
    obtain ⟨j, j1, j2, j3, j4⟩ := falls_next (l := mx0 (falls row) - P.length) hp.1 (by rw [hp.2.2]; omega) (by omega)
    exact ⟨j, j2, fun q hq => by rw [e] at hq; cases hq; exact ⟨j1, j3⟩, j4⟩
theorem Nxt.pos {row : List Int} {P : List Nat} {l : Int} {k : Nat} (h : Nxt row (falls row) P l k) : 1 ≤ l := by
  rw [← h.2.2]
  exact falls_pos h.1
theorem nxt_ranks {ns fs : List Int} {P : List Nat} {l : Int} {k : Nat} (hP : ∀ p, P.getLast? = some p → p < ns.length) : Nxt (ranks ns) fs P l k ↔ Nxt ns fs P l k := by
  unfold Nxt
  rw [ranks_len]
  refine and_congr_right fun hk => and_congr_left fun _ => forall_congr' fun p => ?_
  refine forall_congr' fun hp => and_congr_right fun _ => ?_
  have h1 : (ranks ns).getD k 0 = (below ns ns[k] : Int) := by unfold ranks; rw [List.getD_eq_getElem?_getD, List.getElem?_map, List.getElem?_eq_getElem hk]; rfl
  have hp' := hP p hp
  have h2 : (ranks ns).getD p 0 = (below ns ns[p] : Int) := by unfold ranks; rw [List.getD_eq_getElem?_getD, List.getElem?_map, List.getElem?_eq_getElem hp']; rfl
  rw [h1, h2, ranks_cmp (List.getElem_mem hk) (List.getElem_mem hp'), List.getD_eq_getElem?_getD, List.getElem?_eq_getElem hk, List.getD_eq_getElem?_getD, List.getElem?_eq_getElem hp']
  rfl
theorem isF_ranks {ns fs : List Int} {M : Int} {P : List Nat} : IsF (ranks ns) fs M P ↔ IsF ns fs M P := by
  have key : ∀ (R : List Nat), (∀ t (h : t < R.length), R[t] < ns.length) → ∀ t, ∀ p, (R.take t).getLast? = some p → p < ns.length := fun R hR t p hp => by
    have := List.mem_of_mem_take (List.mem_of_getLast? hp)
    obtain ⟨j, hj, e⟩ := List.mem_iff_getElem.mp this
    rw [← e]
    exact hR j hj
  constructor
  · intro h
    have hR : ∀ t (ht : t < P.length), P[t] < ns.length := fun t ht => by have := h.rise ht; rw [ranks_len] at this; exact this
    exact fun t ht => ⟨(nxt_ranks (key P hR t)).mp (h t ht).1, fun j hj z => (h t ht).2 j hj ((nxt_ranks (key P hR t)).mpr z)⟩
  · intro h
    have hR : ∀ t (ht : t < P.length), P[t] < ns.length := fun t ht => h.rise ht
    exact fun t ht => ⟨(nxt_ranks (key P hR t)).mpr (h t ht).1, fun j hj z => (h t ht).2 j hj ((nxt_ranks (key P hR t)).mp z)⟩
end Dv
namespace Dv
open PySem PySem.Spec PyProof.Rows L2 Px
/-- the list of lengths while it is being made: place p has g, those behind it are made -/
def LstF (od : List Int) (p : Nat) (g : Int) : List Int := List.replicate p 1 ++ g :: falls (od.drop (p + 1))
theorem lstF_len {od : List Int} {p : Nat} {g : Int} (h : p < od.length) : (LstF od p g).length = od.length := by
  unfold LstF
  rw [List.length_append, List.length_replicate, List.length_cons, falls_len, List.length_drop]
  omega
theorem lstF_at {od : List Int} {p : Nat} {g : Int} : (LstF od p g).getD p 0 = g := by
  unfold LstF
  rw [List.getD_eq_getElem?_getD, List.getElem?_append_right (by simp)]
  simp
theorem lstF_later {od : List Int} {p j : Nat} {g : Int} : (LstF od p g).getD (p + 1 + j) 0 = (falls (od.drop (p + 1))).getD j 0 := by
  unfold LstF
  rw [List.getD_eq_getElem?_getD, List.getElem?_append_right (by simp; omega), List.length_replicate, show p + 1 + j - p = j + 1 by omega, List.getElem?_cons_succ, ← List.getD_eq_getElem?_getD]
theorem lstF_set {od : List Int} {p : Nat} {g h : Int} : (LstF od p g).set p h = LstF od p h := by
  unfold LstF
  rw [List.set_append_right _ _ (by simp)]
  simp
/-- how far the place p is looked at -/
def gmJ (od : List Int) (p j : Nat) : Int := gmz (od.getD p 0) (((od.drop (p + 1)).zip (falls (od.drop (p + 1)))).take j)
theorem gmJ_zero (od : List Int) (p : Nat) : gmJ od p 0 = 1 := rfl
theorem gmJ_succ {od : List Int} {p j : Nat} (h : p + 1 + j < od.length) : gmJ od p (j + 1) = if od.getD (p + 1 + j) 0 < od.getD p 0 then (if (falls (od.drop (p + 1))).getD j 0 + 1 > gmJ od p j then (falls (od.drop (p + 1))).getD j 0 + 1 else gmJ od p j) else gmJ od p j := by
  unfold gmJ
  have hz : ((od.drop (p + 1)).zip (falls (od.drop (p + 1))))[j]? = some (od.getD (p + 1 + j) 0, (falls (od.drop (p + 1))).getD j 0) := by
    rw [List.getElem?_zip_eq_some]
    have hj : j < (falls (od.drop (p + 1))).length := by rw [falls_len, List.length_drop]; omega
    refine ⟨?_, ?_⟩
    · rw [List.getElem?_drop, List.getElem?_eq_getElem h]
      show some _ = some (od.getD (p + 1 + j) 0)
      rw [List.getD_eq_getElem?_getD, List.getElem?_eq_getElem h]
      rfl
    · rw [List.getElem?_eq_getElem hj]
      show some _ = some ((falls (od.drop (p + 1))).getD j 0)
      rw [List.getD_eq_getElem?_getD, List.getElem?_eq_getElem hj]
      rfl
  rw [List.take_add_one, hz]
  show gmz _ (_ ++ [_]) = _
  rw [gmz_snoc]
  rfl
theorem lstF_start {od : List Int} {p : Nat} (h : p < od.length) : List.replicate (p + 1) 1 ++ falls (od.drop (p + 1)) = LstF od p (gmJ od p 0) := by
  unfold LstF
  rw [gmJ_zero, List.replicate_succ', List.append_assoc]
  rfl
theorem lstF_done {od : List Int} {p : Nat} (h : p < od.length) : LstF od p (gmJ od p (od.length - (p + 1))) = List.replicate p 1 ++ falls (od.drop p) := by
  unfold LstF gmJ
  rw [List.take_of_length_le (by rw [List.length_zip, List.length_drop]; omega)]
  have e : od.drop p = od.getD p 0 :: od.drop (p + 1) := by
    rw [List.getD_eq_getElem?_getD, List.getElem?_eq_getElem h]
    exact (List.getElem_cons_drop h).symm
  rw [e]
  rfl
theorem rep_one {x : PyData} : ∀ n : Nat, (List.replicate n [x]).flatten = List.replicate n x
  | 0 => rfl
  | n + 1 => by rw [List.replicate_succ, List.flatten_cons, rep_one n]; rfl
theorem rep_inD (n : Nat) (i : Int) : List.replicate n (PyData.int i) = inD (List.replicate n i) := by unfold inD; rw [List.map_replicate]
theorem w_repI {i : Int} {n : Nat} {k : Int} {Q : T → Prop} (hk : k = (n : Nat)) (hn : n ≤ 1000000) (q : Q (.l (inD (List.replicate n i)))) : dRep (.l [.int i]) (.g (.int k)) Q := by
  subst hk
  refine ⟨[.int i], _, rfl, rfl, by omega, by omega, by simp; omega, ?_⟩
  rw [Int.toNat_natCast, rep_one, rep_inD]
  exact q
def cFalls : List PyData → (T → Prop) → Prop := fun xs Q => ∃ ns : List Int, xs = [.list (inD ns)] ∧ ns.length ≤ 4000 ∧ Q (.l (inD (falls ns)))
def cFallen : List PyData → (T → Prop) → Prop := fun xs Q => ∃ ns : List Int, xs = [.list (inD ns)] ∧ ns.length ≤ 4000 ∧ ns.Nodup ∧ ∀ P : List Nat, IsF ns (falls ns) (mx0 (falls ns)) P → (P.length : Int) = mx0 (falls ns) → Q (.l (inD (P.map fun (k : Nat) => (k : Int))))
theorem inD_set (ns : List Int) (k : Nat) (i : Int) : (inD ns).set k (.int i) = inD (ns.set k i) := by unfold inD; rw [List.map_set]
end Dv
namespace Dv
open PySem PySem.Spec PyProof.Rows L2 Px
abbrev ntI (P : List Nat) : List Int := P.map fun (k : Nat) => (k : Int)
theorem ntI_snoc (P : List Nat) (k : Nat) : inD (ntI P) ++ [.int (k : Nat)] = inD (ntI (P ++ [k])) := by simp [inD, ntI]
theorem ntI_last {P : List Nat} {p : Nat} (h : P.getLast? = some p) : atI (inD (ntI P)) (-1) = some (.int (p : Nat)) := by
  have hp : 0 < P.length := by cases P with
    | nil => cases h
    | cons a r => simp
  rw [List.getLast?_eq_getElem?] at h
  unfold atI ixN
  rw [if_neg (by omega), if_pos (by simp [inD, ntI]; omega)]
  have e : (((inD (ntI P)).length : Int) + -1).toNat = P.length - 1 := by simp [inD, ntI]; omega
  show (inD (ntI P))[(((inD (ntI P)).length : Int) + -1).toNat]? = _
  rw [e]
  simp [inD, ntI, h]
theorem last_lt {P : List Nat} {n p : Nat} (h : P.getLast? = some p) (b : ∀ x ∈ P, x < n) : p < n := b p (List.mem_of_getLast? h)
/-- one step of the look from the left -/
theorem isF_yes {row : List Int} {P : List Nat} {i : Nat} {M : Int} (h : IsF row (falls row) M P) (no : ∀ j, j < i → ¬ Nxt row (falls row) P (M - P.length) j) (y : Nxt row (falls row) P (M - P.length) i) :
    IsF row (falls row) M (P ++ [i]) ∧ (∀ j, j < i + 1 → ¬ Nxt row (falls row) (P ++ [i]) (M - (P ++ [i]).length) j) ∧ ((P ++ [i]).length : Int) ≤ M := by
  refine ⟨h.snoc y no, fun j hj z => ?_, ?_⟩
  · have := (z.2.1 i (by simp)).1
    omega
  · have := y.pos
    rw [List.length_append]
    simp
    omega
theorem isF_no {row : List Int} {P : List Nat} {i : Nat} {M : Int} (no : ∀ j, j < i → ¬ Nxt row (falls row) P (M - P.length) j) (n : ¬ Nxt row (falls row) P (M - P.length) i) : ∀ j, j < i + 1 → ¬ Nxt row (falls row) P (M - P.length) j := fun j hj => by
  by_cases e : j = i
  · subst e
    exact n
  · exact no j (by omega)
theorem isF_end {row : List Int} {P : List Nat} (h : IsF row (falls row) (mx0 (falls row)) P) (no : ∀ j, j < row.length → ¬ Nxt row (falls row) P (mx0 (falls row) - P.length) j) (le : (P.length : Int) ≤ mx0 (falls row)) : (P.length : Int) = mx0 (falls row) := by
  rcases Int.lt_or_le P.length (mx0 (falls row)) with z | z
  · obtain ⟨k, hk⟩ := h.more z
    exact absurd hk (no k hk.1)
  · omega
theorem mx0_of {row : List Int} {m : Int} (h : m ∈ falls row) (b : ∀ y ∈ falls row, y ≤ m) : mx0 (falls row) = m := by
  obtain ⟨h1, h2, h3⟩ := mx0_spec (falls row)
  have := h2 m h
  rcases h3 with z | z
  · obtain ⟨j, hj⟩ := List.mem_iff_getElem?.mp h
    have hl := lt_of_at hj
    rw [falls_len] at hl
    have := falls_pos (r := row) hl
    rw [getD_of hj] at this
    omega
  · have := b _ z
    omega
end Dv
namespace Dv
open PySem PySem.Spec PyProof.Rows L2 Px
theorem rgI_cons (b : Int) (m : Nat) : rgI b (m + 1) = b :: rgI (b + 1) m := by
  unfold rgI
  rw [List.range_succ_eq_map, List.map_cons, List.map_map]
  congr 1
  · simp
  · apply List.map_congr_left
    intro k _
    simp only [Function.comp]
    omega
/-- the first of a range that passes -/
theorem first_filter (c : Int → Bool) : ∀ (m : Nat) (b : Int), (∃ k ∈ rgI b m, c k = true) → ∃ h r, (rgI b m).filter c = h :: r ∧ b ≤ h ∧ h < b + m ∧ c h = true ∧ ∀ j, b ≤ j → j < h → c j = false
  | 0, b, ⟨k, hk, _⟩ => by simp [rgI] at hk
  | m + 1, b, ⟨k, hk, hc⟩ => by
    rw [rgI_cons] at hk ⊢
    rw [List.filter_cons]
    by_cases e : c b = true
    · rw [if_pos e]
      exact ⟨b, _, rfl, Int.le_refl _, by omega, e, fun j h1 h2 => by omega⟩
    · rw [if_neg e]
      have hk2 : k ∈ rgI (b + 1) m := by
        rcases List.mem_cons.mp hk with rfl | z
        · exact absurd hc e
        · exact z
      obtain ⟨h, r, h1, h2, h3, h4, h5⟩ := first_filter c m (b + 1) ⟨k, hk2, hc⟩
      refine ⟨h, r, h1, by omega, by omega, h4, fun j j1 j2 => ?_⟩
      by_cases z : j = b
      · subst z
        exact Bool.eq_false_iff.mpr e
      · exact h5 j (by omega) j2
end Dv
namespace Dv
open PySem PySem.Spec PyProof.Rows L2 Px
theorem falls_bound : ∀ (r : List Int), ∀ y ∈ falls r, 1 ≤ y ∧ y ≤ r.length
  | [], y, h => by cases h
  | x :: r, y, h => by
    have ih := falls_bound r
    rcases List.mem_cons.mp h with rfl | h
    · obtain ⟨h1, _, h3⟩ := gmz_spec x (r.zip (falls r))
      rw [List.length_cons]
      rcases h3 with e | ⟨p, hp, _, e⟩
      · rw [e]; omega
      · obtain ⟨j, _, hj⟩ := zip_at hp
        have := ih p.2 (List.mem_of_getElem? hj)
        omega
    · have := ih y h
      rw [List.length_cons]
      omega
theorem mx0_bound (r : List Int) : mx0 (falls r) ≤ r.length := by
  obtain ⟨_, _, h⟩ := mx0_spec (falls r)
  rcases h with e | h
  · rw [e]; omega
  · exact (falls_bound r _ h).2
end Dv

set_option Elab.async false
set_option linter.all false
set_option maxRecDepth 100000
set_option maxHeartbeats 4000000
/-! Each number's line. -/
namespace Dv
open PySem PySem.Spec PyProof.Rows L2 Px
def lnK (ls : List Int) (x : Int) : Nat := ls.findIdx fun l => decide (l < x)
def lnN (ls : List Int) (x : Int) : List Int := ls.take (lnK ls x) ++ x :: ls.drop (lnK ls x + 1)
def lnS (s : List Int × List Nat) (x : Int) : List Int × List Nat := (lnN s.1 x, s.2 ++ [lnK s.1 x])
def lnF (xs : List Int) : List Int × List Nat := xs.foldl lnS ([], [])
theorem lnF_snoc (xs : List Int) (x : Int) : lnF (xs ++ [x]) = lnS (lnF xs) x := by unfold lnF; rw [List.foldl_append]; rfl
theorem lnK_le (ls : List Int) (x : Int) : lnK ls x ≤ ls.length := List.findIdx_le_length
theorem lnK_before {ls : List Int} {x : Int} {j : Nat} {y : Int} (h : ls[j]? = some y) (hj : j < lnK ls x) : x ≤ y := by
  have h1 := lt_of_at h
  have h2 : (decide (ls[j] < x)) = false := List.not_of_lt_findIdx (p := fun l => decide (l < x)) hj
  rw [List.getElem?_eq_getElem h1] at h
  cases Option.some.inj h
  simp at h2
  exact h2
theorem lnK_at {ls : List Int} {x : Int} {y : Int} (h : ls[lnK ls x]? = some y) : y < x := by
  have h1 := lt_of_at h
  have h2 : decide (ls[lnK ls x] < x) = true := List.findIdx_getElem (p := fun l => decide (l < x)) (w := h1)
  rw [List.getElem?_eq_getElem h1] at h
  cases Option.some.inj h
  exact of_decide_eq_true h2
theorem lnN_at (ls : List Int) (x : Int) : (lnN ls x)[lnK ls x]? = some x := by
  have := lnK_le ls x
  unfold lnN
  rw [List.getElem?_append_right (by rw [List.length_take]; omega), List.length_take, show lnK ls x - min (lnK ls x) ls.length = 0 by omega]
  rfl
theorem lnN_ne {ls : List Int} {x : Int} {j : Nat} (h : j ≠ lnK ls x) (hj : j < ls.length) : (lnN ls x)[j]? = ls[j]? := by
  have := lnK_le ls x
  unfold lnN
  by_cases c : j < lnK ls x
  · rw [List.getElem?_append_left (by rw [List.length_take]; omega), List.getElem?_take, if_pos c]
  · rw [List.getElem?_append_right (by rw [List.length_take]; omega), List.length_take, show j - min (lnK ls x) ls.length = (j - lnK ls x - 1) + 1 by omega, List.getElem?_cons_succ, List.getElem?_drop]
    congr 1
    omega
theorem lnN_len (ls : List Int) (x : Int) : (lnN ls x).length = if lnK ls x < ls.length then ls.length else ls.length + 1 := by
  have := lnK_le ls x
  unfold lnN
  rw [List.length_append, List.length_take, List.length_cons, List.length_drop]
  split <;> omega
/-- as a set, or behind the end -/
theorem lnN_set {ls : List Int} {x : Int} (h : lnK ls x < ls.length) : lnN ls x = ls.set (lnK ls x) x := by
  unfold lnN
  rw [List.set_eq_take_append_cons_drop, if_pos h]
theorem lnN_new {ls : List Int} {x : Int} (h : ¬ lnK ls x < ls.length) : lnK ls x = ls.length ∧ lnN ls x = ls ++ [x] := by
  have := lnK_le ls x
  have e : lnK ls x = ls.length := by omega
  refine ⟨e, ?_⟩
  unfold lnN
  rw [e, List.take_length, List.drop_of_length_le (by omega)]
theorem desc_at {ls : List Int} (h : ls.Pairwise (· > ·)) {i j : Nat} {a b : Int} (hi : ls[i]? = some a) (hj : ls[j]? = some b) (l : i < j) : b < a := by
  have h1 := lt_of_at hi
  have h2 := lt_of_at hj
  have := List.pairwise_iff_getElem.mp h i j h1 h2 l
  rw [List.getElem?_eq_getElem h1] at hi
  rw [List.getElem?_eq_getElem h2] at hj
  cases Option.some.inj hi
  cases Option.some.inj hj
  exact this
/-- the greatest of those below stands where the first of them does -/
theorem ln_index {ls : List Int} {x m : Int} (d : ls.Pairwise (· > ·)) (hm : m ∈ ls) (hx : m < x) (hb : ∀ y ∈ ls, y < x → y ≤ m) : ls.idxOf m = lnK ls x ∧ lnK ls x < ls.length := by
  obtain ⟨j, hj⟩ := List.mem_iff_getElem?.mp hm
  have hjl := lt_of_at hj
  have hk : lnK ls x ≤ j := by
    rcases Nat.lt_or_ge j (lnK ls x) with z | z
    · have := lnK_before hj z
      omega
    · exact z
  have hkl : lnK ls x < ls.length := by omega
  have e1 := List.getElem?_eq_getElem hkl
  have h1 := lnK_at e1
  have h2 := hb _ (List.getElem_mem hkl) h1
  have e : j = lnK ls x := by
    rcases Nat.lt_or_ge (lnK ls x) j with z | z
    · have := desc_at d e1 hj z
      omega
    · omega
  have nd : ls.Nodup := d.imp fun h e => by subst e; exact absurd h (Int.lt_irrefl _)
  refine ⟨?_, hkl⟩
  rw [← e]
  have e3 : ls[j] = m := by
    rw [List.getElem?_eq_getElem hjl] at hj
    exact Option.some.inj hj
  rw [← e3]
  exact nd.idxOf_getElem j hjl
theorem ln_none {ls : List Int} {x : Int} (h : ls.filter (fun l => decide (l < x)) = []) : ¬ lnK ls x < ls.length := fun z => by
  have h1 := lnK_at (List.getElem?_eq_getElem z)
  have : ls[lnK ls x] ∈ ls.filter (fun l => decide (l < x)) := List.mem_filter.mpr ⟨List.getElem_mem z, decide_eq_true h1⟩
  rw [h] at this
  cases this
/-- only the order counts -/
theorem lnK_map {f : Int → Int} {x : Int} : ∀ {ls : List Int}, (∀ a ∈ ls, f a < f x ↔ a < x) → lnK (ls.map f) (f x) = lnK ls x := fun {ls} h => by
  unfold lnK
  rw [List.findIdx_map]
  induction ls with
  | nil => rfl
  | cons a r ih =>
    have ih := ih fun b hb => h b (List.mem_cons_of_mem _ hb)
    rw [List.findIdx_cons, List.findIdx_cons, ih]
    have e : ((fun l => decide (l < f x)) ∘ f) a = decide (a < x) := by
      show decide (f a < f x) = decide (a < x)
      exact decide_eq_decide.mpr (h a (by simp))
    rw [e]
theorem lnS_map {f : Int → Int} {x : Int} {s : List Int × List Nat} (h : ∀ a ∈ s.1, f a < f x ↔ a < x) : lnS (s.1.map f, s.2) (f x) = ((lnS s x).1.map f, (lnS s x).2) := by
  unfold lnS lnN
  show (_, _) = (_, _)
  rw [lnK_map h]
  simp
structure LnInv (pre : List Int) (s : List Int × List Nat) : Prop where
  desc : s.1.Pairwise (· > ·)
  len : s.2.length = pre.length
  top : ∀ (i k : Nat) (v : Int), s.2[i]? = some k → pre[i]? = some v → ∃ y, s.1[k]? = some y ∧ v ≤ y
  has : ∀ (k : Nat) (y : Int), s.1[k]? = some y → ∃ i : Nat, s.2[i]? = some k ∧ pre[i]? = some y
  up : ∀ (i j ki kj : Nat) (u v : Int), i < j → s.2[i]? = some ki → s.2[j]? = some kj → pre[i]? = some u → pre[j]? = some v → v < u → ki < kj
  down : ∀ (i k : Nat) (v : Int), s.2[i]? = some (k + 1) → pre[i]? = some v → ∃ (i' : Nat) (u : Int), i' < i ∧ s.2[i']? = some k ∧ pre[i']? = some u ∧ v < u
theorem LnInv.nil : LnInv [] ([], []) := ⟨List.Pairwise.nil, rfl, fun i k v h => by simp at h, fun k y h => by simp at h, fun i j ki kj u v _ h => by simp at h, fun i k v h => by simp at h⟩
theorem LnInv.mem {pre : List Int} {s : List Int × List Nat} (h : LnInv pre s) {y : Int} (hy : y ∈ s.1) : y ∈ pre := by
  obtain ⟨k, hk⟩ := List.mem_iff_getElem?.mp hy
  obtain ⟨i, _, e⟩ := h.has k y hk
  exact List.mem_of_getElem? e
theorem snoc_at {α : Type} {xs : List α} {x y : α} {i : Nat} (h : (xs ++ [x])[i]? = some y) : (i < xs.length ∧ xs[i]? = some y) ∨ (i = xs.length ∧ y = x) := by
  have hl := lt_of_at h
  rw [List.length_append] at hl
  by_cases c : i < xs.length
  · rw [List.getElem?_append_left c] at h
    exact .inl ⟨c, h⟩
  · have e : i = xs.length := by simp at hl; omega
    subst e
    rw [List.getElem?_append_right (Nat.le_refl _), Nat.sub_self] at h
    exact .inr ⟨rfl, (Option.some.inj h).symm⟩
theorem snoc_old {α : Type} {xs : List α} {x y : α} {i : Nat} (h : xs[i]? = some y) : (xs ++ [x])[i]? = some y := by
  rw [List.getElem?_append_left (lt_of_at h)]
  exact h
theorem snoc_new {α : Type} {xs : List α} {x : α} {n : Nat} (h : n = xs.length) : (xs ++ [x])[n]? = some x := by
  subst h
  rw [List.getElem?_append_right (Nat.le_refl _), Nat.sub_self]
  rfl
theorem LnInv.step {pre : List Int} {s : List Int × List Nat} {x : Int} (h : LnInv pre s) (nx : x ∉ pre) : LnInv (pre ++ [x]) (lnS s x) := by
  have kle := lnK_le s.1 x
  have gt : ∀ (j : Nat) (y : Int), s.1[j]? = some y → j < lnK s.1 x → x < y := fun j y hy hj => by
    have h1 := lnK_before hy hj
    have h2 : y ≠ x := fun e => nx (e ▸ h.mem (List.mem_of_getElem? hy))
    omega
  have new_at : ∀ (k : Nat) (y : Int), (lnN s.1 x)[k]? = some y → (k = lnK s.1 x ∧ y = x) ∨ (k ≠ lnK s.1 x ∧ s.1[k]? = some y) := fun k y hy => by
    by_cases c : k = lnK s.1 x
    · subst c
      rw [lnN_at] at hy
      exact .inl ⟨rfl, (Option.some.inj hy).symm⟩
    · have hl := lt_of_at hy
      rw [lnN_len] at hl
      have hk : k < s.1.length := by split at hl <;> omega
      rw [lnN_ne c hk] at hy
      exact .inr ⟨c, hy⟩
  have keep : ∀ (k : Nat) (y : Int), k ≠ lnK s.1 x → s.1[k]? = some y → (lnN s.1 x)[k]? = some y := fun k y c hy => by rw [lnN_ne c (lt_of_at hy)]; exact hy
  refine ⟨?_, ?_, ?_, ?_, ?_, ?_⟩
  · rw [List.pairwise_iff_getElem]
    intro i j hi hj hij
    have ei := List.getElem?_eq_getElem hi
    have ej := List.getElem?_eq_getElem hj
    rcases new_at i _ ei with ⟨e1, e2⟩ | ⟨n1, e1⟩
    · rcases new_at j _ ej with ⟨f1, f2⟩ | ⟨m1, f1⟩
      · omega
      · rw [e2]
        have hk : lnK s.1 x < s.1.length := by have := lt_of_at f1; omega
        have q1 := lnK_at (List.getElem?_eq_getElem hk)
        have q2 := desc_at h.desc (List.getElem?_eq_getElem hk) f1 (by omega)
        show _ < _
        omega
    · rcases new_at j _ ej with ⟨f1, f2⟩ | ⟨m1, f1⟩
      · rw [f2]
        exact gt i _ e1 (by omega)
      · exact desc_at h.desc e1 f1 hij
  · show (s.2 ++ [lnK s.1 x]).length = _
    rw [List.length_append, List.length_append, h.len]
    rfl
  · intro i k v hk hv
    rcases snoc_at (show (s.2 ++ [lnK s.1 x])[i]? = some k from hk) with ⟨i1, e1⟩ | ⟨i1, e1⟩
    · rcases snoc_at hv with ⟨_, f1⟩ | ⟨f0, _⟩
      · obtain ⟨y, y1, y2⟩ := h.top i k v e1 f1
        by_cases c : k = lnK s.1 x
        · subst c
          have := lnK_at y1
          exact ⟨x, lnN_at _ _, by omega⟩
        · exact ⟨y, keep k y c y1, y2⟩
      · have := h.len
        omega
    · rcases snoc_at hv with ⟨f0, _⟩ | ⟨_, f1⟩
      · have := h.len
        omega
      · rw [e1, f1]
        exact ⟨x, lnN_at _ _, Int.le_refl _⟩
  · intro k y hy
    rcases new_at k y hy with ⟨e1, e2⟩ | ⟨n1, e1⟩
    · rw [e1, e2]
      exact ⟨pre.length, snoc_new h.len.symm, snoc_new rfl⟩
    · obtain ⟨i, i1, i2⟩ := h.has k y e1
      exact ⟨i, snoc_old i1, snoc_old i2⟩
  · intro i j ki kj u v hij hi hj hu hv hvu
    rcases snoc_at (show (s.2 ++ [lnK s.1 x])[j]? = some kj from hj) with ⟨j1, e1⟩ | ⟨j1, e1⟩
    · rcases snoc_at (show (s.2 ++ [lnK s.1 x])[i]? = some ki from hi) with ⟨i1, f1⟩ | ⟨i1, f1⟩
      · rcases snoc_at hu with ⟨_, g1⟩ | ⟨g0, _⟩
        · rcases snoc_at hv with ⟨_, g2⟩ | ⟨g0, _⟩
          · exact h.up i j ki kj u v hij f1 e1 g1 g2 hvu
          · have := h.len; omega
        · have := h.len; omega
      · omega
    · rcases snoc_at (show (s.2 ++ [lnK s.1 x])[i]? = some ki from hi) with ⟨i1, f1⟩ | ⟨i1, f1⟩
      · rcases snoc_at hu with ⟨_, g1⟩ | ⟨g0, _⟩
        · rcases snoc_at hv with ⟨g0, _⟩ | ⟨_, g2⟩
          · have := h.len; omega
          · obtain ⟨y, y1, y2⟩ := h.top i ki u f1 g1
            rw [e1]
            rcases Nat.lt_or_ge ki (lnK s.1 x) with z | z
            · exact z
            · exfalso
              have hk : lnK s.1 x < s.1.length := by have := lt_of_at y1; omega
              have q1 := lnK_at (List.getElem?_eq_getElem hk)
              rcases Nat.lt_or_ge (lnK s.1 x) ki with w | w
              · have := desc_at h.desc (List.getElem?_eq_getElem hk) y1 w
                omega
              · have e : ki = lnK s.1 x := by omega
                subst e
                have := lnK_at y1
                omega
        · have := h.len; omega
      · omega
  · intro i k v hi hv
    rcases snoc_at (show (s.2 ++ [lnK s.1 x])[i]? = some (k + 1) from hi) with ⟨i1, e1⟩ | ⟨i1, e1⟩
    · rcases snoc_at hv with ⟨_, g1⟩ | ⟨g0, _⟩
      · obtain ⟨i', u, a, b, c, d⟩ := h.down i k v e1 g1
        exact ⟨i', u, a, snoc_old b, snoc_old c, d⟩
      · have := h.len; omega
    · rcases snoc_at hv with ⟨g0, _⟩ | ⟨_, g1⟩
      · have := h.len; omega
      · have hk : k < s.1.length := by omega
        obtain ⟨i', a, b⟩ := h.has k _ (List.getElem?_eq_getElem hk)
        have hb := lt_of_at b
        have := gt k _ (List.getElem?_eq_getElem hk) (by omega)
        exact ⟨i', _, by have := h.len; omega, snoc_old a, snoc_old b, by rw [g1]; exact this⟩
theorem lnInv_all : ∀ (n : Nat) (xs : List Int), xs.length = n → xs.Nodup → LnInv xs (lnF xs)
  | 0, xs, hl, _ => by
    obtain rfl := List.length_eq_zero_iff.mp hl
    exact .nil
  | n + 1, xs, hl, nd => by
    have hne : xs ≠ [] := fun e => by rw [e] at hl; cases hl
    have e := (List.dropLast_concat_getLast hne).symm
    rw [e] at nd ⊢
    have nd1 := List.nodup_append.mp nd
    rw [lnF_snoc]
    exact (lnInv_all n _ (by rw [List.length_dropLast]; omega) nd1.1).step fun m => nd1.2.2 _ m _ (by simp) rfl
/-- as many lines as the longest falling piece has places -/
theorem lines_falls {xs : List Int} (nd : xs.Nodup) : ((lnF xs).1.length : Int) = mx0 (falls xs) := by
  have h := lnInv_all xs.length xs rfl nd
  generalize hs : lnF xs = s at h
  obtain ⟨m0, m1, m2⟩ := mx0_spec (falls xs)
  have at_ : ∀ {i : Nat}, i < xs.length → ∃ k, s.2[i]? = some k ∧ k < s.1.length := fun {i} hi => by
    have hi2 : i < s.2.length := by rw [h.len]; exact hi
    obtain ⟨y, y1, _⟩ := h.top i _ _ (List.getElem?_eq_getElem hi2) (List.getElem?_eq_getElem hi)
    exact ⟨_, List.getElem?_eq_getElem hi2, lt_of_at y1⟩
  -- no piece is longer
  have up : ∀ (l : Nat) (i k : Nat), i < xs.length → s.2[i]? = some k → (falls xs).getD i 0 = (l : Int) + 1 → l + 1 + k ≤ s.1.length := by
    intro l
    induction l with
    | zero =>
      intro i k hi hk _
      obtain ⟨k', e, hk'⟩ := at_ hi
      rw [hk] at e
      cases Option.some.inj e
      omega
    | succ l ih =>
      intro i k hi hk e
      obtain ⟨j, j1, j2, j3, j4⟩ := falls_next (l := (l : Int) + 1) hi (by rw [e]; omega) (by omega)
      obtain ⟨kj, ek, _⟩ := at_ j2
      have hlt := h.up i j k kj _ _ j1 hk ek (List.getElem?_eq_getElem hi) (List.getElem?_eq_getElem j2) (by
        rw [List.getD_eq_getElem?_getD, List.getD_eq_getElem?_getD, List.getElem?_eq_getElem j2, List.getElem?_eq_getElem hi] at j3
        exact j3)
      have := ih j kj j2 ek j4
      omega
  have le : mx0 (falls xs) ≤ s.1.length := by
    rcases m2 with e | m
    · omega
    · obtain ⟨i, hi⟩ := List.mem_iff_getElem?.mp m
      have hil := lt_of_at hi
      rw [falls_len] at hil
      obtain ⟨k, ek, _⟩ := at_ hil
      have hp := falls_pos (r := xs) hil
      rw [getD_of hi] at hp
      have := up (mx0 (falls xs) - 1).toNat i k hil ek (by rw [getD_of hi]; omega)
      omega
  -- a piece is as long
  have down : ∀ (k i : Nat), i < xs.length → s.2[i]? = some k → ∃ i', i' < xs.length ∧ (falls xs).getD i 0 + k ≤ (falls xs).getD i' 0 := by
    intro k
    induction k with
    | zero => intro i hi _; exact ⟨i, hi, by omega⟩
    | succ k ih =>
      intro i hi hk
      obtain ⟨i', u, a, b, c, d⟩ := h.down i k _ hk (List.getElem?_eq_getElem hi)
      have hi' := lt_of_at c
      obtain ⟨i'', q1, q2⟩ := ih i' hi' b
      have := falls_le (r := xs) (k := i') (j := i) a hi (by
        rw [List.getD_eq_getElem?_getD, List.getD_eq_getElem?_getD, List.getElem?_eq_getElem hi, c]
        exact d)
      exact ⟨i'', q1, by omega⟩
  have ge : (s.1.length : Int) ≤ mx0 (falls xs) := by
    rcases Nat.eq_zero_or_pos s.1.length with e | e
    · omega
    · obtain ⟨i, a, b⟩ := h.has (s.1.length - 1) _ (List.getElem?_eq_getElem (by omega))
      have hi := lt_of_at b
      obtain ⟨i', q1, q2⟩ := down _ i hi a
      have hp := falls_pos (r := xs) hi
      have hm := m1 ((falls xs).getD i' 0) (by
        have : i' < (falls xs).length := by rw [falls_len]; exact q1
        rw [List.getD_eq_getElem?_getD, List.getElem?_eq_getElem this]
        exact List.getElem_mem this)
      omega
  omega
theorem lnF_ranks (ns : List Int) : (lnF (ranks ns)).2 = (lnF ns).2 := by
  have key : ∀ (xs : List Int) (s : List Int × List Nat), (∀ a ∈ xs, a ∈ ns) → (∀ a ∈ s.1, a ∈ ns) → (xs.map fun x => (below ns x : Int)).foldl lnS (s.1.map (fun x => (below ns x : Int)), s.2) = ((xs.foldl lnS s).1.map (fun x => (below ns x : Int)), (xs.foldl lnS s).2) := by
    intro xs
    induction xs with
    | nil => intro s _ _; rfl
    | cons x xs ih =>
      intro s hx hs
      rw [List.map_cons, List.foldl_cons, List.foldl_cons, lnS_map fun a ha => ranks_cmp (hs a ha) (hx x (by simp))]
      refine ih _ (fun a ha => hx a (List.mem_cons_of_mem _ ha)) fun a ha => ?_
      unfold lnS lnN at ha
      rcases List.mem_append.mp ha with z | z
      · exact hs a (List.mem_of_mem_take z)
      · rcases List.mem_cons.mp z with e | z
        · rw [e]; exact hx x (by simp)
        · exact hs a (List.mem_of_mem_drop z)
  have := key ns ([], []) (fun _ h => h) (fun _ h => by cases h)
  show ((ns.map fun x => (below ns x : Int)).foldl lnS ([], [])).2 = _
  rw [show (ns.map fun x => (below ns x : Int)).foldl lnS ([], []) = _ from this]
  rfl
theorem lnF_out_len {xs : List Int} (nd : xs.Nodup) : (lnF xs).2.length = xs.length := (lnInv_all _ xs rfl nd).len
/-- the greatest number of a line -/
theorem lines_max {xs : List Int} (nd : xs.Nodup) {m : Int} (hm : m ∈ (-1 : Int) :: ntI (lnF xs).2) (hb : ∀ y ∈ (-1 : Int) :: ntI (lnF xs).2, y ≤ m) : m + 1 = mx0 (falls xs) := by
  rw [← lines_falls nd]
  have h := lnInv_all xs.length xs rfl nd
  generalize lnF xs = s at h hm hb ⊢
  have lt : ∀ k ∈ s.2, k < s.1.length := fun k hk => by
    obtain ⟨i, hi⟩ := List.mem_iff_getElem?.mp hk
    have hil := lt_of_at hi
    rw [h.len] at hil
    obtain ⟨y, y1, _⟩ := h.top i k _ hi (List.getElem?_eq_getElem hil)
    exact lt_of_at y1
  have h1 : m + 1 ≤ s.1.length := by
    rcases List.mem_cons.mp hm with e | m'
    · omega
    · obtain ⟨k, hk, rfl⟩ := List.mem_map.mp m'
      have := lt k hk
      omega
  have h2 : (s.1.length : Int) ≤ m + 1 := by
    rcases Nat.eq_zero_or_pos s.1.length with e | e
    · have := hb (-1) (by simp)
      omega
    · obtain ⟨i, a, b⟩ := h.has (s.1.length - 1) _ (List.getElem?_eq_getElem (by omega))
      have := hb ((s.1.length - 1 : Nat) : Int) (List.mem_cons_of_mem _ (List.mem_map.mpr ⟨_, List.mem_of_getElem? a, rfl⟩))
      omega
  omega
theorem lnF_desc {xs : List Int} (nd : xs.Nodup) : (lnF xs).1.Pairwise (· > ·) := (lnInv_all _ xs rfl nd).desc
def cLines : List PyData → (T → Prop) → Prop := fun xs Q => ∃ ns : List Int, xs = [.list (inD ns)] ∧ ns.length ≤ 4000 ∧ ns.Nodup ∧ Q (.l (inD (ntI (lnF ns).2)))
theorem take_snoc {α : Type} {xs : List α} {i : Nat} {x : α} (h : xs[i]? = some x) : xs.take (i + 1) = xs.take i ++ [x] := by rw [List.take_add_one, h]; rfl
end Dv

set_option Elab.async false
set_option linter.all false
set_option maxRecDepth 100000
set_option maxHeartbeats 4000000
namespace Px
open PySem PySem.Spec PyProof.Rows L2
/-! ### isinstance of an error within its suite -/
def rIsP (K : PySem.W.Frag) (a : Addr) (cls : Value) (d : Option Addr) : List V → Hp → VK → Prop := fun xs H Q => ∃ (D : Addr) (c : V) (cv : Value) (b : Bool), cls = .ref D ∧ d = none ∧ xs = [.ref a, c] ∧ ExcC K D ∧ ClsV c cv ∧ PySem.W.kitOne K (.ref D) cv = some b ∧ Q (.bl b) H
def rIsPT (K : PySem.W.Frag) (a : Addr) (cls : Value) (d : Option Addr) : List V → Hp → VK → Prop := fun xs H Q => ∃ (D tp : Addr) (cs : List V) (us : List Value) (b : Bool), cls = .ref D ∧ d = none ∧ xs = [.ref a, .ref tp] ∧ ExcC K D ∧ H tp = some (.tup cs) ∧ Paired ClsV cs us ∧ PySem.W.kitAny K (.ref D) us = some b ∧ Q (.bl b) H
theorem instP {D a : Addr} {oe : Obj} {h : Heap} (e : h.get? a = some oe) (z : Zc (.ref D) none oe) (hv : ∃ vs, oe.data = .fields vs) : PySem.W.InstAt h a oe D none := by
  obtain ⟨oc, od, oda, osl⟩ := oe
  obtain ⟨h1, h2⟩ := z
  obtain ⟨vs, hv⟩ := hv
  dsimp only at h1 h2 hv
  subst h1 h2 hv
  exact ⟨e, rfl, rfl, trivial⟩
theorem crIsP (K : PySem.W.Frag) {X : Cx} (hK : X.K = K) {a : Addr} {cls : Value} {d : Option Addr} {oe : Obj} (z : Zc cls d oe) (hv : ∃ vs, oe.data = .fields vs) (hp : (a, oe) ∈ X.pn) : CallR X (.builtin "isinstance") (rIsP K a cls d) := by
  subst hK
  intro pins s σ H xs us Q I r h
  obtain ⟨D, c, cv, b, rfl, rfl, rfl, C, k, e, q⟩ := h
  obtain ⟨u1, u2, rfl, r1, r2⟩ := vals2 r
  cases (show u1 = Value.ref a from r1)
  have ec := k.eq r2
  subst ec
  have J := instP (I.pin (a, oe) (List.mem_append_left _ hp)).1 z hv
  exact PySem.W.kia_one (PySem.W.handS_kitx_exc C.hg C.hk C.hs C.hd C.ha C.hn C.ht C.hm) I.kIn J e (fun z => nomatch z) fun tk => ⟨.bl b, H, I.tok tk, rfl, q⟩
theorem crIsPT (K : PySem.W.Frag) {X : Cx} (hK : X.K = K) {a : Addr} {cls : Value} {d : Option Addr} {oe : Obj} (z : Zc cls d oe) (hv : ∃ vs, oe.data = .fields vs) (hp : (a, oe) ∈ X.pn) : CallR X (.builtin "isinstance") (rIsPT K a cls d) := by
  subst hK
  intro pins s σ H xs us Q I r h
  obtain ⟨D, tp, cs, ws, b, rfl, rfl, rfl, C, hT, k, e, q⟩ := h
  obtain ⟨u1, u2, rfl, r1, r2⟩ := vals2 r
  cases (show u1 = Value.ref a from r1)
  cases (show u2 = Value.ref tp from r2)
  obtain ⟨_, its, rv, o, h1, h2, n, h3⟩ := (show ObjOk X.prog X.w H s.heap tp (.tup cs) from I.hok tp _ hT)
  have e3 := ClsV.all k rv
  subst e3
  obtain ⟨oc, od, dt, sl⟩ := o
  simp only at h2 h3
  subst h2 h3
  have J := instP (I.pin (a, oe) (List.mem_append_left _ hp)).1 z hv
  exact PySem.W.kia_tup (PySem.W.handS_kitx_exc C.hg C.hk C.hs C.hd C.ha C.hn C.ht C.hm) I.kIn J h1 e (fun z => nomatch z) fun tk => ⟨.bl b, H, I.tok tk, rfl, q⟩
theorem r_isP {K : PySem.W.Frag} {H : Hp} {Q : VK} {a D : Addr} {c : V} {cv : Value} {b : Bool} (C : ExcC K D) (k : ClsV c cv) (e : PySem.W.kitOne K (.ref D) cv = some b) (q : Q (.bl b) H) : rIsP K a (.ref D) none [.ref a, c] H Q := ⟨D, c, cv, b, rfl, rfl, rfl, C, k, e, q⟩
theorem r_isPT {K : PySem.W.Frag} {H : Hp} {Q : VK} {a D tp : Addr} {cs : List V} {us : List Value} {b : Bool} (C : ExcC K D) (ht : H tp = some (.tup cs)) (k : Paired ClsV cs us) (e : PySem.W.kitAny K (.ref D) us = some b) (q : Q (.bl b) H) : rIsPT K a (.ref D) none [.ref a, .ref tp] H Q := ⟨D, tp, cs, us, b, rfl, rfl, rfl, C, ht, k, e, q⟩
/-- the error is there, and the clause catches it: the suite is gone through -/
theorem r_as {K : PySem.W.Frag} {cv : Value} {i : Nat} {ts : Addr → Value → Option Addr → TS} {W : WX} {D : Ends} {cls : Value} {d : Option Addr} {σ : L2.St} {H : Hp} (e : PySem.W.exmOne K cls cv = some true)
    (q : ∀ a, H a = none → ts a cls d { nx := fun σ' H' => D.nx (σ'.set i none) H', rt := D.rt, bk := fun σ' H' => D.bk (σ'.set i none) H', ct := fun σ' H' => D.ct (σ'.set i none) H' } (σ.set i (some (.ref a))) H) : wAs K cv i ts W D cls d σ H := ⟨true, e, fun _ => q, fun z => nomatch z⟩
end Px

set_option Elab.async false
set_option linter.all false
set_option maxRecDepth 100000
set_option maxHeartbeats 4000000
namespace Dv
open PySem PySem.Spec PyProof.Rows L2 Px
section
variable {K : PySem.W.Frag} {ta tb tc te : TE} {da db dc de : Env → (T → Prop) → Prop} {s1 s2 : TS} {d1 d2 : DS}
/-! ### a loop over a new list of one's own lists: each is changed where it stands -/
/-- without the lists that are by reference -/
def noP (ρ : Env) : Env := ρ.map fun o => o.bind fun t => if t.isP = true then none else some t
theorem noP_at {ρ : Env} {i : Nat} {t : T} (e : (noP ρ)[i]? = some (some t)) : ρ[i]? = some (some t) ∧ t.isP = false := by
  unfold noP at e
  rw [List.getElem?_map] at e
  cases q : ρ[i]? with
  | none => rw [q] at e; cases e
  | some o =>
    rw [q] at e
    cases o with
    | none => cases e
    | some u =>
      have e := Option.some.inj e
      have e : (if u.isP = true then none else some u) = some t := e
      cases hp : u.isP with
      | true => rw [hp] at e; cases e
      | false =>
        rw [hp] at e
        cases e
        exact ⟨rfl, hp⟩
def dForR (da : Env → (T → Prop) → Prop) (j : Nat) (db : DS) : DS := fun DD ρ => da ρ fun t => ∃ dss, t = .ll dss ∧ ∃ Pv : Nat → Env → Prop, Pv 0 ρ ∧
  (∀ (i : Nat) (ds : List PyData) (ρ' : Env), dss[i]? = some ds → Pv i ρ' → db ⟨fun ρ2 => Pv (i + 1) (noP ρ2), fun t ρ2 => DD.rt t (noP ρ2), fun ρ2 => DD.nx (noP ρ2), fun ρ2 => Pv (i + 1) (noP ρ2), xp0⟩ (ρ'.set j (some (.p ds)))) ∧ ∀ ρ', Pv dss.length ρ' → DD.nx ρ'
theorem rows_ix {G H : Hp} : ∀ {as : List Addr} {dss : List (List PyData)}, Rows K G H as dss → as.length = dss.length ∧ ∀ (i : Nat) (a : Addr) (ds : List PyData), as[i]? = some a → dss[i]? = some ds → ∃ vs, H a = some (.lst vs) ∧ G a = none ∧ DpAll K G vs ds
  | [], [], _ => ⟨rfl, fun i a ds h => by simp at h⟩
  | a :: as, ds :: dss, ⟨h, q⟩ => by
    obtain ⟨l, r⟩ := rows_ix q
    refine ⟨by simp [l], fun i b es e1 e2 => ?_⟩
    cases i with
    | zero =>
      cases e1
      cases e2
      exact h
    | succ i => exact r i b es e1 e2
  | [], _ :: _, h => h.elim
  | _ :: _, [], h => h.elim
/-- the frame of a turn: the lists that are yet to come stand as they stood -/
def frH (H0 H2 : Hp) (S : Addr → Prop) [DecidablePred S] : Hp := fun b => if S b then H2 b else H0 b
theorem iv_in {G1 H0 H2 G2 : Hp} {M : Addr → Prop} {ρ : Env} {σ : L2.St} {S : Addr → Prop} [DecidablePred S] (x : Iv K G1 H0 M ρ σ G2 H2) {j : Nat} {b0 : Addr} {ds : List PyData} (hS : ∀ b, S b → H2 b ≠ none ∧ G2 b = none) (h0 : ∀ b, S b → ¬ Own ρ σ H2 b) (hb : S b0)
    (v : Vr K G2 H2 (.p ds) (.ref b0)) : Iv K G1 (frH H0 H2 S) (fun b => M b ∨ b = b0) (ρ.set j (some (.p ds))) (σ.set j (some (.ref b0))) G2 H2 := by
  have y : Iv K G1 (frH H0 H2 S) (fun b => M b ∨ b = b0) ρ σ G2 H2 := by
    refine ⟨x.gh, x.g0, fun a ga => ?_, fun a o m e => ?_, fun a m => ?_, x.len, x.kd, x.sl, fun i t v b e f p => ?_, x.dj⟩
    · rcases x.gf a ga with z | z
      · exact .inl z
      · right
        unfold frH
        split
        · rename_i hs
          exact absurd (hS a hs).2 ga
        · exact z
    · unfold frH at e
      split at e
      · exact e
      · exact x.up a o (fun z => m (.inl z)) e
    · rcases m with m | rfl
      · exact x.mh a m
      · exact (hS a hb).1
    · have := x.own i t v b e f p
      split
      · rename_i hp
        rw [if_pos hp] at this
        exact .inl this
      · rename_i hp
        rw [if_neg hp] at this
        unfold frH
        rw [if_neg fun z => h0 b z ⟨i, t, v, e, f, p⟩]
        exact this
  refine y.set rfl v fun b p => ?_
  have e : b = b0 := (V.ref.inj p).symm
  subst e
  exact ⟨.inr rfl, fun k u w _ e1 e2 q => h0 b hb ⟨k, u, w, e1, e2, q⟩⟩
theorem iv_out {G1 H0 H2 G5 H5 : Hp} {M : Addr → Prop} {ρ : Env} {σ : L2.St} {S : Addr → Prop} [DecidablePred S] {b0 : Addr} (x : Iv K G1 (frH H0 H2 S) (fun b => M b ∨ b = b0) ρ σ G5 H5) (hS : ∀ b, S b → H2 b ≠ none ∧ H0 b = none) (hb : S b0) :
    Iv K G1 H0 M (noP ρ) σ G5 H5 ∧ ∀ b, S b → ¬ Own (noP ρ) σ H5 b := by
  have f0 : ∀ b, frH H0 H2 S b = none → ¬ S b ∧ H0 b = none := fun b e => by
    unfold frH at e
    split at e
    · rename_i hs
      exact absurd e (hS b hs).1
    · rename_i hs
      exact ⟨hs, e⟩
  refine ⟨⟨x.gh, x.g0, fun a ga => ?_, fun a o m e => ?_, fun a m => x.mh a (.inl m), by rw [x.len]; simp [noP], fun i t e => x.kd i t (noP_at e).1, fun i t e => x.sl i t (noP_at e).1, fun i t v b e f p => ?_, fun i k t u v w b e1 e2 => x.dj i k t u v w b (noP_at e1).1 (noP_at e2).1⟩, fun b hs ⟨i, t, v, e, f, p⟩ => ?_⟩
  · rcases x.gf a ga with z | z
    · exact .inl z
    · exact .inr (f0 a z).2
  · have ns : ¬ S a := fun hs => by rw [(hS a hs).2] at e; cases e
    refine x.up a o (fun z => z.elim m fun z => ns (z ▸ hb)) ?_
    unfold frH
    rw [if_neg ns]
    exact e
  · have := x.own i t v b (noP_at e).1 f p
    rw [(noP_at e).2] at this ⊢
    exact (f0 b this).2
  · have := x.own i t v b (noP_at e).1 f p
    rw [(noP_at e).2] at this
    exact (f0 b this).1 hs
open Classical in
theorem ls_forR {j : Nat} (ha : LP K ta da) (hb : LS K s1 d1) : LS K (tFor (iList K ta) (gName j) s1) (dForR da j d1) := fun {G0 H0 M DD D ρ σ G H} E x q => ha x q fun t v G1 H1 ⟨dss, e, Pv, p0, ps, pd⟩ r1 v1 f1 => by
  subst e
  obtain ⟨a, as, rfl, h1, h2, nd, rows⟩ := v1
  have x1 := x.mono r1
  have E1 := E.rebase x1
  obtain ⟨hl, rx⟩ := rows_ix rows
  have fr : ∀ b, b = a ∨ b ∈ as → H b = none := fun b hb => f1 b ⟨a, as, rfl, h1, hb⟩
  have frM : ∀ b, b = a ∨ b ∈ as → ¬ M b := fun b hb m => x.mh b m (fr b hb)
  have fr0 : ∀ b, b = a ∨ b ∈ as → H0 b = none := fun b hb => x.h0 (fr b hb)
  have there : ∀ b, b = a ∨ b ∈ as → H1 b ≠ none ∧ G1 b = none := fun b hb => by
    rcases hb with rfl | hb
    · exact ⟨nn_of h1, h2⟩
    · obtain ⟨k, hk, e⟩ := List.mem_iff_getElem.mp hb
      obtain ⟨vs, p1, p2, _⟩ := rx k b (dss[k]'(by omega)) (by rw [List.getElem?_eq_getElem hk, e]) (List.getElem?_eq_getElem (by omega))
      exact ⟨nn_of p1, p2⟩
  refine ⟨a, rfl, ⟨_, seq_of h1⟩, fun i m σ' H' => m = dss.length - i ∧ i ≤ dss.length ∧ ∃ ρ' G', Iv K G1 H0 M ρ' σ' G' H' ∧ Pv i ρ' ∧ (∀ b, b = a ∨ b ∈ as.drop i → H' b = H1 b ∧ G' b = none ∧ ¬ Own ρ' σ' H' b), ⟨dss.length, by simp, Nat.zero_le _, ρ, G1, x1.rebase, p0, fun b hb => ?_⟩, ?_⟩
  · have hb' : b = a ∨ b ∈ as := hb.imp id fun z => by rwa [List.drop_zero] at z
    refine ⟨rfl, (there b hb').2, fun ⟨k, t, w, e1, e2, p⟩ => ?_⟩
    exact (Fp.there (x.vr e1 e2) (Fp.mono r1 (x.vr e1 e2) p)).1 (fr b hb')
  rintro i m σ2 H2 ⟨rfl, hile, ρ2, G2, x2, p2, keep⟩
  have ha2 : H2 a = some (.lst (as.map V.ref)) := by rw [(keep a (.inl rfl)).1, h1]
  by_cases hlt : i < dss.length
  · have hia : i < as.length := by omega
    have hd : as.drop i = as[i] :: as.drop (i + 1) := (List.drop_eq_getElem_cons hia)
    have hx : (as.map V.ref)[i]? = some (.ref as[i]) := by rw [List.getElem?_map, List.getElem?_eq_getElem hia]; rfl
    refine .inr ⟨⟨_, _, seq_of ha2, hx⟩, fun σ' H' => i + 1 ≤ dss.length ∧ ∃ ρ' G', Iv K G1 H0 M ρ' σ' G' H' ∧ Pv (i + 1) ρ' ∧ (∀ b, b = a ∨ b ∈ as.drop (i + 1) → H' b = H1 b ∧ G' b = none ∧ ¬ Own ρ' σ' H' b), fun σ' H' ⟨u, w⟩ => ⟨dss.length - (i + 1), by omega, rfl, u, w⟩, fun y H3 hy => ?_⟩
    obtain ⟨e3, hy⟩ := hy
    rw [e3]
    clear e3
    have ey : y = .ref as[i] := by
      have := hy _ (seq_of ha2)
      rw [hx] at this
      exact (Option.some.inj this).symm
    subst ey
    have hmem : as[i] ∈ as := List.getElem_mem hia
    obtain ⟨vs, q1, q2, q3⟩ := rx i as[i] (dss[i]) (List.getElem?_eq_getElem hia) (List.getElem?_eq_getElem hlt)
    have kb := keep as[i] (.inr (by rw [hd]; exact List.mem_cons_self))
    have vp : Vr K G2 H2 (.p dss[i]) (.ref as[i]) := ⟨as[i], vs, rfl, by rw [kb.1, q1], kb.2.1, dpAll_same x2.g0 q3⟩
    have sub : ∀ b, b = a ∨ b ∈ as.drop i → b = a ∨ b ∈ as := fun b hb => hb.imp id fun z => List.mem_of_mem_drop z
    have hS : ∀ b, b = a ∨ b ∈ as.drop i → H2 b ≠ none ∧ G2 b = none := fun b hb => ⟨by rw [(keep b hb).1]; exact (there b (sub b hb)).1, (keep b hb).2.1⟩
    have hb0 : as[i] = a ∨ as[i] ∈ as.drop i := .inr (by rw [hd]; exact List.mem_cons_self)
    have xi := iv_in (S := fun b => b = a ∨ b ∈ as.drop i) (j := j) x2 hS (fun b hb => (keep b hb).2.2) hb0 vp
    have out : ∀ {ρ5 σ5 G5 H5}, Iv K G1 (frH H0 H2 fun b => b = a ∨ b ∈ as.drop i) (fun b => M b ∨ b = as[i]) ρ5 σ5 G5 H5 → Iv K G1 H0 M (noP ρ5) σ5 G5 H5 ∧ ∀ b, b = a ∨ b ∈ as.drop (i + 1) → H5 b = H1 b ∧ G5 b = none ∧ ¬ Own (noP ρ5) σ5 H5 b := fun {ρ5 σ5 G5 H5} z => by
      obtain ⟨o1, o2⟩ := iv_out z (fun b hb => ⟨(hS b hb).1, fr0 b (sub b hb)⟩) hb0
      refine ⟨o1, fun b hb => ?_⟩
      have hb2 : b = a ∨ b ∈ as.drop i := hb.imp id fun w => by rw [hd]; exact List.mem_cons_of_mem _ w
      have nb : b ≠ as[i] := fun w => by
        subst w
        have nd1 := (List.nodup_cons.mp nd).1
        have nd2 := (List.nodup_cons.mp nd).2
        rcases hb with w | w
        · exact nd1 (w ▸ hmem)
        · have := (hd ▸ (List.drop_sublist i as).nodup nd2 : (as[i] :: as.drop (i + 1)).Nodup)
          exact (List.nodup_cons.mp this).1 w
      have fb : frH H0 H2 (fun b => b = a ∨ b ∈ as.drop i) b = H2 b := if_pos hb2
      refine ⟨?_, ?_, o2 b hb2⟩
      · cases e : H2 b with
        | none => exact absurd e (hS b hb2).1
        | some o =>
          rw [z.up b o (fun w => w.elim (frM b (sub b hb2)) nb) (by rw [fb, e]), ← (keep b hb2).1, e]
      · cases e : G5 b with
        | none => rfl
        | some o =>
          rcases z.gf b (nn_of e) with w | w
          · exact absurd (there b (sub b hb2)).2 w
          · rw [fb] at w
            exact absurd w (hS b hb2).1
    refine hb (DD := ⟨fun ρ2 => Pv (i + 1) (noP ρ2), fun t ρ2 => DD.rt t (noP ρ2), fun ρ2 => DD.nx (noP ρ2), fun ρ2 => Pv (i + 1) (noP ρ2), xp0⟩) ⟨fun ρ5 σ5 G5 H5 z m => ⟨hlt, _, _, (out z).1, m, (out z).2⟩, fun ρ5 σ5 G5 H5 z m => E1.nx _ _ _ _ (out z).1 m, fun ρ5 σ5 G5 H5 z m => ⟨hlt, _, _, (out z).1, m, (out z).2⟩, fun ρ5 σ5 G5 H5 t v z vr own m => E1.rt _ _ _ _ _ _ (out z).1 vr (fun b f => ?_) m, fun _ _ _ _ _ _ z => (z : False).elim⟩ xi (ps i dss[i] ρ2 (List.getElem?_eq_getElem hlt) p2)
    have := own b f
    unfold frH at this
    split at this
    · rename_i hs
      exact absurd this (hS b hs).1
    · exact this
  · have e : i = dss.length := by omega
    subst e
    exact .inl ⟨⟨_, seq_of ha2, by rw [List.length_map]; omega⟩, E1.nx _ _ _ _ x2 (pd _ p2)⟩
/-! ### displays and comprehensions of one's own lists -/
def dLst1 (da : Env → (T → Prop) → Prop) : Env → (T → Prop) → Prop := fun ρ Q => da ρ fun t => ∃ ds, t = .l ds ∧ Q (.ll [ds])
theorem lp_lst1 (ha : LP K ta da) : LP K (tLst (tCons ta tNil)) (dLst1 da) := fun x q p => ha x q fun t v G1 H1 ⟨ds, e, qt⟩ r1 v1 f1 => by
  subst e
  obtain ⟨a, vs, rfl, h1, h2, h3⟩ := v1
  refine ⟨r_small (by simp), fun l hl => ?_⟩
  have ne : l ≠ a := fun z => by subst z; rw [hl] at h1; cases h1
  refine p (.ll [ds]) _ G1 _ qt (r1.trans (.new r1.s hl)) ⟨l, [a], rfl, upd_same, r1.s.free hl, by simp [ne], ⟨vs, by rw [upd_ne ne.symm]; exact h1, h2, h3⟩, True.intro⟩ fun b fb => ?_
  obtain ⟨a', as', e1, e2, e3⟩ := fb
  cases e1
  rw [upd_same] at e2
  have e4 : [a] = as' := refs_inj (HO.lst.inj (Option.some.inj e2))
  subst e4
  rcases e3 with rfl | e3
  · exact r1.h.free hl
  · rw [List.mem_singleton.mp e3]
    exact f1 a rfl
variable {tt tu : TT} {dt du : Env → (Bool → Prop) → Prop}
theorem wipe_in {σ : L2.St} {vs : List Nat} : ∀ (us : List Nat), (∀ u ∈ us, u ∈ vs) → wipe (wipe σ us) vs = wipe σ vs
  | [], _ => rfl
  | u :: us, hu => by
    show wipe ((wipe σ us).set u none) vs = _
    rw [wipe_set (hu u (by simp)), wipe_in us fun v hv => hu v (List.mem_cons_of_mem _ hv)]
/-- a comprehension whose items are new lists of one's own -/
def dLcO (di : Env → (Bool → List PyData → Prop) → Prop) (dg : PyData → Env → (Env → Prop) → Prop) (de : Env → (T → Prop) → Prop) (vs : List Nat) : Env → (T → Prop) → Prop := fun ρ Q => di ρ fun _ items =>
  items.length ≤ 1000000 ∧ ∃ f : PyData → List PyData, (∀ (i : Nat) (x : PyData), items[i]? = some x → dg x (wipeE ρ vs) fun ρ2 => de ρ2 fun t => t = .l (f x)) ∧ Q (.ll (items.map f))
theorem lp_lcO {wi : TI} {g : TG} {js : List Nat} {vs : List Nat} {di : Env → (Bool → List PyData → Prop) → Prop} {dg : PyData → Env → (Env → Prop) → Prop} (hi : LI K wi di) (hg : LG K g js dg) (he : LP K te de) (hj : js.all (vs.contains ·) = true) : LP K (tLc wi g tYes te vs) (dLcO di dg de vs) := fun {G0 H0 M ρ σ G H QD Q} x q p => hi x q fun st items J G1 H1 ⟨hlen, f, hf, qf⟩ r1 _ ih => by
  have hj' : ∀ j ∈ js, j ∈ vs := fun j m => by
    have := List.all_eq_true.mp hj j m
    simpa using this
  intro D hD
  refine ⟨fun i m H' => m = items.length - i ∧ i ≤ items.length ∧ ∃ G' as, Gr G1 H1 G' H' ∧ G' D = none ∧ H' D = some (.lst (as.map V.ref)) ∧ (D :: as).Nodup ∧ (∀ a ∈ as, H1 a = none) ∧ Rows K G' H' as ((items.take i).map f), ⟨items.length, by simp, Nat.zero_le _, G1, [], .new r1.s hD, r1.s.free hD, upd_same, by simp, by simp, True.intro⟩, ?_⟩
  rintro i m H2 ⟨rfl, hile, G2, as, r2, gD, eD, nd, fr, rw2⟩
  by_cases hlt : i < items.length
  · obtain ⟨go, yl⟩ := (ih G2 H2 r2.g r2.h r2.s i).1 hlt
    refine .inr ⟨go, fun H' => i + 1 ≤ items.length ∧ ∃ G' as, Gr G1 H1 G' H' ∧ G' D = none ∧ H' D = some (.lst (as.map V.ref)) ∧ (D :: as).Nodup ∧ (∀ a ∈ as, H1 a = none) ∧ Rows K G' H' as ((items.take (i + 1)).map f), fun H' ⟨a, b⟩ => ⟨items.length - (i + 1), by omega, rfl, a, b⟩, fun y H3 hy => ?_⟩
    obtain ⟨G3, d, r3, ed, dy⟩ := yl y H3 hy
    have x3 : Iv K G0 H0 M (wipeE ρ vs) (L2.wipe σ vs) G3 H3 := ((x.mono r1).mono (r2.trans r3)).wipe vs
    refine hg x3 dy (hf i d ed) fun ρ4 σ4 q4 x4 w4 _ => ?_
    refine ⟨by rw [w4 vs hj', wipe_in vs fun _ h => h], he x4 q4 fun t v G6 H6 et r6 v6 f6 => ?_⟩
    subst et
    obtain ⟨l, ys, rfl, h6, g6, dys⟩ := v6
    have r16 := (r2.trans r3).trans r6
    have hD6 : H6 D = some (.lst (as.map V.ref)) := r6.h _ _ (r3.h _ _ eD)
    have gD6 : G6 D = none := (r3.trans r6).n D (nn_of eD) gD
    have l3 : H3 l = none := f6 l rfl
    have nDl : D ≠ l := ne_of_none (r3.h _ _ eD) l3
    have fl1 : H1 l = none := (r2.trans r3).h.free l3
    have nl : l ∉ as := fun m => by
      obtain ⟨k, hk⟩ := List.mem_iff_getElem?.mp m
      obtain ⟨_, vs', _, p1, _⟩ := (rows_at (rw2.mono r3)).2 k l hk
      rw [p1] at l3
      cases l3
    refine ⟨as.map V.ref, hD6, r_smalll ?_, hlt, G6, as ++ [l], ⟨r16.g, same_mut r16.h hD, fun a u e => ?_, r16.n⟩, gD6, by rw [upd_same, List.map_append]; rfl, ?_, ?_, ?_⟩
    · have := (rows_at rw2).1
      rw [List.length_map, List.length_take] at this
      rw [List.length_map]
      omega
    · rw [upd_ne (ne_of_none e gD6)]
      exact r16.s _ _ e
    · have nd0 := List.nodup_cons.mp nd
      rw [List.nodup_cons]
      refine ⟨fun m => ?_, ?_⟩
      · rcases List.mem_append.mp m with z | z
        · exact nd0.1 z
        · exact nDl (List.mem_singleton.mp z)
      · exact List.nodup_append.mpr ⟨nd0.2, List.nodup_cons.mpr ⟨by simp, by simp⟩, fun a ha c hc => by
          rw [List.mem_singleton.mp hc]
          exact fun z => nl (z ▸ ha)⟩
    · intro a ha
      rcases List.mem_append.mp ha with z | z
      · exact fr a z
      · rw [List.mem_singleton.mp z]
        exact fl1
    · rw [List.take_add_one, ed, List.map_append]
      refine rows_app ⟨ys, by rw [upd_ne nDl.symm]; exact h6, g6, dys⟩ ?_
      exact rows_hset (List.nodup_cons.mp nd).1 (rw2.mono (r3.trans r6))
  · have e : i = items.length := by omega
    subst e
    refine .inl ⟨(ih G2 H2 r2.g r2.h r2.s _).2 (Nat.le_refl _), ?_⟩
    rw [List.take_length] at rw2
    refine p (.ll (items.map f)) _ G2 H2 qf (r1.trans r2) ⟨D, as, rfl, eD, gD, nd, rw2⟩ fun b fb => ?_
    obtain ⟨a1, as1, e1, e2, e3⟩ := fb
    cases e1
    rw [eD] at e2
    have e4 : as = as1 := refs_inj (HO.lst.inj (Option.some.inj e2))
    subst e4
    rcases e3 with rfl | e3
    · exact r1.h.free hD
    · exact r1.h.free (fr b e3)
theorem Iv.updD {G0 H0 : Hp} {M : Addr → Prop} {ρ : Env} {σ : L2.St} {G H : Hp} {D : Addr} {o : HO} (x : Iv K G0 H0 M ρ σ G H) (no : ¬ Own ρ σ H D) (nm : ¬ M D) (h0 : H0 D = none) (g : G D = none) : Iv K G0 H0 M ρ σ G (upd H D o) ∧ ¬ Own ρ σ (upd H D o) D := by
  have nf : ∀ {i : Nat} {t : T} {v : V}, ρ[i]? = some (some t) → σ[i]? = some (some v) → ¬ Fp H t v D := fun e f p => no ⟨_, _, _, e, f, p⟩
  have fm : ∀ {i : Nat} {t : T} {v : V} {b : Addr}, ρ[i]? = some (some t) → σ[i]? = some (some v) → Fp (upd H D o) t v b → Fp H t v b := fun e f p => Fp.mut (x.vr e f) (nf e f) p
  refine ⟨⟨fun a u e => ?_, x.g0, x.gf, fun a u m e => ?_, fun a m => ?_, x.len, x.kd, fun i t e => ?_, fun i t v b e f p => x.own i t v b e f (fm e f p), fun i j t u v w b e1 e2 e3 e4 p1 p2 => x.dj i j t u v w b e1 e2 e3 e4 (fm e1 e3 p1) (fm e2 e4 p2)⟩, fun ⟨i, t, v, e, f, p⟩ => nf e f (fm e f p)⟩
  · rw [upd_ne (ne_of_none e g)]
    exact x.gh _ _ e
  · rw [upd_ne (ne_of_none e h0)]
    exact x.up a u m e
  · have na : a ≠ D := fun z => by subst z; exact nm m
    rw [upd_ne na]
    exact x.mh a m
  · obtain ⟨v, h1, h2⟩ := x.sl i t e
    exact ⟨v, h1, h2.mut (x.kd i t e) (nf e h1) g⟩
theorem own_mono {G0 H0 : Hp} {M : Addr → Prop} {ρ : Env} {σ : L2.St} {G H G' H' : Hp} (x : Iv K G0 H0 M ρ σ G H) (r : Gr G H G' H') {b : Addr} (o : Own ρ σ H' b) : Own ρ σ H b := by
  obtain ⟨i, t, v, e, f, p⟩ := o
  exact ⟨i, t, v, e, f, Fp.mono r (x.vr e f) p⟩
theorem own_there {G0 H0 : Hp} {M : Addr → Prop} {ρ : Env} {σ : L2.St} {G H : Hp} (x : Iv K G0 H0 M ρ σ G H) {b : Addr} (o : Own ρ σ H b) : H b ≠ none := by
  obtain ⟨i, t, v, e, f, p⟩ := o
  exact (Fp.there (x.vr e f) p).1
/-- a comprehension with two loops -/
def dLc2 (di : Env → (Bool → List PyData → Prop) → Prop) (dg : PyData → Env → (Env → Prop) → Prop) (dt : Env → (Bool → Prop) → Prop) (di1 : Env → (Bool → List PyData → Prop) → Prop) (dg1 : PyData → Env → (Env → Prop) → Prop) (dt1 : Env → (Bool → Prop) → Prop) (de : Env → (T → Prop) → Prop) (vs vs1 : List Nat) : Env → (T → Prop) → Prop := fun ρ Q => di ρ fun _ items =>
  items.length ≤ 1000 ∧ ∃ f : PyData → List PyData, (∀ (i : Nat) (x : PyData), items[i]? = some x → dg x (wipeE ρ vs) fun ρ2 => dt ρ2 fun c => if c = true then di1 ρ2 fun st items1 => st = true ∧ items1.length ≤ 1000 ∧ ∃ f1 : PyData → Option PyData, f x = items1.filterMap f1 ∧
    (∀ (j : Nat) (y : PyData), items1[j]? = some y → dg1 y (wipeE ρ2 vs1) fun ρ3 => dt1 ρ3 fun c => if c = true then de ρ3 fun t => ∃ z, t.fz = .g z ∧ f1 y = some z else f1 y = none) else f x = []) ∧ Q (.l (items.flatMap f))
theorem fm_take2 {items : List PyData} {f : PyData → List PyData} {i : Nat} {x : PyData} (e : items[i]? = some x) : (items.take (i + 1)).flatMap f = (items.take i).flatMap f ++ f x := by
  rw [List.take_add_one, e, List.flatMap_append]
  simp
theorem lp_lc2 {wi wi1 : TI} {g g1 : TG} {js js1 : List Nat} {vs vs1 : List Nat} {di di1 : Env → (Bool → List PyData → Prop) → Prop} {dg dg1 : PyData → Env → (Env → Prop) → Prop} (hi : LI K wi di) (hg : LG K g js dg) (ht : LT K tt dt) (hi1 : LI K wi1 di1) (hg1 : LG K g1 js1 dg1) (ht1 : LT K tu du) (he : LP K te de)
    (hj : js.all (vs.contains ·) = true) (hj1 : js1.all (vs1.contains ·) = true) : LP K (tLc2 wi g tt wi1 g1 tu te vs vs1) (dLc2 di dg dt di1 dg1 du de vs vs1) := fun {G0 H0 M ρ σ G H QD Q} x q p => hi x q fun st items J G1 H1 ⟨hlen, f, hf, qf⟩ r1 _ ih => by
  have hj' : ∀ j ∈ js, j ∈ vs := fun j m => by
    have := List.all_eq_true.mp hj j m
    simpa using this
  have hj1' : ∀ j ∈ js1, j ∈ vs1 := fun j m => by
    have := List.all_eq_true.mp hj1 j m
    simpa using this
  intro D hD
  refine ⟨fun i m H' => m = items.length - i ∧ i ≤ items.length ∧ ∃ G' acc, Gr G1 H1 G' H' ∧ G' D = none ∧ H' D = some (.lst acc) ∧ acc.length ≤ 1000 * i ∧ DpAll K G' acc ((items.take i).flatMap f), ⟨items.length, by simp, Nat.zero_le _, G1, [], .new r1.s hD, r1.s.free hD, upd_same, by simp, .nil⟩, ?_⟩
  rintro i m H2 ⟨rfl, hile, G2, acc, r2, gD, eD, hal, dA⟩
  by_cases hlt : i < items.length
  · obtain ⟨go, yl⟩ := (ih G2 H2 r2.g r2.h r2.s i).1 hlt
    refine .inr ⟨go, fun H' => i + 1 ≤ items.length ∧ ∃ G' acc, Gr G1 H1 G' H' ∧ G' D = none ∧ H' D = some (.lst acc) ∧ acc.length ≤ 1000 * (i + 1) ∧ DpAll K G' acc ((items.take (i + 1)).flatMap f), fun H' ⟨a, b⟩ => ⟨items.length - (i + 1), by omega, rfl, a, b⟩, fun y H3 hy => ?_⟩
    obtain ⟨G3, d, r3, ed, dy⟩ := yl y H3 hy
    have x3 : Iv K G0 H0 M (wipeE ρ vs) (L2.wipe σ vs) G3 H3 := ((x.mono r1).mono (r2.trans r3)).wipe vs
    refine hg x3 dy (hf i d ed) fun ρ4 σ4 q4 x4 w4 ow4 => ?_
    refine ⟨by rw [w4 vs hj', wipe_in vs fun _ h => h], ht x4 q4 fun c G5 H5 qc r5 => ?_⟩
    have r15 := r2.trans (r3.trans r5)
    have hD3 : H3 D = some (.lst acc) := r3.h _ _ eD
    have gD5 : G5 D = none := r5.n D (nn_of hD3) (r3.n D (nn_of eD) gD)
    have eD5 : H5 D = some (.lst acc) := r5.h _ _ hD3
    have dA5 := dpAll_same (r3.g.trans r5.g) dA
    cases c with
    | false =>
      have hn : f d = [] := qc
      refine ⟨hlt, G5, acc, r15, gD5, eD5, by omega, ?_⟩
      rw [fm_take2 ed, hn, List.append_nil]
      exact dA5
    | true =>
      refine hi1 (x4.mono r5) qc fun st1 items1 J1 G7 H7 ⟨hst1, hlen1, f1, hfx, hf1⟩ r7 ig1 _ => ?_
      have ig1 := ig1 hst1
      have r17 := r15.trans r7
      have x7 := (x4.mono r5).mono r7
      have xw : Iv K G0 H0 M (wipeE ρ vs) (L2.wipe σ vs) G1 H1 := (x.mono r1).wipe vs
      have no4 : ¬ Own ρ4 σ4 H3 D := fun o => own_there xw (own_mono xw (r2.trans r3) (ow4 D o)) hD
      have no7 : ¬ Own ρ4 σ4 H7 D := fun o => no4 (own_mono x4 (r5.trans r7) o)
      have nm : ¬ M D := fun m => (x.mono r1).mh D m hD
      have h0 : H0 D = none := (x.mono r1).h0 hD
      refine ⟨fun j k H' => k = items1.length - j ∧ j ≤ items1.length ∧ ∃ G' acc', Gr G1 H1 G' H' ∧ Same G7 G' ∧ Iv K G0 H0 M ρ4 σ4 G' H' ∧ ¬ Own ρ4 σ4 H' D ∧ G' D = none ∧ H' D = some (.lst acc') ∧ acc'.length ≤ 1000 * i + j ∧ DpAll K G' acc' ((items.take i).flatMap f ++ (items1.take j).filterMap f1),
        ⟨items1.length, by simp, Nat.zero_le _, G7, acc, r17, .refl _, x7, no7, r7.n D (nn_of eD5) gD5, r7.h _ _ eD5, by omega, by rw [List.take_zero, List.filterMap_nil, List.append_nil]; exact dpAll_same r7.g dA5⟩, ?_⟩
      rintro j k H8 ⟨rfl, hjle, G8, acc8, r8, s8, x8, no8, gD8, eD8, hal8, dA8⟩
      by_cases hjt : j < items1.length
      · obtain ⟨go1, yl1⟩ := (ig1 G8 H8 s8 x8.gh j).1 hjt
        refine .inr ⟨go1, fun H' => j + 1 ≤ items1.length ∧ ∃ G' acc', Gr G1 H1 G' H' ∧ Same G7 G' ∧ Iv K G0 H0 M ρ4 σ4 G' H' ∧ ¬ Own ρ4 σ4 H' D ∧ G' D = none ∧ H' D = some (.lst acc') ∧ acc'.length ≤ 1000 * i + (j + 1) ∧ DpAll K G' acc' ((items.take i).flatMap f ++ (items1.take (j + 1)).filterMap f1), fun H' ⟨a, b⟩ => ⟨items1.length - (j + 1), by omega, rfl, a, b⟩, fun y1 H9 hy1 => ?_⟩
        obtain ⟨G9, d1, r9, ed1, dy1⟩ := yl1 y1 H9 hy1
        have x9 : Iv K G0 H0 M (wipeE ρ4 vs1) (L2.wipe σ4 vs1) G9 H9 := (x8.mono r9).wipe vs1
        refine hg1 x9 dy1 (hf1 j d1 ed1) fun ρ5 σ5 q5 x5 w5 _ => ?_
        refine ⟨by rw [w5 vs1 hj1', wipe_in vs1 fun _ h => h], ht1 x5 q5 fun c1 G10 H10 qc1 r10 => ?_⟩
        have r910 := r9.trans r10
        cases c1 with
        | false =>
          have hn : f1 d1 = none := qc1
          refine ⟨hjt, G10, acc8, r8.trans r910, s8.trans r910.g, x8.mono r910, fun o => no8 (own_mono x8 r910 o), r910.n D (nn_of eD8) gD8, r910.h _ _ eD8, by omega, ?_⟩
          rw [fm_take ed1, hn]
          show DpAll K G10 acc8 (_ ++ (_ ++ []))
          rw [List.append_nil]
          exact dpAll_same r910.g dA8
        | true =>
          refine he (x5.mono r10) qc1 fun t v G11 H11 ⟨z, ez, fz⟩ r11 v11 f11 => ?_
          obtain ⟨G12, r12, g12, v12⟩ := fz_post r11 v11 f11
          rw [ez] at v12
          have r812 := r910.trans r12
          have eD12 : H11 D = some (.lst acc8) := r812.h _ _ eD8
          have gD12 : G12 D = none := r812.n D (nn_of eD8) gD8
          have rt := r8.trans r812
          obtain ⟨xu, nu⟩ := (x8.mono r812).updD (o := .lst (acc8 ++ [v])) (fun o => no8 (own_mono x8 r812 o)) nm h0 gD12
          refine ⟨acc8, eD12, r_smalll ?_, hjt, G12, acc8 ++ [v], ⟨rt.g, same_mut rt.h hD, fun a u e => ?_, rt.n⟩, s8.trans r812.g, xu, nu, gD12, upd_same, by rw [List.length_append]; simp; omega, ?_⟩
          · have : 1000 * i + j ≤ 1000 * 1000 + 1000 := by omega
            omega
          · rw [upd_ne (ne_of_none e gD12)]
            exact rt.s _ _ e
          · rw [fm_take ed1, fz, ← List.append_assoc]
            exact dpAll_app (dpAll_same r812.g dA8) (.cons v12 .nil)
      · have ej : j = items1.length := by omega
        subst ej
        rw [List.take_length, ← hfx] at dA8
        exact .inl ⟨(ig1 G8 H8 s8 x8.gh _).2 (Nat.le_refl _), hlt, G8, acc8, r8, gD8, eD8, by omega, by rw [fm_take2 ed]; exact dA8⟩
  · have e : i = items.length := by omega
    subst e
    refine .inl ⟨(ih G2 H2 r2.g r2.h r2.s _).2 (Nat.le_refl _), ?_⟩
    rw [List.take_length] at dA
    refine p (.l (items.flatMap f)) _ G2 H2 qf (r1.trans r2) ⟨D, acc, rfl, eD, gD, dA⟩ fun b fb => ?_
    cases (fb : V.ref D = V.ref b)
    exact r1.h.free hD
theorem w_lc2 {di di1 : Env → (Bool → List PyData → Prop) → Prop} {dg dg1 : PyData → Env → (Env → Prop) → Prop} {vs vs1 : List Nat} {ρ : Env} {Q : T → Prop} (q : di ρ fun _ items => items.length ≤ 1000 ∧ ∃ f : PyData → List PyData, (∀ (i : Nat) (x : PyData), items[i]? = some x → dg x (wipeE ρ vs) fun ρ2 => dt ρ2 fun c => if c = true then di1 ρ2 fun st items1 => st = true ∧ items1.length ≤ 1000 ∧ ∃ f1 : PyData → Option PyData, f x = items1.filterMap f1 ∧
    (∀ (j : Nat) (y : PyData), items1[j]? = some y → dg1 y (wipeE ρ2 vs1) fun ρ3 => du ρ3 fun c => if c = true then de ρ3 fun t => ∃ z, t.fz = .g z ∧ f1 y = some z else f1 y = none) else f x = []) ∧ Q (.l (items.flatMap f))) : dLc2 di dg dt di1 dg1 du de vs vs1 ρ Q := q
theorem w_lcO {di : Env → (Bool → List PyData → Prop) → Prop} {dg : PyData → Env → (Env → Prop) → Prop} {vs : List Nat} {ρ : Env} {Q : T → Prop} (q : di ρ fun _ items => items.length ≤ 1000000 ∧ ∃ f : PyData → List PyData, (∀ (i : Nat) (x : PyData), items[i]? = some x → dg x (wipeE ρ vs) fun ρ2 => de ρ2 fun t => t = .l (f x)) ∧ Q (.ll (items.map f))) : dLcO di dg de vs ρ Q := q
theorem w_lst1 {ρ : Env} {Q : T → Prop} (q : da ρ fun t => ∃ ds, t = .l ds ∧ Q (.ll [ds])) : dLst1 da ρ Q := q
theorem w_forR {j : Nat} {n : Env → Prop} {rt : T → Env → Prop} {b ct : Env → Prop} {ρ : Env} (q : da ρ fun t => ∃ dss, t = .ll dss ∧ ∃ Pv : Nat → Env → Prop, Pv 0 ρ ∧
  (∀ (i : Nat) (ds : List PyData) (ρ' : Env), dss[i]? = some ds → Pv i ρ' → d1 ⟨fun ρ2 => Pv (i + 1) (noP ρ2), fun t ρ2 => rt t (noP ρ2), fun ρ2 => n (noP ρ2), fun ρ2 => Pv (i + 1) (noP ρ2), xp0⟩ (ρ'.set j (some (.p ds)))) ∧ ∀ ρ', Pv dss.length ρ' → n ρ') : dForR da j d1 ⟨n, rt, b, ct, ex⟩ ρ := q
end
end Dv

set_option Elab.async false
set_option linter.all false
set_option maxRecDepth 100000
set_option maxHeartbeats 4000000
namespace Dv
open PySem PySem.Spec PyProof.Rows L2 Px
/-! ### places that stand against one another -/
def pairB (ns : List Int) (i j : Nat) : Bool := decide (ns.getD i 0 < ns.getD j 0) && (ns.drop (j + 1)).any fun x => decide (x < ns.getD i 0)
/-- the pairs of the place i with the m places behind it -/
def rowP (ns : List Int) (i m : Nat) : List (Int × Int) := ((List.range m).filter fun k => pairB ns i (i + 1 + k)).map fun k => ((i : Int), ((i + 1 + k : Nat) : Int))
def prsK (ns : List Int) (k : Nat) : List (Int × Int) := (List.range k).flatMap fun i => rowP ns i (ns.length - (i + 1))
def prs (ns : List Int) : List (Int × Int) := prsK ns ns.length
theorem rowP_succ (ns : List Int) (i m : Nat) : rowP ns i (m + 1) = rowP ns i m ++ if pairB ns i (i + 1 + m) = true then [((i : Int), ((i + 1 + m : Nat) : Int))] else [] := by
  unfold rowP
  rw [List.range_succ, List.filter_append, List.map_append]
  congr 1
  rw [List.filter_cons]
  split <;> rfl
theorem prsK_succ (ns : List Int) (k : Nat) : prsK ns (k + 1) = prsK ns k ++ rowP ns k (ns.length - (k + 1)) := by
  unfold prsK
  rw [List.range_succ, List.flatMap_append]
  simp
theorem rowP_len (ns : List Int) (i m : Nat) : (rowP ns i m).length ≤ m := by
  unfold rowP
  rw [List.length_map]
  exact Nat.le_trans (List.length_filter_le ..) (by rw [List.length_range]; exact Nat.le_refl _)
theorem prsK_len (ns : List Int) (k : Nat) : (prsK ns k).length ≤ k * ns.length := by
  induction k with
  | zero => simp [prsK]
  | succ k ih =>
    rw [prsK_succ, List.length_append, Nat.succ_mul]
    have := rowP_len ns k (ns.length - (k + 1))
    omega
/-- the least item, or d -/
def mnD : List Int → Int → Int
  | [], d => d
  | x :: r, _ => r.foldl min x
theorem mnD_spec (l : List Int) (d : Int) (h : l ≠ []) : mnD l d ∈ l ∧ ∀ y ∈ l, mnD l d ≤ y := by
  cases l with
  | nil => exact absurd rfl h
  | cons x r =>
    show r.foldl min x ∈ x :: r ∧ ∀ y ∈ x :: r, r.foldl min x ≤ y
    clear h
    induction r generalizing x with
    | nil => exact ⟨by simp, fun y hy => by rw [List.mem_singleton.mp hy]; exact Int.le_refl _⟩
    | cons z r ih =>
      obtain ⟨h1, h2⟩ := ih (min x z)
      rw [List.foldl_cons]
      have hm : min x z ≤ x ∧ min x z ≤ z ∧ (min x z = x ∨ min x z = z) := by omega
      refine ⟨?_, fun y hy => ?_⟩
      · rcases List.mem_cons.mp h1 with e | e
        · rcases hm.2.2 with q | q
          · rw [e, q]; exact List.mem_cons_self
          · rw [e, q]; exact List.mem_cons_of_mem _ List.mem_cons_self
        · exact List.mem_cons_of_mem _ (List.mem_cons_of_mem _ e)
      · have h0 := h2 (min x z) List.mem_cons_self
        rcases List.mem_cons.mp hy with rfl | hy
        · omega
        · rcases List.mem_cons.mp hy with rfl | hy
          · omega
          · exact h2 y (List.mem_cons_of_mem _ hy)
theorem mnD_uniq {l : List Int} {d m : Int} (h1 : m ∈ l) (h2 : ∀ y ∈ l, m ≤ y) : m = mnD l d := by
  have hn : l ≠ [] := fun e => by rw [e] at h1; cases h1
  obtain ⟨a, b⟩ := mnD_spec l d hn
  have := h2 _ a
  have := b m h1
  omega
theorem mnD_lt {l : List Int} {d x : Int} (hx : x < d) : decide (mnD l d < x) = l.any fun y => decide (y < x) := by
  cases e : l with
  | nil =>
    show decide (d < x) = false
    exact decide_eq_false (by omega)
  | cons a r =>
    rw [← e]
    obtain ⟨h1, h2⟩ := mnD_spec l d (by rw [e]; simp)
    by_cases h : mnD l d < x
    · rw [decide_eq_true h]
      exact (List.any_eq_true.mpr ⟨_, h1, decide_eq_true h⟩).symm
    · rw [decide_eq_false h]
      symm
      rw [List.any_eq_false]
      intro y hy z
      have := h2 y hy
      have := of_decide_eq_true z
      omega
theorem any_less {ns : List Int} {j : Nat} {x : Int} (hj : j < ns.length) : (!decide ((List.filter (fun (k : Int) => decide (ns.getD k.toNat 0 < x)) (rgI ((j : Int) + 1) (ns.length - (j + 1)))) = [])) = (ns.drop (j + 1)).any fun y => decide (y < x) := by
  have key : (ns.drop (j + 1)).any (fun y => decide (y < x)) = true ↔ ∃ k ∈ rgI ((j : Int) + 1) (ns.length - (j + 1)), ns.getD k.toNat 0 < x := by
    rw [List.any_eq_true]
    constructor
    · rintro ⟨y, hy, h⟩
      obtain ⟨k, hk, e⟩ := List.mem_iff_getElem.mp hy
      rw [List.length_drop] at hk
      rw [List.getElem_drop] at e
      refine ⟨(j : Int) + 1 + (k : Nat), ?_, ?_⟩
      · unfold rgI
        exact List.mem_map.mpr ⟨k, List.mem_range.mpr hk, rfl⟩
      · rw [show ((j : Int) + 1 + (k : Nat)).toNat = j + 1 + k by omega, List.getD_eq_getElem?_getD, List.getElem?_eq_getElem (by omega)]
        rw [← e] at h
        exact of_decide_eq_true h
    · rintro ⟨k, hk, h⟩
      unfold rgI at hk
      obtain ⟨m, hm, rfl⟩ := List.mem_map.mp hk
      have hm := List.mem_range.mp hm
      rw [show ((j : Int) + 1 + (m : Nat)).toNat = j + 1 + m by omega, List.getD_eq_getElem?_getD, List.getElem?_eq_getElem (by omega)] at h
      exact ⟨_, List.mem_iff_getElem.mpr ⟨m, by rw [List.length_drop]; omega, List.getElem_drop ..⟩, decide_eq_true h⟩
  cases hb : (ns.drop (j + 1)).any fun y => decide (y < x) with
  | true =>
    obtain ⟨k, hk, h⟩ := key.mp hb
    have : (List.filter (fun (k : Int) => decide (ns.getD k.toNat 0 < x)) (rgI ((j : Int) + 1) (ns.length - (j + 1)))) ≠ [] := fun e => by
      have : k ∈ (List.filter (fun (k : Int) => decide (ns.getD k.toNat 0 < x)) (rgI ((j : Int) + 1) (ns.length - (j + 1)))) := List.mem_filter.mpr ⟨hk, decide_eq_true h⟩
      rw [e] at this
      cases this
    rw [decide_eq_false this]
    rfl
  | false =>
    have : (List.filter (fun (k : Int) => decide (ns.getD k.toNat 0 < x)) (rgI ((j : Int) + 1) (ns.length - (j + 1)))) = [] := by
      rw [List.filter_eq_nil_iff]
      intro k hk z
      have := key.mpr ⟨k, hk, of_decide_eq_true z⟩
      rw [hb] at this
      cases this
    rw [decide_eq_true this]
    rfl
def ifG (p : Int → Bool) (g : Int → PyData) : PyData → Option PyData
  | .int n => if p n = true then some (g n) else none
  | _ => none
theorem fm_ifG (p : Int → Bool) (g : Int → PyData) : ∀ ns : List Int, (inD ns).filterMap (ifG p g) = (ns.filter p).map g
  | [] => rfl
  | n :: ns => by
    show List.filterMap (ifG p g) (.int n :: inD ns) = _
    rw [List.filterMap_cons, List.filter_cons]
    cases h : p n with
    | true =>
      have e : ifG p g (.int n) = some (g n) := if_pos h
      rw [e, fm_ifG]
      rfl
    | false =>
      have e : ifG p g (.int n) = none := if_neg (by rw [h]; exact Bool.false_ne_true)
      rw [e, fm_ifG]
      rfl
theorem getD_in {l : List Int} {i : Nat} (h : i < l.length) : l.getD i 0 ∈ l := by
  rw [List.getD_eq_getElem?_getD, List.getElem?_eq_getElem h]
  exact List.getElem_mem h
def onI (g : Int → List PyData) : PyData → List PyData
  | .int n => g n
  | _ => []
theorem fm_onI (g : Int → List PyData) (ns : List Int) : (inD ns).flatMap (onI g) = ns.flatMap g := by
  unfold inD
  rw [List.flatMap_map]
  rfl
/-! ### rows made by an order -/
theorem below_rg (n : Nat) (x : Int) (h0 : 0 ≤ x) (h1 : x ≤ n) : ((below (rgI 0 n) x : Nat) : Int) = x := by
  induction n with
  | zero =>
    have : x = 0 := by omega
    subst this
    rfl
  | succ n ih =>
    have e : rgI 0 (n + 1) = rgI 0 n ++ [(n : Int)] := by
      unfold rgI
      rw [List.range_succ, List.map_append]
      simp
    unfold below at ih ⊢
    rw [e, List.filter_append, List.length_append]
    by_cases h : x ≤ n
    · have := ih h
      have hn : ¬ ((n : Int) < x) := by omega
      rw [List.filter_cons, if_neg (by simpa using hn)]
      simpa using this
    · have hx : x = (n : Int) + 1 := by omega
      subst hx
      have all : (rgI 0 n).filter (fun y => decide (y < (n : Int) + 1)) = rgI 0 n := by
        rw [List.filter_eq_self]
        intro y hy
        unfold rgI at hy
        obtain ⟨k, hk, rfl⟩ := List.mem_map.mp hy
        have := List.mem_range.mp hk
        exact decide_eq_true (by omega)
      rw [all, rgI_len, List.filter_cons, if_pos (decide_eq_true (by omega))]
      simp
theorem ranks_order {os : List Int} (pm : os.Perm (rgI 0 os.length)) : ranks os = os := by
  unfold ranks
  refine (List.map_congr_left fun x hx => ?_).trans (List.map_id _)
  have hm : x ∈ rgI 0 os.length := pm.mem_iff.mp hx
  unfold rgI at hm
  obtain ⟨k, hk, rfl⟩ := List.mem_map.mp hm
  have hk := List.mem_range.mp hk
  have e : below os ((0 : Int) + (k : Nat)) = below (rgI 0 os.length) ((0 : Int) + (k : Nat)) := (pm.filter _).length_eq
  rw [e]
  exact below_rg _ _ (by omega) (by omega)
theorem order_bd {os : List Int} (pm : os.Perm (rgI 0 os.length)) {x : Int} (hx : x ∈ os) : 0 ≤ x ∧ x < os.length := by
  have hm : x ∈ rgI 0 os.length := pm.mem_iff.mp hx
  unfold rgI at hm
  obtain ⟨k, hk, rfl⟩ := List.mem_map.mp hm
  have hk := List.mem_range.mp hk
  omega
theorem order_nodup {os : List Int} (pm : os.Perm (rgI 0 os.length)) : os.Nodup := by
  refine pm.nodup_iff.mpr ?_
  unfold rgI List.Nodup
  rw [List.pairwise_map]
  exact List.nodup_range.imp fun h e => h (by omega)
theorem ranks_vals {vs os : List Int} (h : vs.Pairwise (· < ·)) (hl : vs.length = os.length) (pm : os.Perm (rgI 0 os.length)) : ranks (os.map fun x => vs.getD x.toNat 0) = os ∧ (os.map fun x => vs.getD x.toNat 0).Nodup := by
  have lt : ∀ a ∈ os, ∀ b ∈ os, (vs.getD a.toNat 0 < vs.getD b.toNat 0 ↔ a < b) := fun a ha b hb => by
    have h1 := order_bd pm ha
    have h2 := order_bd pm hb
    rw [getD_lt h (by omega) (by omega)]
    omega
  refine ⟨(ranks_map lt).trans (ranks_order pm), ?_⟩
  unfold List.Nodup
  rw [List.pairwise_map]
  refine List.Pairwise.imp_of_mem (fun {a b} ha hb ne e => ne ?_) (order_nodup pm)
  have h1 : ¬ a < b := fun z => by
    have := (lt a ha b hb).mpr z
    omega
  have h2 : ¬ b < a := fun z => by
    have := (lt b hb a ha).mpr z
    omega
  omega
end Dv

set_option Elab.async false
set_option linter.all false
set_option maxRecDepth 100000
set_option maxHeartbeats 4000000
namespace Px
open PySem PySem.Spec PyProof.Rows L2 HotX L2H
/-! ### a def that an except suite calls with its error: what it asks of it is known -/
abbrev SpZ := Addr → Value → Option Addr → Sp
structure FnZ (P : Program) (w : World) (K : PySem.W.Frag) (mg : Str → Option Value) (base : Heap) (k : Nat) (f : Addr) (fd : FuncData) (ps : List Str) (sz : SpZ) : Prop where
  le : ∀ a c d vs H Q E, sz a c d vs H Q E → vs.length = ps.length
  go : ∀ (A : Around) (out : List Env) (s : Shared) (H : Hp) (args : Args) (us : List Value) (vs : List V) (Q : VK) (E : XK) (p : Addr × Obj) (c : Value) (d : Option Addr), RoomH k A → PinOk out H s p → Zc c d p.2 → (∃ xs, p.2.data = .fields xs) →
    Env0 P w K mg base A out s H → BindsTo s fd args (ps.zip us) → Vals vs us → sz p.1 c d vs H Q E → codeAny (model P w) A (.call (.ref f) args) (CR CX0 out P w H s Q E) s
theorem fnZ_of {P : Program} {w : World} {K : PySem.W.Frag} {mg : Str → Option Value} {base : Heap} {k : Nat} {f : Addr} {x : Str} {st : Stmt} {fd : FuncData} {N ps : List Str} {sz : SpZ} (F : Fun K x x st f fd) (S : FnScope N ps (defScope st)) (le : ∀ a c d vs H Q E, sz a c d vs H Q E → vs.length = ps.length)
    (hb : ∀ (cdv : Value) (A : Around) (out : List Env) (s : Shared) (H : Hp) (vs : List V) (Q : VK) (E : XK) (a : Addr) (oe : Obj) (c : Value) (d : Option Addr), Zc c d oe → (∃ xs, oe.data = .fields xs) → RoomH k (A.deeper (envOfC x (defScope st) s.heap.objs.size f cdv)) → sz a c d vs H Q E →
      ∃ t, PSs (cxH CX0 P w K mg base N x (defScope st) f cdv A out s H E (a, oe)) (defBody st) t ∧ t { nx := fun _ H' => Q .non H', rt := Q } (L2.start N vs) H) : FnZ P w K mg base (k + 1) f fd ps sz := by
  obtain ⟨oc, od, kV, doc, pm, an, cdv, ct, osl, rfl, at_, code⟩ := F.ex
  refine ⟨le, fun A out s H args us vs Q E ⟨a, oe⟩ c d room pin zc fl env bind vals want => ?_⟩
  have len := le _ _ _ _ _ _ _ want
  have kin : K.In s.heap := env.mod.kin.keeps fun b o z => (env.bs b o z).1
  have nolim : s.heap.NoLimit := env.mod.nolimit.keeps fun b o z => (env.bs b o z).1
  have kinds : ∀ y ∈ ps.zip us, (defScope st).names.lookup y.1 = some .local ∨ ((defScope st).names.lookup y.1 = some .cell ∧ ((cellsFrom (s.heap.objs.size + 1) (defScope st).names []).lookup y.1).isSome = true) := by
    rintro ⟨n, v⟩ hy
    exact (S.par n (List.of_mem_zip hy).1).elim .inl fun q => .inr ⟨q, PySem.W.cellsFrom_some _ _ _ (.inl q)⟩
  refine codeAny_call_function room.depth (kin _ _ at_) rfl S.co S.gen rfl (PySem.W.codeRec_of kin code) (bind _ _ _ _ ?_)
  refine wpAny_newFunctionEnv_cells S.kind kinds fun env1 henv s1 made => ?_
  subst henv
  refine ⟨nolim.keeps made.toInCall.keep, codeAny_func ?_⟩
  obtain ⟨t, run, got⟩ := hb cdv A out s H vs Q E a oe c d zc fl (room.deeper _) want
  have inv : Inv (cxH CX0 P w K mg base N x (defScope st) f cdv A out s H E (a, oe)) [] (L2.start N vs) H s1 := inv_startH S pin env len vals made
  refine wpAny_mono (run.run [] s1 (L2.start N vs) H _ inv got) (fun flow s2 h2 => ?_) fun e s2 h2 => h2
  have done : ∀ {σ' : L2.St} {H' : Hp} {v : V} {u : Value}, Inv (cxH CX0 P w K mg base N x (defScope st) f cdv A out s H E (a, oe)) [] σ' H' s2 → RelV v u → Q v H' → CE out P w H s Q u s2 := by
    intro σ' H' v u J rv q
    exact ⟨v, H', J.os, J.bare, J.base, J.hok, rv, q⟩
  cases flow with
  | next =>
    obtain ⟨σ', H', J, q⟩ := h2
    exact done (v := V.non) (u := Value.none) J rfl q
  | ret u =>
    obtain ⟨v, σ', H', J, rv, q⟩ := h2
    exact done J rv q
  | cont =>
    obtain ⟨_, _, _, z⟩ := h2
    exact z.elim
  | brk =>
    obtain ⟨_, _, _, z⟩ := h2
    exact z.elim
/-- such a def under its name -/
structure CalZ (P : Program) (w : World) (K : PySem.W.Frag) (mg : Str → Option Value) (base : Heap) (k : Nat) (x : Str) (ps : List Str) (sz : SpZ) : Prop where
  ex : ∃ (f : Addr) (fd : FuncData), FnZ P w K mg base k f fd ps sz ∧ mg x = some (.ref f) ∧ PySem.W.keepIn K (.ref f) = true ∧ Binds K fd ps []
theorem CalZ.of {P : Program} {w : World} {K : PySem.W.Frag} {mg : Str → Option Value} {base : Heap} {k : Nat} {x : Str} {ps : List Str} {sz : SpZ} {st : Stmt} (D : Dfn K mg x st)
    (hb : ∀ (kV doc pm : Value) (an : Option Addr) (cdv ct : Value) (us : List Value), us.length = ps.length → bindArgs (PySem.W.fnOf x x (defArgs st) (defBody st) (defScope st) .none kV doc pm an cdv ct) ⟨us, []⟩ = pure (ps.zip us))
    (h : ∀ f fd, Fun K x x st f fd → FnZ P w K mg base k f fd ps sz) : CalZ P w K mg base k x ps sz := by
  obtain ⟨f, fd, hm, F⟩ := D.ex
  exact ⟨f, fd, h f fd F, hm, F.kp, F.binds hb⟩
section
variable {X : Cx} {k : Nat} {x : Str} {ps : List Str} {sz : SpZ} {q pos : Pos} {e : Expr} {es : List Expr} {t : TA} {a : Addr} {c : Value} {d : Option Addr} {oe : Obj}
def tCalZ (sz : SpZ) (a : Addr) (c : Value) (d : Option Addr) (t : TA) : TE := fun σ H Q => t σ H fun vs H1 => sz a c d vs H1 Q fun _ _ _ => False
theorem pe_calZ (C : CalZ X.prog X.w X.K X.mg X.base k x ps sz) (hr : RoomH k X.A) (zc : Zc c d oe) (fl : ∃ xs, oe.data = .fields xs) (hp : (a, oe) ∈ X.pn) (hx : Passes CX0 X fun _ _ _ => False) (ha : PA X (e :: es) t) (hg : Gl X x := by rfl) (hdb : (x == ("__debug__" : Str)) = false := by decide)
    (he : starEach (e :: es) X.env = (false, eval e X.env) :: starEach es X.env := by rfl) (hpl : (backTo pos (starEach es X.env)).any (·.1) = false := by rfl) :
    PE X (.Call (.Name x q) (e :: es) [] pos) (tCalZ sz a c d t) := by
  obtain ⟨f, fd, F, hm, hk, hb⟩ := C.ex
  refine ⟨fun pins s σ H Q I h => ?_⟩
  refine wpAny_Call_Name_kw (ld_glob I hg hm (PySem.W.callWith_K (h₀ := X.base) I.ok.mod.kin hk (thn (ha.run pos pins s σ H _ I h) fun us s1 ⟨vs, H1, I1, r, want⟩ => ⟨I1.kIn, ?_⟩) he hpl) hdb)
  have len : us.length = ps.length := by rw [← r.length]; exact F.le _ _ _ _ _ _ _ want
  have bind := hb s1 us I1.kIn (by rw [List.append_nil]; exact len)
  rw [List.append_nil] at bind
  have pin := I1.pin (a, oe) (List.mem_append_left _ hp)
  have pok : PinOk X.stack H1 s1 (a, oe) := ⟨pin.1, pin.2.1, fun z => (List.mem_cons.mp (I1.stkSub a z)).elim pin.2.2.1 pin.2.2.2.1, pin.2.2.2.2⟩
  refine wpAny_call (codeAny_mono (F.go X.A X.stack s1 H1 ⟨us, []⟩ us vs Q (fun _ _ _ => False) (a, oe) c d hr pok zc fl I1.env0 bind r want) fun res s2 got => ?_)
  cases res with
  | error u => exact hx pins σ H1 s1 u s2 I1 got
  | ok flow =>
    cases flow with
    | ret u => exact I1.after got
    | next => exact got.elim
    | brk => exact got.elim
    | cont => exact got.elim
theorem r_calZ {σ : L2.St} {H : Hp} {Q : VK} (z : t σ H fun vs H1 => sz a c d vs H1 Q fun _ _ _ => False) : tCalZ sz a c d t σ H Q := z
end
end Px

set_option Elab.async false
set_option linter.all false
set_option maxRecDepth 100000
set_option maxHeartbeats 4000000
namespace Dv
open PySem PySem.Spec PyProof.Rows L2 Px
/-! ### the first marks: by recursion, and by walking forth and back -/
section
variable (ok : List Int → Nat → Bool) (lim : List Int → Nat)
/-- the first way to give r more marks behind ms -/
def fstM : Nat → List Int → Option (List Int)
  | 0, ms => some ms
  | r + 1, ms => (List.range' 0 (lim ms)).findSome? fun k => if ok ms k = true then fstM r (ms ++ [(k : Int)]) else none
/-- where the next mark is k or more -/
def frM (r : Nat) (ms : List Int) (k : Nat) : Option (List Int) := (List.range' k (lim ms - k)).findSome? fun k => if ok ms k = true then fstM ok lim r (ms ++ [(k : Int)]) else none
theorem fst_fr (r : Nat) (ms : List Int) : fstM ok lim (r + 1) ms = frM ok lim r ms 0 := rfl
theorem frM_end {r k : Nat} {ms : List Int} (h : lim ms ≤ k) : frM ok lim r ms k = none := by
  unfold frM
  rw [show lim ms - k = 0 by omega]
  rfl
theorem frM_step {r k : Nat} {ms : List Int} (h : k < lim ms) : frM ok lim r ms k = (if ok ms k = true then fstM ok lim r (ms ++ [(k : Int)]) else none).or (frM ok lim r ms (k + 1)) := by
  unfold frM
  rw [show lim ms - k = (lim ms - (k + 1)) + 1 by omega, List.range'_succ, List.findSome?_cons]
  cases (if ok ms k = true then fstM ok lim r (ms ++ [(k : Int)]) else none) <;> rfl
/-- what comes of going back; the list is turned about -/
def backM (n : Nat) : List Int → Option (List Int)
  | [] => none
  | m :: rs => (frM ok lim (n - rs.length - 1) rs.reverse (m.toNat + 1)).or (backM n rs)
/-- what comes of a state of the walk -/
def valM (n : Nat) (ms : List Int) (k : Nat) : Option (List Int) := if ms.length = n then some ms else (frM ok lim (n - ms.length - 1) ms k).or (backM ok lim n ms.reverse)
theorem val_full {n : Nat} {ms : List Int} {k : Nat} (h : ms.length = n) : valM ok lim n ms k = some ms := if_pos h
theorem val_none {n : Nat} {k : Nat} (hn : 0 < n) (h : lim [] ≤ k) : valM ok lim n [] k = none := by
  unfold valM
  rw [if_neg (by simp; omega), frM_end ok lim h]
  rfl
theorem val_back {n : Nat} {ms : List Int} {m : Int} {k : Nat} (hl : ms.length + 1 < n) (h : lim (ms ++ [m]) ≤ k) : valM ok lim n (ms ++ [m]) k = valM ok lim n ms (m.toNat + 1) := by
  unfold valM
  rw [if_neg (by simp; omega), if_neg (by omega), frM_end ok lim h, List.reverse_append]
  show (none : Option (List Int)).or ((frM ok lim (n - ms.reverse.length - 1) ms.reverse.reverse (m.toNat + 1)).or (backM ok lim n ms.reverse)) = _
  rw [List.reverse_reverse, List.length_reverse]
  rfl
theorem val_good {n : Nat} {ms : List Int} {k : Nat} (hl : ms.length < n) (h : k < lim ms) (g : ok ms k = true) : valM ok lim n ms k = valM ok lim n (ms ++ [(k : Int)]) 0 := by
  have e1 : valM ok lim n ms k = (frM ok lim (n - ms.length - 1) ms k).or (backM ok lim n ms.reverse) := if_neg (by omega)
  rw [e1, frM_step ok lim h, if_pos g]
  unfold valM
  by_cases e : ms.length + 1 = n
  · rw [if_pos (by simp; omega), show n - ms.length - 1 = 0 by omega]
    rfl
  · rw [if_neg (by simp; omega), List.reverse_append]
    show _ = (frM ok lim (n - (ms ++ [(k : Int)]).length - 1) (ms ++ [(k : Int)]) 0).or ((frM ok lim (n - ms.reverse.length - 1) ms.reverse.reverse ((k : Int).toNat + 1)).or (backM ok lim n ms.reverse))
    rw [List.reverse_reverse, List.length_reverse, Int.toNat_natCast, ← fst_fr, List.length_append, show n - (ms.length + [(k : Int)].length) - 1 + 1 = n - ms.length - 1 by simp; omega, Option.or_assoc]
theorem val_bad {n : Nat} {ms : List Int} {k : Nat} (hl : ms.length < n) (h : k < lim ms) (g : ¬ ok ms k = true) : valM ok lim n ms k = valM ok lim n ms (k + 1) := by
  unfold valM
  rw [if_neg (by omega), if_neg (by omega), frM_step ok lim h, if_neg g]
  rfl
theorem val_start (n : Nat) : valM ok lim n [] 0 = fstM ok lim n [] := by
  cases n with
  | zero => rfl
  | succ n =>
    unfold valM
    rw [if_neg (by simp)]
    show (frM ok lim (n + 1 - 0 - 1) [] 0).or none = _
    rw [Option.or_none, fst_fr]
    rfl
end
section
variable (ok : List Int → Nat → Bool) (lim : List Int → Nat)
/-- marks that may be given, one behind the other -/
inductive Goes : List Int → List Nat → Prop
  | nil (ms : List Int) : Goes ms []
  | cons {ms : List Int} {k : Nat} {r : List Nat} : k < lim ms → ok ms k = true → Goes (ms ++ [(k : Int)]) r → Goes ms (k :: r)
theorem fst_goes {ms : List Int} {ks : List Nat} (h : Goes ok lim ms ks) : fstM ok lim ks.length ms ≠ none := by
  induction h with
  | nil ms => exact fun e => nomatch e
  | @cons ms k r h1 h2 _ ih =>
    intro e
    have e : (List.range' 0 (lim ms)).findSome? (fun k => if ok ms k = true then fstM ok lim r.length (ms ++ [(k : Int)]) else none) = none := e
    have := List.findSome?_eq_none_iff.mp e k (by simpa [List.mem_range'] using h1)
    rw [if_pos h2] at this
    exact ih this
/-- what is told is made of marks that may be given -/
theorem fst_made : ∀ {r : Nat} {ms out : List Int}, fstM ok lim r ms = some out → ∃ ks : List Nat, ks.length = r ∧ out = ms ++ ks.map (fun (k : Nat) => (k : Int)) ∧ Goes ok lim ms ks
  | 0, ms, out, e => ⟨[], rfl, by cases e; simp, .nil ms⟩
  | r + 1, ms, out, e => by
    obtain ⟨k, hk, e2⟩ := List.exists_of_findSome?_eq_some (show (List.range' 0 (lim ms)).findSome? _ = some out from e)
    have hk : k < lim ms := by simpa [List.mem_range'] using hk
    by_cases g : ok ms k = true
    · rw [if_pos g] at e2
      obtain ⟨ks, h1, h2, h3⟩ := fst_made e2
      exact ⟨k :: ks, by simp [h1], by rw [h2]; simp, .cons hk g h3⟩
    · rw [if_neg g] at e2
      cases e2
end
/-! ### the walk comes to an end -/
def hM (B : Nat) (ms : List Int) : Nat := ms.foldl (fun a d => a * B + d.toNat) 0
theorem hM_snoc (B : Nat) (ms : List Int) (m : Int) : hM B (ms ++ [m]) = hM B ms * B + m.toNat := by
  unfold hM
  rw [List.foldl_append]
  rfl
theorem hM_lt {B : Nat} : ∀ {n : Nat} {ms : List Int}, ms.length = n → (∀ m ∈ ms, m.toNat < B) → hM B ms < B ^ n
  | 0, ms, e, _ => by
    obtain rfl := List.length_eq_zero_iff.mp e
    simp [hM]
  | n + 1, ms, e, h => by
    rcases List.eq_nil_or_concat ms with rfl | ⟨l, m, rfl⟩
    · simp at e
    · rw [List.concat_eq_append] at *
      have h1 := hM_lt (n := n) (ms := l) (by simpa using e) fun x hx => h x (List.mem_append_left _ hx)
      have h2 := h m (by simp)
      rw [hM_snoc, Nat.pow_succ]
      have : (hM B l + 1) * B ≤ B ^ n * B := Nat.mul_le_mul_right _ h1
      rw [Nat.succ_mul] at this
      omega
/-- how far a state is -/
def nM (B n : Nat) (ms : List Int) (k : Nat) : Nat := (hM B ms * B + k) * B ^ (n - ms.length)
theorem nM_lt {B n k : Nat} {ms : List Int} (hl : ms.length ≤ n) (h : ∀ m ∈ ms, m.toNat < B) (hk : k < B) : nM B n ms k < B ^ (n + 1) := by
  have h1 := hM_lt (B := B) rfl h
  unfold nM
  have h2 : hM B ms * B + k < B ^ (ms.length + 1) := by
    rw [Nat.pow_succ]
    have : (hM B ms + 1) * B ≤ B ^ ms.length * B := Nat.mul_le_mul_right _ h1
    rw [Nat.succ_mul] at this
    omega
  have hB : 0 < B := by omega
  have e : B ^ (n + 1) = B ^ (ms.length + 1) * B ^ (n - ms.length) := by
    rw [← Nat.pow_add]
    congr 1
    omega
  rw [e]
  exact Nat.mul_lt_mul_of_pos_right h2 (Nat.pow_pos hB)
theorem nM_push {B n k : Nat} {ms : List Int} (hl : ms.length < n) : nM B n (ms ++ [(k : Int)]) 0 = nM B n ms k := by
  unfold nM
  rw [hM_snoc, Int.toNat_natCast, Nat.add_zero, List.length_append]
  have e : n - ms.length = (n - (ms.length + [(k : Int)].length)) + 1 := by simp; omega
  rw [e, Nat.pow_succ, Nat.mul_assoc, Nat.mul_comm B]
theorem nM_next {B n k : Nat} {ms : List Int} (hB : 0 < B) : nM B n ms k < nM B n ms (k + 1) := by
  unfold nM
  exact Nat.mul_lt_mul_of_pos_right (by omega) (Nat.pow_pos hB)
theorem nM_back {B n k : Nat} {ms : List Int} {m : Int} (hl : ms.length < n) (hk : k < B) : nM B n (ms ++ [m]) k < nM B n ms (m.toNat + 1) := by
  unfold nM
  rw [hM_snoc, List.length_append]
  have e : n - ms.length = (n - (ms.length + [m].length)) + 1 := by simp; omega
  have hB : 0 < B := by omega
  rw [e, Nat.pow_succ]
  have hP : 0 < B ^ (n - (ms.length + [m].length)) := Nat.pow_pos hB
  generalize B ^ (n - (ms.length + [m].length)) = P at hP ⊢
  generalize hM B ms * B = h
  rw [Nat.mul_comm P B, ← Nat.mul_assoc]
  refine Nat.mul_lt_mul_of_pos_right ?_ hP
  rw [← Nat.add_assoc, Nat.add_mul (h + m.toNat) 1 B]
  omega
/-- what is left of the walk -/
def wM (B n : Nat) (ms : List Int) (k : Nat) : Nat := (B ^ (n + 1) - nM B n ms k) * (n + 2) + (n + 1 - ms.length)
theorem wM_push {B n k : Nat} {ms : List Int} (hl : ms.length < n) : wM B n (ms ++ [(k : Int)]) 0 < wM B n ms k := by
  unfold wM
  rw [nM_push hl, List.length_append]
  have : [(k : Int)].length = 1 := rfl
  omega
theorem wM_more {B n : Nat} {ms ms' : List Int} {k k' : Nat} (h : nM B n ms k < nM B n ms' k') (h2 : nM B n ms' k' < B ^ (n + 1)) : wM B n ms' k' < wM B n ms k := by
  unfold wM
  have h3 : B ^ (n + 1) - nM B n ms' k' + 1 ≤ B ^ (n + 1) - nM B n ms k := by omega
  have := Nat.mul_le_mul_right (n + 2) h3
  rw [Nat.succ_mul] at this
  omega
/-! ### marks of piles -/
/-- no place ahead that stands against the place behind ms has the mark k -/
def okM (ws : List (Int × Int)) (ms : List Int) (k : Nat) : Bool := !ws.any fun w => decide (w.2 = (ms.length : Nat)) && decide (ms.getD w.1.toNat 0 = (k : Nat))
/-- how many marks may be given next -/
def limM (many : Nat) (ms : List Int) : Nat := min many (1 + (distinct ms).length)
def cntI (i : Nat) : List Int := (List.range i).map fun (k : Nat) => (k : Int)
theorem cntI_succ (i : Nat) : cntI (i + 1) = cntI i ++ [(i : Int)] := by
  unfold cntI
  rw [List.range_succ, List.map_append]
  rfl
theorem cntI_len (i : Nat) : (cntI i).length = i := by simp [cntI]
theorem cntI_nodup (i : Nat) : (cntI i).Nodup := by
  unfold cntI List.Nodup
  rw [List.pairwise_map]
  exact List.nodup_range.imp fun h e => h (by omega)
theorem cnt_goes {ws : List (Int × Int)} {many : Nat} (hw : ∀ w ∈ ws, 0 ≤ w.1 ∧ w.1 < w.2) : ∀ {r i : Nat}, i + r ≤ many → Goes (okM ws) (limM many) (cntI i) (List.range' i r)
  | 0, i, _ => .nil _
  | r + 1, i, h => by
    rw [List.range'_succ]
    refine .cons ?_ ?_ (by rw [← cntI_succ]; exact cnt_goes hw (by omega))
    · unfold limM
      rw [distinct_nodup (cntI_nodup i), cntI_len]
      omega
    · unfold okM
      rw [Bool.not_eq_true', List.any_eq_false]
      intro w hm z
      rw [Bool.and_eq_true] at z
      have h1 := of_decide_eq_true z.1
      have h2 := of_decide_eq_true z.2
      rw [cntI_len] at h1
      have := hw w hm
      have hi : w.1.toNat < i := by omega
      unfold cntI at h2
      rw [List.getD_eq_getElem?_getD, List.getElem?_map, List.getElem?_range hi] at h2
      have h2 : ((w.1.toNat : Nat) : Int) = (i : Nat) := h2
      omega
theorem fewest_some {ws : List (Int × Int)} {n : Nat} (hw : ∀ w ∈ ws, 0 ≤ w.1 ∧ w.1 < w.2) : fstM (okM ws) (limM n) n [] ≠ none := by
  have := fst_goes _ _ (cnt_goes (many := n) hw (r := n) (i := 0) (by omega))
  rw [List.length_range'] at this
  exact this
end Dv

set_option Elab.async false
set_option linter.all false
set_option maxRecDepth 100000
set_option maxHeartbeats 4000000
namespace Px
open PySem PySem.Spec PyProof.Rows L2
/-! ### dicts whose keys are nested tuples -/
def entX (w : World) (x : NestedKey × Addr × Value) : DictEntry := ⟨x.1.hash w, .ref x.2.1, x.2.2⟩
/-- such a dict at d, by its entries -/
def DxO (w : World) (d : Addr) (xs : List (NestedKey × Addr × Value)) : HO := .ext fun h => (d == sysModules) = false ∧ ∃ o es ep, h.get? d = some o ∧ o.ExactDict ∧ o.data = .dict es ep ∧ es.toList = xs.map (entX w) ∧ (xs.map (·.1)).Nodup
section
variable {P : Program} {w : World} {H : Hp} {h : Heap} {d : Addr} {xs : List (NestedKey × Addr × Value)}
theorem dxO_ok (hd : (d == sysModules) = false) (q : h.DictOfH (nestedKind P w) d xs) : ObjOk P w H h d (DxO w d xs) := by
  obtain ⟨o, es, ep, ho, hc, hdt, he, _, hn⟩ := q
  refine ⟨⟨hd, o, es, ep, ho, hc, hdt, ?_, hn⟩, ⟨o, ho⟩, fun h1 h2 q k => ?_⟩
  · rw [he]
    rfl
  · obtain ⟨z, o, es, ep, ho, r⟩ := q
    exact ⟨z, o, es, ep, k _ ho, r⟩
theorem dxO_of (ok : HOk P w H h) (e : Rd H d (DxO w d xs)) (ks : ∀ x ∈ xs, (nestedKind P w).is h x.1 x.2.1) : (d == sysModules) = false ∧ h.DictOfH (nestedKind P w) d xs := by
  obtain ⟨⟨z, o, es, ep, ho, hc, hdt, he, hn⟩, _, _⟩ := (show ObjOk P w H h d (DxO w d xs) from e.ok ok)
  refine ⟨z, o, es, ep, ho, hc, hdt, ?_, ks, hn⟩
  rw [he]
  rfl
end
section
variable {X : Cx} {pins : List (Addr × Obj)} {σ : L2.St} {H : Hp} {s : Shared}
mutual
theorem nk_is (I : Inv X pins σ H s) : ∀ (k : NestedKey) (v : V) (u : Value), Dp X.K H v k.data → RelV v u → NestedIs s.heap k u
  | .none, _, _, h, r => by
    cases h
    cases r
    exact .none
  | .num i, _, _, h, r => by
    cases h
    obtain ⟨t, rfl⟩ := r
    exact .int i t
  | .text x, _, _, h, r => by
    cases h
    obtain ⟨t, rfl⟩ := r
    exact .text x t
  | .tup ks, _, _, h, r => by
    cases h with
    | tup hs ha =>
      cases r
      obtain ⟨its, rv, ⟨o, ho, hc, n, hd⟩, _⟩ := I.tuple hs
      exact .tup ho hc hd (by simpa using nk_all I ks _ its ha rv)
theorem nk_all (I : Inv X pins σ H s) : ∀ (ks : List NestedKey) (vs : List V) (us : List Value), DpAll X.K H vs (NestedKey.datas ks) → Vals vs us → NestedAll s.heap ks us
  | [], _, _, h, r => by
    cases h
    cases r
    exact .nil
  | k :: ks, _, _, h, r => by
    cases h with
    | cons h1 h2 =>
      cases r with
      | cons r1 r2 => exact .cons (nk_is I k _ _ h1 r1) (nk_all I ks _ _ h2 r2)
end
end
/-- the keys of a dict stand -/
def EntX (K : PySem.W.Frag) (H : Hp) (xs : List (NestedKey × Addr × Value)) : Prop := ∀ e ∈ xs, Dp K H (.ref e.2.1) e.1.data ∧ e.1.depth ≤ 8
section
variable {X : Cx} {pins : List (Addr × Obj)} {σ : L2.St} {H : Hp} {s : Shared} {d a : Addr} {k : NestedKey} {xs : List (NestedKey × Addr × Value)}
theorem nkey (I : Inv X pins σ H s) (h : Dp X.K H (.ref a) k.data) (z : k.depth ≤ 8) : (nestedKind X.prog X.w).is s.heap k a := ⟨nk_is I k _ _ h rfl, z⟩
theorem dx_at (I : Inv X pins σ H s) (e : Rd H d (DxO X.w d xs)) (ks : EntX X.K H xs) : (d == sysModules) = false ∧ s.heap.DictOfH (nestedKind X.prog X.w) d xs := dxO_of I.hok e fun x hx => nkey I (ks x hx).1 (ks x hx).2
end
/-- key x in the dict y -/
def InX (K : PySem.W.Frag) (w : World) (x y : V) (H : Hp) (Q : Option (Addr × Value) → Prop) : Prop := ∃ (a d : Addr) (k : NestedKey) (xs : List (NestedKey × Addr × Value)), x = .ref a ∧ y = .ref d ∧ Dp K H (.ref a) k.data ∧ k.depth ≤ 8 ∧ Rd H d (DxO w d xs) ∧ EntX K H xs ∧ Q (atKey xs k)
def rInX (K : PySem.W.Frag) (w : World) : R2 := fun x y H Q => InX K w x y H fun o => Q (.bl o.isSome) H
def rNotInX (K : PySem.W.Frag) (w : World) : R2 := fun x y H Q => InX K w x y H fun o => Q (.bl (!o.isSome)) H
section
variable {X : Cx}
theorem op_inX (hu : X.A.units + 10 < cLine) : OpR X (compareOp .In) (rInX X.K X.w) := by
  intro pins s σ H x y v u Q I rx ry h
  obtain ⟨a, d, k, xs, rfl, rfl, hk, z, e, ks, q⟩ := h
  cases rx
  cases ry
  obtain ⟨hd, hm⟩ := dx_at I e ks
  refine in_keyed (knd := nestedKind X.prog X.w) (by show X.A.units + 1 + 8 < cLine; omega) (nkey I hk z) hd ⟨xs, hm, rfl⟩ ?_
  rw [valueAt_pairsH, Option.isSome_map]
  exact ⟨.bl _, H, I.tok _, rfl, q⟩
theorem op_notInX (hu : X.A.units + 10 < cLine) : OpR X (compareOp .NotIn) (rNotInX X.K X.w) := by
  intro pins s σ H x y v u Q I rx ry h
  obtain ⟨a, d, k, xs, rfl, rfl, hk, z, e, ks, q⟩ := h
  cases rx
  cases ry
  obtain ⟨hd, hm⟩ := dx_at I e ks
  refine notIn_keyed (knd := nestedKind X.prog X.w) (by show X.A.units + 1 + 8 < cLine; omega) (nkey I hk z) hd ⟨xs, hm, rfl⟩ ?_
  rw [valueAt_pairsH, Option.isSome_map]
  exact ⟨.bl _, H, I.tok _, rfl, q⟩
theorem opInX (K : PySem.W.Frag) (w : World) {X : Cx} (hK : X.K = K) (hw : X.w = w) (hu : X.A.units + 10 < cLine) : OpR X (compareOp .In) (rInX K w) := by
  subst hK hw
  exact op_inX hu
theorem opNotInX (K : PySem.W.Frag) (w : World) {X : Cx} (hK : X.K = K) (hw : X.w = w) (hu : X.A.units + 10 < cLine) : OpR X (compareOp .NotIn) (rNotInX K w) := by
  subst hK hw
  exact op_notInX hu
end
/-- d[k] -/
def tGetX (K : PySem.W.Frag) (w : World) (td ty : TE) : TE := fun σ H Q => td σ H fun x H1 => ty σ H1 fun y H2 => InX K w y x H2 fun o => ∃ a v u, o = some (a, u) ∧ RelV v u ∧ Q v H2
/-- d[k] = e -/
def sPutX (K : PySem.W.Frag) (w : World) (td ty tv : TE) : TS := fun D σ H => tv σ H fun v H1 => td σ H1 fun x H2 => ty σ H2 fun y H3 => ∃ (a d : Addr) (k : NestedKey) (xs : List (NestedKey × Addr × Value)), y = .ref a ∧ x = .ref d ∧ Dp K H3 (.ref a) k.data ∧ k.depth ≤ 8 ∧ H3 d = some (DxO w d xs) ∧ EntX K H3 xs ∧
  xs.length < sizeLine ∧ ∀ u, RelV v u → D.nx σ (upd H3 d (DxO w d (storedH xs k a u)))
/-- d.get(k, e) -/
def tGetOrX (K : PySem.W.Frag) (w : World) (td ty tv : TE) : TE := fun σ H Q => td σ H fun x H1 => ∃ d xs, x = .ref d ∧ Rd H1 d (DxO w d xs) ∧ ty σ H1 fun y H2 => tv σ H2 fun v H3 => InX K w y x H3 fun o => match o with | none => Q v H3 | some p => ∃ v, RelV v p.2 ∧ Q v H3
def tGet1X (K : PySem.W.Frag) (w : World) (td ty : TE) : TE := fun σ H Q => td σ H fun x H1 => ∃ d xs, x = .ref d ∧ Rd H1 d (DxO w d xs) ∧ ty σ H1 fun y H2 => InX K w y x H2 fun o => match o with | none => Q .non H2 | some p => ∃ v, RelV v p.2 ∧ Q v H2
/-- {k: e} -/
def tDispX (K : PySem.W.Frag) (w : World) (tk tv : TE) : TE := fun σ H Q => ∀ p, H p = none → tk σ (upd H p (DxO w p [])) fun x H1 => tv σ H1 fun v H2 => H2 p = some (DxO w p []) ∧ ∃ (a : Addr) (k : NestedKey), x = .ref a ∧ Dp K H2 (.ref a) k.data ∧ k.depth ≤ 8 ∧ ∀ u, RelV v u → Q (.ref p) (upd H2 p (DxO w p [(k, a, u)]))
/-- {} -/
def tNewX (w : World) : TE := fun _ H Q => ∀ p, H p = none → Q (.ref p) (upd H p (DxO w p []))
section
variable {X : Cx} {o i e value : Expr} {pos pos' apos cpos : Pos} {td ty tv : TE}
theorem pe_getX (K : PySem.W.Frag) (w : World) (hK : X.K = K) (hw : X.w = w) (hu : X.A.units + 10 < cLine) (ho : PE X o td) (hi : PE X i ty) (hs : NoSl i) : PE X (.Subscript o i pos) (tGetX K w td ty) := by
  subst hK hw
  refine ⟨fun pins s σ H Q I h => ?_⟩
  refine subD_of PySem.F.slot_dict_getitem.lookup hs (thn (ho.run pins s σ H _ I h) fun u s1 ⟨x, H1, I1, rx, q1⟩ => thn (hi.run pins s1 σ H1 _ I1 q1) fun iv s2 ⟨y, H2, I2, ry, q2⟩ => ?_)
  obtain ⟨a, d, k, xs, rfl, rfl, hk, z, e, ks, b, v, r, hv, rv, q⟩ := q2
  cases rx
  cases ry
  obtain ⟨hd, hm⟩ := dx_at I2 e ks
  refine ⟨hm.typeIs, getItem_keyed (knd := nestedKind X.prog X.w) (v := r) (by show X.A.units + 1 + 8 < cLine; omega) (nkey I2 hk z) ⟨xs, hm, rfl⟩ (by rw [valueAt_pairsH, hv]; rfl) ?_⟩
  exact ⟨v, H2, I2.tok _, rv, q⟩
theorem ps_putX (K : PySem.W.Frag) (w : World) (hK : X.K = K) (hw : X.w = w) (hu : X.A.units + 10 < cLine) (ho : PE X o td) (hi : PE X i ty) (hv : PE X value tv) (hs : swapsWith value (some (.Subscript o i pos')) pos.line X.env = pure false) :
    PS X (.Assign [.Subscript o i pos'] value pos) (sPutX K w td ty tv) := by
  subst hK hw
  refine ⟨fun pins s σ H D I h => ?_⟩
  refine wpAny_Assign_Subscript (thn (hv.run pins s σ H _ I h) fun r s1 ⟨v, H1, I1, rv, q1⟩ => thn (ho.run pins s1 σ H1 _ I1 q1) fun u s2 ⟨x, H2, I2, rx, q2⟩ => thn (hi.run pins s2 σ H2 _ I2 q2) fun iv s3 ⟨y, H3, I3, ry, q3⟩ => ?_) hs
  obtain ⟨a, d, k, xs, rfl, rfl, hk, z, e, ks, zl, q⟩ := q3
  cases rx
  cases ry
  obtain ⟨hd, hm⟩ := dx_at I3 (.of e) ks
  refine wpAny_setItem_heap (knd := nestedKind X.prog X.w) (hsz := Nat.le_of_lt zl) (by show X.A.units + 1 + 8 < cLine; omega) (nkey I3 hk z) hm fun h' hm' hs' => ⟨σ, _, ?_, q r rv⟩
  have he : ∃ q, h'.get? d = some q := let ⟨q, _, _, hq, _⟩ := hm'; ⟨q, hq⟩
  exact d_write I3 (by rw [e]; exact True.intro) hs' he (dxO_ok hd hm')
theorem pe_newX (w : World) (hw : X.w = w) : PE X (.Dict [] [] pos) (tNewX w) := by
  subst hw
  exact ⟨fun pins s σ H Q I h => wpAny_Dict_empty ⟨.ref s.heap.objs.size, _, I.laid (a := s.heap.objs.size) (o := DxO X.w s.heap.objs.size []) (t' := s.toks) (fun _ _ q => Heap.get?_push_of_some _ q) (Nat.le_refl _)
    (dxO_ok (beq_eq_false_iff_ne.mpr (Ne.symm (Nat.ne_of_lt I.big))) (Heap.DictOfH.new s.heap)), rfl, h _ (I.hok.fresh (Nat.le_refl _))⟩⟩
theorem pe_dispX (K : PySem.W.Frag) (w : World) (hK : X.K = K) (hw : X.w = w) (hu : X.A.units + 10 < cLine) (hk : PE X i ty) (hv : PE X e tv) : PE X (.Dict [some i] [e] pos) (tDispX K w ty tv) := by
  subst hK hw
  refine ⟨fun pins s σ H Q I q => ?_⟩
  have hn := I.hok.fresh (Nat.le_refl s.heap.objs.size)
  have hb : (s.heap.objs.size == sysModules) = false := beq_eq_false_iff_ne.mpr (Ne.symm (Nat.ne_of_lt I.big))
  have I1 := I.laid (a := s.heap.objs.size) (o := DxO X.w s.heap.objs.size []) (h' := s.heap.push { cls := .type "dict", data := .dict #[] }) (t' := s.toks) (fun _ _ q => Heap.get?_push_of_some _ q) (Nat.le_refl _) (dxO_ok hb (Heap.DictOfH.new s.heap))
  have hp := pps_cons hk hv (pps_nil (X := X) (pos := pos))
  have hl : (pairTrees [some i] [e] X.env pos).length = 1 := pairTrees_length [some i] [e] X.env pos rfl rfl
  rw [arm_eval_Dict, zip_pairTrees [some i] [e] X.env pos rfl rfl, dictDisplay_pairs _ (by intro z; rw [z] at hl; cases hl) (by omega)]
  refine wpAny_bind (wpAny_standAt (wpAny_bind (wpAny_subDictH (knd := nestedKind X.prog X.w) (Q := fun d s' => wpAny (model X.prog X.w) X.A (pure (Value.ref d)) _ X.xe s') (by show X.A.units + 8 < cLine; omega) (by omega)
    (thn (hp.run pins _ σ _ (fun ps H2 => match ps with | [(x, v)] => H2 s.heap.objs.size = some (DxO X.w s.heap.objs.size []) ∧ ∃ (a : Addr) (k : NestedKey), x = .ref a ∧ Dp X.K H2 (.ref a) k.data ∧ k.depth ≤ 8 ∧ ∀ u, RelV v u → Q (.ref s.heap.objs.size) (upd H2 s.heap.objs.size (DxO X.w s.heap.objs.size [(k, a, u)])) | _ => False) I1 (q _ hn)) fun ws s2 ⟨ps, H2, I2, rel, q2⟩ => ?_))))
  cases ps with
  | nil => exact q2.elim
  | cons p0 ps =>
  obtain ⟨x, v⟩ := p0
  cases ps with
  | cons _ _ => exact q2.elim
  | nil =>
  have q2 : H2 s.heap.objs.size = some (DxO X.w s.heap.objs.size []) ∧ ∃ (a : Addr) (k : NestedKey), x = .ref a ∧ Dp X.K H2 (.ref a) k.data ∧ k.depth ≤ 8 ∧ ∀ u, RelV v u → Q (.ref s.heap.objs.size) (upd H2 s.heap.objs.size (DxO X.w s.heap.objs.size [(k, a, u)])) := q2
  obtain ⟨e2, a, k, rfl, dk, z, q3⟩ := q2
  cases rel with
  | @cons _ w1 _ ws r1 r2 =>
  cases r2
  obtain ⟨b1, b2⟩ := w1
  obtain ⟨r1, r3⟩ := r1
  have r1 : b1 = Value.ref a := r1
  subst r1
  obtain ⟨hd, hm⟩ := dx_at I2 (.of e2) (fun _ z => nomatch z)
  refine ⟨[(k, a, b2)], ⟨rfl, rfl, nkey I2 dk z, True.intro⟩, hm, fun h' tk hm' hs => wpAny_pure ⟨.ref s.heap.objs.size, _, ?_, rfl, q3 b2 r3⟩⟩
  have he : ∃ q, h'.get? s.heap.objs.size = some q := let ⟨q, _, _, hq, _⟩ := hm'; ⟨q, hq⟩
  exact d_write I2 (by rw [e2]; exact True.intro) hs he (dxO_ok hb hm')
theorem dx_noDict (I : Inv X pins σ H s) {d : Addr} {xs : List (NestedKey × Addr × Value)} (e : Rd H d (DxO X.w d xs)) : s.TypeIs (.ref d) "dict" ∧ ∀ b, Value.ref d = .ref b → ∃ ob, s.heap.get? b = some ob ∧ ob.dict = none := by
  obtain ⟨⟨_, o, es, ep, ho, hc, _⟩, _, _⟩ := (show ObjOk X.prog X.w H s.heap d (DxO X.w d xs) from e.ok I.hok)
  refine ⟨⟨o, ho, hc.1⟩, fun b q => ?_⟩
  cases q
  exact ⟨o, ho, hc.2.1⟩
theorem pe_getOrX (K : PySem.W.Frag) (w : World) (hK : X.K = K) (hw : X.w = w) (hu : X.A.units + 10 < cLine) (ho : PE X o td) (hi : PE X i ty) (he : PE X e tv) (m : M2 X o "get" apos i e cpos) : PE X (.Call (.Attribute o "get" apos) [i, e] [] cpos) (tGetOrX K w td ty tv) := by
  subst hK hw
  refine ⟨fun pins s σ H Q I h => ?_⟩
  refine wpAny_Call_method m.base m.few m.line PySem.F.plainAttrs_dict PySem.F.slot_dict_get PySem.F.type_dict_get (thn (ho.run pins s σ H _ I h) fun u s1 ⟨x, H1, I1, rx, d, xs, ex, e1, q1⟩ => ?_)
  subst ex
  cases (show u = Value.ref d from rx)
  obtain ⟨t1, t2⟩ := dx_noDict I1 e1
  refine ⟨t1, t2, ?_⟩
  rw [m.trees]
  refine Calls.callWith_builtin rfl (Calls.evalArgs_plain (Calls.spliced_cons (thn (hi.run pins s1 σ H1 _ I1 q1) fun iv s2 ⟨y, H2, I2, ry, q2⟩ =>
    Calls.spliced_cons (thn (he.run pins s2 σ H2 _ I2 q2) fun fv s3 ⟨z, H3, I3, rz, q3⟩ => Calls.spliced_nil ?_))))
  obtain ⟨a, d', k, ys, rfl, ed, hk, zz, e3, ks, q⟩ := q3
  cases ed
  cases ry
  obtain ⟨hd, hm⟩ := dx_at I3 e3 ks
  refine getOr_keyed (knd := nestedKind X.prog X.w) (x := fv) (by show X.A.units + 1 + 8 < cLine; omega) (nkey I3 hk zz) hd ⟨ys, hm, rfl⟩ ?_
  rw [valueAt_pairsH]
  cases ea : atKey ys k with
  | none =>
    rw [ea] at q
    exact ⟨z, H3, I3.tok _, rz, q⟩
  | some p =>
    rw [ea] at q
    obtain ⟨v, rv, q⟩ := q
    exact ⟨v, H3, I3.tok _, rv, q⟩
theorem pe_get1X (K : PySem.W.Frag) (w : World) (hK : X.K = K) (hw : X.w = w) (hu : X.A.units + 10 < cLine) (ho : PE X o td) (hi : PE X i ty) (m : M1 X o "get" apos i cpos) : PE X (.Call (.Attribute o "get" apos) [i] [] cpos) (tGet1X K w td ty) := by
  subst hK hw
  refine ⟨fun pins s σ H Q I h => ?_⟩
  refine wpAny_Call_method m.base m.few m.line PySem.F.plainAttrs_dict PySem.F.slot_dict_get PySem.F.type_dict_get (thn (ho.run pins s σ H _ I h) fun u s1 ⟨x, H1, I1, rx, d, xs, ex, e1, q1⟩ => ?_)
  subst ex
  cases (show u = Value.ref d from rx)
  obtain ⟨t1, t2⟩ := dx_noDict I1 e1
  refine ⟨t1, t2, ?_⟩
  rw [m.trees]
  refine Calls.callWith_builtin rfl (Calls.evalArgs_plain (Calls.spliced_cons (thn (hi.run pins s1 σ H1 _ I1 q1) fun iv s2 ⟨y, H2, I2, ry, q2⟩ => Calls.spliced_nil ?_)))
  obtain ⟨a, d', k, ys, rfl, ed, hk, zz, e3, ks, q⟩ := q2
  cases ed
  cases ry
  obtain ⟨hd, hm⟩ := dx_at I2 e3 ks
  refine get_keyed (knd := nestedKind X.prog X.w) (by show X.A.units + 1 + 8 < cLine; omega) (nkey I2 hk zz) hd ⟨ys, hm, rfl⟩ ?_
  rw [valueAt_pairsH]
  cases ea : atKey ys k with
  | none =>
    rw [ea] at q
    exact ⟨.non, H2, I2.tok _, rfl, q⟩
  | some p =>
    rw [ea] at q
    obtain ⟨v, rv, q⟩ := q
    exact ⟨v, H2, I2.tok _, rv, q⟩
end
end Px

set_option Elab.async false
set_option linter.all false
set_option maxRecDepth 100000
set_option maxHeartbeats 4000000
namespace Dv
open PySem PySem.Spec PyProof.Rows L2 Px
/-! ### dicts whose keys are nested tuples, over data -/
abbrev Kvs := List (NestedKey × PyData)
def lookX (kvs : Kvs) (k : NestedKey) : Option PyData := (kvs.find? fun p => decide (p.1 = k)).map (·.2)
def putX (kvs : Kvs) (k : NestedKey) (x : PyData) : Kvs := if (lookX kvs k).isSome = true then kvs.map (fun p => if p.1 = k then (p.1, x) else p) else kvs ++ [(k, x)]
def EntG (K : PySem.W.Frag) (G : Hp) : Kvs → List (NestedKey × Addr × Value) → Prop
  | [], [] => True
  | p :: r, q :: s => (p.1 = q.1 ∧ p.1.depth ≤ 8 ∧ Dp K G (.ref q.2.1) p.1.data ∧ ∃ v, RelV v q.2.2 ∧ Dp K G v p.2) ∧ EntG K G r s
  | _, _ => False
section
variable {K : PySem.W.Frag} {G G' H H' : Hp}
theorem entG_same (g : Same G G') : ∀ {kvs : Kvs} {xs : List (NestedKey × Addr × Value)}, EntG K G kvs xs → EntG K G' kvs xs
  | [], [], _ => True.intro
  | _ :: _, _ :: _, ⟨⟨a, b, c, v, r, d⟩, q⟩ => ⟨⟨a, b, dp_same g c, v, r, dp_same g d⟩, entG_same g q⟩
  | [], _ :: _, h => h.elim
  | _ :: _, [], h => h.elim
theorem entG_len : ∀ {kvs : Kvs} {xs : List (NestedKey × Addr × Value)}, EntG K G kvs xs → xs.length = kvs.length
  | [], [], _ => rfl
  | _ :: _, _ :: _, ⟨_, q⟩ => by rw [List.length_cons, List.length_cons, entG_len q]
  | [], _ :: _, h => h.elim
  | _ :: _, [], h => h.elim
theorem entG_entX (s : Same G H) : ∀ {kvs : Kvs} {xs : List (NestedKey × Addr × Value)}, EntG K G kvs xs → EntX K H xs
  | [], [], _ => fun _ z => nomatch z
  | p :: r, q :: t, ⟨⟨a, b, c, _⟩, z⟩ => fun e he => by
    rcases List.mem_cons.mp he with rfl | he
    · rw [← a]
      exact ⟨dp_same s c, b⟩
    · exact entG_entX s z e he
  | [], _ :: _, h => h.elim
  | _ :: _, [], h => h.elim
theorem entG_look {k : NestedKey} : ∀ {kvs : Kvs} {xs : List (NestedKey × Addr × Value)}, EntG K G kvs xs → match atKey xs k with | none => lookX kvs k = none | some e => ∃ x v, lookX kvs k = some x ∧ RelV v e.2 ∧ Dp K G v x
  | [], [], _ => rfl
  | p :: r, q :: t, ⟨⟨a, b, c, v, rv, d⟩, z⟩ => by
    by_cases e : q.1 = k
    · have e1 : atKey (q :: t) k = some q.2 := by simp [atKey, e]
      have e2 : lookX (p :: r) k = some p.2 := by simp [lookX, a, e]
      rw [e1]
      exact ⟨p.2, v, e2, rv, d⟩
    · have e1 : atKey (q :: t) k = atKey t k := by simp [atKey, e]
      have e2 : lookX (p :: r) k = lookX r k := by simp [lookX, a, e]
      rw [e1, e2]
      exact entG_look z
  | [], _ :: _, h => h.elim
  | _ :: _, [], h => h.elim
theorem entG_some {k : NestedKey} {kvs : Kvs} {xs : List (NestedKey × Addr × Value)} (h : EntG K G kvs xs) : (atKey xs k).isSome = (lookX kvs k).isSome := by
  have := entG_look (k := k) h
  cases e : atKey xs k with
  | none =>
    rw [e] at this
    have this : lookX kvs k = none := this
    rw [this]
    rfl
  | some p =>
    rw [e] at this
    obtain ⟨x, v, e2, _⟩ := this
    rw [e2]
    rfl
theorem entG_map {k : NestedKey} {x : PyData} {v : V} {u : Value} (rv : RelV v u) (d : Dp K G v x) : ∀ {kvs : Kvs} {xs : List (NestedKey × Addr × Value)}, EntG K G kvs xs → EntG K G (kvs.map fun p => if p.1 = k then (p.1, x) else p) (xs.map (putAt k u))
  | [], [], _ => True.intro
  | p :: r, q :: t, ⟨⟨a, b, c, w, rw', dw⟩, z⟩ => by
    refine ⟨?_, entG_map rv d z⟩
    unfold putAt
    dsimp only
    by_cases e : q.1 = k
    · rw [if_pos e, if_pos (a.trans e)]
      exact ⟨a, b, c, v, rv, d⟩
    · rw [if_neg e, if_neg (fun y => e (a.symm.trans y))]
      exact ⟨a, b, c, w, rw', dw⟩
  | [], _ :: _, h => h.elim
  | _ :: _, [], h => h.elim
theorem entG_app : ∀ {kvs ks : Kvs} {xs ys : List (NestedKey × Addr × Value)}, EntG K G kvs xs → EntG K G ks ys → EntG K G (kvs ++ ks) (xs ++ ys)
  | [], _, [], _, _, h => h
  | _ :: _, _, _ :: _, _, ⟨a, q⟩, h => ⟨a, entG_app q h⟩
  | [], _, _ :: _, _, h, _ => h.elim
  | _ :: _, _, [], _, h, _ => h.elim
theorem entG_put {k : NestedKey} {a : Addr} {x : PyData} {v : V} {u : Value} {kvs : Kvs} {xs : List (NestedKey × Addr × Value)} (h : EntG K G kvs xs) (hk : Dp K G (.ref a) k.data) (z : k.depth ≤ 8) (rv : RelV v u) (d : Dp K G v x) : EntG K G (putX kvs k x) (storedH xs k a u) := by
  unfold putX storedH
  rw [entG_some h]
  split
  · exact entG_map rv d h
  · exact entG_app h ⟨⟨rfl, z, hk, v, rv, d⟩, True.intro⟩
end
structure Lock where
  d : Addr
  o : Obj
  xs : List (NestedKey × Addr × Value)
def lkO : Option Lock → HO → HO
  | none, u => u
  | some p, u => .frz p.o u
/-- the lock stands at its own dict -/
def LkA (lk : Option Lock) (d : Addr) (xs : List (NestedKey × Addr × Value)) : Prop := ∀ p, lk = some p → p.d = d ∧ p.xs = xs
theorem lkA0 {d : Addr} {xs : List (NestedKey × Addr × Value)} : LkA none d xs := fun _ z => nomatch z
theorem lk_rd {H : Hp} {d : Addr} {lk : Option Lock} {u : HO} (h : H d = some (lkO lk u)) : Rd H d u := by
  cases lk with
  | none => exact .inl h
  | some o => exact .inr ⟨o.o, h⟩
/-- a dict of one's own with these entries; while it is walked, locked -/
def dLk (w : World) (lk : Option Lock) (kvs : Kvs) : Ob where
  vr K G H v := ∃ (d : Addr) (xs : List (NestedKey × Addr × Value)), v = .ref d ∧ H d = some (lkO lk (DxO w d xs)) ∧ G d = none ∧ EntG K G kvs xs ∧ LkA lk d xs
  fp _ v b := v = .ref b
  loc := fun ⟨d, xs, e, h1, h2, h3, h4⟩ hh g n => ⟨d, xs, e, (hh d e).trans h1, n d e, entG_same g h3, h4⟩
  floc := fun _ _ f => f
  there := fun ⟨d, xs, e, h1, h2, h3⟩ f => by
    cases V.ref.inj (e.symm.trans f)
    exact ⟨nn_of h1, h2⟩
  some := fun ⟨d, _, e, _⟩ => ⟨d, e⟩
abbrev dOb (w : World) (kvs : Kvs) : Ob := dLk w none kvs
section
variable {K : PySem.W.Frag} {w : World} {ta tk : TE} {da dk : Env → (T → Prop) → Prop}
/-- slot i holds a dict -/
def dAt (w : World) (i : Nat) (ρ : Env) (R : Kvs → Bool → Prop) : Prop := ∃ lk kvs r, ρ[i]? = some (some (.ob (dLk w lk kvs) r)) ∧ R kvs r
theorem dat_data {t : T} {k : NestedKey} (h : t.rd = k.data) : t.dat = true := T.dat_of fun z => by
  rw [z] at h
  cases k <;> simp [NestedKey.data] at h
theorem key_ref {H : Hp} {v : V} {ks : List NestedKey} (h : Dp K H v (NestedKey.tup ks).data) : ∃ a, v = .ref a := by
  obtain ⟨a, _, e, _⟩ := dp_tup h
  exact ⟨a, e⟩
def dInX (w : World) (i : Nat) (f : Bool → Bool) (dk : Env → (T → Prop) → Prop) : Env → (T → Prop) → Prop := fun ρ Q => dAt w i ρ fun kvs _ => dk ρ fun t => ∃ ks, t.rd = (NestedKey.tup ks).data ∧ (NestedKey.tup ks).depth ≤ 8 ∧ Q (.g (.bool (f (lookX kvs (.tup ks)).isSome)))
theorem ob_slot {G0 H0 G H : Hp} {M : Addr → Prop} {ρ : Env} {σ : L2.St} (x : Iv K G0 H0 M ρ σ G H) {i : Nat} {lk : Option Lock} {kvs : Kvs} {r : Bool} (e : ρ[i]? = some (some (.ob (dLk w lk kvs) r))) : ∃ d xs, σ[i]? = some (some (.ref d)) ∧ H d = some (lkO lk (DxO w d xs)) ∧ G d = none ∧ EntG K G kvs xs := by
  obtain ⟨v, h1, d, xs, rfl, h2, h3, h4, _⟩ := x.sl i _ e
  exact ⟨d, xs, h1, h2, h3, h4⟩
theorem lp_inX {i : Nat} (hk : LP K tk dk) : LP K (tOp (rInX K w) tk (tVar i)) (dInX w i id dk) := fun {G0 H0 M ρ σ G H QD Q} x ⟨lk, kvs, r, e, q⟩ p => hk x q fun t v G1 H1 ⟨ks, ek, z, qt⟩ r1 v1 f1 => by
  obtain ⟨d, xs, s1, h1, h2, h3⟩ := ob_slot (x.mono r1) e
  have dk := v1.dp r1.s (dat_data ek)
  rw [ek] at dk
  obtain ⟨a, rfl⟩ := key_ref dk
  refine ⟨_, s1, a, d, .tup ks, xs, rfl, rfl, dk, z, lk_rd h1, entG_entX r1.s h3, ?_⟩
  show Q (.bl (atKey xs (.tup ks)).isSome) H1
  rw [entG_some h3]
  exact (p.next r1).scal r1.s (.bl _) qt
theorem lp_notInX {i : Nat} (hk : LP K tk dk) : LP K (tOp (rNotInX K w) tk (tVar i)) (dInX w i not dk) := fun {G0 H0 M ρ σ G H QD Q} x ⟨lk, kvs, r, e, q⟩ p => hk x q fun t v G1 H1 ⟨ks, ek, z, qt⟩ r1 v1 f1 => by
  obtain ⟨d, xs, s1, h1, h2, h3⟩ := ob_slot (x.mono r1) e
  have dk := v1.dp r1.s (dat_data ek)
  rw [ek] at dk
  obtain ⟨a, rfl⟩ := key_ref dk
  refine ⟨_, s1, a, d, .tup ks, xs, rfl, rfl, dk, z, lk_rd h1, entG_entX r1.s h3, ?_⟩
  show Q (.bl (!(atKey xs (.tup ks)).isSome)) H1
  rw [entG_some h3]
  exact (p.next r1).scal r1.s (.bl _) qt
def dGetX (w : World) (i : Nat) (dk : Env → (T → Prop) → Prop) : Env → (T → Prop) → Prop := fun ρ Q => dAt w i ρ fun kvs _ => dk ρ fun t => ∃ ks x, t.rd = (NestedKey.tup ks).data ∧ (NestedKey.tup ks).depth ≤ 8 ∧ lookX kvs (.tup ks) = some x ∧ Q (.g x)
theorem lp_getX {i : Nat} (hk : LP K tk dk) : LP K (tGetX K w (tVar i) tk) (dGetX w i dk) := fun {G0 H0 M ρ σ G H QD Q} x ⟨lk, kvs, r, e, q⟩ p => by
  obtain ⟨d, _, s1, _⟩ := ob_slot x e
  refine ⟨_, s1, hk x q fun t v G1 H1 ⟨ks, y, ek, z, el, qt⟩ r1 v1 f1 => ?_⟩
  obtain ⟨d', xs, s2, h1, h2, h3⟩ := ob_slot (x.mono r1) e
  rw [s1] at s2
  cases s2
  have dk := v1.dp r1.s (dat_data ek)
  rw [ek] at dk
  obtain ⟨a, rfl⟩ := key_ref dk
  refine ⟨a, d, .tup ks, xs, rfl, rfl, dk, z, lk_rd h1, entG_entX r1.s h3, ?_⟩
  have := entG_look (k := .tup ks) h3
  cases ea : atKey xs (.tup ks) with
  | none =>
    rw [ea, el] at this
    cases this
  | some b =>
    rw [ea] at this
    obtain ⟨y', v', e2, rv, dv⟩ := this
    rw [el] at e2
    cases e2
    exact ⟨b.1, v', b.2, rfl, rv, (p.next r1) (.g y) v' _ _ qt (.refl r1.s) dv fun _ f => f.elim⟩
def dGetOrX (w : World) (i : Nat) (dk da : Env → (T → Prop) → Prop) : Env → (T → Prop) → Prop := fun ρ Q => dAt w i ρ fun kvs _ => dk ρ fun t => da ρ fun u => ∃ ks y, t.fz = .g (NestedKey.tup ks).data ∧ (NestedKey.tup ks).depth ≤ 8 ∧ u.fz = .g y ∧ Q (.g ((lookX kvs (.tup ks)).getD y))
theorem lp_getOrX {i : Nat} (hk : LP K tk dk) (ha : LP K ta da) : LP K (tGetOrX K w (tVar i) tk ta) (dGetOrX w i dk da) := fun {G0 H0 M ρ σ G H QD Q} x ⟨lk, kvs, r, e, q⟩ p => by
  obtain ⟨d, xs0, s1, h0, _⟩ := ob_slot x e
  refine ⟨_, s1, d, xs0, rfl, lk_rd h0, hk x q fun t v G1 H1 qt r1 v1 f1 => ?_⟩
  obtain ⟨G1', r1', g1', v1'⟩ := fz_post r1 v1 f1
  refine ha (x.mono r1') qt fun u v2 G2 H2 ⟨ks, y, ek, z, eu, qu⟩ r2 v2r f2 => ?_
  obtain ⟨G3, r3, g3, v3⟩ := fz_post r2 v2r f2
  obtain ⟨d', xs, s2, h1, h2, h3⟩ := ob_slot (((x.mono r1').mono r2)) e
  rw [s1] at s2
  cases s2
  rw [ek] at v1'
  have dk : Dp K G2 v (NestedKey.tup ks).data := dp_same r2.g v1'
  obtain ⟨a, rfl⟩ := key_ref dk
  refine ⟨a, d, .tup ks, xs, rfl, rfl, dp_same r2.s dk, z, lk_rd h1, entG_entX r2.s h3, ?_⟩
  have := entG_look (k := .tup ks) h3
  rw [eu] at v3
  cases ea : atKey xs (.tup ks) with
  | none =>
    rw [ea] at this
    have this : lookX kvs (.tup ks) = none := this
    rw [this] at qu
    exact p (.g y) v2 G3 H2 qu (r1'.trans r3) v3 fun _ f => f.elim
  | some b =>
    rw [ea] at this
    obtain ⟨y', v', e2, rv, dv⟩ := this
    rw [e2] at qu
    exact ⟨v', rv, p (.g y') v' G2 H2 qu (r1'.trans r2) dv fun _ f => f.elim⟩
def dGet1X (w : World) (i : Nat) (dk : Env → (T → Prop) → Prop) : Env → (T → Prop) → Prop := fun ρ Q => dAt w i ρ fun kvs _ => dk ρ fun t => ∃ ks, t.rd = (NestedKey.tup ks).data ∧ (NestedKey.tup ks).depth ≤ 8 ∧ Q (.g ((lookX kvs (.tup ks)).getD .none))
theorem lp_get1X {i : Nat} (hk : LP K tk dk) : LP K (tGet1X K w (tVar i) tk) (dGet1X w i dk) := fun {G0 H0 M ρ σ G H QD Q} x ⟨lk, kvs, r, e, q⟩ p => by
  obtain ⟨d, xs0, s1, h0, _⟩ := ob_slot x e
  refine ⟨_, s1, d, xs0, rfl, lk_rd h0, hk x q fun t v G1 H1 ⟨ks, ek, z, qt⟩ r1 v1 f1 => ?_⟩
  obtain ⟨d', xs, s2, h1, h2, h3⟩ := ob_slot (x.mono r1) e
  rw [s1] at s2
  cases s2
  have dk := v1.dp r1.s (dat_data ek)
  rw [ek] at dk
  obtain ⟨a, rfl⟩ := key_ref dk
  refine ⟨a, d, .tup ks, xs, rfl, rfl, dk, z, lk_rd h1, entG_entX r1.s h3, ?_⟩
  have := entG_look (k := .tup ks) h3
  cases ea : atKey xs (.tup ks) with
  | none =>
    rw [ea] at this
    have this : lookX kvs (.tup ks) = none := this
    rw [this] at qt
    exact (p.next r1).scal r1.s .non qt
  | some b =>
    rw [ea] at this
    obtain ⟨y', v', e2, rv, dv⟩ := this
    rw [e2] at qt
    exact ⟨v', rv, (p.next r1) (.g y') v' _ _ qt (.refl r1.s) dv fun _ f => f.elim⟩
/-! ### new dicts -/
def dNewX (w : World) : Env → (T → Prop) → Prop := fun _ Q => Q (.ob (dOb w []) false)
theorem lp_newX : LP K (tNewX w) (dNewX w) := fun {G0 H0 M ρ σ G H QD Q} x q p d hd =>
  p (.ob (dOb w []) false) _ G _ q (.new x.gh hd) ⟨d, [], rfl, upd_same, x.gh.free hd, True.intro, lkA0⟩ fun b f => by
    cases (show V.ref d = V.ref b from f)
    exact hd
def dDispX (w : World) (dk da : Env → (T → Prop) → Prop) : Env → (T → Prop) → Prop := fun ρ Q => dk ρ fun t => da ρ fun u => ∃ ks y, t.fz = .g (NestedKey.tup ks).data ∧ (NestedKey.tup ks).depth ≤ 8 ∧ u.fz = .g y ∧ Q (.ob (dOb w [(.tup ks, y)]) false)
theorem lp_dispX (hk : LP K tk dk) (ha : LP K ta da) : LP K (tDispX K w tk ta) (dDispX w dk da) := fun {G0 H0 M ρ σ G H QD Q} x q p d hd => by
  have r0 : Gr G H G (upd H d (DxO w d [])) := .new x.gh hd
  refine hk (x.mono r0) q fun t v G1 H1 qt r1 v1 f1 => ?_
  obtain ⟨G1', r1', g1', v1'⟩ := fz_post r1 v1 f1
  refine ha ((x.mono r0).mono r1') qt fun u v2 G2 H2 ⟨ks, y, ek, z, eu, qu⟩ r2 v2r f2 => ?_
  obtain ⟨G3, r3, g3, v3⟩ := fz_post r2 v2r f2
  have hd0 : H1 d = some (DxO w d []) := r1.h _ _ upd_same
  have hd2 : H2 d = some (DxO w d []) := r2.h _ _ hd0
  rw [ek] at v1'
  have dk : Dp K G2 v (NestedKey.tup ks).data := dp_same r2.g v1'
  obtain ⟨a, rfl⟩ := key_ref dk
  have rr : Gr G (upd H d (DxO w d [])) G3 H2 := r1'.trans r3
  have gd : G3 d = none := rr.n d (nn_of upd_same) (x.gh.free hd)
  refine ⟨hd2, a, .tup ks, rfl, dp_same r2.s dk, z, fun c rc => ?_⟩
  rw [eu] at v3
  have g23 : Same G2 G3 := g3
  refine p (.ob (dOb w [(.tup ks, y)]) false) _ G3 _ qu ?_ ⟨d, _, rfl, upd_same, gd, ⟨⟨rfl, z, dp_same g23 dk, v2, rc, v3⟩, True.intro⟩, lkA0⟩ fun b f => ?_
  · refine ⟨rr.g, fun b o e => ?_, fun b o e => ?_, fun b hb gb => ?_⟩
    · have nb : b ≠ d := fun z => by rw [z, hd] at e; cases e
      rw [upd_ne nb]
      exact rr.h _ _ (by rw [upd_ne nb]; exact e)
    · have nb : b ≠ d := fun z => by rw [z, gd] at e; cases e
      rw [upd_ne nb]
      exact rr.s _ _ e
    · by_cases nb : b = d
      · rw [nb]
        exact gd
      · exact rr.n b (by rw [upd_ne nb]; exact hb) gb
  · cases (show V.ref d = V.ref b from f)
    exact hd
/-! ### d[k] = e -/
theorem Iv.mutOb {G0 H0 G H : Hp} {M : Addr → Prop} {σ : L2.St} {ρ : Env} (x : Iv K G0 H0 M ρ σ G H) {i : Nat} {kvs ks : Kvs} {r : Bool} {d : Addr} {xs ys : List (NestedKey × Addr × Value)} (e : ρ[i]? = some (some (.ob (dOb w kvs) r))) (f : σ[i]? = some (some (.ref d))) (h : EntG K G ks ys) : Iv K G0 H0 M (ρ.set i (some (.ob (dOb w ks) r))) σ G (upd H d (DxO w d ys)) := by
  have vr := x.vr e f
  obtain ⟨d', zs, ed, h1, h2, h3, _⟩ := vr
  cases ed
  have others : ∀ {k : Nat} {u : T} {v : V}, k ≠ i → ρ[k]? = some (some u) → σ[k]? = some (some v) → ¬ Fp H u v d := fun {k u v} nk e1 e2 p => nk (x.dj k i u _ v (.ref d) d e1 e e2 f p rfl)
  have am : M d ∨ H0 d = none := by
    have := x.own i _ _ d e f rfl
    cases r with
    | true => exact .inl this
    | false => exact .inr this
  refine ⟨fun b o eb => ?_, x.g0, x.gf, fun b o nm eb => ?_, fun b mb => ?_, by rw [List.length_set, x.len], kdset x.kd (fun z => (Option.some.inj z) ▸ rfl), fun k u e1 => ?_, fun k u v b e1 e2 p => ?_, fun j k u u' v v' b e1 e2 e3 e4 p1 p2 => ?_⟩
  · rw [upd_ne (ne_of_none eb h2)]
    exact x.gh _ _ eb
  · have nb : b ≠ d := fun z => by
      subst z
      rcases am with z | z
      · exact nm z
      · rw [z] at eb
        cases eb
    rw [upd_ne nb]
    exact x.up b o nm eb
  · by_cases z : b = d
    · rw [z, upd_same]
      exact fun z => nomatch z
    · rw [upd_ne z]
      exact x.mh b mb
  · rcases set_at e1 with ⟨rfl, _, d1⟩ | ⟨ne, d1⟩
    · cases (Option.some.inj d1)
      exact ⟨.ref d, f, d, ys, rfl, upd_same, h2, h, lkA0⟩
    · obtain ⟨v, w1, w2⟩ := x.sl k u d1
      exact ⟨v, w1, w2.mut (x.kd _ _ d1) (others ne d1 w1) h2⟩
  · rcases set_at e1 with ⟨rfl, _, d1⟩ | ⟨ne, d1⟩
    · cases (Option.some.inj d1)
      have := x.own k (.ob (dOb w kvs) r) v b e e2 (show v = .ref b from p)
      cases r <;> exact this
    · exact x.own k u v b d1 e2 (Fp.mut (x.vr d1 e2) (others ne d1 e2) p)
  · rcases set_at e1 with ⟨rfl, _, d1⟩ | ⟨ne, d1⟩
    · cases (Option.some.inj d1)
      rcases set_at e2 with ⟨rfl, _, d2⟩ | ⟨ne2, d2⟩
      · rfl
      · rw [f] at e3
        cases (Option.some.inj (Option.some.inj e3))
        have hb : d = b := V.ref.inj p1
        subst hb
        exact absurd (Fp.mut (x.vr d2 e4) (others ne2 d2 e4) p2) (others ne2 d2 e4)
    · rcases set_at e2 with ⟨rfl, _, d2⟩ | ⟨ne2, d2⟩
      · cases (Option.some.inj d2)
        rw [f] at e4
        cases (Option.some.inj (Option.some.inj e4))
        have hb : d = b := V.ref.inj p2
        subst hb
        exact absurd (Fp.mut (x.vr d1 e3) (others ne d1 e3) p1) (others ne d1 e3)
      · exact x.dj j k u u' v v' b d1 d2 e3 e4 (Fp.mut (x.vr d1 e3) (others ne d1 e3) p1) (Fp.mut (x.vr d2 e4) (others ne2 d2 e4) p2)
def dPutX (w : World) (i : Nat) (dk da : Env → (T → Prop) → Prop) : DS := fun DD ρ => ∃ kvs r, ρ[i]? = some (some (.ob (dOb w kvs) r)) ∧ da ρ fun t => dk ρ fun u => ∃ ks y, u.fz = .g (NestedKey.tup ks).data ∧ (NestedKey.tup ks).depth ≤ 8 ∧ t.fz = .g y ∧ kvs.length < 16777216 ∧ DD.nx (ρ.set i (some (.ob (dOb w (putX kvs (.tup ks) y)) r)))
theorem ls_putX {i : Nat} (ha : LP K ta da) (hk : LP K tk dk) : LS K (sPutX K w (tVar i) tk ta) (dPutX w i dk da) := fun {G0 H0 M DD D ρ σ G H} E x ⟨kvs, r, e, q⟩ => ha x q fun t v G1 H1 qt r1 v1 f1 => by
  obtain ⟨G2, r2, g2, v2⟩ := fz_post r1 v1 f1
  obtain ⟨d, xs0, f, _⟩ := ob_slot x e
  refine ⟨_, f, hk (x.mono r2) qt fun u vk G3 H3 ⟨ks, y, e1, z, e3, zl, q⟩ r3 v3 f3 => ?_⟩
  obtain ⟨G4, r4, g4, v4⟩ := fz_post r3 v3 f3
  have x3 := (x.mono r2).mono r4
  obtain ⟨d', ys, s2, h1, h2, h3⟩ := ob_slot x3 e
  rw [f] at s2
  cases s2
  rw [e3] at v2
  rw [e1] at v4
  obtain ⟨a, rfl⟩ := key_ref v4
  refine ⟨a, d, .tup ks, ys, rfl, rfl, dp_same r4.s v4, z, h1, entG_entX r4.s h3, ?_, fun c rc => E.nx _ _ _ _ (x3.mutOb (xs := ys) e f (entG_put h3 v4 z rc (dp_same r4.g v2))) q⟩
  rw [entG_len h3, sizeLine_eq]
  exact zl
end
end Dv

set_option Elab.async false
set_option linter.all false
set_option maxRecDepth 100000
set_option maxHeartbeats 4000000
namespace Dv
open PySem PySem.Spec PyProof.Rows L2 Px
/-! ### a def that is handed a dict, as its argument j -/
section
variable {K : PySem.W.Frag} {w : World}
theorem Iv.uptoOb {G0 H0 G H G' H' : Hp} {M : Addr → Prop} {σ : L2.St} {ρ : Env} (x : Iv K G0 H0 M ρ σ G H) {i : Nat} {kvs ks : Kvs} {r : Bool} {d : Addr} {ys : List (NestedKey × Addr × Value)} (e : ρ[i]? = some (some (.ob (dOb w kvs) r))) (f : σ[i]? = some (some (.ref d))) (rr : GrM d G H G' H') (hw : H' d = some (DxO w d ys)) (h : EntG K G' ks ys) : Iv K G0 H0 M (ρ.set i (some (.ob (dOb w ks) r))) σ G' H' ∧ Sub σ ρ H (ρ.set i (some (.ob (dOb w ks) r))) H' := by
  have vr := x.vr e f
  obtain ⟨d', zs, ed, h1, h2, h3, _⟩ := vr
  cases ed
  have ga : G' d = none := rr.n d (nn_of h1) h2
  have others : ∀ {k : Nat} {u : T} {v : V}, k ≠ i → ρ[k]? = some (some u) → σ[k]? = some (some v) → ¬ Fp H u v d := fun {k u v} nk e1 e2 p => nk (x.dj k i u _ v (.ref d) d e1 e e2 f p rfl)
  have am : M d ∨ H0 d = none := by
    have := x.own i _ _ d e f rfl
    cases r with
    | true => exact .inl this
    | false => exact .inr this
  refine ⟨⟨rr.s, x.g0.trans rr.g, fun b gb => ?_, fun b o nm eb => ?_, fun b mb => ?_, by rw [List.length_set, x.len], kdset x.kd (fun z => (Option.some.inj z) ▸ rfl), fun k u e1 => ?_, fun k u v b e1 e2 p => ?_, fun j k u u' v v' b e1 e2 e3 e4 p1 p2 => ?_⟩, fun j u v b e1 e2 p => ?_⟩
  · by_cases g : G b = none
    · right
      apply x.h0
      cases q : H b with
      | none => rfl
      | some o => exact absurd (rr.n b (nn_of q) g) gb
    · exact x.gf b g
  · have nb : b ≠ d := fun z => by
      subst z
      rcases am with z | z
      · exact nm z
      · rw [z] at eb
        cases eb
    exact rr.h _ _ nb (x.up b o nm eb)
  · by_cases z : b = d
    · rw [z, hw]
      exact fun z => nomatch z
    · cases q : H b with
      | none => exact absurd q (x.mh b mb)
      | some o =>
        rw [rr.h _ _ z q]
        exact fun z => nomatch z
  · rcases set_at e1 with ⟨rfl, _, d1⟩ | ⟨ne, d1⟩
    · cases (Option.some.inj d1)
      exact ⟨.ref d, f, d, ys, rfl, hw, ga, h, lkA0⟩
    · obtain ⟨v, w1, w2⟩ := x.sl k u d1
      exact ⟨v, w1, w2.upto rr (x.kd _ _ d1) (others ne d1 w1)⟩
  · rcases set_at e1 with ⟨rfl, _, d1⟩ | ⟨ne, d1⟩
    · cases (Option.some.inj d1)
      have := x.own k (.ob (dOb w kvs) r) v b e e2 (show v = .ref b from p)
      cases r <;> exact this
    · exact x.own k u v b d1 e2 (Fp.upto rr (x.vr d1 e2) (others ne d1 e2) p)
  · rcases set_at e1 with ⟨rfl, _, d1⟩ | ⟨ne, d1⟩
    · cases (Option.some.inj d1)
      rw [f] at e3
      cases (Option.some.inj (Option.some.inj e3))
      rcases set_at e2 with ⟨rfl, _, _⟩ | ⟨ne2, d2⟩
      · rfl
      · have hb : d = b := V.ref.inj p1
        subst hb
        exact absurd (Fp.upto rr (x.vr d2 e4) (others ne2 d2 e4) p2) (others ne2 d2 e4)
    · rcases set_at e2 with ⟨rfl, _, d2⟩ | ⟨ne2, d2⟩
      · cases (Option.some.inj d2)
        rw [f] at e4
        cases (Option.some.inj (Option.some.inj e4))
        have hb : d = b := V.ref.inj p2
        subst hb
        exact absurd (Fp.upto rr (x.vr d1 e3) (others ne d1 e3) p1) (others ne d1 e3)
      · exact x.dj j k u u' v v' b d1 d2 e3 e4 (Fp.upto rr (x.vr d1 e3) (others ne d1 e3) p1) (Fp.upto rr (x.vr d2 e4) (others ne2 d2 e4) p2)
  · rcases set_at e1 with ⟨rfl, _, d1⟩ | ⟨ne, d1⟩
    · cases (Option.some.inj d1)
      rw [f] at e2
      cases (Option.some.inj (Option.some.inj e2))
      exact ⟨j, _, _, e, f, (show V.ref d = V.ref b from p)⟩
    · exact ⟨j, u, v, d1, e2, Fp.upto rr (x.vr d1 e2) (others ne d1 e2) p⟩
/-- the promise: argument j is a dict, which may be changed -/
def spX (K : PySem.W.Frag) (w : World) (j : Nat) (c : Kvs → List PyData → (T → Kvs → Prop) → Prop) : Sp := fun vs H Q _ => ∃ G d us xs kvs ds QD, vs = us.take j ++ V.ref d :: us.drop j ∧ j ≤ us.length ∧ Same G H ∧ H d = some (DxO w d xs) ∧ G d = none ∧ EntG K G kvs xs ∧ DpAll K G us ds ∧ c kvs ds QD ∧
  ∀ t v G' H' xs' kvs', QD t kvs' → GrM d G H G' H' → Vr K G' H' t v → (∀ b, Fp H' t v b → H b = none) → H' d = some (DxO w d xs') → EntG K G' kvs' xs' → Q v H'
def startX (w : World) (N : List Str) (j : Nat) (kvs : Kvs) (ds : List PyData) : Env := (ds.take j).map (fun d => some (.g d)) ++ some (.ob (dOb w kvs) true) :: ((ds.drop j).map (fun d => some (.g d)) ++ List.replicate (N.length - (ds.length + 1)) none)
theorem startX_iv {G H : Hp} {d : Addr} {us : List V} {xs : List (NestedKey × Addr × Value)} {kvs : Kvs} {ds : List PyData} {j : Nat} (N : List Str) (hj : j ≤ us.length) (s : Same G H) (h1 : H d = some (DxO w d xs)) (h2 : G d = none) (h3 : EntG K G kvs xs) (da : DpAll K G us ds) : Iv K G H (fun a => a = d) (startX w N j kvs ds) (L2.start N (us.take j ++ V.ref d :: us.drop j)) G H := by
  have hl := dpAll_len da
  have lt : (ds.take j).length = j := by rw [List.length_take]; omega
  have lu : (us.take j).length = j := by rw [List.length_take]; omega
  have eS : L2.start N (us.take j ++ V.ref d :: us.drop j) = (us.take j).map some ++ some (V.ref d) :: ((us.drop j).map some ++ List.replicate (N.length - (ds.length + 1)) none) := by
    unfold L2.start
    rw [List.map_append, List.map_cons, List.append_assoc, List.cons_append]
    congr 4
    simp
    omega
  have get : ∀ (i : Nat) (t : T), (startX w N j kvs ds)[i]? = some (some t) → (i = j ∧ t = .ob (dOb w kvs) true) ∨ (i ≠ j ∧ ∃ y, t = .g y ∧ ∃ v, (L2.start N (us.take j ++ V.ref d :: us.drop j))[i]? = some (some v) ∧ Dp K G v y) := fun i t e => by
    rw [eS]
    unfold startX at e
    rcases Nat.lt_trichotomy i j with hi | rfl | hi
    · right
      rw [List.getElem?_append_left (by rw [List.length_map, lt]; exact hi)] at e
      rw [List.getElem?_append_left (by rw [List.length_map, lu]; exact hi)]
      rw [List.getElem?_map, List.getElem?_take_of_lt hi] at e
      rw [List.getElem?_map, List.getElem?_take_of_lt hi]
      cases ed : ds[i]? with
      | none => rw [ed] at e; cases e
      | some y =>
        rw [ed] at e
        cases (Option.some.inj (Option.some.inj e))
        obtain ⟨v, q1, q2⟩ := dpAll_get da ed
        exact ⟨by omega, y, rfl, v, by rw [q1]; rfl, q2⟩
    · left
      rw [List.getElem?_append_right (by rw [List.length_map, lt]; exact Nat.le_refl _), List.length_map, lt, Nat.sub_self] at e
      exact ⟨rfl, (Option.some.inj (Option.some.inj e)).symm⟩
    · right
      rw [List.getElem?_append_right (by rw [List.length_map, lt]; omega), List.length_map, lt] at e
      rw [List.getElem?_append_right (by rw [List.length_map, lu]; omega), List.length_map, lu]
      obtain ⟨m, hm⟩ : ∃ m, i - j = m + 1 := ⟨i - j - 1, by omega⟩
      rw [hm, List.getElem?_cons_succ] at e
      rw [hm, List.getElem?_cons_succ]
      by_cases hq : m < (ds.drop j).length
      · rw [List.getElem?_append_left (by rw [List.length_map]; exact hq), List.getElem?_map, List.getElem?_drop] at e
        have hq2 : m < (us.drop j).length := by rw [List.length_drop] at hq ⊢; omega
        rw [List.getElem?_append_left (by rw [List.length_map]; exact hq2), List.getElem?_map, List.getElem?_drop]
        cases ed : ds[j + m]? with
        | none => rw [ed] at e; cases e
        | some y =>
          rw [ed] at e
          cases (Option.some.inj (Option.some.inj e))
          obtain ⟨v, q1, q2⟩ := dpAll_get da ed
          exact ⟨by omega, y, rfl, v, by rw [q1]; rfl, q2⟩
      · rw [List.getElem?_append_right (by rw [List.length_map]; omega), List.getElem?_replicate] at e
        split at e <;> cases e
  have sj : (L2.start N (us.take j ++ V.ref d :: us.drop j))[j]? = some (some (.ref d)) := by
    rw [eS, List.getElem?_append_right (by rw [List.length_map, lu]; exact Nat.le_refl _), List.length_map, lu, Nat.sub_self]
    rfl
  refine ⟨s, Same.refl _, fun a h => .inl h, fun _ _ _ h => h, fun a m => by rw [m]; exact nn_of h1, ?_, fun i t e => ?_, fun i t e => ?_, fun i t v b e f q => ?_, fun i k t u v v' b e1 e2 f1 f2 q1 q2 => ?_⟩
  · rw [eS]
    unfold startX
    simp [hl]
  · rcases get i t e with ⟨rfl, rfl⟩ | ⟨_, y, rfl, _⟩
    · rfl
    · rfl
  · rcases get i t e with ⟨rfl, rfl⟩ | ⟨_, y, rfl, v, q1, q2⟩
    · exact ⟨.ref d, sj, d, xs, rfl, h1, h2, h3, lkA0⟩
    · exact ⟨v, q1, q2⟩
  · rcases get i t e with ⟨rfl, rfl⟩ | ⟨_, y, rfl, _⟩
    · rw [sj] at f
      cases f
      exact (V.ref.inj (show V.ref d = V.ref b from q)).symm
    · exact q.elim
  · rcases get i t e1 with ⟨rfl, rfl⟩ | ⟨_, y, rfl, _⟩
    · rcases get k u e2 with ⟨rfl, rfl⟩ | ⟨_, y, rfl, _⟩
      · rfl
      · exact q2.elim
    · exact q1.elim
theorem run_defX {j : Nat} {c : Kvs → List PyData → (T → Kvs → Prop) → Prop} {vs : List V} {H : Hp} {Q : VK} {E : XK} {ts : TS} {ds : DS} (N : List Str) (h : LS K ts ds) (hq : spX K w j c vs H Q E)
    (hd : ∀ kvs xs QD, c kvs xs QD → ds ⟨fun ρ => ∃ kvs', ρ[j]? = some (some (.ob (dOb w kvs') true)) ∧ QD (.g .none) kvs', fun t ρ => ∃ kvs', ρ[j]? = some (some (.ob (dOb w kvs') true)) ∧ QD t kvs', fun _ => False, fun _ => False, xp0⟩ (startX w N j kvs xs)) : ts { nx := fun _ H' => Q .non H', rt := Q } (L2.start N vs) H := by
  obtain ⟨G, d, us, xs, kvs, ds', QD, rfl, hj, s, h1, h2, h3, da, hc, k⟩ := hq
  have fin : ∀ {ρ : Env} {σ : L2.St} {G1 H1 : Hp} {kvs' : Kvs} {t : T} {v : V}, Iv K G H (fun a => a = d) ρ σ G1 H1 → ρ[j]? = some (some (.ob (dOb w kvs') true)) → QD t kvs' → Vr K G1 H1 t v → (∀ b, Fp H1 t v b → H b = none) → Q v H1 := fun {ρ σ G1 H1 kvs' t v} y e q a b => by
    obtain ⟨v0, e1, d', xs', rfl, q1, q2, q3, _⟩ := y.sl j _ e
    have hb : d' = d := y.own j _ _ d' e e1 rfl
    subst hb
    exact k t v G1 H1 xs' kvs' q ⟨y.g0, fun a o na e => y.up a o na e, y.gh, fun a ha ga => by
      cases z : G1 a with
      | none => rfl
      | some o =>
        rcases y.gf a (nn_of z) with z | z
        · exact absurd ga z
        · exact absurd z ha⟩ a b q1 q3
  exact h (DD := ⟨fun ρ => ∃ kvs', ρ[j]? = some (some (.ob (dOb w kvs') true)) ∧ QD (.g .none) kvs', fun t ρ => ∃ kvs', ρ[j]? = some (some (.ob (dOb w kvs') true)) ∧ QD t kvs', fun _ => False, fun _ => False, xp0⟩) (D := { nx := fun _ H' => Q .non H', rt := Q }) ⟨fun ρ σ G1 H1 y ⟨dk', e, q⟩ => fin y e q (show Vr K G1 H1 (.g .none) .non from Dp.non) fun _ f => f.elim, fun _ _ _ _ _ z => (z : False).elim, fun _ _ _ _ _ z => (z : False).elim, fun ρ σ G1 H1 t v y a b ⟨dk', e, q⟩ => fin y e q a b, fun _ _ _ _ _ _ z => (z : False).elim⟩ (startX_iv N hj s h1 h2 h3 da) (hd kvs ds' QD hc)
def BodyX (K : PySem.W.Frag) (w : World) (N : List Str) (j : Nat) (c : Kvs → List PyData → (T → Kvs → Prop) → Prop) (t : TS) : Prop := ∃ d, LS K t d ∧ ∀ kvs xs QD, c kvs xs QD → d ⟨fun ρ => ∃ kvs', ρ[j]? = some (some (.ob (dOb w kvs') true)) ∧ QD (.g .none) kvs', fun t ρ => ∃ kvs', ρ[j]? = some (some (.ob (dOb w kvs') true)) ∧ QD t kvs', fun _ => False, fun _ => False, xp0⟩ (startX w N j kvs xs)
theorem bodyX_of {N : List Str} {j : Nat} {c : Kvs → List PyData → (T → Kvs → Prop) → Prop} {t : TS} {d : DS} (h : LS K t d) (q : ∀ kvs xs QD, c kvs xs QD → d ⟨fun ρ => ∃ kvs', ρ[j]? = some (some (.ob (dOb w kvs') true)) ∧ QD (.g .none) kvs', fun t ρ => ∃ kvs', ρ[j]? = some (some (.ob (dOb w kvs') true)) ∧ QD t kvs', fun _ => False, fun _ => False, xp0⟩ (startX w N j kvs xs)) : BodyX K w N j c t := ⟨d, h, q⟩
theorem ok_defX {P : Program} {mg : Str → Option Value} {base : Heap} {x qual : Str} {st : Stmt} {f : Addr} {fd : FuncData} {N ps : List Str} {k j : Nat} {c : Kvs → List PyData → (T → Kvs → Prop) → Prop} (F : Fun K x qual st f fd) (S : FnScope N ps (defScope st)) (len : ∀ kvs xs QD, c kvs xs QD → xs.length + 1 = ps.length)
    (hbody : ∀ (cdv : Value) (A : Around) (outer : List PySem.Env) (s : Shared) (H : Hp) (E : XK), Room k (A.deeper (envOfC qual (defScope st) s.heap.objs.size f cdv)) →
      ∃ t, PSs (cxOf CX0 P w K mg base N qual (defScope st) f cdv A outer s H E).nox (defBody st) t ∧ BodyX K w N j c t) : FnOk P w K mg base CX0 (k + 1) f fd ps (spX K w j c) := by
  refine F.ok S (fun vs H Q E h => ?_) (fun cdv A outer s H vs Q E hr h => ?_)
  · obtain ⟨G, d, us, xs, kvs, ds, QD, rfl, hj, _, _, _, _, da, hc, _⟩ := h
    have := dpAll_len da
    have := len kvs ds QD hc
    simp
    omega
  · obtain ⟨t, h1, d, h2, h3⟩ := hbody cdv A outer s H E hr
    exact ⟨t, h1, run_defX N h2 h h3⟩
/-! ### its call -/
def LAX (K : PySem.W.Frag) (i j : Nat) (ta : TA) (da : Env → (List PyData → Prop) → Prop) : Prop := ∀ {G0 H0 : Hp} {M : Addr → Prop} {ρ : Env} {σ : L2.St} {G H : Hp} {QD : List PyData → Prop} {Q : List V → Hp → Prop}, Iv K G0 H0 M ρ σ G H → da ρ QD →
  (∀ ds us v G' H', QD ds → Gr G H G' H' → σ[i]? = some (some v) → DpAll K G' us ds → j ≤ us.length → Q (us.take j ++ v :: us.drop j) H') → ta σ H Q
def dHere (i : Nat) (dl : Env → (List T → Prop) → Prop) : Env → (List PyData → Prop) → Prop := fun ρ Q => (∃ t, ρ[i]? = some (some t)) ∧ dl ρ fun ts => ∃ ds, stab ts = some ds ∧ Q ds
theorem lax_here {i : Nat} {al : TA} {dl : Env → (List T → Prop) → Prop} (h : LA K al dl) : LAX K i 0 (tCons (tVar i) al) (dHere i dl) := fun {G0 H0 M ρ σ G H QD Q} x ⟨⟨t, e⟩, q⟩ k => by
  obtain ⟨v, f, _⟩ := x.sl i t e
  exact ⟨v, f, h x q fun ts vs G' H' ⟨ds, es, qd⟩ r va => k ds vs v G' H' qd r f (stab_of va es) (Nat.zero_le _)⟩
def dThere (da : Env → (T → Prop) → Prop) (dl : Env → (List PyData → Prop) → Prop) : Env → (List PyData → Prop) → Prop := fun ρ Q => da ρ fun t => ∃ y, t.fz = .g y ∧ dl ρ fun ds => Q (y :: ds)
theorem lax_there {i j : Nat} {ta : TE} {al : TA} {da : Env → (T → Prop) → Prop} {dl : Env → (List PyData → Prop) → Prop} (ha : LP K ta da) (h : LAX K i j al dl) : LAX K i (j + 1) (tCons ta al) (dThere da dl) := fun {G0 H0 M ρ σ G H QD Q} x q k => ha x q fun t v G1 H1 ⟨y, ey, qt⟩ r1 v1 f1 => by
  obtain ⟨G2, r2, g2, v2⟩ := fz_post r1 v1 f1
  rw [ey] at v2
  exact h (x.mono r2) qt fun ds us v0 G' H' qd r f d hj => by
    have := k (y :: ds) (v :: us) v0 G' H' qd (r2.trans r) f (.cons (dp_same r.g v2) d) (by rw [List.length_cons]; omega)
    exact this
def mCalX (w : World) (i : Nat) (c : Kvs → List PyData → (T → Kvs → Prop) → Prop) (dl : Env → (List PyData → Prop) → Prop) : Env → (T → Env → Prop) → Prop := fun ρ Q => ∃ kvs r, ρ[i]? = some (some (.ob (dOb w kvs) r)) ∧ dl ρ fun ds => c kvs ds fun t ks => Q t (ρ.set i (some (.ob (dOb w ks) r)))
theorem lm_calX {i j : Nat} {al : TA} {c : Kvs → List PyData → (T → Kvs → Prop) → Prop} {E : XK} {dl : Env → (List PyData → Prop) → Prop} (h : LAX K i j al dl) : LM K (tCal (spX K w j c) E al) (mCalX w i c dl) := fun {G0 H0 M ρ σ G H QD Q} x ⟨kvs, r, e, q⟩ p => h x q fun ds us v G1 H1 qd r1 f d hj => by
  have x1 := x.mono r1
  obtain ⟨d0, xs, f0, h1, h2, h3⟩ := ob_slot x1 e
  rw [f] at f0
  cases f0
  refine ⟨G1, d0, us, xs, kvs, ds, _, rfl, hj, x1.gh, h1, h2, h3, d, qd, fun z v' G' H' xs' ks qz rr vz fz hp dd => ?_⟩
  obtain ⟨x2, s2⟩ := x1.uptoOb e f rr hp dd
  refine (p.next r1.g (sub_gr x r1) (fr_gr r1)) z v' _ G' H' qz rr.g x2 s2 ⟨fun a ha => ?_, fun b o eb no => rr.h _ _ (fun z => no i _ (.ref d0) e f (by rw [z]; exact (rfl : V.ref d0 = V.ref d0))) eb, rr.n⟩ vz fz
  by_cases z : a = d0
  · rw [z, hp]
    exact fun z => nomatch z
  · cases q : H1 a with
    | none => exact absurd q ha
    | some o =>
      rw [rr.h _ _ z q]
      exact fun z => nomatch z
end
end Dv

set_option Elab.async false
set_option linter.all false
set_option maxRecDepth 100000
set_option maxHeartbeats 4000000
namespace Px
open PySem PySem.Spec PyProof.Rows L2
/-! ### len(d), list(d), for k in d -/
def rLenX (K : PySem.W.Frag) (w : World) : List V → Hp → VK → Prop := fun vs H Q => ∃ (d : Addr) (xs : List (NestedKey × Addr × Value)), vs = [.ref d] ∧ Rd H d (DxO w d xs) ∧ EntX K H xs ∧ xs.length ≤ sizeLine ∧ Q (.int ((xs.length : Nat) : Int)) H
def rListX (K : PySem.W.Frag) (w : World) : List V → Hp → VK → Prop := fun vs H Q => ∃ (d : Addr) (xs : List (NestedKey × Addr × Value)), vs = [.ref d] ∧ Rd H d (DxO w d xs) ∧ xs.length ≤ sizeLine ∧ ∀ p, H p = none → Q (.ref p) (upd H p (.lst (xs.map fun e => V.ref e.2.1)))
section
variable {X : Cx}
theorem crLenX (K : PySem.W.Frag) (w : World) (hK : X.K = K) (hw : X.w = w) : CallR X (.builtin "len") (rLenX K w) := by
  subst hK hw
  intro pins s σ H xs us Q I r h
  obtain ⟨d, es, rfl, e, ks, z, q⟩ := h
  obtain ⟨u, rfl, rx⟩ := vals1 r
  obtain rfl : u = .ref d := rx
  obtain ⟨hd, hm⟩ := dx_at I e ks
  refine call_len_dictH hd hm (by rw [sizeLine_eq] at z; omega) ?_
  exact ⟨.int ((es.length : Nat) : Int), H, I.tok _, ⟨_, rfl⟩, q⟩
theorem ent_at {w : World} {es : Array DictEntry} {xs : List (NestedKey × Addr × Value)} (he : es.toList = xs.map (entX w)) (j : Nat) : es[j]? = (xs[j]?).map (entX w) := by
  rw [← Array.getElem?_toList, he, List.getElem?_map]
theorem crListX (K : PySem.W.Frag) (w : World) (hK : X.K = K) (hw : X.w = w) (hc : X.calm = true) : CallR X (.type "list") (rListX K w) := by
  subst hK hw
  intro pins s σ H xs us Q I r h
  obtain ⟨d, ks, rfl, hd, z, q⟩ := h
  obtain ⟨u, rfl, rx⟩ := r.one
  cases rx
  obtain ⟨⟨hs, o, es, ep, ho, hx, hdt, he, hn⟩, _, _⟩ := (show ObjOk X.prog X.w H s.heap d (DxO X.w d ks) from hd.ok I.hok)
  have l1 : es.size = ks.length := by rw [← Array.length_toList, he, List.length_map]
  refine PySem.W.kdl_call (kdl_raw hs hx hdt) (I.ok.hd hc) ho (by omega) fun h' tk acc' c' kp e it => ?_
  have ea : acc'.toList = ks.map fun x => Value.ref x.2.1 := by
    have hl : acc'.toList.length = ks.length := by rw [Array.length_toList, it.1]; exact l1
    apply List.ext_getElem?
    intro j
    rw [List.getElem?_map]
    cases hj : acc'.toList[j]? with
    | none =>
      have h1 := List.getElem?_eq_none_iff.mp hj
      rw [List.getElem?_eq_none (by omega)]
      all_goals rfl
    | some v =>
      obtain ⟨en, hen, hv⟩ := it.2 j v (by rw [← Array.getElem?_toList]; exact hj)
      have qe := ent_at he j
      rw [hen] at qe
      cases hb : ks[j]? with
      | none =>
        rw [hb] at qe
        exact nomatch (show some en = none from qe)
      | some b =>
        rw [hb] at qe
        have e2 : en = entX X.w b := Option.some.inj qe
        rw [hv, e2]
        all_goals rfl
  have eb : acc'.toList = (ks.map fun x => x.2.1).map Value.ref := by rw [ea, List.map_map]; all_goals rfl
  have rv : Vals ((ks.map fun x => x.2.1).map V.ref) acc'.toList := by rw [eb]; exact vals_refs _
  have hz : ((ks.map fun x => x.2.1).map V.ref).length ≤ sizeLine := by rw [List.length_map, List.length_map]; omega
  have em : (ks.map fun e => V.ref e.2.1) = (ks.map fun x => x.2.1).map V.ref := by rw [List.map_map]; all_goals rfl
  have qq := q s.heap.objs.size (I.hok.fresh (Nat.le_refl _))
  rw [em] at qq
  refine ⟨.ref s.heap.objs.size, _, I.laid (t' := tk) (o := .lst ((ks.map fun x => x.2.1).map V.ref)) kp (Nat.le_refl _) ?_, rfl, qq⟩
  exact ⟨hz, acc'.toList, c', rv, by rw [Array.toArray_toList]; exact e⟩
/-- the keys of the locked dict at d, in their order -/
def Itx (w : World) (d : Addr) (o : Obj) : It :=
  ⟨fun i H => ∃ xs, H d = some (.frz o (DxO w d xs)) ∧ i < xs.length, fun i H x H' => H' = H ∧ ∀ xs, H d = some (.frz o (DxO w d xs)) → ∃ e, xs[i]? = some e ∧ x = .ref e.2.1, fun i H => ∃ xs, H d = some (.frz o (DxO w d xs)) ∧ xs.length ≤ i⟩
theorem frzX {pins : List (Addr × Obj)} {σ : L2.St} {H : Hp} {s : Shared} {d : Addr} {o : Obj} {xs : List (NestedKey × Addr × Value)} (I : Inv X pins σ H s) (h : H d = some (.frz o (DxO X.w d xs))) :
    (d == sysModules) = false ∧ s.heap.get? d = some o ∧ o.ExactDict ∧ ∃ (es : Array DictEntry) (ep : Nat), o.data = .dict es ep ∧ es.size = xs.length ∧ es.toList = xs.map (entX X.w) := by
  obtain ⟨hd, ⟨hs, o', es, ep, ho, hx, hdt, he, _⟩, _, _⟩ := I.hok d _ h
  rw [hd] at ho
  cases ho
  exact ⟨hs, hd, hx, es, ep, hdt, by rw [← Array.length_toList, he, List.length_map], he⟩
theorem turn_keysX {P : Program} {w : World} {K : PySem.W.Frag} {tg : Expr} {d : Addr} {o : Obj} {es : Array DictEntry} {ep : Nat} (it : Addr) (hod : o.data = .dict es ep) : Turn P w K tg (Itx w d o) [it] it (fun i h => h.IsKeyIter it d i es.size ep) where
  mem := by simp
  obj := fun i h st b hb => by
    have e : b = it := by simpa using hb
    subst e
    obtain ⟨oi, e, c, dd⟩ := st
    exact ⟨oi, e, fun v z => by rw [dd] at z; cases z⟩
  keep := fun i h h' st k => st.at fun oi e => k it (by simp) oi e
  item := by
    intro X hP hw hK hc i pins s σ H E I hf st hg
    subst hP hw hK
    obtain ⟨xs, hd, hi⟩ := hg
    obtain ⟨f0, f1, f2, f3, f4, f5⟩ := hf it (by simp)
    obtain ⟨hs, hgd, hx, es', ep', hdt, hsz, he⟩ := frzX I hd
    obtain ⟨rfl, rfl⟩ := dict_ep hod hdt
    have hen := ent_at he i
    rw [List.getElem?_eq_getElem hi] at hen
    refine next_key_item st hgd hdt rfl hen fun h' st' sb => ?_
    have I1 : Inv X pins σ H { s with heap := h' } := I.turned (t' := s.toks) (fun b ob hb e => (sb.2 b hb).trans e) f0 f1 f3 f4 f5
    obtain ⟨oi, e, c, dd⟩ := id st'
    refine ⟨_, rfl, go_of (s := { s with heap := h' }) e c dd (by decide) ⟨.ref (xs[i]).2.1, H, I1, rfl, ⟨rfl, fun ys hy => ?_⟩, st', fun b hb => (hf b hb).1⟩⟩
    obtain ⟨_, _, _, es2, ep2, hdt2, hsz2, he2⟩ := frzX I hy
    obtain ⟨rfl, rfl⟩ := dict_ep hod hdt2
    have hen2 := ent_at he2 i
    rw [hen] at hen2
    cases hq : ys[i]? with
    | none => rw [hq] at hen2; cases hen2
    | some e2 =>
      rw [hq] at hen2
      have z : entX X.w xs[i] = entX X.w e2 := Option.some.inj hen2
      have z2 : Value.ref (xs[i]).2.1 = .ref e2.2.1 := congrArg DictEntry.key z
      exact ⟨e2, rfl, by rw [Value.ref.inj z2]⟩
  done := by
    intro X hP hw hK hc i pins s σ H E I hf st hg
    subst hP hw hK
    obtain ⟨xs, hd, hi⟩ := hg
    obtain ⟨f0, f1, f2, f3, f4, f5⟩ := hf it (by simp)
    obtain ⟨hs, hgd, hx, es', ep', hdt, hsz, he⟩ := frzX I hd
    obtain ⟨rfl, rfl⟩ := dict_ep hod hdt
    exact next_key_end (I.ok.hd hc) st hgd hdt rfl (by omega) fun h' eb => ⟨rfl, I.turned (t' := s.toks) (fun b ob hb e => eb b ob hb e) f0 f1 f3 f4 f5⟩
  self := fun A i s Q E st h => wpAny_pyIter_keyiter st h
/-- the dict is locked -/
def iKeysX (w : World) (td : TE) : TI := fun σ H R => td σ H fun x H1 => ∃ d o xs, x = .ref d ∧ H1 d = some (.frz o (DxO w d xs)) ∧ R (Itx w d o) H1
theorem pi_keysX (w : World) (hw : X.w = w) {tg e : Expr} {td : TE} (he : PE X e td) : PI X tg e (iKeysX w td) := by
  subst hw
  refine ⟨fun pins s σ H R I h => ?_⟩
  refine thn (he.run pins s σ H _ I h) fun u s1 ⟨x, H1, I1, rx, d, o, xs, ex, hd, q⟩ => ?_
  subst ex
  obtain rfl : u = Value.ref d := rx
  obtain ⟨hs, hgd, hx, es, ep, hdt, hsz, _⟩ := frzX I1 hd
  refine iter_keys hs hgd hx hdt (pi_one (tk := s1.toks) I1 _ (turn_keysX _ hdt) ⟨_, Heap.get?_push_size _ rfl, rfl, rfl⟩ q)
end
end Px
namespace Dv
open PySem PySem.Spec PyProof.Rows L2 Px
section
variable {K : PySem.W.Frag} {w : World}
def dLenX (w : World) (i : Nat) : Env → (T → Prop) → Prop := fun ρ Q => dAt w i ρ fun kvs _ => kvs.length ≤ 16777216 ∧ Q (.g (.int (kvs.length : Nat)))
theorem lp_lenX {i : Nat} : LP K (tCB (rLenX K w) (tCons (tVar i) tNil)) (dLenX w i) := fun {G0 H0 M ρ σ G H QD Q} x ⟨lk, kvs, r, e, z, q⟩ p => by
  obtain ⟨d, xs, s1, h1, h2, h3⟩ := ob_slot x e
  have hl := entG_len h3
  refine ⟨_, s1, d, xs, rfl, lk_rd h1, entG_entX x.gh h3, by rw [hl, sizeLine_eq]; exact z, ?_⟩
  rw [hl]
  exact p.scal x.gh (.int _) q
theorem entG_keys {G : Hp} : ∀ {kvs : Kvs} {xs : List (NestedKey × Addr × Value)}, EntG K G kvs xs → DpAll K G (xs.map fun e => V.ref e.2.1) (kvs.map fun p => p.1.data)
  | [], [], _ => .nil
  | p :: r, q :: t, ⟨⟨a, b, c, _⟩, z⟩ => .cons c (entG_keys z)
  | [], _ :: _, h => h.elim
  | _ :: _, [], h => h.elim
def dListX (w : World) (i : Nat) : Env → (T → Prop) → Prop := fun ρ Q => dAt w i ρ fun kvs _ => kvs.length ≤ 16777216 ∧ Q (.l (kvs.map fun p => p.1.data))
theorem lp_listX {i : Nat} : LP K (tCB (rListX K w) (tCons (tVar i) tNil)) (dListX w i) := fun {G0 H0 M ρ σ G H QD Q} x ⟨lk, kvs, r, e, z, q⟩ p => by
  obtain ⟨d, xs, s1, h1, h2, h3⟩ := ob_slot x e
  exact ⟨_, s1, d, xs, rfl, lk_rd h1, by rw [entG_len h3, sizeLine_eq]; exact z, p.lst x.gh (entG_keys h3) q⟩
/-- for k in d, d locked meanwhile -/
def dForX (w : World) (i : Nat) (dg : PyData → Env → (Env → Prop) → Prop) (db : DS) : DS := fun DD ρ => ∃ kvs r, ρ[i]? = some (some (.ob (dOb w kvs) r)) ∧ ∀ (lk : Option Lock), ∃ Pv : Nat → Env → Prop, Pv 0 (ρ.set i (some (.ob (dLk w lk kvs) r))) ∧
  (∀ (n : Nat) (p : NestedKey × PyData) (ρ' : Env), kvs[n]? = some p → Pv n ρ' → ρ'[i]? = some (some (.ob (dLk w lk kvs) r)) ∧ dg p.1.data ρ' fun ρ2 => db ⟨Pv (n + 1), fun _ _ => False, fun _ => False, Pv (n + 1), xp0⟩ ρ2) ∧
  ∀ ρ', Pv kvs.length ρ' → ρ'[i]? = some (some (.ob (dLk w lk kvs) r)) ∧ DD.nx (ρ'.set i (some (.ob (dOb w kvs) r)))
theorem Iv.relk {G0 H0 G H : Hp} {M : Addr → Prop} {σ : L2.St} {ρ : Env} (x : Iv K G0 H0 M ρ σ G H) {i : Nat} {kvs : Kvs} {r : Bool} {lk lk' : Option Lock} {d : Addr} {xs : List (NestedKey × Addr × Value)} (e : ρ[i]? = some (some (.ob (dLk w lk kvs) r))) (f : σ[i]? = some (some (.ref d))) (h : EntG K G kvs xs) (hl : LkA lk' d xs) : Iv K G0 H0 M (ρ.set i (some (.ob (dLk w lk' kvs) r))) σ G (upd H d (lkO lk' (DxO w d xs))) := by
  have vr := x.vr e f
  obtain ⟨d', zs, ed, h1, h2, h3, _⟩ := vr
  cases ed
  have others : ∀ {k : Nat} {u : T} {v : V}, k ≠ i → ρ[k]? = some (some u) → σ[k]? = some (some v) → ¬ Fp H u v d := fun {k u v} nk e1 e2 p => nk (x.dj k i u _ v (.ref d) d e1 e e2 f p rfl)
  have am : M d ∨ H0 d = none := by
    have := x.own i _ _ d e f rfl
    cases r with
    | true => exact .inl this
    | false => exact .inr this
  refine ⟨fun b o eb => ?_, x.g0, x.gf, fun b o nm eb => ?_, fun b mb => ?_, by rw [List.length_set, x.len], kdset x.kd (fun z => (Option.some.inj z) ▸ rfl), fun k u e1 => ?_, fun k u v b e1 e2 p => ?_, fun j k u u' v v' b e1 e2 e3 e4 p1 p2 => ?_⟩
  · rw [upd_ne (ne_of_none eb h2)]
    exact x.gh _ _ eb
  · have nb : b ≠ d := fun z => by
      subst z
      rcases am with z | z
      · exact nm z
      · rw [z] at eb
        cases eb
    rw [upd_ne nb]
    exact x.up b o nm eb
  · by_cases z : b = d
    · rw [z, upd_same]
      exact fun z => nomatch z
    · rw [upd_ne z]
      exact x.mh b mb
  · rcases set_at e1 with ⟨rfl, _, d1⟩ | ⟨ne, d1⟩
    · cases (Option.some.inj d1)
      exact ⟨.ref d, f, d, xs, rfl, upd_same, h2, h, hl⟩
    · obtain ⟨v, w1, w2⟩ := x.sl k u d1
      exact ⟨v, w1, w2.mut (x.kd _ _ d1) (others ne d1 w1) h2⟩
  · rcases set_at e1 with ⟨rfl, _, d1⟩ | ⟨ne, d1⟩
    · cases (Option.some.inj d1)
      have := x.own k (.ob (dLk w lk kvs) r) v b e e2 (show v = .ref b from p)
      cases r <;> exact this
    · exact x.own k u v b d1 e2 (Fp.mut (x.vr d1 e2) (others ne d1 e2) p)
  · rcases set_at e1 with ⟨rfl, _, d1⟩ | ⟨ne, d1⟩
    · cases (Option.some.inj d1)
      rcases set_at e2 with ⟨rfl, _, d2⟩ | ⟨ne2, d2⟩
      · rfl
      · rw [f] at e3
        cases (Option.some.inj (Option.some.inj e3))
        have hb : d = b := V.ref.inj p1
        subst hb
        exact absurd (Fp.mut (x.vr d2 e4) (others ne2 d2 e4) p2) (others ne2 d2 e4)
    · rcases set_at e2 with ⟨rfl, _, d2⟩ | ⟨ne2, d2⟩
      · cases (Option.some.inj d2)
        rw [f] at e4
        cases (Option.some.inj (Option.some.inj e4))
        have hb : d = b := V.ref.inj p2
        subst hb
        exact absurd (Fp.mut (x.vr d1 e3) (others ne d1 e3) p1) (others ne d1 e3)
      · exact x.dj j k u u' v v' b d1 d2 e3 e4 (Fp.mut (x.vr d1 e3) (others ne d1 e3) p1) (Fp.mut (x.vr d2 e4) (others ne2 d2 e4) p2)
theorem entG_at {G : Hp} : ∀ {kvs : Kvs} {xs : List (NestedKey × Addr × Value)} {n : Nat} {e : NestedKey × Addr × Value}, EntG K G kvs xs → xs[n]? = some e → ∃ p, kvs[n]? = some p ∧ Dp K G (.ref e.2.1) p.1.data
  | p :: r, q :: t, 0, e, ⟨⟨_, _, c, _⟩, _⟩, h => by
    cases h
    exact ⟨p, rfl, c⟩
  | p :: r, q :: t, n + 1, e, ⟨_, z⟩, h => entG_at (n := n) z h
  | [], [], _, _, _, h => by simp at h
  | [], _ :: _, _, _, h, _ => h.elim
  | _ :: _, [], _, _, h, _ => h.elim
theorem ls_forX {i : Nat} {g : TG} {js : List Nat} {dg : PyData → Env → (Env → Prop) → Prop} {s1 : TS} {d1 : DS} (hg : LG K g js dg) (hb : LS K s1 d1) : LS K (tLock (tFor (iKeysX w (tVar i)) g s1)) (dForX w i dg d1) := fun {G0 H0 M DD D ρ σ G H} E x ⟨kvs, r, e, q⟩ => by
  obtain ⟨d, xs, f, h1, h2, h3⟩ := ob_slot x e
  have h1 : H d = some (DxO w d xs) := h1
  refine ⟨d, DxO w d xs, h1, True.intro, fun od => ?_⟩
  obtain ⟨Pv, p0, ps, pd⟩ := q (some ⟨d, od, xs⟩)
  have x1 : Iv K G0 H0 M (ρ.set i (some (.ob (dLk w (some ⟨d, od, xs⟩) kvs) r))) σ G (upd H d (.frz od (DxO w d xs))) := x.relk (lk' := some ⟨d, od, xs⟩) e f h3 fun p z => by cases z; exact ⟨rfl, rfl⟩
  have at_d : ∀ {ρ' : Env} {σ' : L2.St} {G' H' : Hp}, Iv K G0 H0 M ρ' σ' G' H' → ρ'[i]? = some (some (.ob (dLk w (some ⟨d, od, xs⟩) kvs) r)) → σ'[i]? = some (some (.ref d)) ∧ H' d = some (.frz od (DxO w d xs)) ∧ G' d = none ∧ EntG K G' kvs xs := fun {ρ' σ' G' H'} y e' => by
    obtain ⟨v, s1, d', ys, rfl, g1, g2, g3, g4⟩ := y.sl i _ e'
    obtain ⟨q1, q2⟩ := g4 _ rfl
    cases q1
    cases q2
    exact ⟨s1, g1, g2, g3⟩
  refine ⟨.ref d, f, d, od, xs, rfl, upd_same, ?_⟩
  refine ⟨fun n m σ' H' => m = kvs.length - n ∧ n ≤ kvs.length ∧ ∃ ρ' G', Iv K G0 H0 M ρ' σ' G' H' ∧ Pv n ρ', ⟨kvs.length, by simp, Nat.zero_le _, _, G, x1, p0⟩, ?_⟩
  rintro n m σ2 H2 ⟨rfl, hle, ρ2, G2, x2, p2⟩
  by_cases hlt : n < kvs.length
  · obtain ⟨p, hp⟩ : ∃ p, kvs[n]? = some p := ⟨kvs[n], List.getElem?_eq_getElem hlt⟩
    obtain ⟨e2, q2⟩ := ps n p ρ2 hp p2
    obtain ⟨f2, g1, g2, g3⟩ := at_d x2 e2
    refine .inr ⟨⟨xs, g1, by rw [entG_len g3]; exact hlt⟩, fun σ' H' => n + 1 ≤ kvs.length ∧ ∃ ρ' G', Iv K G0 H0 M ρ' σ' G' H' ∧ Pv (n + 1) ρ', fun σ' H' ⟨u, v⟩ => ⟨kvs.length - (n + 1), by omega, rfl, u, v⟩, fun y H3 hy => ?_⟩
    obtain ⟨eH, hy⟩ := hy
    obtain ⟨e3, ez, ey⟩ := hy xs g1
    rw [eH, ey]
    obtain ⟨p', hp', dk⟩ := entG_at g3 ez
    rw [hp] at hp'
    cases hp'
    exact hg x2 dk q2 fun ρ4 σ4 q4 x4 _ _ => hb (DD := ⟨Pv (n + 1), fun _ _ => False, fun _ => False, Pv (n + 1), xp0⟩)  ⟨fun ρ σ G H y m => ⟨hlt, ρ, G, y, m⟩, fun ρ σ G H y m => m.elim, fun ρ σ G H y m => ⟨hlt, ρ, G, y, m⟩, fun _ _ _ _ _ _ _ _ _ m => m.elim, fun _ _ _ _ _ _ z => (z : False).elim⟩ x4 q4
  · have en : n = kvs.length := by omega
    subst en
    obtain ⟨e2, q2⟩ := pd ρ2 p2
    obtain ⟨f2, g1, g2, g3⟩ := at_d x2 e2
    have e4 : Iv K G0 H0 M _ σ2 G2 (upd H2 d (DxO w d xs)) := x2.relk (lk' := none) e2 f2 g3 lkA0
    refine .inl ⟨⟨xs, g1, by rw [entG_len g3]; exact Nat.le_refl _⟩, ?_⟩
    exact ⟨g1, E.nx _ _ _ _ e4 q2⟩
end
end Dv

set_option Elab.async false
set_option linter.all false
set_option maxRecDepth 100000
set_option maxHeartbeats 4000000
namespace Dv
open PySem PySem.Spec PyProof.Rows L2 Px
/-! ### standings as keys -/
def msK (s : MS) : NestedKey := .tup [.num s.1, .tup (s.2.1.map fun h => .tup (h.map .num)), .num s.2.2]
theorem datas_num : ∀ h : List Int, NestedKey.datas (h.map .num) = inD h
  | [] => rfl
  | n :: h => by
    show PyData.int n :: NestedKey.datas (h.map .num) = _
    rw [datas_num h]
    rfl
theorem datas_hs : ∀ hs : List (List Int), NestedKey.datas (hs.map fun h => NestedKey.tup (h.map .num)) = hsD hs
  | [] => rfl
  | h :: hs => by
    show PyData.tuple (NestedKey.datas (h.map .num)) :: NestedKey.datas (hs.map fun h => NestedKey.tup (h.map .num)) = _
    rw [datas_num h, datas_hs hs]
    rfl
theorem msK_data (s : MS) : (msK s).data = msT s := by
  show PyData.tuple [.int s.1, .tuple (NestedKey.datas (s.2.1.map fun h => NestedKey.tup (h.map .num))), .int s.2.2] = _
  rw [datas_hs]
  rfl
theorem depthAll_num : ∀ h : List Int, NestedKey.depthAll (h.map .num) = 0
  | [] => rfl
  | n :: h => by
    show max (NestedKey.depth (.num n)) (NestedKey.depthAll (h.map .num)) = 0
    rw [depthAll_num h]
    rfl
theorem depthAll_hs : ∀ hs : List (List Int), NestedKey.depthAll (hs.map fun h => NestedKey.tup (h.map .num)) ≤ 1
  | [] => Nat.zero_le _
  | h :: hs => by
    show max (NestedKey.depthAll (h.map .num) + 1) (NestedKey.depthAll (hs.map fun h => NestedKey.tup (h.map .num))) ≤ 1
    rw [depthAll_num h]
    exact Nat.max_le.mpr ⟨Nat.le_refl _, depthAll_hs hs⟩
theorem msK_depth (s : MS) : (msK s).depth ≤ 8 := by
  show max 0 (max (NestedKey.depthAll (s.2.1.map fun h => NestedKey.tup (h.map .num)) + 1) (max 0 0)) + 1 ≤ 8
  have := depthAll_hs s.2.1
  omega
theorem msT_inj {s t : MS} (h : msT s = msT t) : s = t := stD_inj h
theorem msK_inj {s t : MS} (h : msK s = msK t) : s = t := msT_inj (by rw [← msK_data, ← msK_data, h])
/-! ### the search -/
abbrev Mv := Int × Int
/-- the moves that may be done, each with the standing behind it -/
def outsS (ss : List Str) (ws : List Mv) (od : List Int) (s : MS) : List (Mv × MS) := ws.filterMap fun m => (rStp ss od s m).map fun t => (m, t)
abbrev Fnd := List (MS × Nat × Option (MS × Mv))
def keysF (f : Fnd) : List MS := f.map (·.1)
def goalIn (goal : Option MS) (f : Fnd) : Bool := match goal with
  | none => false
  | some g => decide (g ∈ keysF f)
def add1 (goal : Option MS) (s : MS) (d : Nat) (f : Fnd) (p : Mv × MS) : Fnd := if (decide (p.2 ∈ keysF f) || goalIn goal f) = true then f else f ++ [(p.2, d + 1, some (s, p.1))]
def addF (goal : Option MS) (s : MS) (d : Nat) (l : List (Mv × MS)) (f : Fnd) : Fnd := l.foldl (add1 goal s d) f
section
variable (ss : List Str) (ws : List Mv) (od : List Int) (goal : Option MS)
def bfs : Nat → Nat → Fnd → Fnd
  | 0, _, f => f
  | n + 1, i, f => match f[i]? with
    | none => f
    | some e => if goalIn goal f = true then f else bfs n (i + 1) (addF goal e.1 e.2.1 (outsS ss ws od e.1) f)
def fnd0 : Fnd := [(first0 ss, 0, none)]
/-- all that is found, in order, by so many turns -/
def fndN (N : Nat) : Fnd := bfs ss ws od goal N 0 (fnd0 ss)
end
def entD (e : Nat × Option (MS × Mv)) : PyData := match e.2 with
  | none => .tuple [.int (e.1 : Nat), .none, .none]
  | some p => .tuple [.int (e.1 : Nat), msT p.1, wyD p.2]
def fndD (f : Fnd) : Kvs := f.map fun e => (msK e.1, entD e.2)
def lookF (f : Fnd) (s : MS) : Option (Nat × Option (MS × Mv)) := (f.find? fun e => decide (e.1 = s)).map (·.2)
theorem look_fnd (s : MS) : ∀ f : Fnd, lookX (fndD f) (msK s) = (lookF f s).map entD
  | [] => rfl
  | e :: f => by
    by_cases h : e.1 = s
    · have h1 : lookX (fndD (e :: f)) (msK s) = some (entD e.2) := by simp [lookX, fndD, h]
      have h2 : lookF (e :: f) s = some e.2 := by simp [lookF, h]
      rw [h1, h2]
      rfl
    · have h0 : ¬ msK e.1 = msK s := fun z => h (msK_inj z)
      have h1 : lookX (fndD (e :: f)) (msK s) = lookX (fndD f) (msK s) := by simp [lookX, fndD, h0]
      have h2 : lookF (e :: f) s = lookF f s := by simp [lookF, h]
      rw [h1, h2, look_fnd s f]
theorem lookF_some {f : Fnd} {s : MS} : (lookF f s).isSome = decide (s ∈ keysF f) := by
  induction f with
  | nil => rfl
  | cons e f ih =>
    by_cases h : e.1 = s
    · have h2 : lookF (e :: f) s = some e.2 := by simp [lookF, h]
      rw [h2]
      simp [keysF, h]
    · have h2 : lookF (e :: f) s = lookF f s := by simp [lookF, h]
      rw [h2, ih]
      have : (s ∈ keysF (e :: f)) ↔ s ∈ keysF f := by
        simp only [keysF, List.map_cons, List.mem_cons]
        exact ⟨fun z => z.resolve_left fun y => h y.symm, Or.inr⟩
      simp [this]
theorem in_fnd (f : Fnd) (s : MS) : (lookX (fndD f) (msK s)).isSome = decide (s ∈ keysF f) := by
  rw [look_fnd, Option.isSome_map, lookF_some]
theorem put_fnd {f : Fnd} {s : MS} (h : s ∉ keysF f) (e : Nat × Option (MS × Mv)) : putX (fndD f) (msK s) (entD e) = fndD (f ++ [(s, e)]) := by
  unfold putX
  rw [in_fnd, decide_eq_false h, if_neg (fun z => nomatch z)]
  simp [fndD]
theorem fndD_len (f : Fnd) : (fndD f).length = f.length := by simp [fndD]
theorem keysF_len (f : Fnd) : (keysF f).length = f.length := by simp [keysF]
theorem keysF_app (f g : Fnd) : keysF (f ++ g) = keysF f ++ keysF g := by simp [keysF]
theorem lookF_at {f : Fnd} (nd : (keysF f).Nodup) {i : Nat} {e : MS × Nat × Option (MS × Mv)} (h : f[i]? = some e) : lookF f e.1 = some e.2 := by
  induction f generalizing i with
  | nil => simp at h
  | cons x f ih =>
    have nd' : (x.1 :: keysF f).Nodup := nd
    cases i with
    | zero =>
      cases h
      simp [lookF]
    | succ i =>
      have h : f[i]? = some e := h
      have hm : e.1 ∈ keysF f := List.mem_map.mpr ⟨e, List.mem_of_getElem? h, rfl⟩
      have ne : ¬ x.1 = e.1 := fun z => (List.nodup_cons.mp nd').1 (z ▸ hm)
      have h2 : lookF (x :: f) e.1 = lookF f e.1 := by simp [lookF, ne]
      rw [h2]
      exact ih (List.nodup_cons.mp nd').2 h
/-! ### what stays while it is sought -/
theorem outs_pwD (ss : List Str) (od : List Int) (s : MS) : ∀ ws : List Mv, pwD (mvO ss od s.1 s.2.1 s.2.2) (ws.filter (mayB ss od s.1 s.2.1 s.2.2)) = (outsS ss ws od s).map fun p => PyData.tuple [wyD p.1, msT p.2]
  | [] => rfl
  | m :: ws => by
    have ih := outs_pwD ss od s ws
    cases h : mayB ss od s.1 s.2.1 s.2.2 m with
    | false =>
      have h1 : (m :: ws).filter (mayB ss od s.1 s.2.1 s.2.2) = ws.filter (mayB ss od s.1 s.2.1 s.2.2) := by simp [h]
      have h2 : outsS ss (m :: ws) od s = outsS ss ws od s := by simp [outsS, rStp, h]
      rw [h1, h2, ih]
    | true =>
      obtain ⟨n, h3, h4, h5⟩ := rStp_of h
      have h1 : (m :: ws).filter (mayB ss od s.1 s.2.1 s.2.2) = m :: ws.filter (mayB ss od s.1 s.2.1 s.2.2) := by simp [h]
      have h2 : outsS ss (m :: ws) od s = (m, nextS ss s m n) :: outsS ss ws od s := by simp [outsS, h4]
      obtain ⟨n', h6, h7⟩ := mayB_num h
      rw [h3] at h6
      cases h6
      rw [h1, h2]
      show PyData.tuple [wyD m, mvO ss od s.1 s.2.1 s.2.2 m] :: pwD _ _ = PyData.tuple [wyD m, msT (nextS ss s m n)] :: _
      rw [ih, h7, h5]
      rfl
theorem mem_outs {ss : List Str} {ws : List Mv} {od : List Int} {s t : MS} {m : Mv} : (m, t) ∈ outsS ss ws od s ↔ m ∈ ws ∧ rStp ss od s m = some t := by
  unfold outsS
  rw [List.mem_filterMap]
  constructor
  · rintro ⟨m', h1, h2⟩
    cases e : rStp ss od s m' with
    | none => rw [e] at h2; cases h2
    | some t' =>
      rw [e] at h2
      cases h2
      exact ⟨h1, e⟩
  · rintro ⟨h1, h2⟩
    exact ⟨m, h1, by rw [h2]; rfl⟩
/-- a list that holds the first standing and, with each, those behind it but the goal -/
structure Clo (ss : List Str) (ws : List Mv) (od : List Int) (goal : Option MS) (L : List MS) : Prop where
  first : first0 ss ∈ L
  next : ∀ s ∈ L, ∀ m t, m ∈ ws → rStp ss od s m = some t → t ∈ L ∨ goal = some t
structure FOk (ss : List Str) (od : List Int) (goal : Option MS) (L : List MS) (f : Fnd) : Prop where
  nd : (keysF f).Nodup
  sub : ∀ s ∈ keysF f, s ∈ L ∨ goal = some s
  good : ∀ s ∈ keysF f, StGood ss od s
theorem fok_first {ss : List Str} {ws : List Mv} {od : List Int} {goal : Option MS} {L : List MS} (c : Clo ss ws od goal L) : FOk ss od goal L (fnd0 ss) :=
  ⟨by simp [keysF, fnd0], fun s h => by
    have : s = first0 ss := by simpa [keysF, fnd0] using h
    subst this
    exact .inl c.first, fun s h => by
    have : s = first0 ss := by simpa [keysF, fnd0] using h
    subst this
    exact good_first ss od⟩
theorem fok_add1 {ss : List Str} {od : List Int} {goal : Option MS} {L : List MS} {f : Fnd} {s : MS} {d : Nat} {p : Mv × MS} (k : FOk ss od goal L f) (h : p.2 ∈ L ∨ goal = some p.2) (g : StGood ss od p.2) : FOk ss od goal L (add1 goal s d f p) := by
  unfold add1
  split
  · exact k
  · rename_i hc
    have hn : p.2 ∉ keysF f := fun z => hc (by rw [decide_eq_true z]; rfl)
    refine ⟨?_, fun t ht => ?_, fun t ht => ?_⟩
    · rw [keysF_app, List.nodup_append]
      refine ⟨k.nd, by simp [keysF], fun a ha b hb => ?_⟩
      have : b = p.2 := by simpa [keysF] using hb
      subst this
      exact fun z => hn (z ▸ ha)
    · rw [keysF_app] at ht
      rcases List.mem_append.mp ht with ht | ht
      · exact k.sub t ht
      · have : t = p.2 := by simpa [keysF] using ht
        subst this
        exact h
    · rw [keysF_app] at ht
      rcases List.mem_append.mp ht with ht | ht
      · exact k.good t ht
      · have : t = p.2 := by simpa [keysF] using ht
        subst this
        exact g
theorem fok_len {ss : List Str} {od : List Int} {goal : Option MS} {L : List MS} {f : Fnd} (k : FOk ss od goal L f) : f.length ≤ L.length + 1 := by
  rw [← keysF_len]
  cases goal with
  | none =>
    have := k.nd.length_le_of_subset (l₂ := L) fun s hs => (k.sub s hs).resolve_right fun z => nomatch z
    omega
  | some g =>
    have := k.nd.length_le_of_subset (l₂ := g :: L) fun s hs => by
      rcases k.sub s hs with h | h
      · exact List.mem_cons_of_mem _ h
      · cases h
        exact List.mem_cons_self
    simpa using this
/-- one more that is not the goal has room -/
theorem fok_room {ss : List Str} {od : List Int} {goal : Option MS} {L : List MS} {f : Fnd} {t : MS} (k : FOk ss od goal L f) (hg : goalIn goal f = false) (hn : t ∉ keysF f) (ht : t ∈ L) : f.length < L.length := by
  have h1 : ∀ s ∈ t :: keysF f, s ∈ L := fun s hs => by
    rcases List.mem_cons.mp hs with rfl | hs
    · exact ht
    · rcases k.sub s hs with h | h
      · exact h
      · subst h
        have : s ∉ keysF f := of_decide_eq_false hg
        exact absurd hs this
  have := (List.nodup_cons.mpr ⟨hn, k.nd⟩).length_le_of_subset h1
  rw [List.length_cons, keysF_len] at this
  omega
theorem addF_take {goal : Option MS} {s : MS} {d : Nat} {l : List (Mv × MS)} {f : Fnd} {i : Nat} {p : Mv × MS} (h : l[i]? = some p) : addF goal s d (l.take (i + 1)) f = add1 goal s d (addF goal s d (l.take i) f) p := by
  unfold addF
  rw [List.take_add_one, h, List.foldl_append]
  rfl
theorem add1_mono {goal : Option MS} {s : MS} {d : Nat} {f : Fnd} {p : Mv × MS} : f <+: add1 goal s d f p := by
  unfold add1
  split
  · exact List.prefix_refl _
  · exact List.prefix_append _ _
theorem addF_mono {goal : Option MS} {s : MS} {d : Nat} : ∀ {l : List (Mv × MS)} {f : Fnd}, f <+: addF goal s d l f
  | [], f => List.prefix_refl _
  | p :: l, f => add1_mono.trans (addF_mono (l := l) (f := add1 goal s d f p))
theorem bfs_step {ss : List Str} {ws : List Mv} {od : List Int} {goal : Option MS} {n i : Nat} {f : Fnd} {e : MS × Nat × Option (MS × Mv)} (h : f[i]? = some e) (hg : goalIn goal f = false) : bfs ss ws od goal (n + 1) i f = bfs ss ws od goal n (i + 1) (addF goal e.1 e.2.1 (outsS ss ws od e.1) f) := by
  show (match f[i]? with | none => f | some e => if goalIn goal f = true then f else bfs ss ws od goal n (i + 1) (addF goal e.1 e.2.1 (outsS ss ws od e.1) f)) = _
  rw [h]
  show (if goalIn goal f = true then f else _) = _
  rw [hg, if_neg (fun z => nomatch z)]
theorem bfs_stop {ss : List Str} {ws : List Mv} {od : List Int} {goal : Option MS} {i : Nat} {f : Fnd} (h : f[i]? = none ∨ goalIn goal f = true) : ∀ n, bfs ss ws od goal n i f = f
  | 0 => rfl
  | n + 1 => by
    show (match f[i]? with | none => f | some e => if goalIn goal f = true then f else bfs ss ws od goal n (i + 1) (addF goal e.1 e.2.1 (outsS ss ws od e.1) f)) = _
    rcases h with h | h
    · rw [h]
    · rw [h]
      cases f[i]? <;> rfl
end Dv

set_option Elab.async false
set_option linter.all false
set_option maxRecDepth 100000
set_option maxHeartbeats 4000000
namespace Px
open PySem PySem.Spec PyProof.Rows L2
theorem hu10 {A : Around} {k : Nat} (hr : Room k A) : A.units + 10 < cLine := by
  have := hu65 hr
  omega
/-! ### defs with defaults -/
structure DfnD (K : PySem.W.Frag) (mg : Str → Option Value) (x : Str) (st : Stmt) (dvs : List V) : Prop where
  ex : ∃ (f : Addr) (fd : FuncData), mg x = some (.ref f) ∧ FunD K x x (defArgs st) (defBody st) (defScope st) dvs [] f fd
theorem dfnD_mk {K : PySem.W.Frag} {mg : Str → Option Value} {h : Heap} {x : Str} {st : Stmt} {f T : Addr} {oc : Value} {od an : Option Addr} {osl : Array (Option Value)} {kV doc pm cdv ct : Value} {o : Obj} {n m : Int} {tk : Tok} {its : Array Value} {c : Nat} (X : K.In h) (G : h.Ns mainGlobals mg)
    (a : PySem.W.nsIn K mainGlobals x = some (some (.ref f))) (l : K.lookup f = some ⟨oc, od, .func (PySem.W.fnOf x x (defArgs st) (defBody st) (defScope st) (.ref T) kV doc pm an cdv ct), osl⟩)
    (t : K.lookup T = some o) (e : o.data = .seq its c) (e2 : its = #[.int m tk]) (em : m = n) (c : PySem.W.codeIn K cdv x = true) (k : PySem.W.keepIn K (.ref f) = true) : DfnD K mg x st [.int n] := by
  subst e2 em
  have d : DflV K (.ref T) [.int m] := .inr ⟨(fun z => nomatch z), T, o, [Value.int m tk], _, rfl, t, e, .cons ⟨tk, rfl⟩ .nil⟩
  exact ⟨f, _, PySem.W.mg_of X G a, ⟨⟨oc, od, .ref T, kV, doc, pm, an, cdv, ct, osl, rfl, l, c, d, .inl rfl⟩, k⟩⟩
structure CalD (P : Program) (w : World) (K : PySem.W.Frag) (mg : Str → Option Value) (base : Heap) (CX : CXT) (k : Nat) (x : Str) (ps : List Str) (dvs : List V) (sp : Sp) : Prop where
  ex : ∃ (f : Addr) (fd : FuncData) (ds : List Value), FnOk P w K mg base CX k f fd ps sp ∧ mg x = some (.ref f) ∧ PySem.W.keepIn K (.ref f) = true ∧ Vals dvs ds ∧ Binds K fd ps ds
def spA (sp : Sp) (dvs : List V) : Sp := fun vs H Q E => sp (vs ++ dvs) H Q E
section
variable {P : Program} {w : World} {K : PySem.W.Frag} {mg : Str → Option Value} {base : Heap} {CX : CXT} {k : Nat} {x : Str} {ps N : List Str} {dvs : List V} {sp : Sp} {st : Stmt}
theorem CalD.of (D : DfnD K mg x st dvs) (n j : Nat) (hd : dvs ≠ []) (hn : n + (dvs.length - j) = ps.length)
    (hb : ∀ (T : Addr) (kV doc pm : Value) (an : Option Addr) (cdv ct : Value) (us its : List Value), us.length = n → its.length = dvs.length →
      ∃ k, bindArgs (PySem.W.fnOf x x (defArgs st) (defBody st) (defScope st) (.ref T) kV doc pm an cdv ct) ⟨us, []⟩ = seqItems? (.ref T) >>= k ∧ k (some its.toArray) = pure (ps.zip (us ++ its.drop j)))
    (h : ∀ f fd, FunD K x x (defArgs st) (defBody st) (defScope st) dvs [] f fd → FnOk P w K mg base CX k f fd ps sp) : CalD P w K mg base CX k x ps (dvs.drop j) sp := by
  obtain ⟨f, fd, hm, F⟩ := D.ex
  obtain ⟨ds, v, b⟩ := F.binds1 n j hd hn hb
  exact ⟨f, fd, ds, h f fd F, hm, F.kp, v, b⟩
end
section
variable {X : Cx} {CX : CXT} {k : Nat} {x : Str} {ps : List Str} {dvs : List V} {sp : Sp} {E : XK} {p pos : Pos} {e : Expr} {es : List Expr} {t : TA}
theorem pe_calD (C : CalD X.prog X.w X.K X.mg X.base CX k x ps dvs sp) (hr : Room k X.A) (hx : Passes CX X E) (ha : PA X (e :: es) t) (hg : Gl X x := by rfl) (hdb : (x == ("__debug__" : Str)) = false := by decide)
    (he : starEach (e :: es) X.env = (false, eval e X.env) :: starEach es X.env := by rfl) (hpl : (backTo pos (starEach es X.env)).any (·.1) = false := by rfl) :
    PE X (.Call (.Name x p) (e :: es) [] pos) (tCal (spA sp dvs) E t) := by
  obtain ⟨f, fd, ds, F, hm, hk, hv, hb⟩ := C.ex
  exact pe_call (dvs := dvs) (pos := pos) (p := p) F hr hg hm hk hb hv hx ha hdb he hpl
end
end Px
namespace Dv
open PySem PySem.Spec PyProof.Rows L2 Px
section
variable {K : PySem.W.Frag} {al : TA} {dl : Env → (List T → Prop) → Prop}
theorem spD_app {c : List PyData → (T → Prop) → Prop} {vs : List V} {H : Hp} {Q : VK} {E : XK} {n : Int} (h : spD K (fun xs Q => c (xs ++ [.int n]) Q) vs H Q E) : spA (spD K c) [.int n] vs H Q E := by
  obtain ⟨G, ds, QD, s, d, hc, p⟩ := h
  exact ⟨G, ds ++ [.int n], QD, s, dpAll_app d (.cons (.int n) .nil), hc, p⟩
theorem lp_calI {c : List PyData → (T → Prop) → Prop} {sp : Sp} {E : XK} (hi : ∀ vs H Q E, spD K c vs H Q E → sp vs H Q E) (h : LA K al dl) : LP K (tCal sp E al) (dCal c dl) := fun x q p => h x q fun ts vs G1 H1 qt r1 v1 => by
  rcases qt with ⟨xs, e, q⟩ | ⟨nd, q⟩
  · exact hi _ _ _ _ ⟨G1, xs, _, r1.s, stab_of v1 e, q, p.next r1⟩
  · refine hi _ _ _ _ ⟨H1, ts.map T.rd, _, Same.refl _, rds_of r1.s v1 nd, q, fun t v G2 H2 ⟨sc, qt⟩ r2 v2 f2 => ?_⟩
    have r3 : Gr G1 H1 G1 H2 := ⟨Same.refl _, r2.h, r1.s.trans r2.h, fun _ _ z => z⟩
    refine p t v G1 H2 qt (r1.trans r3) ?_ fun b f => r1.h.free (f2 b f)
    cases t with
    | g y => exact dp_scal v2 sc
    | l ds =>
      obtain ⟨a, ws, rfl, h1, h2, h3⟩ := v2
      exact ⟨a, ws, rfl, h1, r1.s.free (f2 a rfl), dpAll_scal h3 sc⟩
    | b _ => exact Bool.noConfusion sc
    | h _ => exact Bool.noConfusion sc
    | ll _ => exact Bool.noConfusion sc
    | tt _ => exact Bool.noConfusion sc
    | ob _ _ => exact Bool.noConfusion sc
    | u => exact Bool.noConfusion sc
    | p _ => exact Bool.noConfusion sc
theorem lp_calD {c : List PyData → (T → Prop) → Prop} {E : XK} {n : Int} (h : LA K al dl) : LP K (tCal (spA (spD K c) [.int n]) E al) (dCal (fun xs Q => c (xs ++ [.int n]) Q) dl) := lp_calI (fun _ _ _ _ => spD_app) h
theorem ok_defD {P : Program} {w : World} {mg : Str → Option Value} {base : Heap} {x qual : Str} {st : Stmt} {dvs : List V} {kws : List (Str × V)} {f : Addr} {fd : FuncData} {N ps : List Str} {k : Nat} {c : List PyData → (T → Prop) → Prop} (F : FunD K x qual (defArgs st) (defBody st) (defScope st) dvs kws f fd) (S : FnScope N ps (defScope st)) (len : ∀ xs QD, c xs QD → xs.length = ps.length)
    (hbody : ∀ (cdv : Value) (A : Around) (outer : List PySem.Env) (s : Shared) (H : Hp) (E : XK), Room k (A.deeper (envOfC qual (defScope st) s.heap.objs.size f cdv)) →
      ∃ t, PSs (cxOf CX0 P w K mg base N qual (defScope st) f cdv A outer s H E).nox (defBody st) t ∧ Body K N c t) : FnOk P w K mg base CX0 (k + 1) f fd ps (spD K c) := by
  refine F.ok S (fun vs H Q E h => ?_) (fun cdv A outer s H vs Q E hr h => ?_)
  · obtain ⟨G, xs, QD, _, d, hc, _⟩ := h
    rw [dpAll_len d, len xs QD hc]
  · obtain ⟨t, h1, d, h2, h3⟩ := hbody cdv A outer s H E hr
    exact ⟨t, h1.nox, run_def N h2 h h3⟩
/-! ### steps -/
variable {w : World} {ρ : Env} {Q : T → Prop} {i : Nat} {lk : Option Lock} {kvs : Kvs} {r : Bool} {dk da : Env → (T → Prop) → Prop}
def KIN (t : T) (kvs : Kvs) (φ : Bool → Bool) (Q : T → Prop) : Prop := ∃ ks, t.rd = (NestedKey.tup ks).data ∧ (NestedKey.tup ks).depth ≤ 8 ∧ Q (.g (.bool (φ (lookX kvs (.tup ks)).isSome)))
def KGET (t : T) (kvs : Kvs) (Q : T → Prop) : Prop := ∃ ks x, t.rd = (NestedKey.tup ks).data ∧ (NestedKey.tup ks).depth ≤ 8 ∧ lookX kvs (.tup ks) = some x ∧ Q (.g x)
def KDISP (w : World) (t u : T) (Q : T → Prop) : Prop := ∃ ks y, t.fz = .g (NestedKey.tup ks).data ∧ (NestedKey.tup ks).depth ≤ 8 ∧ u.fz = .g y ∧ Q (.ob (dOb w [(.tup ks, y)]) false)
def KPUT (w : World) (t u : T) (kvs : Kvs) (r : Bool) (i : Nat) (ρ : Env) (n : Env → Prop) : Prop := ∃ ks y, u.fz = .g (NestedKey.tup ks).data ∧ (NestedKey.tup ks).depth ≤ 8 ∧ t.fz = .g y ∧ kvs.length < 16777216 ∧ n (ρ.set i (some (.ob (dOb w (putX kvs (.tup ks) y)) r)))
def KOR (t u : T) (kvs : Kvs) (Q : T → Prop) : Prop := ∃ ks y, t.fz = .g (NestedKey.tup ks).data ∧ (NestedKey.tup ks).depth ≤ 8 ∧ u.fz = .g y ∧ Q (.g ((lookX kvs (.tup ks)).getD y))
def KGET1 (t : T) (kvs : Kvs) (Q : T → Prop) : Prop := ∃ ks, t.rd = (NestedKey.tup ks).data ∧ (NestedKey.tup ks).depth ≤ 8 ∧ Q (.g ((lookX kvs (.tup ks)).getD .none))
theorem w_inX {φ : Bool → Bool} (h : ρ[i]? = some (some (.ob (dLk w lk kvs) r))) (q : dk ρ fun t => KIN t kvs φ Q) : dInX w i φ dk ρ Q := ⟨lk, kvs, r, h, q⟩
theorem w_getX (h : ρ[i]? = some (some (.ob (dLk w lk kvs) r))) (q : dk ρ fun t => KGET t kvs Q) : dGetX w i dk ρ Q := ⟨lk, kvs, r, h, q⟩
theorem w_newX (q : Q (.ob (dOb w []) false)) : dNewX w ρ Q := q
theorem w_dispX (q : dk ρ fun t => da ρ fun u => KDISP w t u Q) : dDispX w dk da ρ Q := q
theorem w_putX {n b ct : Env → Prop} {rt : T → Env → Prop} (h : ρ[i]? = some (some (.ob (dOb w kvs) r))) (q : da ρ fun t => dk ρ fun u => KPUT w t u kvs r i ρ n) : dPutX w i dk da ⟨n, rt, b, ct, ex⟩ ρ := ⟨kvs, r, h, q⟩
theorem w_getOrX (h : ρ[i]? = some (some (.ob (dLk w lk kvs) r))) (q : dk ρ fun t => da ρ fun u => KOR t u kvs Q) : dGetOrX w i dk da ρ Q := ⟨lk, kvs, r, h, q⟩
theorem w_get1X (h : ρ[i]? = some (some (.ob (dLk w lk kvs) r))) (q : dk ρ fun t => KGET1 t kvs Q) : dGet1X w i dk ρ Q := ⟨lk, kvs, r, h, q⟩
theorem w_lenX (h : ρ[i]? = some (some (.ob (dLk w lk kvs) r))) (z : kvs.length ≤ 16777216) (q : Q (.g (.int (kvs.length : Nat)))) : dLenX w i ρ Q := ⟨lk, kvs, r, h, z, q⟩
theorem w_listX (h : ρ[i]? = some (some (.ob (dLk w lk kvs) r))) (z : kvs.length ≤ 16777216) (q : Q (.l (kvs.map fun p => p.1.data))) : dListX w i ρ Q := ⟨lk, kvs, r, h, z, q⟩
theorem w_setOb {i : Nat} {n : Env → Prop} {o : Ob} (q : n (ρ.set i (some (.ob o false)))) : SetK i ρ n (.ob o false) := .inr ⟨rfl, rfl, q⟩
theorem w_retVOb {i : Nat} {n b ct : Env → Prop} {rt : T → Env → Prop} {o : Ob} (h : ρ[i]? = some (some (.ob o false))) (q : rt (.ob o false) ρ) : dRetV i ⟨n, rt, b, ct, ex⟩ ρ := ⟨_, h, rfl, .inr q⟩
theorem w_retOb {rt : T → Env → Prop} {o : Ob} (q : rt (.ob o false) ρ) : RetK ρ rt (.ob o false) := .inr q
/-! ### the search's dict -/
variable {f : Fnd} {t u : T}
def msKs (s : MS) : List NestedKey := [NestedKey.num s.1, NestedKey.tup (s.2.1.map fun h => NestedKey.tup (h.map NestedKey.num)), NestedKey.num s.2.2]
theorem k_disp (s : MS) (e : Nat × Option (MS × Mv)) (h : t.fz = .g (msT s)) (h2 : u.fz = .g (entD e)) (q : Q (.ob (dOb w (fndD [(s, e)])) false)) : KDISP w t u Q :=
  ⟨msKs s, _, h.trans (by rw [← msK_data]; rfl), msK_depth s, h2, q⟩
theorem k_in {φ : Bool → Bool} (s : MS) (h : t.rd = msT s) (q : Q (.g (.bool (φ (decide (s ∈ keysF f)))))) : KIN t (fndD f) φ Q := by
  refine ⟨msKs s, h.trans (msK_data s).symm, msK_depth s, ?_⟩
  have e := in_fnd f s
  rw [← e] at q
  exact q
theorem k_get (s : MS) (e : Nat × Option (MS × Mv)) (h : t.rd = msT s) (hl : lookF f s = some e) (q : Q (.g (entD e))) : KGET t (fndD f) Q := by
  refine ⟨msKs s, entD e, h.trans (msK_data s).symm, msK_depth s, ?_, q⟩
  have e2 := look_fnd s f
  rw [hl] at e2
  exact e2
theorem k_put {n : Env → Prop} (s : MS) (e : Nat × Option (MS × Mv)) (h : u.fz = .g (msT s)) (h2 : t.fz = .g (entD e)) (hn : s ∉ keysF f) (z : f.length < 16777216) (q : n (ρ.set i (some (.ob (dOb w (fndD (f ++ [(s, e)]))) r)))) : KPUT w t u (fndD f) r i ρ n := by
  refine ⟨msKs s, entD e, h.trans (by rw [← msK_data]; rfl), msK_depth s, h2, by rw [fndD_len]; exact z, ?_⟩
  have e2 := put_fnd hn e
  rw [← e2] at q
  exact q
theorem entD_tup (e : Nat × Option (MS × Mv)) : ∃ x y, entD e = .tuple [.int (e.1 : Nat), x, y] := by
  obtain ⟨d, o⟩ := e
  cases o with
  | none => exact ⟨_, _, rfl⟩
  | some p => exact ⟨_, _, rfl⟩
theorem eqv_msT (s r : MS) : PyData.eqv (msT s) (msT r) = decide (s = r) := by
  have := eqv_ms (some s) r
  rw [show msD (some s) = msT s from rfl] at this
  rw [show msT r = stD r.1 r.2.1 r.2.2 from rfl, this]
  by_cases h : s = r
  · simp [h]
  · simp [h]
theorem w_neM (s r : MS) (h1 : t.rd = msT s) (h2 : u.rd = msT r) (q : Q (.g (.bool (!decide (s = r))))) : dNeD t u Q := by
  have a := shaped_ms (some s)
  have b := shaped_ms (some r)
  refine ⟨by rw [h1]; exact a, by rw [h2]; exact b, ?_⟩
  rw [h1, h2, eqv_msT]
  exact q
theorem w_eqM (s r : MS) (h1 : t.rd = msT s) (h2 : u.rd = msT r) (q : Q (.g (.bool (decide (s = r))))) : dEqD t u Q := by
  have a := shaped_ms (some s)
  have b := shaped_ms (some r)
  refine ⟨by rw [h1]; exact a, by rw [h2]; exact b, ?_⟩
  rw [h1, h2, eqv_msT]
  exact q
theorem mss_at {f : Fnd} {i : Nat} {e : MS × Nat × Option (MS × Mv)} (h : f[i]? = some e) : atI (mssD (keysF f)) (i : Int) = some (msT e.1) := by
  refine atI_of (by omega) ?_
  unfold mssD keysF
  rw [Int.toNat_natCast, List.getElem?_map, List.getElem?_map, h]
  rfl
end
end Dv

set_option Elab.async false
set_option linter.all false
set_option maxRecDepth 100000
set_option maxHeartbeats 4000000
namespace Px
open PySem PySem.Spec PyProof.Rows L2
/-- raise C('..') -/
def tRaise (W : WX) (C : Addr) : TS := fun _ σ H => W (.ref C) none σ H
section
variable {X : Cx} {CX : CXT} {k : Nat} {x : Str} {ps : List Str} {dvs : List V} {sp : Sp} {E : L2.St → XK} {p pos : Pos} {e : Expr} {es : List Expr} {t : TA}
theorem pe_calSD (C : CalD X.prog X.w X.K X.mg X.base CX k x ps dvs sp) (hr : Room k X.A) (hx : ∀ σ, PassesAt CX X σ (E σ)) (ha : PA X (e :: es) t) (hg : Gl X x := by rfl) (hdb : (x == ("__debug__" : Str)) = false := by decide)
    (he : starEach (e :: es) X.env = (false, eval e X.env) :: starEach es X.env := by rfl) (hpl : (backTo pos (starEach es X.env)).any (·.1) = false := by rfl) :
    PE X (.Call (.Name x p) (e :: es) [] pos) (tCallSD sp dvs E t) := by
  obtain ⟨f, fd, ds, F, hm, hk, hv, hb⟩ := C.ex
  exact pe_callSD F hr hg hm hk hb hv hx ha hdb he hpl
end
theorem ps_raiseC {X : Cx} {W : WX} {e : Expr} {C : Addr} {pos : Pos} (hc : X.calm = true) (tk : Takes X W) (he : PMk X e (fun _ H Q => Q (.ref C) none H)) : PS X (.Raise (some e) none pos) (tRaise W C) := ps_raise hc tk he
end Px
namespace Dv
open PySem PySem.Spec PyProof.Rows L2 Px
/-! ### readings that may raise an own error -/
def PoX (X : XP) (G H : Hp) : Prop := ∀ C G' H', X.p C → Gr G H G' H' → X.k C H'
theorem PoX.next {X : XP} {G H G1 H1 : Hp} (p : PoX X G H) (r : Gr G H G1 H1) : PoX X G1 H1 := fun C G' H' q r' => p C G' H' q (r.trans r')
abbrev DXE := Env → (T → Prop) → XP → Prop
abbrev DXT := Env → (Bool → Prop) → XP → Prop
def LX (K : PySem.W.Frag) (te : TE) (de : DXE) : Prop := ∀ {G0 H0 : Hp} {M : Addr → Prop} {ρ : Env} {σ : L2.St} {G H : Hp} {QD : T → Prop} {X : XP} {Q : VK}, Iv K G0 H0 M ρ σ G H → de ρ QD X → Po K QD G H Q → PoX X G H → te σ H Q
def LXT (K : PySem.W.Frag) (te : TT) (de : DXT) : Prop := ∀ {G0 H0 : Hp} {M : Addr → Prop} {ρ : Env} {σ : L2.St} {G H : Hp} {QD : Bool → Prop} {X : XP} {Q : Bool → Hp → Prop}, Iv K G0 H0 M ρ σ G H → de ρ QD X → PoT QD G H Q → PoX X G H → te σ H Q
/-- a promise that tells of an own error too -/
abbrev CE := List PyData → (T → Prop) → (Addr → Prop) → Prop
def spDE (K : PySem.W.Frag) (c : CE) : Sp := fun vs H Q E => ∃ G ds QD QX, Same G H ∧ DpAll K G vs ds ∧ c ds QD QX ∧ Po K QD G H Q ∧ ∀ C G' H', QX C → Gr G H G' H' → E (.ref C) none H'
section
variable {K : PySem.W.Frag} {w : World} {ta tb tk td : TE} {pa pb dk : Env → (T → Prop) → Prop} {xa xb : DXE} {tt tu : TT} {yt yu : DXT} {dt : Env → (Bool → Prop) → Prop} {al : TA} {dl : Env → (List T → Prop) → Prop} {s1 s2 : TS} {d1 d2 : DS}
def xP (pa : Env → (T → Prop) → Prop) : DXE := fun ρ Q _ => pa ρ Q
theorem lx_p (h : LP K ta pa) : LX K ta (xP pa) := fun x q p _ => h x q p
def xCal (W : WX) (c : CE) (dl : Env → (List T → Prop) → Prop) : DXE := fun ρ Q X => (∀ σ C H, X.k C H → W (.ref C) none σ H) ∧ dl ρ fun ts => ∃ xs, stab ts = some xs ∧ c xs Q X.p
theorem lx_cal {W : WX} {c : CE} (h : LA K al dl) : LX K (tCallS (spDE K c) (WE W) al) (xCal W c dl) := fun {G0 H0 M ρ σ G H QD X Q} x ⟨hW, q⟩ p px => h x q fun ts vs G1 H1 ⟨xs, e, qc⟩ r1 v1 => ⟨G1, xs, QD, X.p, r1.s, stab_of v1 e, qc, p.next r1, fun C G' H' qx r => hW _ _ _ (px C G' H' qx (r1.trans r))⟩
/-- the same with a default behind -/
def xCalD (W : WX) (c : CE) (n : Int) (dl : Env → (List T → Prop) → Prop) : DXE := fun ρ Q X => (∀ σ C H, X.k C H → W (.ref C) none σ H) ∧ dl ρ fun ts => ∃ xs, stab ts = some xs ∧ c (xs ++ [.int n]) Q X.p
theorem lx_calD {W : WX} {c : CE} {n : Int} (h : LA K al dl) : LX K (tCallSD (spDE K c) [.int n] (WE W) al) (xCalD W c n dl) := fun {G0 H0 M ρ σ G H QD X Q} x ⟨hW, q⟩ p px => h x q fun ts vs G1 H1 ⟨xs, e, qc⟩ r1 v1 => ⟨G1, xs ++ [.int n], QD, X.p, r1.s, dpAll_app (stab_of v1 e) (.cons (.int n) .nil), qc, p.next r1, fun C G' H' qx r => hW _ _ _ (px C G' H' qx (r1.trans r))⟩
def xOp (dr : DR) (xa xb : DXE) : DXE := fun ρ Q X => xa ρ (fun t => xb ρ (fun u => dr t u Q) X) X
theorem lx_op {r : R2} {dr : DR} (ha : LX K ta xa) (hb : LX K tb xb) (hr : OR K r dr) : LX K (tOp r ta tb) (xOp dr xa xb) := fun x q p px =>
  ha x q (fun t v G1 H1 qt r1 v1 f1 => hb (x.mono r1) qt (fun u w G2 H2 qu r2 v2 f2 => hr r2.s (v1.mono r2) v2 qu (p.next (r1.trans r2))) (px.next r1)) px
/-- key in a dict that is made just now -/
def INX (w : World) (t u : T) (f : Bool → Bool) (Q : T → Prop) : Prop := ∃ lk kvs r ks, u = .ob (dLk w lk kvs) r ∧ t.fz = .g (NestedKey.tup ks).data ∧ (NestedKey.tup ks).depth ≤ 8 ∧ Q (.g (.bool (f (lookX kvs (.tup ks)).isSome)))
def xInX (w : World) (f : Bool → Bool) (dk : Env → (T → Prop) → Prop) (xd : DXE) : DXE := fun ρ Q X => dk ρ fun t => xd ρ (fun u => INX w t u f Q) X
theorem lx_inX {xd : DXE} (hk : LP K tk dk) (hd : LX K td xd) : LX K (tOp (rInX K w) tk td) (xInX w id dk xd) := fun {G0 H0 M ρ σ G H QD X Q} x q p px => hk x q fun t v G1 H1 qt r1 v1 f1 => by
  obtain ⟨G2, r2, g2, v2⟩ := fz_post r1 v1 f1
  refine hd (x.mono r2) qt (fun u vd G3 H3 qu r3 v3 f3 => ?_) (px.next r2)
  obtain ⟨lk, kvs, r, ks, rfl, ek, z, qu⟩ := qu
  obtain ⟨d, xs, rfl, h1, h2, h3, _⟩ := v3
  rw [ek] at v2
  have dk : Dp K G3 v (NestedKey.tup ks).data := dp_same r3.g v2
  obtain ⟨a, rfl⟩ := key_ref dk
  refine ⟨a, d, .tup ks, xs, rfl, rfl, dp_same r3.s dk, z, lk_rd h1, entG_entX r3.s h3, ?_⟩
  show Q (.bl (atKey xs (.tup ks)).isSome) H3
  rw [entG_some h3]
  exact (p.next (r2.trans r3)).scal r3.s (.bl _) qu
/-- list of a dict that is made just now -/
def LSTX (w : World) (u : T) (Q : T → Prop) : Prop := ∃ lk kvs r, u = .ob (dLk w lk kvs) r ∧ kvs.length ≤ 16777216 ∧ Q (.l (kvs.map fun p => p.1.data))
def xListX (w : World) (xd : DXE) : DXE := fun ρ Q X => xd ρ (fun u => LSTX w u Q) X
theorem lx_listX {xd : DXE} (hd : LX K td xd) : LX K (tCB (rListX K w) (tCons td tNil)) (xListX w xd) := fun {G0 H0 M ρ σ G H QD X Q} x q p px => hd x q (fun u vd G3 H3 qu r3 v3 f3 => by
  obtain ⟨lk, kvs, r, rfl, z, qu⟩ := qu
  obtain ⟨d, xs, rfl, h1, h2, h3, _⟩ := v3
  exact ⟨d, xs, rfl, lk_rd h1, by rw [entG_len h3, sizeLine_eq]; exact z, (p.next r3).lst r3.s (entG_keys h3) qu⟩) px
/-! ### tests -/
def yP (dt : Env → (Bool → Prop) → Prop) : DXT := fun ρ Q _ => dt ρ Q
theorem lxt_p (h : LT K tt dt) : LXT K tt (yP dt) := fun x q p _ => h x q p
def yTest (xa : DXE) : DXT := fun ρ Q X => xa ρ (fun t => ∃ c, t.rd = .bool c ∧ Q c) X
theorem lxt_test (ha : LX K ta xa) : LXT K (tTest ta) (yTest xa) := fun x q p px => ha x q (fun t v G1 H1 ⟨c, e, qt⟩ r1 v1 f1 => ⟨c, vr_bl r1.s v1 e, p c G1 H1 qt r1⟩) px
theorem lxt_tB (ha : LX K ta xa) : LXT K (tB ta) (yTest xa) := fun x q p px => ha x q (fun t v G1 H1 ⟨c, e, qt⟩ r1 v1 f1 => ⟨c, vr_bl r1.s v1 e, p c G1 H1 qt r1⟩) px
def yNot (yt : DXT) : DXT := fun ρ Q X => yt ρ (fun c => Q (!c)) X
theorem lxt_not (h : LXT K tt yt) : LXT K (tNot tt) (yNot yt) := fun x q p px => h x q (fun c G1 H1 qc r1 => p (!c) G1 H1 qc r1) px
def yAnd (yt yu : DXT) : DXT := fun ρ Q X => yt ρ (fun c => if c = true then yu ρ Q X else Q false) X
def yOr (yt yu : DXT) : DXT := fun ρ Q X => yt ρ (fun c => if c = true then Q true else yu ρ Q X) X
theorem lxt_and (h1 : LXT K tt yt) (h2 : LXT K tu yu) : LXT K (tAnd tt tu) (yAnd yt yu) := fun x q p px => h1 x q (fun c G1 H1 qc r1 => by
  cases c with
  | true => exact h2 (x.mono r1) qc (p.next r1) (px.next r1)
  | false => exact p false G1 H1 qc r1) px
theorem lxt_or (h1 : LXT K tt yt) (h2 : LXT K tu yu) : LXT K (tOr tt tu) (yOr yt yu) := fun x q p px => h1 x q (fun c G1 H1 qc r1 => by
  cases c with
  | true => exact p true G1 H1 qc r1
  | false => exact h2 (x.mono r1) qc (p.next r1) (px.next r1)) px
/-! ### statements -/
theorem EndsOk.px {G0 H0 G H : Hp} {M : Addr → Prop} {DD : DE} {D : Ends} {ρ : Env} {σ : L2.St} (E : EndsOk K G0 H0 M DD D) (x : Iv K G0 H0 M ρ σ G H) : PoX DD.ex G H := fun C G' H' q r => E.ex C ρ σ G' H' (x.mono r) q
def xSet (i : Nat) (xa : DXE) : DS := fun DD ρ => xa ρ (fun t => SetK i ρ DD.nx t) DD.ex
theorem lsx_set {i : Nat} (ha : LX K ta xa) : LS K (tAsg ta (gName i)) (xSet i xa) := fun {G0 H0 M DD D ρ σ G H} E x q => ha x q (fun t v G1 H1 qt r1 v1 f1 => by
  rcases qt with ⟨d, ed, q⟩ | ⟨h1, h2, q⟩
  · obtain ⟨G2, r2, g2, v2⟩ := fz_post r1 v1 f1
    rw [ed] at v2
    exact E.nx _ _ _ _ ((x.mono r2).set0 rfl v2 fun _ f => f.elim) q
  · exact E.nx _ _ _ _ (x.setN r1 h1 h2 v1 f1) q) (E.px x)
def xAsg (xa : DXE) (dg : PyData → Env → (Env → Prop) → Prop) : DS := fun DD ρ => xa ρ (fun t => ∃ d, t.fz = .g d ∧ dg d ρ DD.nx) DD.ex
theorem lsx_asg {g : TG} {js : List Nat} {dg : PyData → Env → (Env → Prop) → Prop} (ha : LX K ta xa) (hg : LG K g js dg) : LS K (tAsg ta g) (xAsg xa dg) := fun {G0 H0 M DD D ρ σ G H} E x q => ha x q (fun t v G1 H1 ⟨d, ed, q⟩ r1 v1 f1 => by
  obtain ⟨G2, r2, g2, v2⟩ := fz_post r1 v1 f1
  rw [ed] at v2
  exact hg (x.mono r2) v2 q fun ρ' σ' qe x' _ _ => E.nx _ _ _ _ x' qe) (E.px x)
def xRet (xa : DXE) : DS := fun DD ρ => xa ρ (fun t => RetK ρ DD.rt t) DD.ex
theorem lsx_ret (ha : LX K ta xa) : LS K (tRet ta) (xRet xa) := fun {G0 H0 M DD D ρ σ G H} E x q => ha x q (fun t v G1 H1 qt r1 v1 f1 => by
  rcases qt with ⟨d, ed, q⟩ | q
  · obtain ⟨G2, r2, g2, v2⟩ := fz_post r1 v1 f1
    rw [ed] at v2
    exact E.rt _ _ _ _ _ _ (x.mono r2) v2 (fun _ f => f.elim) q
  · exact E.rt _ _ _ _ _ _ (x.mono r1) v1 (fun b f => x.h0 (f1 b f)) q) (E.px x)
def xDrop (xa : DXE) : DS := fun DD ρ => xa ρ (fun _ => DD.nx ρ) DD.ex
theorem lsx_drop (ha : LX K ta xa) : LS K (tDrop ta) (xDrop xa) := fun E x q => ha x q (fun t v G1 H1 qt r1 _ _ => E.nx _ _ _ _ (x.mono r1) qt) (E.px x)
def xIf (yt : DXT) (d1 d2 : DS) : DS := fun DD ρ => yt ρ (fun c => if c = true then d1 DD ρ else d2 DD ρ) DD.ex
theorem lsx_if (ht : LXT K tt yt) (h1 : LS K s1 d1) (h2 : LS K s2 d2) : LS K (tIfS tt s1 s2) (xIf yt d1 d2) := fun E x q => ht x q (fun c G1 H1 qc r1 => by
  cases c with
  | true => exact h1 E (x.mono r1) qc
  | false => exact h2 E (x.mono r1) qc) (E.px x)
/-- d[k] = e, e may raise -/
def xPutX (w : World) (i : Nat) (dk : Env → (T → Prop) → Prop) (xa : DXE) : DS := fun DD ρ => ∃ kvs r, ρ[i]? = some (some (.ob (dOb w kvs) r)) ∧ xa ρ (fun t => dk ρ fun u => ∃ ks y, u.fz = .g (NestedKey.tup ks).data ∧ (NestedKey.tup ks).depth ≤ 8 ∧ t.fz = .g y ∧ kvs.length < 16777216 ∧ DD.nx (ρ.set i (some (.ob (dOb w (putX kvs (.tup ks) y)) r)))) DD.ex
theorem lsx_putX {i : Nat} (ha : LX K ta xa) (hk : LP K tk dk) : LS K (sPutX K w (tVar i) tk ta) (xPutX w i dk xa) := fun {G0 H0 M DD D ρ σ G H} E x ⟨kvs, r, e, q⟩ => ha x q (fun t v G1 H1 qt r1 v1 f1 => by
  obtain ⟨G2, r2, g2, v2⟩ := fz_post r1 v1 f1
  obtain ⟨d, xs0, f, _⟩ := ob_slot x e
  refine ⟨_, f, hk (x.mono r2) qt fun u vk G3 H3 ⟨ks, y, e1, z, e3, zl, q⟩ r3 v3 f3 => ?_⟩
  obtain ⟨G4, r4, g4, v4⟩ := fz_post r3 v3 f3
  have x3 := (x.mono r2).mono r4
  obtain ⟨d', ys, s2, h1, h2, h3⟩ := ob_slot x3 e
  rw [f] at s2
  cases s2
  rw [e3] at v2
  rw [e1] at v4
  obtain ⟨a, rfl⟩ := key_ref v4
  refine ⟨a, d, .tup ks, ys, rfl, rfl, dp_same r4.s v4, z, h1, entG_entX r4.s h3, ?_, fun c rc => E.nx _ _ _ _ (x3.mutOb (xs := ys) e f (entG_put h3 v4 z rc (dp_same r4.g v2))) q⟩
  rw [entG_len h3, sizeLine_eq]
  exact zl) (E.px x)
def dRaise (W : WX) (C : Addr) : DS := fun DD _ => (∀ σ H, DD.ex.k C H → W (.ref C) none σ H) ∧ DD.ex.p C
theorem ls_raise {W : WX} {C : Addr} : LS K (tRaise W C) (dRaise W C) := fun {G0 H0 M DD D ρ σ G H} E x ⟨h, q⟩ => h _ _ (E.ex C ρ σ G H x q)
/-! ### defs that may raise -/
def BodyE (K : PySem.W.Frag) (N : List Str) (c : CE) (E : XK) (t : TS) : Prop := ∃ d, LS K t d ∧ ∀ xs QD QX, c xs QD QX → d ⟨fun _ => QD (.g .none), fun t _ => QD t, fun _ => False, fun _ => False, ⟨fun C H => E (.ref C) none H, QX⟩⟩ (startD N xs)
theorem bodyE_of {N : List Str} {c : CE} {E : XK} {t : TS} {d : DS} (h : LS K t d) (q : ∀ xs QD QX, c xs QD QX → d ⟨fun _ => QD (.g .none), fun t _ => QD t, fun _ => False, fun _ => False, ⟨fun C H => E (.ref C) none H, QX⟩⟩ (startD N xs)) : BodyE K N c E t := ⟨d, h, q⟩
theorem run_defE {c : CE} {vs : List V} {H : Hp} {Q : VK} {E : XK} {ts : TS} {ds : DS} (N : List Str) (h : LS K ts ds) (hq : spDE K c vs H Q E)
    (hd : ∀ xs QD QX, c xs QD QX → ds ⟨fun _ => QD (.g .none), fun t _ => QD t, fun _ => False, fun _ => False, ⟨fun C H => E (.ref C) none H, QX⟩⟩ (startD N xs)) : ts { nx := fun _ H' => Q .non H', rt := Q } (L2.start N vs) H := by
  obtain ⟨G, xs, QD, QX, s, d, hc, p, px⟩ := hq
  exact h (D := { nx := fun _ H' => Q .non H', rt := Q }) ⟨fun ρ σ G1 H1 y q => p (.g .none) .non G1 H1 q (ends_gr y) .non fun _ f => f.elim, fun _ _ _ _ _ z => (z : False).elim, fun _ _ _ _ _ z => (z : False).elim, fun ρ σ G1 H1 t v y a b q => p t v G1 H1 q (ends_gr y) a b, fun C ρ σ G1 H1 y q => px C G1 H1 q (ends_gr y)⟩ (start_iv N s d) (hd xs QD QX hc)
theorem ok_defE {P : Program} {mg : Str → Option Value} {base : Heap} {x qual : Str} {st : Stmt} {f : Addr} {fd : FuncData} {N ps : List Str} {k : Nat} {c : CE} (F : Fun K x qual st f fd) (S : FnScope N ps (defScope st)) (len : ∀ xs QD QX, c xs QD QX → xs.length = ps.length)
    (hbody : ∀ (cdv : Value) (A : Around) (outer : List PySem.Env) (s : Shared) (H : Hp) (E : XK), Room k (A.deeper (envOfC qual (defScope st) s.heap.objs.size f cdv)) →
      ∃ t, PSs (cxOf (L2.CX P w) P w K mg base N qual (defScope st) f cdv A outer s H E) (defBody st) t ∧ BodyE K N c E t) : FnOk P w K mg base (L2.CX P w) (k + 1) f fd ps (spDE K c) := by
  refine F.okX S (fun vs H Q E h => ?_) (fun cdv A outer s H vs Q E hr h => ?_)
  · obtain ⟨G, xs, QD, QX, _, d, hc, _⟩ := h
    rw [dpAll_len d, len xs QD QX hc]
  · obtain ⟨t, h1, d, h2, h3⟩ := hbody cdv A outer s H E hr
    exact ⟨t, h1, run_defE N h2 h h3⟩
theorem ok_defED {P : Program} {mg : Str → Option Value} {base : Heap} {x qual : Str} {st : Stmt} {dvs : List V} {kws : List (Str × V)} {f : Addr} {fd : FuncData} {N ps : List Str} {k : Nat} {c : CE} (F : FunD K x qual (defArgs st) (defBody st) (defScope st) dvs kws f fd) (S : FnScope N ps (defScope st)) (len : ∀ xs QD QX, c xs QD QX → xs.length = ps.length)
    (hbody : ∀ (cdv : Value) (A : Around) (outer : List PySem.Env) (s : Shared) (H : Hp) (E : XK), Room k (A.deeper (envOfC qual (defScope st) s.heap.objs.size f cdv)) →
      ∃ t, PSs (cxOf (L2.CX P w) P w K mg base N qual (defScope st) f cdv A outer s H E) (defBody st) t ∧ BodyE K N c E t) : FnOk P w K mg base (L2.CX P w) (k + 1) f fd ps (spDE K c) := by
  refine F.ok S (fun vs H Q E h => ?_) (fun cdv A outer s H vs Q E hr h => ?_)
  · obtain ⟨G, xs, QD, QX, _, d, hc, _⟩ := h
    rw [dpAll_len d, len xs QD QX hc]
  · obtain ⟨t, h1, d, h2, h3⟩ := hbody cdv A outer s H E hr
    exact ⟨t, h1, run_defE N h2 h h3⟩
/-! ### steps -/
variable {ρ : Env} {Q : T → Prop} {QB : Bool → Prop} {X : XP} {i : Nat} {n b ct : Env → Prop} {rt : T → Env → Prop} {ex : XP}
theorem w_xP (q : pa ρ Q) : xP pa ρ Q X := q
theorem w_xcal {W : WX} {c : CE} (hW : ∀ σ C H, X.k C H → W (.ref C) none σ H) (q : dl ρ fun ts => ∃ xs, stab ts = some xs ∧ c xs Q X.p) : xCal W c dl ρ Q X := ⟨hW, q⟩
theorem w_xcalD {W : WX} {c : CE} {m : Int} (hW : ∀ σ C H, X.k C H → W (.ref C) none σ H) (q : dl ρ fun ts => ∃ xs, stab ts = some xs ∧ c (xs ++ [.int m]) Q X.p) : xCalD W c m dl ρ Q X := ⟨hW, q⟩
theorem w_xop {dr : DR} (q : xa ρ (fun t => xb ρ (fun u => dr t u Q) X) X) : xOp dr xa xb ρ Q X := q
theorem w_xinX {f : Bool → Bool} (q : dk ρ fun t => xa ρ (fun u => INX w t u f Q) X) : xInX w f dk xa ρ Q X := q
theorem w_xlistX (q : xa ρ (fun u => LSTX w u Q) X) : xListX w xa ρ Q X := q
theorem w_yP (q : dt ρ QB) : yP dt ρ QB X := q
theorem w_yTest (q : xa ρ (fun t => ∃ c, t.rd = .bool c ∧ QB c) X) : yTest xa ρ QB X := q
theorem w_yNot (q : yt ρ (fun c => QB (!c)) X) : yNot yt ρ QB X := q
theorem w_yAnd (q : yt ρ (fun c => if c = true then yu ρ QB X else QB false) X) : yAnd yt yu ρ QB X := q
theorem w_yOr (q : yt ρ (fun c => if c = true then QB true else yu ρ QB X) X) : yOr yt yu ρ QB X := q
theorem w_xset (q : xa ρ (fun t => SetK i ρ n t) ex) : xSet i xa ⟨n, rt, b, ct, ex⟩ ρ := q
theorem w_xasg {dg : PyData → Env → (Env → Prop) → Prop} (q : xa ρ (fun t => ∃ d, t.fz = .g d ∧ dg d ρ n) ex) : xAsg xa dg ⟨n, rt, b, ct, ex⟩ ρ := q
theorem w_xret (q : xa ρ (fun t => RetK ρ rt t) ex) : xRet xa ⟨n, rt, b, ct, ex⟩ ρ := q
theorem w_xdrop (q : xa ρ (fun _ => n ρ) ex) : xDrop xa ⟨n, rt, b, ct, ex⟩ ρ := q
theorem w_xif (q : yt ρ (fun c => if c = true then d1 ⟨n, rt, b, ct, ex⟩ ρ else d2 ⟨n, rt, b, ct, ex⟩ ρ) ex) : xIf yt d1 d2 ⟨n, rt, b, ct, ex⟩ ρ := q
theorem w_raise {W : WX} {C : Addr} {k : Addr → Hp → Prop} {p : Addr → Prop} (h : ∀ σ H, k C H → W (.ref C) none σ H) (q : p C) : dRaise W C ⟨n, rt, b, ct, ⟨k, p⟩⟩ ρ := ⟨h, q⟩
theorem w_xputX {kvs : Kvs} {r : Bool} (h : ρ[i]? = some (some (.ob (dOb w kvs) r))) (q : xa ρ (fun t => dk ρ fun u => KPUT w t u kvs r i ρ n) ex) : xPutX w i dk xa ⟨n, rt, b, ct, ex⟩ ρ := ⟨kvs, r, h, q⟩
theorem w_inst {f : Bool → Bool} {t : T} {o : Fnd} {lk : Option Lock} {r : Bool} (s : MS) (h : t.fz = .g (msT s)) (q : Q (.g (.bool (f (decide (s ∈ keysF o)))))) : INX w t (.ob (dLk w lk (fndD o)) r) f Q := by
  refine ⟨lk, _, r, msKs s, rfl, h.trans (by rw [← msK_data]; rfl), msK_depth s, ?_⟩
  have e := in_fnd o s
  rw [← e] at q
  exact q
end
end Dv

set_option Elab.async false
set_option linter.all false
set_option maxRecDepth 100000
set_option maxHeartbeats 4000000
namespace Dv
open PySem PySem.Spec PyProof.Rows L2 Px
/-! ### a def that may raise, where it doesn't -/
theorem fn_calm {P : Program} {w : World} {K : PySem.W.Frag} {mg : Str → Option Value} {base : Heap} {k : Nat} {f : Addr} {fd : FuncData} {ps : List Str} {sp sp' : Sp} (F : FnOk P w K mg base (L2.CX P w) k f fd ps sp) (h : ∀ vs H Q E, sp' vs H Q E → sp vs H Q (fun _ _ _ => False)) : FnOk P w K mg base CX0 k f fd ps sp' :=
  ⟨fun vs H Q E q => F.len vs H Q _ (h _ _ _ _ q), fun A outer s H args us vs Q E hr he hb hv hs => codeAny_mono (F.run A outer s H args us vs Q _ hr he hb hv (h _ _ _ _ hs)) fun r s' q => by
    cases r with
    | error e =>
      obtain ⟨a, B, H', cls, d, _, _, _, _, _, _, _, z⟩ := q
      exact z.elim
    | ok fl => cases fl <;> exact q⟩
theorem spDE_calm {K : PySem.W.Frag} {c : CE} {vs : List V} {H : Hp} {Q : VK} {E : XK} (h : spD K (fun xs QD => c xs QD fun _ => False) vs H Q E) : spDE K c vs H Q (fun _ _ _ => False) := by
  obtain ⟨G, ds, QD, s, d, hc, p⟩ := h
  exact ⟨G, ds, QD, fun _ => False, s, d, hc, p, fun _ _ _ z _ => z⟩
theorem cal_calm {P : Program} {w : World} {K : PySem.W.Frag} {mg : Str → Option Value} {base : Heap} {k : Nat} {x : Str} {ps : List Str} {c : CE} (C : Cal P w K mg base (L2.CX P w) k x ps (spDE K c)) : Cal P w K mg base CX0 k x ps (spD K fun xs QD => c xs QD fun _ => False) := by
  obtain ⟨f, fd, F, a, b, d⟩ := C.ex
  exact ⟨f, fd, fn_calm F fun _ _ _ _ => spDE_calm, a, b, d⟩
theorem calD_calm {P : Program} {w : World} {K : PySem.W.Frag} {mg : Str → Option Value} {base : Heap} {k : Nat} {x : Str} {ps : List Str} {dvs : List V} {c : CE} (C : CalD P w K mg base (L2.CX P w) k x ps dvs (spDE K c)) : CalD P w K mg base CX0 k x ps dvs (spD K fun xs QD => c xs QD fun _ => False) := by
  obtain ⟨f, fd, ds, F, a, b, d⟩ := C.ex
  exact ⟨f, fd, ds, fn_calm F fun _ _ _ _ => spDE_calm, a, b, d⟩
/-! ### the search that is refused where too much is found -/
/-- none: refused -/
def add1M (goal : Option MS) (most : Option Int) (s : MS) (d : Nat) (f : Fnd) (p : Mv × MS) : Option Fnd :=
  if (decide (p.2 ∈ keysF f) || goalIn goal f) = true then some f else if (decide (goal ≠ some p.2) && decide (most = some ((f.length : Nat) : Int))) = true then none else some (f ++ [(p.2, d + 1, some (s, p.1))])
def addM (goal : Option MS) (most : Option Int) (s : MS) (d : Nat) : List (Mv × MS) → Fnd → Option Fnd
  | [], f => some f
  | p :: l, f => (add1M goal most s d f p).bind (addM goal most s d l)
section
variable (ss : List Str) (ws : List Mv) (od : List Int) (goal : Option MS) (most : Option Int)
/-- so many turns at most; none: they are not enough; some none: refused -/
def bfsM : Nat → Nat → Fnd → Option (Option Fnd)
  | 0, _, _ => none
  | n + 1, i, f => match f[i]? with
    | none => some (some f)
    | some e => if goalIn goal f = true then some (some f) else match addM goal most e.1 e.2.1 (outsS ss ws od e.1) f with
      | none => some none
      | some f' => bfsM n (i + 1) f'
end
theorem add1M_some {goal : Option MS} {most : Option Int} {s : MS} {d : Nat} {f f' : Fnd} {p : Mv × MS} (h : add1M goal most s d f p = some f') : f' = add1 goal s d f p := by
  unfold add1M at h
  unfold add1
  split at h
  · rename_i c
    rw [if_pos c]
    exact (Option.some.inj h).symm
  · rename_i c
    rw [if_neg c]
    split at h
    · cases h
    · exact (Option.some.inj h).symm
theorem addM_some {goal : Option MS} {most : Option Int} {s : MS} {d : Nat} : ∀ {l : List (Mv × MS)} {f f' : Fnd}, addM goal most s d l f = some f' → f' = addF goal s d l f
  | [], f, f', h => (Option.some.inj h).symm
  | p :: l, f, f', h => by
    have h : (add1M goal most s d f p).bind (addM goal most s d l) = some f' := h
    cases e : add1M goal most s d f p with
    | none => rw [e] at h; cases h
    | some f1 =>
      rw [e] at h
      have h := addM_some (l := l) (f := f1) h
      rw [h, add1M_some e]
      rfl
/-- what stays: the keys differ, and are standings -/
structure FGd (ss : List Str) (od : List Int) (f : Fnd) : Prop where
  nd : (keysF f).Nodup
  good : ∀ s ∈ keysF f, StGood ss od s
theorem fgd_first {ss : List Str} {od : List Int} : FGd ss od (fnd0 ss) :=
  ⟨by simp [keysF, fnd0], fun s h => by
    have : s = first0 ss := by simpa [keysF, fnd0] using h
    subst this
    exact good_first ss od⟩
theorem fgd_add1 {ss : List Str} {od : List Int} {goal : Option MS} {f : Fnd} {s : MS} {d : Nat} {p : Mv × MS} (k : FGd ss od f) (g : StGood ss od p.2) : FGd ss od (add1 goal s d f p) := by
  unfold add1
  split
  · exact k
  · rename_i hc
    have hn : p.2 ∉ keysF f := fun z => hc (by rw [decide_eq_true z]; rfl)
    refine ⟨?_, fun t ht => ?_⟩
    · rw [keysF_app, List.nodup_append]
      refine ⟨k.nd, by simp [keysF], fun a ha b hb => ?_⟩
      have : b = p.2 := by simpa [keysF] using hb
      subst this
      exact fun z => hn (z ▸ ha)
    · rw [keysF_app] at ht
      rcases List.mem_append.mp ht with ht | ht
      · exact k.good t ht
      · have : t = p.2 := by simpa [keysF] using ht
        subst this
        exact g
theorem fgd_addF {ss : List Str} {od : List Int} {goal : Option MS} {s : MS} {d : Nat} : ∀ {l : List (Mv × MS)} {f : Fnd}, FGd ss od f → (∀ p ∈ l, StGood ss od p.2) → FGd ss od (addF goal s d l f)
  | [], _, k, _ => k
  | p :: l, f, k, h => fgd_addF (l := l) (f := add1 goal s d f p) (fgd_add1 k (h p List.mem_cons_self)) fun q hq => h q (List.mem_cons_of_mem _ hq)
theorem addM_mono {goal : Option MS} {most : Option Int} {s : MS} {d : Nat} {l : List (Mv × MS)} {f f' : Fnd} (h : addM goal most s d l f = some f') : f <+: f' := by
  rw [addM_some h]
  exact addF_mono
theorem bfsM_mono {ss : List Str} {ws : List Mv} {od : List Int} {goal : Option MS} {most : Option Int} : ∀ {n i : Nat} {f F : Fnd}, bfsM ss ws od goal most n i f = some (some F) → f <+: F
  | 0, i, f, F, h => by cases h
  | n + 1, i, f, F, h => by
    have h : (match f[i]? with
      | none => some (some f)
      | some e => if goalIn goal f = true then some (some f) else match addM goal most e.1 e.2.1 (outsS ss ws od e.1) f with
        | none => some none
        | some f' => bfsM ss ws od goal most n (i + 1) f') = some (some F) := h
    cases e : f[i]? with
    | none =>
      rw [e] at h
      cases h
      exact List.prefix_refl _
    | some x =>
      rw [e] at h
      dsimp only at h
      split at h
      · cases h
        exact List.prefix_refl _
      · cases ea : addM goal most x.1 x.2.1 (outsS ss ws od x.1) f with
        | none => rw [ea] at h; cases h
        | some f1 =>
          rw [ea] at h
          exact (addM_mono ea).trans (bfsM_mono h)
theorem bfsM_step {ss : List Str} {ws : List Mv} {od : List Int} {goal : Option MS} {most : Option Int} {n i : Nat} {f : Fnd} {e : MS × Nat × Option (MS × Mv)} (h : f[i]? = some e) (hg : goalIn goal f = false) : bfsM ss ws od goal most (n + 1) i f = match addM goal most e.1 e.2.1 (outsS ss ws od e.1) f with
      | none => some none
      | some f' => bfsM ss ws od goal most n (i + 1) f' := by
  show (match f[i]? with
      | none => some (some f)
      | some e => if goalIn goal f = true then some (some f) else match addM goal most e.1 e.2.1 (outsS ss ws od e.1) f with
        | none => some none
        | some f' => bfsM ss ws od goal most n (i + 1) f') = _
  rw [h]
  dsimp only
  rw [hg, if_neg (fun z => nomatch z)]
theorem bfsM_stop {ss : List Str} {ws : List Mv} {od : List Int} {goal : Option MS} {most : Option Int} {n i : Nat} {f : Fnd} (h : f[i]? = none ∨ goalIn goal f = true) : bfsM ss ws od goal most (n + 1) i f = some (some f) := by
  show (match f[i]? with
      | none => some (some f)
      | some e => if goalIn goal f = true then some (some f) else match addM goal most e.1 e.2.1 (outsS ss ws od e.1) f with
        | none => some none
        | some f' => bfsM ss ws od goal most n (i + 1) f') = _
  rcases h with h | h
  · rw [h]
  · rw [h]
    cases f[i]? <;> rfl
end Dv

set_option Elab.async false
set_option linter.all false
set_option maxRecDepth 100000
set_option maxHeartbeats 4000000
namespace Dv
open PySem PySem.Spec PyProof.Rows L2 Px
theorem fn_up {P : Program} {w : World} {K : PySem.W.Frag} {mg : Str → Option Value} {base : Heap} {k : Nat} {f : Addr} {fd : FuncData} {ps : List Str} {sp : Sp} (F : FnOk P w K mg base CX0 k f fd ps sp) : FnOk P w K mg base (L2.CX P w) k f fd ps sp :=
  ⟨F.len, fun A outer s H args us vs Q E hr he hb hv hs => codeAny_mono (F.run A outer s H args us vs Q E hr he hb hv hs) fun r s' q => by
    cases r with
    | error e => exact (show False from q).elim
    | ok fl => cases fl <;> exact q⟩
/-! ### what holds of all that is found -/
theorem bfsM_ind {ss : List Str} {ws : List Mv} {od : List Int} {goal : Option MS} {most : Option Int} (P : Fnd → Prop) (step : ∀ (f : Fnd) (e : MS × Nat × Option (MS × Mv)) (i : Nat), f[i]? = some e → P f → P (addF goal e.1 e.2.1 (outsS ss ws od e.1) f)) : ∀ {n i : Nat} {f F : Fnd}, bfsM ss ws od goal most n i f = some (some F) → P f → P F
  | 0, i, f, F, h, _ => by cases h
  | n + 1, i, f, F, h, p => by
    have h : (match f[i]? with
      | none => some (some f)
      | some e => if goalIn goal f = true then some (some f) else match addM goal most e.1 e.2.1 (outsS ss ws od e.1) f with
        | none => some none
        | some f' => bfsM ss ws od goal most n (i + 1) f') = some (some F) := h
    cases e : f[i]? with
    | none =>
      rw [e] at h
      cases h
      exact p
    | some x =>
      rw [e] at h
      dsimp only at h
      split at h
      · cases h
        exact p
      · cases ea : addM goal most x.1 x.2.1 (outsS ss ws od x.1) f with
        | none => rw [ea] at h; cases h
        | some f1 =>
          rw [ea] at h
          exact bfsM_ind P step h (addM_some ea ▸ step f x i e p)
/-- each found standing's ahead is found, one move less away -/
structure FPar (f : Fnd) : Prop where
  nd : (keysF f).Nodup
  par : ∀ s d o, lookF f s = some (d, o) → (d = 0 ∧ o = none) ∨ ∃ p m d', d = d' + 1 ∧ o = some (p, m) ∧ ∃ o', lookF f p = some (d', o')
theorem lookF_mem {f : Fnd} {s : MS} {e : Nat × Option (MS × Mv)} (h : lookF f s = some e) : (s, e) ∈ f := by
  induction f with
  | nil => cases h
  | cons x f ih =>
    by_cases q : x.1 = s
    · have h2 : lookF (x :: f) s = some x.2 := by simp [lookF, q]
      rw [h2] at h
      cases h
      rw [← q]
      exact List.mem_cons_self
    · have h2 : lookF (x :: f) s = lookF f s := by simp [lookF, q]
      rw [h2] at h
      exact List.mem_cons_of_mem _ (ih h)
theorem lookF_key {f : Fnd} {s : MS} {e : Nat × Option (MS × Mv)} (h : lookF f s = some e) : s ∈ keysF f := List.mem_map.mpr ⟨_, lookF_mem h, rfl⟩
theorem lookF_snoc {f : Fnd} {s t : MS} {e : Nat × Option (MS × Mv)} (hn : t ∉ keysF f) : lookF (f ++ [(t, e)]) s = if s = t then some e else lookF f s := by
  induction f with
  | nil =>
    by_cases q : s = t
    · simp [lookF, q]
    · have : ¬ t = s := fun z => q z.symm
      simp [lookF, q, this]
  | cons x f ih =>
    have hn' : t ∉ keysF f := fun z => hn (List.mem_cons_of_mem _ z)
    have hx : ¬ x.1 = t := fun z => hn (z ▸ List.mem_cons_self)
    by_cases q : x.1 = s
    · have h2 : lookF (x :: (f ++ [(t, e)])) s = some x.2 := by simp [lookF, q]
      have h3 : lookF (x :: f) s = some x.2 := by simp [lookF, q]
      have h4 : ¬ s = t := fun z => hx (q.trans z)
      rw [List.cons_append, h2, h3, if_neg h4]
    · have h2 : lookF (x :: (f ++ [(t, e)])) s = lookF (f ++ [(t, e)]) s := by simp [lookF, q]
      have h3 : lookF (x :: f) s = lookF f s := by simp [lookF, q]
      rw [List.cons_append, h2, h3, ih hn']
theorem fpar_first {ss : List Str} : FPar (fnd0 ss) := ⟨by simp [keysF, fnd0], fun s d o h => by
  have := lookF_mem h
  have e : (s, d, o) = (first0 ss, 0, none) := by simpa [fnd0] using this
  cases e
  exact .inl ⟨rfl, rfl⟩⟩
theorem fpar_add1 {goal : Option MS} {f : Fnd} {s : MS} {d : Nat} {o : Option (MS × Mv)} {p : Mv × MS} (k : FPar f) (hs : lookF f s = some (d, o)) : FPar (add1 goal s d f p) ∧ lookF (add1 goal s d f p) s = some (d, o) := by
  unfold add1
  split
  · exact ⟨k, hs⟩
  · rename_i hc
    have hn : p.2 ∉ keysF f := fun z => hc (by rw [decide_eq_true z]; rfl)
    have hsp : ¬ s = p.2 := fun z => hn (z ▸ lookF_key hs)
    refine ⟨⟨?_, fun t dt ot h => ?_⟩, by rw [lookF_snoc hn, if_neg hsp]; exact hs⟩
    · rw [keysF_app, List.nodup_append]
      refine ⟨k.nd, by simp [keysF], fun a ha b hb => ?_⟩
      have : b = p.2 := by simpa [keysF] using hb
      subst this
      exact fun z => hn (z ▸ ha)
    · rw [lookF_snoc hn] at h
      split at h
      · cases h
        exact .inr ⟨s, p.1, d, rfl, rfl, o, by rw [lookF_snoc hn, if_neg hsp]; exact hs⟩
      · rcases k.par t dt ot h with h1 | ⟨q, m, d', h1, h2, o', h3⟩
        · exact .inl h1
        · have hq : ¬ q = p.2 := fun z => hn (z ▸ lookF_key h3)
          exact .inr ⟨q, m, d', h1, h2, o', by rw [lookF_snoc hn, if_neg hq]; exact h3⟩
theorem fpar_addF {goal : Option MS} {s : MS} {d : Nat} {o : Option (MS × Mv)} : ∀ {l : List (Mv × MS)} {f : Fnd}, FPar f → lookF f s = some (d, o) → FPar (addF goal s d l f)
  | [], f, k, _ => k
  | p :: l, f, k, hs => by
    obtain ⟨h1, h2⟩ := fpar_add1 (goal := goal) (p := p) k hs
    exact fpar_addF (l := l) (f := add1 goal s d f p) h1 h2
theorem fpar_bfsM {ss : List Str} {ws : List Mv} {od : List Int} {goal : Option MS} {most : Option Int} {n : Nat} {F : Fnd} (h : bfsM ss ws od goal most n 0 (fnd0 ss) = some (some F)) : FPar F :=
  bfsM_ind FPar (fun f e i he k => fpar_addF k (by rw [lookF_at k.nd he])) h fpar_first
theorem fgd_bfsM {ss : List Str} {ws : List Mv} {od : List Int} {goal : Option MS} {most : Option Int} {n : Nat} {F : Fnd} (hw : ∀ m ∈ ws, WayIn ss.length m) (h : bfsM ss ws od goal most n 0 (fnd0 ss) = some (some F)) : FGd ss od F :=
  bfsM_ind (FGd ss od) (fun f e i he k => fgd_addF k fun p hp => by
    obtain ⟨hm1, hm2⟩ := mem_outs.mp hp
    exact good_step (k.good e.1 (List.mem_map.mpr ⟨e, List.mem_of_getElem? he, rfl⟩)) (hw _ hm1) hm2) h fgd_first
theorem first_bfsM {ss : List Str} {ws : List Mv} {od : List Int} {goal : Option MS} {most : Option Int} {n : Nat} {F : Fnd} (h : bfsM ss ws od goal most n 0 (fnd0 ss) = some (some F)) : F[0]? = some (first0 ss, 0, none) := by
  obtain ⟨t, rfl⟩ := bfsM_mono h
  rfl
/-! ### the moves that lead to a found standing -/
def pathD (f : Fnd) : Nat → MS → List Mv
  | 0, _ => []
  | d + 1, s => match lookF f s with
    | some (_, some (p, m)) => pathD f d p ++ [m]
    | _ => []
def pathF (f : Fnd) (s : MS) : List Mv := match lookF f s with
  | some (d, _) => pathD f d s
  | none => []
theorem pathD_step {f : Fnd} {s p : MS} {m : Mv} {d e : Nat} (h : lookF f s = some (e, some (p, m))) : pathD f (d + 1) s = pathD f d p ++ [m] := by
  show (match lookF f s with
    | some (_, some (p, m)) => pathD f d p ++ [m]
    | _ => []) = _
  rw [h]
theorem pathD_len {f : Fnd} (k : FPar f) : ∀ {d : Nat} {s : MS} {o : Option (MS × Mv)}, lookF f s = some (d, o) → (pathD f d s).length = d
  | 0, _, _, _ => rfl
  | d + 1, s, o, h => by
    rcases k.par s (d + 1) o h with ⟨h1, _⟩ | ⟨p, m, d', h1, h2, o', h3⟩
    · omega
    · subst h2
      obtain rfl : d' = d := by omega
      rw [pathD_step h, List.length_append, pathD_len k h3]
      rfl
/-- what is done behind: depths are less than what is found -/
theorem depth_lt {f : Fnd} (k : FPar f) : ∀ {d : Nat} {s : MS} {o : Option (MS × Mv)}, lookF f s = some (d, o) → ∃ l : List MS, l.length = d + 1 ∧ l.Nodup ∧ (∀ t ∈ l, ∃ d' o', d' ≤ d ∧ lookF f t = some (d', o')) 
  | 0, s, o, h => ⟨[s], rfl, by simp, fun t ht => by
    have : t = s := by simpa using ht
    subst this
    exact ⟨0, o, Nat.le_refl _, h⟩⟩
  | d + 1, s, o, h => by
    rcases k.par s (d + 1) o h with ⟨h1, _⟩ | ⟨p, m, d', h1, h2, o', h3⟩
    · omega
    · obtain rfl : d' = d := by omega
      obtain ⟨l, l1, l2, l3⟩ := depth_lt k h3
      refine ⟨s :: l, by simp [l1], List.nodup_cons.mpr ⟨fun hs => ?_, l2⟩, fun t ht => ?_⟩
      · obtain ⟨d2, o2, h4, h5⟩ := l3 s hs
        rw [h] at h5
        cases h5
        omega
      · rcases List.mem_cons.mp ht with rfl | ht
        · exact ⟨d' + 1, o, Nat.le_refl _, h⟩
        · obtain ⟨d2, o2, h4, h5⟩ := l3 t ht
          exact ⟨d2, o2, by omega, h5⟩
theorem depth_len {f : Fnd} (k : FPar f) {d : Nat} {s : MS} {o : Option (MS × Mv)} (h : lookF f s = some (d, o)) : d < f.length := by
  obtain ⟨l, l1, l2, l3⟩ := depth_lt k h
  have := l2.length_le_of_subset (l₂ := keysF f) fun t ht => by
    obtain ⟨d', o', _, h5⟩ := l3 t ht
    exact lookF_key h5
  rw [keysF_len] at this
  omega
/-! ### nets and searches, said shortly -/
structure NetOk (ss : List Str) (ws : List Mv) : Prop where
  sl : ss.length ≤ 1000
  wi : ∀ m ∈ ws, WayIn ss.length m
  so : ws.Pairwise leW
  wl : ws.length ≤ 1000
/-- what is found for a row, none where it is refused -/
def Sought (ss : List Str) (ws : List Mv) (od : List Int) (goal : Option MS) (most : Option Int) (r : Option Fnd) : Prop := ∃ N, bfsM ss ws od goal most N 0 (fnd0 ss) = some r
/-! ### xs.reverse() -/
def mReverse : DM := fun ds ts Q => ts = [] ∧ Q ds.reverse .none
theorem om_reverse {K : PySem.W.Frag} : OM K rReverse mReverse := fun {G H a xs ds ts vs QD Q} s h d v ⟨e, q⟩ k => by
  subst e
  obtain rfl := vrA0 v
  exact ⟨a, xs, rfl, rfl, h, k _ _ _ _ q (dpAll_rev d) .non⟩
theorem w_reverse {ds : List PyData} {R : List PyData → PyData → Prop} (q : R ds.reverse .none) : mReverse ds [] R := ⟨rfl, q⟩
theorem w_mut0 {ρ : Env} {i : Nat} {t : T} {ds : List PyData} {dm : DM} {n b ct : Env → Prop} {rt : T → Env → Prop} {ex : XP} (h : ρ[i]? = some (some t)) (m : t.mine = some ds) (q : dm ds [] fun ds' _ => n (ρ.set i (some (t.with ds')))) : dMutS0 i dm ⟨n, rt, b, ct, ex⟩ ρ := ⟨t, ds, h, m, q⟩
/-! ### the parts of an entry -/
def aheadD (o : Option (MS × Mv)) : PyData := match o with
  | none => .none
  | some p => msT p.1
def moveD (o : Option (MS × Mv)) : PyData := match o with
  | none => .none
  | some p => wyD p.2
theorem entD_eq (d : Nat) (o : Option (MS × Mv)) : entD (d, o) = .tuple [.int (d : Nat), aheadD o, moveD o] := by
  cases o <;> rfl
end Dv

set_option Elab.async false
set_option linter.all false
set_option maxRecDepth 100000
set_option maxHeartbeats 4000000
namespace Dv
open PySem PySem.Spec PyProof.Rows L2 Px
/-! ### zip of two lists -/
def zpD (ds es : List PyData) : List PyData := (ds.zip es).map fun p => PyData.tuple [p.1, p.2]
theorem itz_at {K : PySem.W.Frag} {a b : Addr} {xs ys : List V} {ds es : List PyData} {G' H' : Hp} (s : Same G' H') (h1 : SqL K H' a xs) (h2 : SqL K H' b ys) (d1 : DpAll K G' xs ds) (d2 : DpAll K G' ys es) : ItAt K (Itz K a b) (zpD ds es) G' H' := fun i => by
  have hl1 := dpAll_len d1
  have hl2 := dpAll_len d2
  have hz : (zpD ds es).length = min ds.length es.length := by simp [zpD]
  rw [hz]
  refine ⟨fun hi => ⟨⟨xs, ys, xs[i]'(by omega), ys[i]'(by omega), h1, h2, by rw [List.getElem?_eq_getElem], by rw [List.getElem?_eq_getElem]⟩, fun x H'' y => ?_⟩, fun hi => ⟨xs, ys, h1, h2, by omega⟩⟩
  obtain ⟨T', x, y, rfl, nT, rfl, hx, hy⟩ := y
  obtain ⟨d, e1, e2⟩ := dpAll_geti d1 (hx xs h1)
  obtain ⟨e, e3, e4⟩ := dpAll_geti d2 (hy ys h2)
  refine ⟨upd G' T' (.tup [x, y]), .tuple [d, e], .newG s nT, ?_, .tup (tup_of upd_same) (.cons (dp_same (same_new (s.free nT)) e2) (.cons (dp_same (same_new (s.free nT)) e4) .nil))⟩
  unfold zpD
  have ez : (ds.zip es)[i]? = some (d, e) := List.getElem?_zip_eq_some.mpr ⟨e1, e3⟩
  rw [List.getElem?_map, ez]
  rfl
def dIZip (dl : Env → (List T → Prop) → Prop) : Env → (Bool → List PyData → Prop) → Prop := fun ρ Q => dl ρ fun ts => ∃ t u ds es, ts = [t, u] ∧ t.elL = some ds ∧ u.elL = some es ∧ Q false (zpD ds es)
theorem li_zip {K : PySem.W.Frag} {al : TA} {dl : Env → (List T → Prop) → Prop} (h : LA K al dl) : LI K (iZip K al) (dIZip dl) := fun {G0 H0 M ρ σ G H QD R} x q k => h x q fun ts vs G1 H1 ⟨t, u, ds, es, e, e1, e2, qt⟩ r1 v1 => by
  subst e
  obtain ⟨v, w, rfl, a1, a2⟩ := vrA2 v1
  obtain ⟨a, xs, rfl, h1, h2⟩ := elL_of r1.s a1 e1
  obtain ⟨b, ys, rfl, h3, h4⟩ := elL_of r1.s a2 e2
  exact ⟨a, b, xs, ys, rfl, h1, h3, k false _ _ G1 H1 qt r1 (fun z => Bool.noConfusion z) fun G' H' g h s => itz_at s (h.seq h1) (h.seq h3) (dpAll_same g h2) (dpAll_same g h4)⟩
theorem w_zip {dl : Env → (List T → Prop) → Prop} {ρ : Env} {R : Bool → List PyData → Prop} (q : dl ρ fun ts => ∃ t u ds es, ts = [t, u] ∧ t.elL = some ds ∧ u.elL = some es ∧ R false (zpD ds es)) : dIZip dl ρ R := q
end Dv

set_option Elab.async false
set_option linter.all false
set_option maxRecDepth 100000
set_option maxHeartbeats 4000000

namespace K34
open PySem PySem.Spec PyProof.Rows L2 Px Dv
def topS (i : Nat) : Stmt := PySem.Challenge.pw_pilenets_k34_doings_kept.main.body.getD i (.Pass ⟨0, 0, 0, 0⟩)
abbrev s_put_to_order : Stmt := topS 6
theorem sc_put_to_order : FnScope ["row", "ranks", "rank", "number"] ["row"] (defScope s_put_to_order) := ⟨rfl, rfl, rfl, by decide +kernel, rfl, by decide +kernel, by decide +kernel⟩
abbrev s_refuse_alike : Stmt := topS 7
theorem sc_refuse_alike : FnScope ["row"] ["row"] (defScope s_refuse_alike) := ⟨rfl, rfl, rfl, by decide +kernel, rfl, by decide +kernel, by decide +kernel⟩
abbrev s_first_standing : Stmt := topS 12
theorem sc_first_standing : FnScope ["net", "stations", "_"] ["net"] (defScope s_first_standing) := ⟨rfl, rfl, rfl, by decide +kernel, rfl, by decide +kernel, by decide +kernel⟩
abbrev s_last_standing : Stmt := topS 13
theorem sc_last_standing : FnScope ["net", "many", "stations", "_"] ["net", "many"] (defScope s_last_standing) := ⟨rfl, rfl, rfl, by decide +kernel, rfl, by decide +kernel, by decide +kernel⟩
abbrev s_brings_out : Stmt := topS 14
theorem sc_brings_out : FnScope ["net", "row", "doing", "order", "_", "ways", "standing", "move"] ["net", "row", "doing"] (defScope s_brings_out) := ⟨rfl, rfl, rfl, by decide +kernel, rfl, by decide +kernel, by decide +kernel⟩
abbrev s_may_be_done : Stmt := topS 15
theorem sc_may_be_done : FnScope ["net", "order", "standing", "move", "a", "b", "number"] ["net", "order", "standing", "move"] (defScope s_may_be_done) := ⟨rfl, rfl, rfl, by decide +kernel, rfl, by decide +kernel, by decide +kernel⟩
abbrev s_number_leaving : Stmt := topS 16
theorem sc_number_leaving : FnScope ["net", "order", "standing", "a", "stations", "_", "gone", "held"] ["net", "order", "standing", "a"] (defScope s_number_leaving) := ⟨rfl, rfl, rfl, by decide +kernel, rfl, by decide +kernel, by decide +kernel⟩
abbrev s_standing_moved : Stmt := topS 17
theorem sc_standing_moved : FnScope ["net", "order", "standing", "move", "stations", "_", "gone", "held", "out", "a", "b", "number", "holds"] ["net", "order", "standing", "move"] (defScope s_standing_moved) := ⟨rfl, rfl, rfl, by decide +kernel, rfl, by decide +kernel, by decide +kernel⟩
abbrev s_doing_kept : Stmt := topS 19
theorem sc_doing_kept : FnScope ["net", "row", "doing", "places", "order", "wanted", "standing", "kept", "move", "place"] ["net", "row", "doing", "places"] (defScope s_doing_kept) := ⟨rfl, rfl, rfl, by decide +kernel, rfl, by decide +kernel, by decide +kernel⟩
abbrev s_refuse_no_places : Stmt := topS 20
theorem sc_refuse_no_places : FnScope ["row", "places", "ahead", "place"] ["row", "places"] (defScope s_refuse_no_places) := ⟨rfl, rfl, rfl, by decide +kernel, rfl, by decide +kernel, by decide +kernel⟩
abbrev s__law_cell_at : Stmt := topS 22
theorem sc__law_cell_at : FnScope ["script", "k"] ["script", "k"] (defScope s__law_cell_at) := ⟨rfl, rfl, rfl, by decide +kernel, rfl, by decide +kernel, by decide +kernel⟩
abbrev s__law_digits : Stmt := topS 23
theorem sc__law_digits : FnScope ["cell", "many", "top", "found", "rest", "k", "stir"] ["cell", "many", "top"] (defScope s__law_digits) := ⟨rfl, rfl, rfl, by decide +kernel, rfl, by decide +kernel, by decide +kernel⟩
abbrev s__law_alike : Stmt := topS 24
theorem sc__law_alike : FnScope ["found", "due", "k"] ["found", "due"] (defScope s__law_alike) := ⟨rfl, rfl, rfl, by decide +kernel, rfl, by decide +kernel, by decide +kernel⟩
abbrev s__law_net : Stmt := topS 27
theorem sc__law_net : FnScope ["xs", "most", "many", "k", "stations", "left", "order", "ways", "j"] ["xs", "most"] (defScope s__law_net) := ⟨rfl, rfl, rfl, by decide +kernel, rfl, by decide +kernel, by decide +kernel⟩
abbrev s__law_drawn : Stmt := topS 28
theorem sc__law_drawn : FnScope ["net", "xs", "many", "held", "gone", "outs", "doing", "who", "at", "moves", "number", "a", "b", "one", "station", "way"] ["net", "xs", "many"] (defScope s__law_drawn) := ⟨rfl, rfl, rfl, by decide +kernel, rfl, by decide +kernel, by decide +kernel⟩
abbrev s_law : Stmt := topS 29
theorem sc_law : FnScope ["script", "k", "xs", "net", "drawn", "doing", "order", "who", "row", "places", "due", "handed", "found", "number", "place", "move", "one"] ["script"] (defScope s_law) := ⟨rfl, rfl, rfl, by decide +kernel, rfl, by decide +kernel, by decide +kernel⟩
structure Top (K : PySem.W.Frag) (mg : Str → Option Value) : Prop where
  d_put_to_order : Dfn K mg "put_to_order" s_put_to_order
  d_refuse_alike : Dfn K mg "refuse_alike" s_refuse_alike
  d_first_standing : Dfn K mg "first_standing" s_first_standing
  d_last_standing : Dfn K mg "last_standing" s_last_standing
  d_brings_out : Dfn K mg "brings_out" s_brings_out
  d_may_be_done : Dfn K mg "may_be_done" s_may_be_done
  d_number_leaving : Dfn K mg "number_leaving" s_number_leaving
  d_standing_moved : Dfn K mg "standing_moved" s_standing_moved
  d_doing_kept : Dfn K mg "doing_kept" s_doing_kept
  d_refuse_no_places : Dfn K mg "refuse_no_places" s_refuse_no_places
  d__law_cell_at : Dfn K mg "_law_cell_at" s__law_cell_at
  d__law_digits : Dfn K mg "_law_digits" s__law_digits
  d__law_alike : Dfn K mg "_law_alike" s__law_alike
  d__law_net : Dfn K mg "_law_net" s__law_net
  d__law_drawn : Dfn K mg "_law_drawn" s__law_drawn
  d_law : Dfn K mg "law" s_law
  b_enumerate : mg "enumerate" = none
  b_sorted : mg "sorted" = none
  b_len : mg "len" = none
  b_set : mg "set" = none
  b_list : mg "list" = none
  b_tuple : mg "tuple" = none
  b_range : mg "range" = none
  b_isinstance : mg "isinstance" = none
  b_str : mg "str" = none
  b_int : mg "int" = none
  b_bool : mg "bool" = none
  b_max : mg "max" = none
  b_min : mg "min" = none
  b_zip : mg "zip" = none
  g_PILE : ∃ t, mg "PILE" = some (Value.str "pile" t)
  g_IN : ∃ t, mg "IN" = some (Value.int (-1) t)
  g_OUT : ∃ t, mg "OUT" = some (Value.int (-2) t)
local macro_rules | `(tactic| walk_at "rd1") => `(tactic| first
  | ((with_reducible apply r_var); exact rfl) | with_reducible refine r_c ?_ | with_reducible refine r_seq ?_ | with_reducible refine r_next ?_ | with_reducible refine r_set ?_
  | with_reducible refine r_ret ?_ | with_reducible refine r_retN ?_ | with_reducible refine r_drop ?_ | with_reducible refine r_if ?_ | with_reducible refine r_test ?_ | with_reducible refine r_bl ?_
  | with_reducible refine r_op ?_ | with_reducible refine r_I0 ?_ | with_reducible refine r_I ?_ ?_ | with_reducible refine r_eqI ?_ | with_reducible refine r_neI ?_ | with_reducible refine r_eqB ?_ | with_reducible refine r_neB ?_ | with_reducible refine r_eqS ?_ | with_reducible refine r_neS ?_ | with_reducible refine r_andV ?_ | with_reducible refine r_orV ?_ | with_reducible refine r_notV ?_ | with_reducible refine r_nil ?_ | with_reducible refine r_cons ?_
  | with_reducible refine r_cal ?_ | with_reducible refine r_CB ?_ | with_reducible refine r_BM ?_ | with_reducible refine r_BM0 ?_ | with_reducible refine r_un ?_ | with_reducible refine r_U ?_
  | with_reducible refine r_and ?_ | with_reducible refine r_or ?_ | with_reducible refine r_not ?_ | with_reducible refine r_lst ?_ | with_reducible refine r_tup ?_ | with_reducible refine r_brk ?_ | with_reducible refine r_cont ?_ | with_reducible refine r_ifE ?_ | with_reducible refine r_tB ?_ | with_reducible refine r_gName ?_
  | with_reducible refine iteNF ?_ | with_reducible refine iteNT ?_ | with_reducible refine iteT ?_ | with_reducible refine iteF ?_ | with_reducible refine r_asg ?_ | with_reducible refine r_lrg1 ?_ | with_reducible refine r_yes ?_ | with_reducible refine r_lenSet ?_ | with_reducible refine r_dget ?_ | with_reducible refine r_slice ?_ | with_reducible refine r_noPart ?_ | with_reducible refine r_part ?_ | with_reducible refine r_int ?_ | with_reducible refine r_lrev ?_ | with_reducible refine r_calH ?_ | with_reducible refine r_chain ?_ | with_reducible refine r_lenSetP ?_ | with_reducible refine r_augS ?_ | with_reducible refine r_ipI ?_)
local macro_rules | `(tactic| walk_at "rd") => `(tactic| repeat' walk_at "rd1")
local macro_rules | `(tactic| walk_at "nn") => `(tactic| try simp only [Int.reduceToNat, Int.reducePow, Int.reduceAdd, Int.reduceMul, Int.reduceSub, Int.reduceNeg])
local macro_rules | `(tactic| walk_at "nns") => `(tactic| try simp only [Int.reduceToNat, Int.reducePow, Int.reduceAdd, Int.reduceMul, Int.reduceSub, Int.reduceNeg] at *)
local macro_rules | `(tactic| walk_at "pw") => `(tactic| exact ⟨by decide, by decide, by decide⟩)
local macro_rules | `(tactic| walk_at "sz") => `(tactic| exact r_small (by simp only [List.length_cons, List.length_nil, List.length_map]; omega))
local macro_rules | `(tactic| walk_at "bn") => `(tactic| simp only [decide_true, decide_false, Bool.not_true, Bool.not_false, Bool.or_false, Bool.false_or, Bool.or_true, Bool.true_or, Bool.and_true, Bool.true_and, Bool.and_false, Bool.false_and])

local macro_rules | `(tactic| walk_at "lf1") => `(tactic| first
  | with_reducible exact ls_next | with_reducible exact ls_brk | with_reducible exact ls_cont | with_reducible exact ls_never | with_reducible exact ls_retV | with_reducible exact ls_retN
  | with_reducible exact ls_give | with_reducible exact lp_var | with_reducible exact lp_int | with_reducible exact lp_bl | with_reducible exact lp_str | with_reducible exact lp_non
  | with_reducible exact lo_none | with_reducible exact la_nil | with_reducible exact lt_yes | with_reducible exact lg_name | with_reducible exact lgs_nil | with_reducible exact om_append
  | with_reducible exact om_popAt | with_reducible exact om_insert' | with_reducible exact om_pop | with_reducible exact or_I0 | with_reducible exact or_B0 | with_reducible exact or_I
  | with_reducible exact or_eq | with_reducible exact or_ne | with_reducible exact or_ixL | with_reducible exact or_ixT | with_reducible exact or_ixQ | with_reducible exact or_eqD
  | with_reducible exact or_neD | with_reducible exact or_notInD | with_reducible exact or_inD | with_reducible exact or_isN | with_reducible exact or_notN | with_reducible exact or_cat
  | with_reducible exact or_rep | with_reducible exact or_catA | with_reducible exact or_repA | with_reducible exact oc_len | with_reducible exact oc_list | with_reducible exact oc_tuple | with_reducible exact oc_max2 | with_reducible exact oc_min2 | with_reducible exact oc_int1 | with_reducible exact oc_sortW | with_reducible exact os_L | with_reducible exact os_T
  | with_reducible apply ls_seq | with_reducible apply ls_cut | with_reducible apply ls_extend | with_reducible apply ls_appPop | with_reducible apply ls_mut0 | with_reducible apply ls_mutA0
  | with_reducible apply ls_mutA | with_reducible apply ls_mut | with_reducible apply ls_setIx | with_reducible apply ls_par | with_reducible apply ls_set | with_reducible apply ls_asg
  | with_reducible apply ls_ret | with_reducible apply ls_if | with_reducible apply ls_for | with_reducible apply ls_while | with_reducible apply ls_aug | with_reducible apply ls_drop
  | with_reducible apply lp_lrg | with_reducible apply lp_isiT | with_reducible apply lp_isi | with_reducible apply lp_op | with_reducible apply lp_chain | with_reducible apply lp_neg | with_reducible apply lp_andV
  | with_reducible apply lp_orV | with_reducible apply lp_notV | with_reducible apply lp_if | with_reducible apply lp_tup | with_reducible apply lp_lst | with_reducible apply lp_cal
  | with_reducible apply lp_cb | with_reducible apply lp_sl | with_reducible apply lo_some | with_reducible apply lp_lc | with_reducible apply la_cons | with_reducible apply lt_tru | with_reducible apply lt_test
  | with_reducible apply lt_tB | with_reducible apply lt_and | with_reducible apply lt_or | with_reducible apply lt_not | with_reducible apply lg_tup | with_reducible apply lgs_cons
  | with_reducible apply li_list | with_reducible apply li_tup | with_reducible apply li_rg1 | with_reducible apply li_rg2 | with_reducible apply li_enum
  | exact rfl)
local macro_rules | `(tactic| walk_at "lf") => `(tactic| repeat' walk_at "lf1")
local macro_rules | `(tactic| walk_at "dd1") => `(tactic| first
  | ((with_reducible apply w_varG); exact rfl) | ((with_reducible apply w_varL); exact rfl) | ((with_reducible apply w_varP); exact rfl) | ((with_reducible apply w_varLL); exact rfl)
  | with_reducible refine w_C ?_ | with_reducible refine w_seq ?_ | with_reducible refine w_same ?_ | with_reducible refine w_next ?_ | with_reducible refine w_op ?_
  | with_reducible refine w_I0 ?_ | with_reducible refine w_I ?_ ?_ | with_reducible refine w_eqI1 ?_ | with_reducible refine w_neI1 ?_ | with_reducible refine w_eqB1 ?_ | with_reducible refine w_neB1 ?_ | with_reducible refine w_eqS1 ?_ | with_reducible refine w_neS1 ?_ | with_reducible refine w_eqI ?_ | with_reducible refine w_neI ?_ | with_reducible refine w_eqB ?_ | with_reducible refine w_neB ?_ | with_reducible refine w_eqS ?_ | with_reducible refine w_neS ?_
  | ((with_reducible apply w_isN); exact rfl) | ((with_reducible apply w_notN); exact rfl) | with_reducible refine w_neg ?_ | with_reducible refine w_int ?_ | with_reducible refine w_test ?_ | with_reducible refine w_tru ?_ | with_reducible refine w_bl ?_
  | with_reducible refine w_and ?_ | with_reducible refine w_or ?_ | with_reducible refine w_not ?_ | with_reducible refine w_andV ?_ | with_reducible refine w_orV ?_ | with_reducible refine w_notV ?_ | with_reducible refine w_ifE ?_ | with_reducible refine w_chain ?_
  | with_reducible refine w_anil ?_ | with_reducible refine w_acons ?_ | with_reducible refine w_tup ?_ | with_reducible refine w_lst ?_ | ((with_reducible apply w_st); (exact rfl); (simp))
  | with_reducible refine w_cb ?_ | with_reducible refine w_cal ?_ | ((with_reducible apply w_calG); exact rfl) | ((with_reducible apply w_calR); exact rfl)
  | ((with_reducible apply w_len); exact rfl) | ((with_reducible apply w_list); exact rfl) | ((with_reducible apply w_tuple); exact rfl)
  | with_reducible refine w_sl ?_ | with_reducible refine w_noPart ?_ | with_reducible refine w_part ?_ | ((with_reducible apply w_slL); exact rfl)
  | with_reducible refine w_set ?_ | with_reducible refine w_setG ?_ | ((with_reducible apply w_setIx); exact rfl) | with_reducible refine w_setO0 ?_ | with_reducible refine w_for ?_ | with_reducible refine w_iList ?_ | with_reducible refine w_lrg ?_ | with_reducible refine w_max2 ?_ | with_reducible refine w_int1B ?_ | ((with_reducible apply w_mutP); exact rfl) | ((with_reducible apply w_mutPA); exact rfl) | with_reducible refine w_min2 ?_ | with_reducible refine w_iTup ?_ | with_reducible refine w_iRg1 ?_ | with_reducible refine w_iRg2 ?_ | with_reducible refine w_iEnum ?_ | with_reducible refine w_lc ?_ | with_reducible refine w_isi ?_ | with_reducible refine w_isiT ?_ | with_reducible refine w_asg ?_ | with_reducible refine w_fzG ?_ | with_reducible refine w_fzL ?_ | with_reducible refine w_gname ?_ | with_reducible refine w_gnil ?_ | with_reducible refine w_gcons ?_
  | ((with_reducible apply w_gtup); exact rfl) | with_reducible refine w_ret ?_ | with_reducible refine w_retG ?_ | with_reducible refine w_retB ?_ | ((with_reducible apply w_retVG); exact rfl) | ((with_reducible apply w_retVL); exact rfl) | ((with_reducible apply w_app); (exact rfl); exact rfl) | with_reducible refine w_app1 ?_ ?_
  | with_reducible refine w_ifS ?_ | with_reducible refine w_drop ?_ | ((with_reducible apply w_aug); exact rfl) | ((with_reducible apply w_giveG); exact rfl)
  | with_reducible refine iteNF ?_ | with_reducible refine iteNT ?_ | with_reducible refine iteT ?_ | with_reducible refine iteF ?_)
local macro_rules | `(tactic| walk_at "dd") => `(tactic| repeat' walk_at "dd1")
local macro_rules | `(tactic| walk_at "oo") => `(tactic| with_reducible refine w_setO ?_)
local macro_rules | `(tactic| walk_at "ff") => `(tactic| with_reducible refine w_setF ?_)
local macro_rules | `(tactic| walk_at "ml") => `(tactic| first | mul_fits | exact IntMulOk.of_right (by decide) | exact IntMulOk.of_left (by decide))
local macro_rules | `(tactic| walk_at "sd") => `(tactic| first | (exact ⟨by decide, by decide, by decide⟩) | omega | decide | exact IntMulOk.of_right (by decide) | exact IntMulOk.of_left (by decide) | exact wide_div (b := 200) (by first | omega | decide) (by walk_at "nns" <;> omega) (by decide) (by decide) | exact IntMulOk.of_left (intBits_le_64 (by omega) (by omega)) | exact IntMulOk.of_right (intBits_le_64 (by omega) (by omega)))
local macro_rules | `(tactic| walk_at "kk") => `(tactic| first
  | refine kit_ex kit_int_tuple ?_ | refine kit_ex kit_int_list ?_ | refine kit_ex kit_int_str ?_ | refine kit_ex kit_int_bool ?_ | refine kit_ex kit_int_int ?_
  | refine kit_ex kit_str_tuple ?_ | refine kit_ex kit_str_list ?_ | refine kit_ex kit_str_str ?_ | refine kit_ex kit_str_bool ?_ | refine kit_ex kit_str_int ?_
  | refine kit_ex kit_list_tuple ?_ | refine kit_ex kit_list_list ?_ | refine kit_ex kit_list_str ?_ | refine kit_ex kit_list_bool ?_ | refine kit_ex kit_list_int ?_
  | refine kit_ex kit_tuple_tuple ?_ | refine kit_ex kit_tuple_list ?_ | refine kit_ex kit_tuple_str ?_ | refine kit_ex kit_tuple_bool ?_ | refine kit_ex kit_tuple_int ?_
  | refine kit_ex kit_bool_tuple ?_ | refine kit_ex kit_bool_list ?_ | refine kit_ex kit_bool_str ?_ | refine kit_ex kit_bool_bool ?_ | refine kit_ex kit_bool_int ?_
  | refine kit_ex kit_NoneType_tuple ?_ | refine kit_ex kit_NoneType_list ?_ | refine kit_ex kit_NoneType_str ?_ | refine kit_ex kit_NoneType_bool ?_ | refine kit_ex kit_NoneType_int ?_
  | refine kit_ex2 (z := false) kit_int_tuple kit_int_list rfl ?_ | refine kit_ex2 (z := false) kit_str_tuple kit_str_list rfl ?_ | refine kit_ex2 (z := true) kit_list_tuple kit_list_list rfl ?_ | refine kit_ex2 (z := true) kit_tuple_tuple kit_tuple_list rfl ?_ | refine kit_ex2 (z := false) kit_bool_tuple kit_bool_list rfl ?_ | refine kit_ex2 (z := false) kit_NoneType_tuple kit_NoneType_list rfl ?_)
local macro_rules | `(tactic| walk_at "dk") => `(tactic| repeat' first | walk_at "dd1" | walk_at "kk" | with_reducible refine w_eqS ?_)
local macro_rules | `(tactic| walk_at "ix") => `(tactic| refine w_ixL rfl (inD_atI (by omega) (by omega)) ?_)
local macro_rules | `(tactic| walk_at "ll") => `(tactic| refine w_ell rfl ?_)
local macro_rules | `(tactic| walk_at "lfL") => `(tactic| repeat' first | ((with_reducible apply lp_lcTT); exact rfl) | with_reducible apply lp_lcLL | with_reducible apply ls_mutPA | with_reducible apply ls_mutP | walk_at "lf1")
local macro_rules | `(tactic| walk_at "lm1") => `(tactic| first
  | with_reducible apply ls_seq | with_reducible apply ls_cut | with_reducible exact ls_next | with_reducible exact ls_brk | with_reducible exact ls_cont | with_reducible exact ls_retV | with_reducible exact ls_retN | with_reducible exact ls_give
  | ((with_reducible apply ls_extend); (focus (walk_at "lf"; done))) | ((with_reducible apply ls_mut); (focus (walk_at "lf"; done)))
  | ((with_reducible apply ls_set); (focus (walk_at "lf"; done))) | ((with_reducible apply ls_asg); (focus (walk_at "lf"; done))) | ((with_reducible apply ls_ret); (focus (walk_at "lf"; done)))
  | ((with_reducible apply ls_if); (focus (walk_at "lf"; done))) | ((with_reducible apply ls_for); (focus (walk_at "lf"; done))) | ((with_reducible apply ls_aug); (focus (walk_at "lf"; done))) | ((with_reducible apply ls_drop); (focus (walk_at "lf"; done)))
  | with_reducible apply lsm_app | with_reducible apply lsm_ins' | with_reducible apply lsm_set | with_reducible apply lsm_asg | with_reducible apply lsm_ret | with_reducible apply lsm_if | with_reducible apply lsm_for | with_reducible apply lsm_drop
  | ((with_reducible apply lm_p); (focus (walk_at "lf"; done)))
  | with_reducible apply lm_calM | ((with_reducible apply lm_calT); (focus (walk_at "lf"; done))) | with_reducible apply lm_catV | with_reducible apply lm_op | with_reducible apply lm_neg | with_reducible apply lm_tup | with_reducible apply lm_lst | with_reducible apply lm_cb | with_reducible apply lm_cal | with_reducible apply lm_lc
  | with_reducible exact lma_nil | with_reducible apply lma_cons
  | ((with_reducible apply lmt_p); (focus (walk_at "lf"; done))) | with_reducible apply lmt_test | with_reducible apply lmt_tB | with_reducible apply lmt_not | with_reducible apply lmt_and | with_reducible apply lmt_or
  | ((with_reducible apply lmi_p); (focus (walk_at "lf"; done))) | with_reducible apply lmi_rg1 | with_reducible apply lmi_list
  | walk_at "lf1")
local macro_rules | `(tactic| walk_at "lm") => `(tactic| repeat' walk_at "lm1")
local macro_rules | `(tactic| walk_at "dm1") => `(tactic| first
  | with_reducible refine w_calT ?_ | with_reducible refine w_ct ?_ | with_reducible refine w_mP ?_ | ((with_reducible apply w_catV); exact rfl) | with_reducible refine w_mOp ?_ | with_reducible refine w_mNeg ?_ | with_reducible refine w_mTest ?_ | with_reducible refine w_mNot ?_ | with_reducible refine w_mAnd ?_ | with_reducible refine w_mOr ?_
  | with_reducible refine w_mANil ?_ | with_reducible refine w_mACons ?_ | with_reducible refine w_mTup ?_ | with_reducible refine w_mLst ?_ | with_reducible refine w_mCB ?_ | with_reducible refine w_mCal ?_
  | ((with_reducible apply w_calMP); exact rfl) | ((with_reducible apply w_calML); exact rfl)
  | with_reducible refine w_sSet ?_ | with_reducible refine w_sAsg ?_ | with_reducible refine w_sRet ?_ | with_reducible refine w_sIf ?_ | with_reducible refine w_sDrop ?_ | ((with_reducible apply w_sApp); exact rfl) | ((with_reducible apply w_sIns); exact rfl)
  | with_reducible refine w_mRg1 ?_ | with_reducible refine w_mIList ?_ | with_reducible refine w_milL ?_ | with_reducible refine w_milG ?_ | with_reducible refine w_iP ?_ | with_reducible refine w_sFor ?_ | with_reducible refine w_mLc ?_
  | walk_at "dd1")
local macro_rules | `(tactic| walk_at "dm") => `(tactic| repeat' walk_at "dm1")

local macro_rules | `(tactic| walk_at "lf1") => `(tactic| first | with_reducible apply lp_sortSet | with_reducible exact or_catQ | with_reducible exact or_isBl | with_reducible exact or_notBl | with_reducible apply lp_revL | with_reducible apply lp_lcE | with_reducible apply lp_index)
local macro_rules | `(tactic| walk_at "lm1") => `(tactic| first | with_reducible apply ls_swap | with_reducible apply ls_mutPA | with_reducible apply ls_mutP)
local macro_rules | `(tactic| walk_at "dd1") => `(tactic| first | with_reducible refine w_sortSet ?_ | with_reducible refine w_index ?_ | with_reducible refine w_lcE ?_ | with_reducible refine w_revL ?_)

local macro_rules | `(tactic| walk_at "lf1") => `(tactic| first | ((with_reducible apply ls_mutPA); (focus (walk_at "lf"; done))) | ((with_reducible apply ls_mutP); (focus (walk_at "lf"; done))))
local macro_rules | `(tactic| walk_at "dd1") => `(tactic| first | ((with_reducible apply w_mutP); exact rfl) | ((with_reducible apply w_mutPA); exact rfl))
local macro_rules | `(tactic| walk_at "lf1") => `(tactic| with_reducible apply li_zip)
local macro_rules | `(tactic| walk_at "dd1") => `(tactic| with_reducible refine w_zip ?_)

section
variable {P : Program} {w : World} {K : PySem.W.Frag} {mg : Str → Option Value} {base : Heap}
def spRefuse (K : PySem.W.Frag) : Sp := fun vs H Q _ => ∃ (l : Addr) (ns : List Int), vs = [.ref l] ∧ SqL K H l (intL ns) ∧ ns.length ≤ 4000 ∧ ns.Nodup ∧ Q .non H
theorem ok_refuse (T : Top K mg) : Cal P w K mg base CX0 1 "refuse_alike" ["row"] (spRefuse K) := Cal.of T.d_refuse_alike (fun _ _ _ _ _ _ us hl => match us, hl with | [_], _ => rfl) fun f fd F => by
  refine F.ok sc_refuse_alike (fun vs H Q E h => ?_) (fun cdv A outer s H vs Q E hr h => ?_)
  · obtain ⟨l, ns, rfl, _⟩ := h
    rfl
  · obtain ⟨l, ns, rfl, hl, hlen, hnd, q⟩ := h
    refine ⟨_, (pss_one (ps_if (pt_cmpR op_ne (peLenSet K (by rfl) (by rfl) T.b_len (by rfl) T.b_set (pv 0)) (pe_callB (crLen K (by rfl)) (by rfl) T.b_len PySem.boot_len (pa_cons (pv 0) pa_nil)) (nomark _)) (pss_one ps_never) pss_nil)), ?_⟩
    refine r_st (σ' := [some (.ref l)]) rfl ?_
    walk_at "rd"
    refine ⟨l, ns, rfl, hl, hlen, ?_⟩
    rw [distinct_nodup hnd]
    walk_at "rd"
    refine ⟨l, _, rfl, .inl hl, ?_⟩
    rw [List.length_map]
    walk_at "rd"
    rw [decide_eq_true rfl]
    walk_at "rd"
    exact q

def spPut (K : PySem.W.Frag) : Sp := fun vs H Q _ => ∃ (l : Addr) (ns : List Int), vs = [.ref l] ∧ SqL K H l (intL ns) ∧ ns.length ≤ 4000 ∧ ns.Nodup ∧ ∀ r H', H r = none → Same H H' → H' r = some (.lst (intL (ranks ns))) → Q (.ref r) H'
theorem fn_put (T : Top K mg) {f : Addr} {fd : FuncData} (F : Fun K "put_to_order" "put_to_order" s_put_to_order f fd) : FnOk P w K mg base CX0 2 f fd ["row"] (spPut K) := by
  have C_refuse_alike : Cal P w K mg base CX0 1 "refuse_alike" _ _ := ok_refuse T
  refine F.ok sc_put_to_order (fun vs H Q E h => ?_) (fun cdv A outer s H vs Q E hr h => ?_)
  · obtain ⟨l, ns, rfl, _⟩ := h
    rfl
  · obtain ⟨l, ns, rfl, hl, hlen, hnd, q⟩ := h
    refine ⟨_, (pss_cons (ps_expr (pe_cal C_refuse_alike (hr.mono (by first | decide | omega)) pass0 (pa_cons (pv 0) pa_nil)))
      (pss_cons (ps_set (i := 1) sc_put_to_order.nd rfl (by first | exact Or.inl rfl | exact Or.inr rfl) (pe_dc (own := [("rank", 2), ("number", 3)]) (g := (gTup K 2 (gCons (gName 2) (gCons (gName 3) gNil)))) (by rfl) sc_put_to_order.nd (piE K (by rfl) (by rfl) T.b_enumerate (pa_cons (pe_callB (crSrt K (by rfl)) (by rfl) T.b_sorted (by decide +kernel) (pa_cons (pv 0) pa_nil)) pa_nil)) (blkOk_by (own := [("rank", 2), ("number", 3)]) (by kernel_rfl)) (fun _ _ _ _ _ => (pgT K (by rfl) (by rfl) (pgs_cons (pg_name (i := 2) sc_put_to_order.nd rfl (by first | exact Or.inl rfl | exact Or.inr rfl)) (pgs_cons (pg_name (i := 3) sc_put_to_order.nd rfl (by first | exact Or.inl rfl | exact Or.inr rfl)) pgs_nil)))) (fun _ _ _ _ _ => pts_nil) (fun _ _ _ _ _ => (pv 3)) (fun _ _ _ _ _ => (pv 2))))
      (pss_one (ps_ret (pe_lc (own := [("number", 3)]) (g := (gName 3)) (by rfl) sc_put_to_order.nd (piL K (by rfl) (pv 0)) (blkOk_by (own := [("number", 3)]) (by kernel_rfl)) (fun _ _ _ _ _ => (pg_name (i := 3) sc_put_to_order.nd rfl (by first | exact Or.inl rfl | exact Or.inr rfl))) (fun _ _ _ _ _ => pts_nil) (fun _ _ _ _ _ => (pe_dget (hu_of hr) (pv 1) (pv 3) (fun _ _ => rfl)))))))), ?_⟩
    refine r_st (σ' := [some (.ref l), none, none, none]) rfl ?_
    walk_at "rd"
    refine ⟨l, ns, rfl, hl, hlen, hnd, ?_⟩
    walk_at "rd"
    refine r_dcE ?_
    walk_at "rd"
    refine ⟨l, ns, rfl, hl, fun ss b pm srt hb => ?_⟩
    have hss := sorted_strict srt (pm.nodup_iff.mpr hnd)
    have sb : Same H (upd H b (.lst (intL ss))) := same_new hb
    refine ⟨b, intL ss, rfl, seq_of upd_same, fun D hD => ?_⟩
    have nbD : b ≠ D := ne_of_none (upd_same (H := H)) hD
    refine dc_enum (xs := intL ss) (fun i H' => Same (upd H b (.lst (intL ss))) H' ∧ H' D = some (.dK (rkv (ss.take i) 0)))
      ⟨same_new hD, upd_same⟩ (fun i H' _ s4 => seq_of (s4.1 _ _ upd_same)) ?_ ?_
    · rintro i x H' U hi ⟨s4, e4⟩ nU
      obtain ⟨z, hz, rfl⟩ : ∃ z, ss[i]? = some z ∧ x = V.int z := by
        rw [List.getElem?_map] at hi
        cases e : ss[i]? with
        | none =>
          rw [e] at hi
          cases hi
        | some z =>
          rw [e] at hi
          exact ⟨z, rfl, (Option.some.inj hi).symm⟩
      refine r_gTup2 (tup_of upd_same) ?_
      refine ⟨rfl, ?_⟩
      walk_at "rd"
      have hi2 := lt_of_at hz
      have nDU : D ≠ U := ne_of_none e4 nU
      refine ⟨_, .inl z, rfl, by rw [upd_ne nDU]; exact e4, r_smalll ?_, ?_, ?_⟩
      · rw [rkv_length, List.length_take]
        have := pm.length_eq
        omega
      · exact same_mut (s4.trans (same_new nU)) hD
      · rw [upd_same, rkv_step (pm.nodup_iff.mpr hnd) hz]
    · rintro H' ⟨s4, e4⟩
      rw [show (intL ss).length = ss.length from List.length_map _, List.take_length] at e4
      have s5 : Same H H' := sb.trans s4
      walk_at "rd"
      refine r_lcL ?_
      walk_at "rd"
      refine r_lcL1 (s5.seq hl) fun M hM => ?_
      have nDM : D ≠ M := ne_of_none e4 hM
      refine lc_list (xs := intL ns) (fun i H2 => Same H' H2 ∧ H2 M = some (.lst (intL ((ns.take i).map fun x => (below ns x : Int)))))
        ⟨same_new hM, upd_same⟩ (fun i H2 _ s6 => s6.1.seq (s5.seq hl)) ?_ ?_
      · rintro i x H2 hi ⟨s6, e6⟩
        obtain ⟨z, hz, rfl⟩ : ∃ z, ns[i]? = some z ∧ x = V.int z := by
          rw [List.getElem?_map] at hi
          cases e : ns[i]? with
          | none =>
            rw [e] at hi
            cases hi
          | some z =>
            rw [e] at hi
            exact ⟨z, rfl, (Option.some.inj hi).symm⟩
        walk_at "rd"
        refine ⟨rfl, ?_⟩
        walk_at "rd"
        have hi2 := lt_of_at hz
        refine ⟨D, .int (below ns z : Nat), rfl, .inl ⟨_, .inl z, .inl (s6 _ _ e4), rfl, ?_⟩, _, e6, r_smalll (by rw [List.length_map, List.length_map, List.length_take]; omega), same_mut s6 hM, ?_⟩
        · obtain ⟨j, hj⟩ := List.mem_iff_getElem?.mp (pm.mem_iff.mpr (List.mem_of_getElem? hz))
          rw [rkv_at ss z 0 j (pm.nodup_iff.mpr hnd) hj, Nat.zero_add, ← sorted_below hss hj, below_perm pm]
        · rw [upd_same, List.take_add_one, hz, List.map_append]
          show _ = some (HO.lst (List.map V.int (_ ++ _)))
          rw [List.map_append]
          rfl
      · rintro H2 ⟨s6, e6⟩
        rw [show (intL ns).length = ns.length from List.length_map _, List.take_length] at e6
        exact q M H2 (s5.free hM) (s5.trans s6) e6
theorem ok_put (T : Top K mg) : Cal P w K mg base CX0 2 "put_to_order" ["row"] (spPut K) := Cal.of T.d_put_to_order (fun _ _ _ _ _ _ us hl => match us, hl with | [_], _ => rfl) fun f fd F => fn_put T F

theorem okD_put (T : Top K mg) : Cal P w K mg base CX0 2 "put_to_order" ["row"] (spD K cPut) := (ok_put T).imp fun vs H Q E ⟨G, xs, QD, s, d, ⟨ns, e, hl, hn, q⟩, p⟩ => by
  subst e
  cases d with
  | cons a r =>
    cases r with
    | nil =>
      obtain ⟨l, rfl, hs⟩ := dp_inD a
      exact ⟨l, ns, rfl, s.seq hs, hl, hn, fun r H' h0 h1 h2 => p.ints s h0 h1 h2 q⟩

def cNumLeave : List PyData → (T → Prop) → Prop := fun xs Q => ∃ (ss : List Str) (ws : List (Int × Int)) (od : List Int) (g : Int) (hs : List (List Int)) (o a : Int), xs = [ntD ss ws, .list (inD od), stD g hs o, .int a] ∧ hs.length = ss.length ∧ 0 ≤ g ∧ (a = -1 ∨ (0 ≤ a ∧ a < ss.length)) ∧ Q (.g (optD (numLeave ss od g hs a)))
theorem ok_numleave (T : Top K mg) : Cal P w K mg base CX0 1 "number_leaving" ["net", "order", "standing", "a"] (spD K cNumLeave) := Cal.of T.d_number_leaving (fun _ _ _ _ _ _ us hl => match us, hl with | [_, _, _, _], _ => rfl) fun f fd F => by
  refine ok_def F sc_number_leaving (fun xs QD ⟨_, _, _, _, _, _, _, e, _⟩ => by rw [e]; rfl) fun cdv A outer s H E hr => ?_
  obtain ⟨t_IN, G_IN⟩ := T.g_IN
  obtain ⟨t_PILE, G_PILE⟩ := T.g_PILE
  refine ⟨_, (pss_cons (ps_asg (pv 0) (pgT K (by rfl) (by rfl) (pgs_cons (pg_name (i := 4) sc_number_leaving.nd rfl (by first | exact Or.inl rfl | exact Or.inr rfl)) (pgs_cons (pg_name (i := 5) sc_number_leaving.nd rfl (by first | exact Or.inl rfl | exact Or.inr rfl)) pgs_nil))))
      (pss_cons (ps_asg (pv 2) (pgT K (by rfl) (by rfl) (pgs_cons (pg_name (i := 6) sc_number_leaving.nd rfl (by first | exact Or.inl rfl | exact Or.inr rfl)) (pgs_cons (pg_name (i := 7) sc_number_leaving.nd rfl (by first | exact Or.inl rfl | exact Or.inr rfl)) (pgs_cons (pg_name (i := 5) sc_number_leaving.nd rfl (by first | exact Or.inl rfl | exact Or.inr rfl)) pgs_nil)))))
      (pss_cons (ps_if (pt_cmpR op_eq (pv 3) (pe_glob (v := .int (-1)) (by rfl) G_IN ⟨_, rfl⟩) (nomark _)) (pss_one (ps_ret (pe_ifExp (pt_cmpR op_lt (pv 6) (pe_callB (crLen K (by rfl)) (by rfl) T.b_len PySem.boot_len (pa_cons (pv 1) pa_nil)) (nomark _)) (pixL K (by rfl) (pv 1) (pv 6) (fun _ _ => rfl)) pe_non))) pss_nil)
      (pss_cons (ps_if (pt_not (ptTru K (by rfl) (pixT K (by rfl) (pv 7) (pv 3) (fun _ _ => rfl)) (by intro _; rfl))) (pss_one (ps_ret pe_non)) pss_nil)
      (pss_one (ps_ret (pe_ifExp (pt_cmpR op_eq (pixL K (by rfl) (pv 4) (pv 3) (fun _ _ => rfl)) (pe_glob (v := .str "pile") (by rfl) G_PILE ⟨_, rfl⟩) (nomark _)) (pixT K (by rfl) (pixT K (by rfl) (pv 7) (pv 3) (fun _ _ => rfl)) (pe_un un_neg pe_int) (fun _ _ => rfl)) (pixT K (by rfl) (pixT K (by rfl) (pv 7) (pv 3) (fun _ _ => rfl)) pe_int (fun _ _ => rfl))))))))), ?_⟩
  apply body_of
  · walk_at "lf"
  rintro _ Q ⟨ss, ws, od, g, hs, o, a, rfl, hl, hg, ha, q⟩
  unfold ntD stD
  walk_at "dd"
  refine ite2 (fun hc => ?_) (fun hc => ?_)
  · have hc := of_decide_eq_true hc
    subst hc
    walk_at "dd"
    rw [inD_len]
    refine ite2 (fun hc => ?_) (fun hc => ?_)
    · have hc := of_decide_eq_true hc
      walk_at "dd"
      walk_at "ix"
      walk_at "dd"
      unfold numLeave at q
      rw [if_pos rfl, if_pos hc] at q
      exact q
    · have hc : ¬ g < (od.length : Nat) := fun z => hc (decide_eq_true z)
      walk_at "dd"
      unfold numLeave at q
      rw [if_pos rfl, if_neg hc] at q
      exact q
  · have hc : ¬ a = -1 := fun z => hc (decide_eq_true z)
    have ha : 0 ≤ a ∧ a < ss.length := ha.resolve_left hc
    unfold numLeave at q
    rw [if_neg hc] at q
    walk_at "dd"
    refine w_ixT rfl (hsD_at ha.1 (by omega)) ?_
    refine w_tru1 rfl ?_
    cases hh : hs.getD a.toNat [] with
    | nil =>
      rw [if_pos hh] at q
      refine w_ifT rfl ?_
      walk_at "dd"
      exact q
    | cons n r =>
      rw [if_neg (by rw [hh]; exact fun z => nomatch z)] at q
      refine w_ifF rfl ?_
      walk_at "dd"
      refine w_ixL rfl (ssD_at ha.1 ha.2) ?_
      walk_at "dd"
      refine ite2 (fun hp => ?_) (fun hp => ?_)
      · have hp := of_decide_eq_true hp
        rw [if_pos hp, hh] at q
        walk_at "dd"
        refine w_ixT rfl (hsD_at ha.1 (by omega)) ?_
        walk_at "dd"
        rw [hh]
        refine w_ixT rfl (atI_last (by simp [inD])) ?_
        walk_at "dd"
        rw [inD_last]
        exact q
      · have hp : ¬ ss.getD a.toNat "line" = "pile" := fun z => hp (decide_eq_true z)
        rw [if_neg hp, hh] at q
        walk_at "dd"
        refine w_ixT rfl (hsD_at ha.1 (by omega)) ?_
        walk_at "dd"
        rw [hh]
        refine w_ixT rfl atI_zero ?_
        walk_at "dd"
        exact q

def cMayB : List PyData → (T → Prop) → Prop := fun xs Q => ∃ (ss : List Str) (ws : List (Int × Int)) (od : List Int) (g : Int) (hs : List (List Int)) (o : Int) (m : Int × Int), xs = [ntD ss ws, .list (inD od), stD g hs o, wyD m] ∧ hs.length = ss.length ∧ 0 ≤ g ∧ WayIn ss.length m ∧ Q (.g (.bool (mayB ss od g hs o m)))
theorem ok_mayb (T : Top K mg) : Cal P w K mg base CX0 2 "may_be_done" ["net", "order", "standing", "move"] (spD K cMayB) := Cal.of T.d_may_be_done (fun _ _ _ _ _ _ us hl => match us, hl with | [_, _, _, _], _ => rfl) fun f fd F => by
  have C_number_leaving : Cal P w K mg base CX0 1 "number_leaving" _ _ := ok_numleave T
  refine ok_def F sc_may_be_done (fun xs QD ⟨_, _, _, _, _, _, _, e, _⟩ => by rw [e]; rfl) fun cdv A outer s H E hr => ?_
  obtain ⟨t_OUT, G_OUT⟩ := T.g_OUT
  refine ⟨_, (pss_cons (ps_asg (pv 3) (pgT K (by rfl) (by rfl) (pgs_cons (pg_name (i := 4) sc_may_be_done.nd rfl (by first | exact Or.inl rfl | exact Or.inr rfl)) (pgs_cons (pg_name (i := 5) sc_may_be_done.nd rfl (by first | exact Or.inl rfl | exact Or.inr rfl)) pgs_nil))))
      (pss_cons (ps_set (i := 6) sc_may_be_done.nd rfl (by first | exact Or.inl rfl | exact Or.inr rfl) (pe_cal C_number_leaving (hr.mono (by first | decide | omega)) pass0 (pa_cons (pv 0) (pa_cons (pv 1) (pa_cons (pv 2) (pa_cons (pv 4) pa_nil))))))
      (pss_cons (ps_if (pt_cmpR op_isN (pv 6) pe_non (nomark _)) (pss_one (ps_ret pe_bl)) pss_nil)
      (pss_one (ps_ret (pe_or (pe_cmpR op_ne (pv 5) (pe_glob (v := .int (-2)) (by rfl) G_OUT ⟨_, rfl⟩) (nomark _)) (pe_one (pe_cmpR op_eq (pv 6) (pixT K (by rfl) (pv 2) pe_int (fun _ _ => rfl)) (nomark _))))))))), ?_⟩
  apply body_of
  · walk_at "lf"
  rintro _ Q ⟨ss, ws, od, g, hs, o, ⟨a, b⟩, rfl, hl, hg, hw, q⟩
  unfold wyD
  walk_at "dd"
  refine ⟨ss, ws, od, g, hs, o, a, rfl, hl, hg, hw.1, ?_⟩
  unfold mayB at q
  show SetK _ _ _ (.g (optD (numLeave ss od g hs a)))
  cases hn : numLeave ss od g hs a with
  | none =>
    rw [show numLeave ss od g hs (a, b).1 = none from hn] at q
    unfold optD
    walk_at "dd"
    exact q
  | some n =>
    rw [show numLeave ss od g hs (a, b).1 = some n from hn] at q
    unfold optD
    walk_at "dd"
    by_cases hb : b = -2
    · subst hb
      walk_at "bn"
      walk_at "dd"
      unfold stD
      refine w_ixT rfl rfl ?_
      walk_at "dd"
      simpa using q
    · rw [decide_eq_false hb]
      walk_at "dd"
      simpa [hb] using q

def cMoved : List PyData → (T → Prop) → Prop := fun xs Q => ∃ (ss : List Str) (ws : List (Int × Int)) (od : List Int) (g : Int) (hs : List (List Int)) (o : Int) (m : Int × Int) (n : Int), xs = [ntD ss ws, .list (inD od), stD g hs o, wyD m] ∧ hs.length = ss.length ∧ ss.length ≤ 1000 ∧ 0 ≤ g ∧ WayIn ss.length m ∧ (∀ h ∈ hs, h.length ≤ 1000) ∧ numLeave ss od g hs m.1 = some n ∧ Q (.g (mvD ss g hs o m n))
theorem ok_moved (T : Top K mg) : Cal P w K mg base CX0 2 "standing_moved" ["net", "order", "standing", "move"] (spD K cMoved) := Cal.of T.d_standing_moved (fun _ _ _ _ _ _ us hl => match us, hl with | [_, _, _, _], _ => rfl) fun f fd F => by
  have C_number_leaving : Cal P w K mg base CX0 1 "number_leaving" _ _ := ok_numleave T
  refine ok_def F sc_standing_moved (fun xs QD ⟨_, _, _, _, _, _, _, _, e, _⟩ => by rw [e]; rfl) fun cdv A outer s H E hr => ?_
  obtain ⟨t_IN, G_IN⟩ := T.g_IN
  obtain ⟨t_OUT, G_OUT⟩ := T.g_OUT
  obtain ⟨t_PILE, G_PILE⟩ := T.g_PILE
  refine ⟨_, (pss_cons (ps_asg (pv 0) (pgT K (by rfl) (by rfl) (pgs_cons (pg_name (i := 4) sc_standing_moved.nd rfl (by first | exact Or.inl rfl | exact Or.inr rfl)) (pgs_cons (pg_name (i := 5) sc_standing_moved.nd rfl (by first | exact Or.inl rfl | exact Or.inr rfl)) pgs_nil))))
      (pss_cons (ps_asg (pv 2) (pgT K (by rfl) (by rfl) (pgs_cons (pg_name (i := 6) sc_standing_moved.nd rfl (by first | exact Or.inl rfl | exact Or.inr rfl)) (pgs_cons (pg_name (i := 7) sc_standing_moved.nd rfl (by first | exact Or.inl rfl | exact Or.inr rfl)) (pgs_cons (pg_name (i := 8) sc_standing_moved.nd rfl (by first | exact Or.inl rfl | exact Or.inr rfl)) pgs_nil)))))
      (pss_cons (ps_asg (pv 3) (pgT K (by rfl) (by rfl) (pgs_cons (pg_name (i := 9) sc_standing_moved.nd rfl (by first | exact Or.inl rfl | exact Or.inr rfl)) (pgs_cons (pg_name (i := 10) sc_standing_moved.nd rfl (by first | exact Or.inl rfl | exact Or.inr rfl)) pgs_nil))))
      (pss_cons (ps_set (i := 11) sc_standing_moved.nd rfl (by first | exact Or.inl rfl | exact Or.inr rfl) (pe_cal C_number_leaving (hr.mono (by first | decide | omega)) pass0 (pa_cons (pv 0) (pa_cons (pv 1) (pa_cons (pv 2) (pa_cons (pv 9) pa_nil))))))
      (pss_cons (ps_set (i := 12) sc_standing_moved.nd rfl (by first | exact Or.inl rfl | exact Or.inr rfl) (pe_callTy (crLst K (by rfl)) (by rfl) T.b_list (by decide +kernel) (pa_cons (pv 7) pa_nil)))
      (Evl.pss_cut (ps_if (pt_cmpR op_eq (pv 9) (pe_glob (v := .int (-1)) (by rfl) G_IN ⟨_, rfl⟩) (nomark _)) (pss_one (ps_aug (i := 6) sc_standing_moved.nd rfl (by first | exact Or.inl rfl | exact Or.inr rfl) pe_int ip_add)) (pss_one (ps_if (pt_cmpR op_eq (pixL K (by rfl) (pv 4) (pv 9) (fun _ _ => rfl)) (pe_glob (v := .str "pile") (by rfl) G_PILE ⟨_, rfl⟩) (nomark _)) (pss_one (ps_asg (pslT K (by rfl) (pixL K (by rfl) (pv 12) (pv 9) (fun _ _ => rfl)) po_none (po_some (pe_un un_neg pe_int))) (pg_sub (pv 12) (pv 9) set_list))) (pss_one (ps_asg (pslT K (by rfl) (pixL K (by rfl) (pv 12) (pv 9) (fun _ _ => rfl)) (po_some pe_int) po_none) (pg_sub (pv 12) (pv 9) set_list))))))
      (pss_cons (ps_if (pt_cmpR op_eq (pv 10) (pe_glob (v := .int (-2)) (by rfl) G_OUT ⟨_, rfl⟩) (nomark _)) (pss_one (ps_aug (i := 8) sc_standing_moved.nd rfl (by first | exact Or.inl rfl | exact Or.inr rfl) pe_int ip_add)) (pss_one (ps_asg (pe_op (opCatA K (by rfl)) (pixL K (by rfl) (pv 12) (pv 10) (fun _ _ => rfl)) (pe_tup (pa_cons (pv 11) pa_nil))) (pg_sub (pv 12) (pv 10) set_list))))
      (pss_one (ps_ret (pe_tup (pa_cons (pv 6) (pa_cons (pe_callTy (crTupOf K (by rfl)) (by rfl) T.b_tuple (by decide +kernel) (pa_cons (pv 12) pa_nil)) (pa_cons (pv 8) pa_nil))))))))))))), ?_⟩
  apply body_of
  · walk_at "lf"
  rintro _ Q ⟨ss, ws, od, g, hs, o, ⟨a, b⟩, n, rfl, hl, hsl, hg, hw, hz, hn, q⟩
  unfold wyD stD ntD
  walk_at "dd"
  refine ⟨ss, ws, od, g, hs, o, a, rfl, hl, hg, hw.1, ?_⟩
  rw [show numLeave ss od g hs a = some n from hn]
  show SetK _ _ _ (.g (.int n))
  walk_at "dd"
  walk_at "oo"
  walk_at "dd"
  refine ⟨fun ρ' => ∃ v5 : Option Dv.T, ρ' = [some (.g (.tuple [.list (ssD ss), .list (wsD ws)])), some (.g (.list (inD od))), some (.g (.tuple [.int g, .tuple (hsD hs), .int o])), some (.g (.tuple [.int a, .int b])), some (.g (.list (ssD ss))), v5, some (.g (.int (if a = -1 then g + 1 else g))), some (.g (.tuple (hsD hs))), some (.g (.int o)), some (.g (.int a)), some (.g (.int b)), some (.g (.int n)), some (.l (hsD (held1 ss hs a)))], ?_, ?_⟩
  · walk_at "dd"
    refine ite2 (fun hc => ?_) (fun hc => ?_)
    · have hc : a = -1 := of_decide_eq_true hc
      subst hc
      walk_at "dd"
      exact ⟨_, rfl⟩
    · have hc : ¬ a = -1 := fun z => hc (decide_eq_true z)
      have ha : 0 ≤ a ∧ a < ss.length := hw.1.resolve_left hc
      have hne : inD (hs.getD a.toNat []) ≠ [] := fun z => by
        have z := inD_nil.mp z
        unfold numLeave at hn
        rw [if_neg hc, if_pos z] at hn
        cases hn
      walk_at "dd"
      refine w_ixL rfl (ssD_at ha.1 ha.2) ?_
      walk_at "dd"
      refine ite2 (fun hp => ?_) (fun hp => ?_)
      · have hp := of_decide_eq_true hp
        walk_at "dd"
        refine w_ixL rfl (hsD_at ha.1 (by omega)) ?_
        walk_at "dd"
        refine w_slT rfl (notwhole_last hne) ?_
        rw [cut_last]
        walk_at "dd"
        refine w_six ha.1 (by rw [hsD_len]; omega) ?_
        rw [inD_dropLast, hsD_set]
        have e1 : held1 ss hs a = hs.set a.toNat (hs.getD a.toNat []).dropLast := by
          unfold held1
          rw [if_neg hc, if_pos hp]
        rw [e1, if_neg hc]
        exact ⟨_, rfl⟩
      · have hp : ¬ ss.getD a.toNat "line" = "pile" := fun z => hp (decide_eq_true z)
        walk_at "dd"
        refine w_ixL rfl (hsD_at ha.1 (by omega)) ?_
        walk_at "dd"
        refine w_slT rfl (notwhole_tail hne) ?_
        rw [cut_tail]
        walk_at "dd"
        refine w_six ha.1 (by rw [hsD_len]; omega) ?_
        rw [inD_tail, hsD_set]
        have e1 : held1 ss hs a = hs.set a.toNat (hs.getD a.toNat []).tail := by
          unfold held1
          rw [if_neg hc, if_neg hp]
        rw [e1, if_neg hc]
        exact ⟨_, rfl⟩
  · rintro ρ' ⟨v5, rfl⟩
    unfold mvD held2 at q
    have hz1 : ∀ h ∈ held1 ss hs a, h.length ≤ 1000 := fun h hh => by
      unfold held1 at hh
      split at hh
      · exact hz h hh
      · rcases List.mem_or_eq_of_mem_set hh with z | z
        · exact hz h z
        · have hb : (hs.getD a.toNat []).length ≤ 1000 := by
            rw [List.getD_eq_getElem?_getD]
            cases e : hs[a.toNat]? with
            | none => simp
            | some y => exact hz y (List.mem_of_getElem? e)
          rw [z]
          split
          · rw [List.length_dropLast]
            omega
          · rw [List.length_tail]
            omega
    walk_at "dd"
    refine ite2 (fun hc => ?_) (fun hc => ?_)
    · have hc : b = -2 := of_decide_eq_true hc
      rw [if_pos hc, if_pos hc] at q
      walk_at "dd"
      exact q
    · have hc : ¬ b = -2 := fun z => hc (decide_eq_true z)
      have hb : 0 ≤ b ∧ b < ss.length := hw.2.resolve_left hc
      rw [if_neg hc, if_neg hc] at q
      have hl1 := held1_len ss hs a
      have hbz : ((held1 ss hs a).getD b.toNat []).length ≤ 1000 := by
        rw [List.getD_eq_getElem?_getD]
        cases e : (held1 ss hs a)[b.toNat]? with
        | none => simp
        | some y => exact hz1 y (List.mem_of_getElem? e)
      walk_at "dd"
      refine w_ixL rfl (hsD_at hb.1 (by omega)) ?_
      walk_at "dd"
      refine w_catA rfl rfl (by rw [inD_len, List.length_singleton]; omega) ?_
      walk_at "dd"
      refine w_six hb.1 (by rw [hsD_len]; omega) ?_
      rw [show inD ((held1 ss hs a).getD b.toNat []) ++ [PyData.int n] = inD ((held1 ss hs a).getD b.toNat [] ++ [n]) from inD_app _ [n], hsD_set]
      walk_at "dd"
      exact q

theorem hsD_rep (n : Nat) : (List.replicate n [PyData.tuple []]).flatten = hsD (List.replicate n []) := by
  unfold hsD
  induction n with
  | zero => rfl
  | succ n ih =>
    rw [List.replicate_succ, List.replicate_succ, List.flatten_cons, ih]
    rfl

def cFirst : List PyData → (T → Prop) → Prop := fun xs Q => ∃ (ss : List Str) (ws : List (Int × Int)), xs = [ntD ss ws] ∧ ss.length ≤ 1000 ∧ Q (.g (stD 0 (List.replicate ss.length []) 0))
theorem ok_first (T : Top K mg) : Cal P w K mg base CX0 1 "first_standing" ["net"] (spD K cFirst) := Cal.of T.d_first_standing (fun _ _ _ _ _ _ us hl => match us, hl with | [_], _ => rfl) fun f fd F => by
  refine ok_def F sc_first_standing (fun xs QD ⟨_, _, e, _⟩ => by rw [e]; rfl) fun cdv A outer s H E hr => ?_
  refine ⟨_, (pss_cons (ps_asg (pv 0) (pgT K (by rfl) (by rfl) (pgs_cons (pg_name (i := 1) sc_first_standing.nd rfl (by first | exact Or.inl rfl | exact Or.inr rfl)) (pgs_cons (pg_name (i := 2) sc_first_standing.nd rfl (by first | exact Or.inl rfl | exact Or.inr rfl)) pgs_nil))))
      (pss_one (ps_ret (pe_tup (pa_cons pe_int (pa_cons (pe_op (opRepA K (by rfl)) (pe_tup (pa_cons (pe_tup pa_nil) pa_nil)) (pe_callB (crLen K (by rfl)) (by rfl) T.b_len PySem.boot_len (pa_cons (pv 1) pa_nil))) (pa_cons pe_int pa_nil))))))), ?_⟩
  apply body_of
  · walk_at "lf"
  rintro _ Q ⟨ss, ws, rfl, hl, q⟩
  unfold ntD
  walk_at "dd"
  rw [ssD_len]
  refine ⟨[.tuple []], _, rfl, rfl, by simp, by omega, by omega, by simp, ?_⟩
  rw [Int.toNat_natCast, hsD_rep]
  walk_at "dd"
  exact q

def cLast : List PyData → (T → Prop) → Prop := fun xs Q => ∃ (ss : List Str) (ws : List (Int × Int)) (n : Int), xs = [ntD ss ws, .int n] ∧ ss.length ≤ 1000 ∧ Q (.g (stD n (List.replicate ss.length []) n))
theorem ok_last (T : Top K mg) : Cal P w K mg base CX0 1 "last_standing" ["net", "many"] (spD K cLast) := Cal.of T.d_last_standing (fun _ _ _ _ _ _ us hl => match us, hl with | [_, _], _ => rfl) fun f fd F => by
  refine ok_def F sc_last_standing (fun xs QD ⟨_, _, _, e, _⟩ => by rw [e]; rfl) fun cdv A outer s H E hr => ?_
  refine ⟨_, (pss_cons (ps_asg (pv 0) (pgT K (by rfl) (by rfl) (pgs_cons (pg_name (i := 2) sc_last_standing.nd rfl (by first | exact Or.inl rfl | exact Or.inr rfl)) (pgs_cons (pg_name (i := 3) sc_last_standing.nd rfl (by first | exact Or.inl rfl | exact Or.inr rfl)) pgs_nil))))
      (pss_one (ps_ret (pe_tup (pa_cons (pv 1) (pa_cons (pe_op (opRepA K (by rfl)) (pe_tup (pa_cons (pe_tup pa_nil) pa_nil)) (pe_callB (crLen K (by rfl)) (by rfl) T.b_len PySem.boot_len (pa_cons (pv 2) pa_nil))) (pa_cons (pv 1) pa_nil))))))), ?_⟩
  apply body_of
  · walk_at "lf"
  rintro _ Q ⟨ss, ws, n, rfl, hl, q⟩
  unfold ntD
  walk_at "dd"
  rw [ssD_len]
  refine ⟨[.tuple []], _, rfl, rfl, by simp, by omega, by omega, by simp, ?_⟩
  rw [Int.toNat_natCast, hsD_rep]
  walk_at "dd"
  exact q

def cBrings : List PyData → (T → Prop) → Prop := fun xs Q => ∃ (ss : List Str) (ws : List (Int × Int)) (row : List Int) (ms : List (Int × Int)), xs = [ntD ss ws, .list (inD row), .list (wsD ms)] ∧ ss.length ≤ 100 ∧ row.length ≤ 100 ∧ row.Nodup ∧ (∀ w ∈ ws, WayIn ss.length w) ∧ ms.length ≤ 900 ∧ Q (.g (.bool (brings ss ws (ranks row) ms)))
theorem ok_bringsout (T : Top K mg) : Cal P w K mg base CX0 3 "brings_out" ["net", "row", "doing"] (spD K cBrings) := Cal.of T.d_brings_out (fun _ _ _ _ _ _ us hl => match us, hl with | [_, _, _], _ => rfl) fun f fd F => by
  have C_put_to_order : Cal P w K mg base CX0 2 "put_to_order" _ _ := okD_put T
  have C_first_standing : Cal P w K mg base CX0 1 "first_standing" _ _ := ok_first T
  have C_last_standing : Cal P w K mg base CX0 1 "last_standing" _ _ := ok_last T
  have C_may_be_done : Cal P w K mg base CX0 2 "may_be_done" _ _ := ok_mayb T
  have C_standing_moved : Cal P w K mg base CX0 2 "standing_moved" _ _ := ok_moved T
  refine ok_def F sc_brings_out (fun xs QD ⟨_, _, _, _, e, _⟩ => by rw [e]; rfl) fun cdv A outer s H E hr => ?_
  refine ⟨_, (pss_cons (ps_set (i := 3) sc_brings_out.nd rfl (by first | exact Or.inl rfl | exact Or.inr rfl) (pe_cal C_put_to_order (hr.mono (by first | decide | omega)) pass0 (pa_cons (pv 1) pa_nil)))
      (pss_cons (ps_asg (pv 0) (pgT K (by rfl) (by rfl) (pgs_cons (pg_name (i := 4) sc_brings_out.nd rfl (by first | exact Or.inl rfl | exact Or.inr rfl)) (pgs_cons (pg_name (i := 5) sc_brings_out.nd rfl (by first | exact Or.inl rfl | exact Or.inr rfl)) pgs_nil))))
      (pss_cons (ps_set (i := 6) sc_brings_out.nd rfl (by first | exact Or.inl rfl | exact Or.inr rfl) (pe_cal C_first_standing (hr.mono (by first | decide | omega)) pass0 (pa_cons (pv 0) pa_nil)))
      (pss_cons (ps_for PassesOwn.never rfl (piL K (by rfl) (pv 2)) (pg_name (i := 7) sc_brings_out.nd rfl (by first | exact Or.inl rfl | exact Or.inr rfl)) (pss_cons (ps_if (PW.pt (pw_or (pt_cmpR (opNotInD K (by rfl) (hu65 hr)) (pv 7) (pv 5) (by rfl)) (pw_or1 (pt_not (pt_val (pe_cal C_may_be_done (hr.mono (by first | decide | omega)) pass0 (pa_cons (pv 0) (pa_cons (pv 3) (pa_cons (pv 6) (pa_cons (pv 7) pa_nil)))))))))) (pss_one (ps_ret pe_bl)) pss_nil)
      (pss_one (ps_set (i := 6) sc_brings_out.nd rfl (by first | exact Or.inl rfl | exact Or.inr rfl) (pe_cal C_standing_moved (hr.mono (by first | decide | omega)) pass0 (pa_cons (pv 0) (pa_cons (pv 3) (pa_cons (pv 6) (pa_cons (pv 7) pa_nil)))))))))
      (pss_one (ps_ret (pe_cmpR (opEqD K (by rfl) (hu64 hr)) (pv 6) (pe_cal C_last_standing (hr.mono (by first | decide | omega)) pass0 (pa_cons (pv 0) (pa_cons (pe_callB (crLen K (by rfl)) (by rfl) T.b_len PySem.boot_len (pa_cons (pv 3) pa_nil)) pa_nil))) (nomark _)))))))), ?_⟩
  apply body_of
  · walk_at "lf"
  rintro _ Q ⟨ss, ws, row, ms, rfl, hsl, hrl, hrn, hw, hml, q⟩
  unfold ntD
  walk_at "dd"
  refine ⟨row, rfl, by omega, hrn, ?_⟩
  walk_at "ff"
  walk_at "dd"
  refine ⟨ss, ws, rfl, by omega, ?_⟩
  walk_at "dd"
  refine w_ell rfl ?_
  refine ⟨rfl, fun i ρ' => ∃ (s : MS) (v7 : Option Dv.T), ρ' = [some (.g (.tuple [.list (ssD ss), .list (wsD ws)])), some (.g (.list (inD row))), some (.g (.list (wsD ms))), some (.g (.list (inD (ranks row)))), some (.g (.list (ssD ss))), some (.g (.list (wsD ws))), some (.g (stD s.1 s.2.1 s.2.2)), v7] ∧ rRun ss ws (ranks row) (ms.take i) (first0 ss) = some s ∧ SmallS ss.length i s, ⟨first0 ss, _, rfl, rfl, small_first ss⟩, ?_, ?_⟩
  · rintro i x ρ' hx ⟨s, v7, rfl, run, sm⟩
    obtain ⟨m, hm1, rfl⟩ := wsD_get hx
    have hi := lt_of_at hm1
    have nx := rRun_next (ss := ss) (ws := ws) (od := ranks row) (first0 ss) hm1
    rw [run] at nx
    have nx : rRun ss ws (ranks row) (ms.take (i + 1)) (first0 ss) = if m ∈ ws then rStp ss (ranks row) s m else none := nx
    walk_at "dd"
    refine w_notInW (ws := ws) (m := m) rfl rfl ?_
    by_cases hm : m ∈ ws
    case neg =>
      rw [decide_eq_false hm]
      rw [if_neg hm] at nx
      walk_at "dd"
      have : brings ss ws (ranks row) ms = false := by unfold brings; rw [rRun_stuck nx]; rfl
      rw [this] at q
      exact q
    rw [decide_eq_true hm]
    rw [if_pos hm] at nx
    have hb2 : ∀ h ∈ s.2.1, h.length ≤ 1000 := fun h hh => by have := sm.2.2 h hh; omega
    walk_at "dd"
    refine ⟨ss, ws, ranks row, s.1, s.2.1, s.2.2, m, rfl, sm.2.1, sm.1, hw m hm, ?_⟩
    cases hb : mayB ss (ranks row) s.1 s.2.1 s.2.2 m with
    | false =>
      walk_at "dd"
      have e : rStp ss (ranks row) s m = none := by unfold rStp; rw [if_neg (by rw [hb]; simp)]
      rw [e] at nx
      have : brings ss ws (ranks row) ms = false := by unfold brings; rw [rRun_stuck nx]; rfl
      rw [this] at q
      exact q
    | true =>
      obtain ⟨n, hn, e1, e2⟩ := rStp_of hb
      rw [e1] at nx
      walk_at "dd"
      refine ⟨ss, ws, ranks row, s.1, s.2.1, s.2.2, m, n, rfl, sm.2.1, by omega, sm.1, hw m hm, hb2, hn, ?_⟩
      rw [e2]
      walk_at "dd"
      exact ⟨_, _, rfl, nx, small_next sm e1⟩
  · rintro ρ' ⟨s, v7, rfl, run, sm⟩
    rw [wsD_len, List.take_length] at run
    walk_at "dd"
    rw [inD_len]
    refine ⟨ss, ws, ((ranks row).length : Nat), rfl, by omega, ?_⟩
    refine w_eqMs (s := some s) (r := last0 ss (ranks row).length) rfl rfl ?_
    walk_at "dd"
    unfold brings at q
    rw [run] at q
    exact q

def cDigits : List PyData → (T → Prop) → Prop := fun xs Q => ∃ (c : Int) (m : Nat) (top : Int), xs = [.int c, .int m, .int top] ∧ m ≤ 1000 ∧ 0 < top ∧ top < 10 ^ 40 ∧ ∀ ns : List Int, ns.length = m → (∀ n ∈ ns, 0 ≤ n ∧ n < top) → Q (.l (inD ns))
theorem ok_digits (T : Top K mg) : Cal P w K mg base CX0 1 "_law_digits" ["cell", "many", "top"] (spD K cDigits) := Cal.of T.d__law_digits (fun _ _ _ _ _ _ us hl => match us, hl with | [_, _, _], _ => rfl) fun f fd F =>
  ok_def F sc__law_digits (fun xs QD ⟨_, _, _, e, _⟩ => by rw [e]; rfl) fun cdv A outer s H E hr => by
    refine ⟨_, (pss_cons (ps_set (i := 3) sc__law_digits.nd rfl (by first | exact Or.inl rfl | exact Or.inr rfl) (pe_lst pa_nil))
      (pss_cons (ps_set (i := 4) sc__law_digits.nd rfl (by first | exact Or.inl rfl | exact Or.inr rfl) (pv 0))
      (pss_cons (ps_for PassesOwn.never rfl (pi_range1 (by rfl) T.b_range (pa_cons (pv 1) pa_nil)) (pg_name (i := 5) sc__law_digits.nd rfl (by first | exact Or.inl rfl | exact Or.inr rfl)) (pss_cons (ps_set (i := 6) sc__law_digits.nd rfl (by first | exact Or.inl rfl | exact Or.inr rfl) (pe_op op_mod (pe_op op_mulI (pe_op op_add (pe_op op_add (pv 0) (pe_op op_mulI pe_int (pv 5))) pe_int) pe_int) pe_int))
      (pss_cons (ps_set (i := 6) sc__law_digits.nd rfl (by first | exact Or.inl rfl | exact Or.inr rfl) (pe_op op_mod (pe_op op_mulI (pv 6) (pv 6)) pe_int))
      (pss_cons (ps_set (i := 6) sc__law_digits.nd rfl (by first | exact Or.inl rfl | exact Or.inr rfl) (pe_op op_fdivW (pe_op op_mod (pe_op op_mulI (pe_op op_add (pv 6) (pe_op op_mulI pe_int (pe_op op_add (pv 5) pe_int))) pe_int) pe_int) pe_int))
      (pss_cons (ps_if (pt_cmpR op_ge (pv 0) (pe_op op_pow pe_int pe_int) (nomark _)) (pss_one (ps_set (i := 6) sc__law_digits.nd rfl (by first | exact Or.inl rfl | exact Or.inr rfl) (pv 4))) pss_nil)
      (pss_cons (ps_expr (pbm K (by rfl) PySem.F.plainAttrs_list PySem.F.slot_list_append PySem.F.type_list_append mt_append (pv 3) (pa_cons (pe_op op_mod (pv 6) (pv 2)) pa_nil)))
      (pss_one (ps_set (i := 4) sc__law_digits.nd rfl (by first | exact Or.inl rfl | exact Or.inr rfl) (pe_op op_fdivW (pv 4) (pv 2))))))))))
      (pss_one (ps_ret (pv 3)))))), ?_⟩
    apply body_of
    · walk_at "lf"
    rintro _ Q ⟨c, m, top, rfl, hm, t0, t1, q⟩
    walk_at "dd"
    refine w_rg1 (m := m) rfl (by omega) ?_
    refine ⟨rfl, fun i ρ' => ∃ (ds : List PyData) (rest : Int) (v5 v6 : Option Dv.T), ρ' = [some (.g (.int c)), some (.g (.int m)), some (.g (.int top)), some (.l ds), some (.g (.int rest)), v5, v6] ∧ ds.length = i ∧ (∀ d ∈ ds, ∃ n, d = .int n ∧ 0 ≤ n ∧ n < top), ⟨[], c, none, none, rfl, rfl, by simp⟩, ?_, ?_⟩
    · rintro i x ρ' hx ⟨ds, rest, v5, v6, rfl, hl, hb⟩
      obtain ⟨hi, rfl⟩ := rgD_get hx
      walk_at "dd"
      · refine ite2 (fun hc => ?_) (fun hc => ?_) <;> walk_at "dd" <;> first | walk_at "sd" | skip
        all_goals refine ⟨_, _, _, _, rfl, by rw [List.length_append, hl]; rfl, all_snoc hb ⟨_, rfl, Int.emod_nonneg _ (by omega), Int.emod_lt_of_pos _ t0⟩⟩
      all_goals walk_at "sd"
    · rintro ρ' ⟨ds, rest, v5, v6, rfl, hl, hb⟩
      rw [rgD_len] at hl
      obtain ⟨ns, rfl, hn⟩ := ints_of hb
      walk_at "dd"
      exact q ns (by rw [← hl, List.length_map]) hn

def cCellAt : List PyData → (T → Prop) → Prop := fun xs Q => ∃ (ns : List Int) (k : Int), xs = [.list (inD ns), .int k] ∧ 0 ≤ k ∧ ∀ c : Int, Q (.g (.int c))
theorem ok_cellat (T : Top K mg) : Cal P w K mg base CX0 1 "_law_cell_at" ["script", "k"] (spD K cCellAt) := Cal.of T.d__law_cell_at (fun _ _ _ _ _ _ us hl => match us, hl with | [_, _], _ => rfl) fun f fd F =>
  ok_def F sc__law_cell_at (fun xs QD ⟨_, _, e, _⟩ => by rw [e]; rfl) fun cdv A outer s H E hr => by
    refine ⟨_, (pss_cons (ps_if (pt_cmpR op_lt (pv 1) (pe_callB (crLen K (by rfl)) (by rfl) T.b_len PySem.boot_len (pa_cons (pv 0) pa_nil)) (nomark _)) (pss_one (ps_ret (pixL K (by rfl) (pv 0) (pv 1) (fun _ _ => rfl)))) pss_nil)
      (pss_one (ps_ret pe_int))), ?_⟩
    apply body_of
    · walk_at "lf"
    rintro _ Q ⟨ns, k, rfl, hk, q⟩
    walk_at "dd"
    refine ite2 (fun hc => ?_) (fun hc => ?_)
    · have hc := of_decide_eq_true hc
      rw [inD_len] at hc
      walk_at "dd"
      refine w_ixL rfl (inD_atI hk hc) ?_
      walk_at "dd"
      exact q _
    · walk_at "dd"
      exact q _

def cAlike (n : Nat) : List PyData → (T → Prop) → Prop := fun xs Q => ∃ d, xs = [d, d] ∧ clean d = true ∧ d.depth < n ∧ small d = true ∧ Q (.g (.bool true))
theorem ok_alike2 (T : Top K mg) : ∀ n, Cal P w K mg base CX0 n "_law_alike" ["found", "due"] (spD K (cAlike n))
  | 0 => Cal.no T.d__law_alike (fun _ _ _ _ _ _ us hl => match us, hl with | [_, _], _ => rfl) (fun vs H Q E ⟨_, _, _, _, _, ⟨_, _, _, h, _⟩, _⟩ => by omega)
  | n + 1 => Cal.of T.d__law_alike (fun _ _ _ _ _ _ us hl => match us, hl with | [_, _], _ => rfl) fun f fd F => by
    have C__law_alike : Cal P w K mg base CX0 n "_law_alike" _ (spD K (cAlike n)) := ok_alike2 T n
    refine ok_def F sc__law_alike (fun xs QD ⟨_, e, _⟩ => by rw [e]; rfl) fun cdv A outer s H E hr => ?_
    refine ⟨_, (pss_cons (ps_if (PW.pt (pw_or (pt_cmpR op_isN (pv 1) pe_non (nomark _)) (pw_or1 (pt_val (pe_callB (crIsi K (by rfl)) (by rfl) T.b_isinstance (by decide +kernel) (pa_cons (pv 1) (pa_cons (pe_bltn (v := .ty "str") (u := .type "str") (by rfl) T.b_str (by decide +kernel) rfl) pa_nil))))))) (pss_one (ps_ret (pe_cmpR op_eq (pv 0) (pv 1) (nomark _)))) pss_nil)
      (pss_cons (ps_if (pt_val (pe_callB (crIsiT K (by rfl)) (by rfl) T.b_isinstance (by decide +kernel) (pa_cons (pv 1) (pa_cons (pe_tup (pa_cons (pe_bltn (v := .ty "tuple") (u := .type "tuple") (by rfl) T.b_tuple (by decide +kernel) rfl) (pa_cons (pe_bltn (v := .ty "list") (u := .type "list") (by rfl) T.b_list (by decide +kernel) rfl) pa_nil))) pa_nil)))) (pss_cons (ps_if (PW.pt (pw_or (pt_cmpR op_ne (pe_callB (crIsi K (by rfl)) (by rfl) T.b_isinstance (by decide +kernel) (pa_cons (pv 0) (pa_cons (pe_bltn (v := .ty "tuple") (u := .type "tuple") (by rfl) T.b_tuple (by decide +kernel) rfl) pa_nil))) (pe_callB (crIsi K (by rfl)) (by rfl) T.b_isinstance (by decide +kernel) (pa_cons (pv 1) (pa_cons (pe_bltn (v := .ty "tuple") (u := .type "tuple") (by rfl) T.b_tuple (by decide +kernel) rfl) pa_nil))) (nomark _)) (pw_or1 (pt_not (pt_val (pe_callB (crIsiT K (by rfl)) (by rfl) T.b_isinstance (by decide +kernel) (pa_cons (pv 0) (pa_cons (pe_tup (pa_cons (pe_bltn (v := .ty "tuple") (u := .type "tuple") (by rfl) T.b_tuple (by decide +kernel) rfl) (pa_cons (pe_bltn (v := .ty "list") (u := .type "list") (by rfl) T.b_list (by decide +kernel) rfl) pa_nil))) pa_nil)))))))) (pss_one (ps_ret pe_bl)) pss_nil)
      (pss_cons (ps_if (pt_cmpR op_ne (pe_callB (crLen K (by rfl)) (by rfl) T.b_len PySem.boot_len (pa_cons (pv 0) pa_nil)) (pe_callB (crLen K (by rfl)) (by rfl) T.b_len PySem.boot_len (pa_cons (pv 1) pa_nil)) (nomark _)) (pss_one (ps_ret pe_bl)) pss_nil)
      (pss_one (ps_ret (pe_cmpR (opEqD K (by rfl) (hu64 hr)) (pe_lc (own := [("k", 2)]) (g := (gName 2)) (by rfl) sc__law_alike.nd (pi_range1 (by rfl) T.b_range (pa_cons (pe_callB (crLen K (by rfl)) (by rfl) T.b_len PySem.boot_len (pa_cons (pv 1) pa_nil)) pa_nil)) (blkOk_by (own := [("k", 2)]) (by kernel_rfl)) (fun _ _ _ _ _ => (pg_name (i := 2) sc__law_alike.nd rfl (by first | exact Or.inl rfl | exact Or.inr rfl))) (fun _ _ _ _ _ => (pts_one (pt_not (pt_val (pe_cal C__law_alike (hr.mono (by first | decide | omega)) pass0 (pa_cons (pixQ K (by rfl) (pv 0) (pv 2) (fun _ _ => rfl)) (pa_cons (pixQ K (by rfl) (pv 1) (pv 2) (fun _ _ => rfl)) pa_nil))))))) (fun _ _ _ _ _ => (pv 2))) (pe_lst pa_nil) (nomark _)))))) pss_nil)
      (pss_one (ps_ret (pe_and (pe_callB (crIsi K (by rfl)) (by rfl) T.b_isinstance (by decide +kernel) (pa_cons (pv 0) (pa_cons (pe_bltn (v := .ty "int") (u := .type "int") (by rfl) T.b_int (by decide +kernel) rfl) pa_nil))) (pe_and (pe_not (pe_callB (crIsi K (by rfl)) (by rfl) T.b_isinstance (by decide +kernel) (pa_cons (pv 0) (pa_cons (pe_bltn (v := .ty "bool") (u := .type "bool") (by rfl) T.b_bool (by decide +kernel) rfl) pa_nil)))) (pe_one (pe_cmpR op_eq (pv 0) (pv 1) (nomark _))))))))), ?_⟩
    apply body_of
    · walk_at "lf"
    rintro _ Q ⟨d, rfl, hc, hd, hz, q⟩
    cases d with
    | none =>
      walk_at "dk"
      exact w_eqF rfl (w_retG q)
    | bool b => simp [clean] at hc
    | dict b => simp [clean] at hc
    | int i =>
      walk_at "dk"
      exact q
    | str i =>
      walk_at "dk"
      exact q
    | list ds =>
      rw [small_list] at hz
      walk_at "dk"
      refine w_rg1 (m := ds.length) rfl (by omega) ?_
      refine ⟨by rw [rgD_len]; omega, fun _ => none, ?_, ?_⟩
      · intro i x hx
        obtain ⟨hi, rfl⟩ := rgD_get hx
        have hy := List.getElem?_eq_getElem hi
        have hat : atI ds (0 + (i : Int)) = some ds[i] := atI_of (by omega) (by rw [← hy]; congr 1; omega)
        walk_at "dk"
        refine Or.inl (w_ixL rfl hat ?_)
        walk_at "dk"
        refine Or.inl (w_ixL rfl hat ?_)
        walk_at "dk"
        refine ⟨_, rfl, cleanAll_iff.mp (by simpa [clean] using hc) _ (List.getElem_mem hi), ?_, hz.2 _ (List.getElem_mem hi), ?_⟩
        · have h1 := depthAll_get hy
          have h2 : PyData.depthAll ds + 1 < n + 1 := hd
          omega
        · walk_at "dk"
          rfl
      · rw [show (rgD 0 ds.length).filterMap (fun _ => (none : Option PyData)) = [] by simp]
        walk_at "dk"
        exact ⟨rfl, rfl, w_retG q⟩
    | tuple ds =>
      rw [small_tuple] at hz
      walk_at "dk"
      refine w_rg1 (m := ds.length) rfl (by omega) ?_
      refine ⟨by rw [rgD_len]; omega, fun _ => none, ?_, ?_⟩
      · intro i x hx
        obtain ⟨hi, rfl⟩ := rgD_get hx
        have hy := List.getElem?_eq_getElem hi
        have hat : atI ds (0 + (i : Int)) = some ds[i] := atI_of (by omega) (by rw [← hy]; congr 1; omega)
        walk_at "dk"
        refine Or.inr (w_ixT rfl hat ?_)
        walk_at "dk"
        refine Or.inr (w_ixT rfl hat ?_)
        walk_at "dk"
        refine ⟨_, rfl, cleanAll_iff.mp (by simpa [clean] using hc) _ (List.getElem_mem hi), ?_, hz.2 _ (List.getElem_mem hi), ?_⟩
        · have h1 := depthAll_get hy
          have h2 : PyData.depthAll ds + 1 < n + 1 := hd
          omega
        · walk_at "dk"
          rfl
      · rw [show (rgD 0 ds.length).filterMap (fun _ => (none : Option PyData)) = [] by simp]
        walk_at "dk"
        exact ⟨rfl, rfl, w_retG q⟩

def cNoPlaces : List PyData → (T → Prop) → Prop := fun xs Q => ∃ (ns ps : List Int), xs = [.list (inD ns), .list (inD ps)] ∧ (∀ p ∈ ps, 0 ≤ p ∧ p < ns.length) ∧ ps.Pairwise (· < ·) ∧ Q (.g .none)
theorem ok_noplaces (T : Top K mg) : Cal P w K mg base CX0 1 "refuse_no_places" ["row", "places"] (spD K cNoPlaces) := Cal.of T.d_refuse_no_places (fun _ _ _ _ _ _ us hl => match us, hl with | [_, _], _ => rfl) fun f fd F =>
  ok_def F sc_refuse_no_places (fun xs QD ⟨_, _, e, _⟩ => by rw [e]; rfl) fun cdv A outer s H E hr => by
    refine ⟨_, (pss_cons (ps_set (i := 2) sc_refuse_no_places.nd rfl (by first | exact Or.inl rfl | exact Or.inr rfl) (pe_un un_neg pe_int))
      (pss_one (ps_for PassesOwn.never rfl (piL K (by rfl) (pv 1)) (pg_name (i := 3) sc_refuse_no_places.nd rfl (by first | exact Or.inl rfl | exact Or.inr rfl)) (pss_cons (ps_if (pt_not (pt_chain op_lt op_lt (pv 2) (pv 3) (pe_callB (crLen K (by rfl)) (by rfl) T.b_len PySem.boot_len (pa_cons (pv 0) pa_nil)))) (pss_one ps_never) pss_nil)
      (pss_one (ps_set (i := 2) sc_refuse_no_places.nd rfl (by first | exact Or.inl rfl | exact Or.inr rfl) (pv 3))))))), ?_⟩
    apply body_of
    · walk_at "lf"
    rintro _ Q ⟨ns, ps, rfl, hb, hrs, q⟩
    walk_at "dd"
    refine w_ell rfl ?_
    refine ⟨rfl, fun i ρ' => ∃ (a : Int) (v3 : Option Dv.T), ρ' = [some (.g (.list (inD ns))), some (.g (.list (inD ps))), some (.g (.int a)), v3] ∧ (∀ (j : Nat) (p : Int), i ≤ j → ps[j]? = some p → a < p), ⟨-1, none, rfl, fun j p _ e => by have := hb p (List.mem_of_getElem? e); omega⟩, ?_, ?_⟩
    · rintro i x ρ' hx ⟨a, v3, rfl, ha⟩
      obtain ⟨p, hp, rfl⟩ := inD_get hx
      have h1 := ha i p (Nat.le_refl _) hp
      have h2 := hb p (List.mem_of_getElem? hp)
      walk_at "dd"
      rw [decide_eq_true h1]
      walk_at "dd"
      rw [inD_len, decide_eq_true h2.2]
      walk_at "dd"
      refine ⟨p, _, rfl, fun j q hj hq => ?_⟩
      have hij : i < j := by omega
      have hi' := lt_of_at hp
      have hj' := lt_of_at hq
      have := List.pairwise_iff_getElem.mp hrs i j hi' hj' hij
      rw [List.getElem?_eq_getElem hi'] at hp
      rw [List.getElem?_eq_getElem hj'] at hq
      rw [Option.some.inj hp, Option.some.inj hq] at this
      exact this
    · rintro ρ' _
      exact q

def picks (ns ps : List Int) : List Int := ps.map fun p => ns.getD p.toNat 0
theorem picks_len (ns ps : List Int) : (picks ns ps).length = ps.length := by unfold picks; rw [List.length_map]
theorem rise_len {ps : List Int} {n : Nat} (hb : ∀ p ∈ ps, 0 ≤ p ∧ p < n) (h : ps.Pairwise (· < ·)) : ps.length ≤ n := by
  have h1 : ps.length ≤ (rgI 0 n).length := List.Nodup.length_le_of_subset (h.imp fun h => by omega) fun p hp => by
    have := hb p hp
    exact mem_rgI.mpr (by omega)
  rw [rgI_len] at h1
  exact h1
theorem picks_nodup {ns ps : List Int} (hn : ns.Nodup) (hb : ∀ p ∈ ps, 0 ≤ p ∧ p < ns.length) (h : ps.Pairwise (· < ·)) : (picks ns ps).Nodup := by
  unfold picks List.Nodup
  rw [List.pairwise_map]
  refine List.Pairwise.imp_of_mem (fun {a b} ha hb' hab e => ?_) h
  have h1 := hb a ha
  have h2 := hb b hb'
  rw [List.getD_eq_getElem?_getD, List.getD_eq_getElem?_getD, List.getElem?_eq_getElem (by omega), List.getElem?_eq_getElem (by omega)] at e
  have := (List.getElem_inj hn).mp e
  omega
theorem picks_ranks {ns ps : List Int} (hb : ∀ p ∈ ps, 0 ≤ p ∧ p < ns.length) : picks (ranks ns) ps = (picks ns ps).map fun x => (below ns x : Int) := by
  unfold picks
  rw [List.map_map]
  apply List.map_congr_left
  intro p hp
  have := hb p hp
  simp only [Function.comp]
  unfold ranks
  rw [List.getD_eq_getElem?_getD, List.getD_eq_getElem?_getD, List.getElem?_map, List.getElem?_eq_getElem (by omega)]
  rfl
theorem picks_mem {ns ps : List Int} (hb : ∀ p ∈ ps, 0 ≤ p ∧ p < ns.length) {x : Int} (h : x ∈ picks ns ps) : x ∈ ns := by
  obtain ⟨p, hp, rfl⟩ := List.mem_map.mp h
  have := hb p hp
  rw [List.getD_eq_getElem?_getD, List.getElem?_eq_getElem (by omega)]
  exact List.getElem_mem _
theorem ranks_picks {ns ps : List Int} (hb : ∀ p ∈ ps, 0 ≤ p ∧ p < ns.length) : ranks (picks (ranks ns) ps) = ranks (picks ns ps) := by
  rw [picks_ranks hb]
  refine ranks_map fun a ha b hb' => ?_
  have := below_lt (ns := ns) (a := a) (b := b) (picks_mem hb ha)
  omega

/-- the doing kept to wanted numbers -/
def keptW (ss : List Str) (od wn : List Int) : List (Int × Int) → MS → List (Int × Int)
  | [], _ => []
  | m :: ms, s => (if ∃ n ∈ wn, numLeave ss od s.1 s.2.1 m.1 = some n then [m] else []) ++ match rStp ss od s m with | some t => keptW ss od wn ms t | none => []
theorem keptW_cons (ss : List Str) (od wn : List Int) (m : Int × Int) (ms : List (Int × Int)) (s : MS) : keptW ss od wn (m :: ms) s = (if ∃ n ∈ wn, numLeave ss od s.1 s.2.1 m.1 = some n then [m] else []) ++ match rStp ss od s m with | some t => keptW ss od wn ms t | none => [] := rfl
theorem keptW_len {ss : List Str} {od wn : List Int} : ∀ (ms : List (Int × Int)) (s : MS), (keptW ss od wn ms s).length ≤ ms.length
  | [], _ => Nat.le_refl _
  | m :: ms, s => by
    unfold keptW
    rw [List.length_append, List.length_cons]
    have h1 : (if ∃ n ∈ wn, numLeave ss od s.1 s.2.1 m.1 = some n then [m] else []).length ≤ 1 := by split <;> simp
    cases rStp ss od s m with
    | none => simp; omega
    | some t =>
      have := keptW_len (ss := ss) (od := od) (wn := wn) ms t
      dsimp only
      omega
def cKept : List PyData → (T → Prop) → Prop := fun xs Q => ∃ (ss : List Str) (ws : List (Int × Int)) (row : List Int) (ms : List (Int × Int)) (ps : List Int), xs = [ntD ss ws, .list (inD row), .list (wsD ms), .list (inD ps)] ∧ ss.length ≤ 100 ∧ row.length ≤ 100 ∧ row.Nodup ∧ (∀ w ∈ ws, WayIn ss.length w) ∧ ms.length ≤ 900 ∧ (∀ p ∈ ps, 0 ≤ p ∧ p < row.length) ∧ ps.Pairwise (· < ·) ∧ brings ss ws (ranks row) ms = true ∧ Q (.l (wsD (keptW ss (ranks row) (picks (ranks row) ps) ms (first0 ss))))
theorem ok_kept (T : Top K mg) : Cal P w K mg base CX0 4 "doing_kept" ["net", "row", "doing", "places"] (spD K cKept) := Cal.of T.d_doing_kept (fun _ _ _ _ _ _ us hl => match us, hl with | [_, _, _, _], _ => rfl) fun f fd F => by
  have C_put_to_order : Cal P w K mg base CX0 2 "put_to_order" _ _ := okD_put T
  have C_refuse_no_places : Cal P w K mg base CX0 1 "refuse_no_places" _ _ := ok_noplaces T
  have C_first_standing : Cal P w K mg base CX0 1 "first_standing" _ _ := ok_first T
  have C_brings_out : Cal P w K mg base CX0 3 "brings_out" _ _ := ok_bringsout T
  have C_number_leaving : Cal P w K mg base CX0 1 "number_leaving" _ _ := ok_numleave T
  have C_standing_moved : Cal P w K mg base CX0 2 "standing_moved" _ _ := ok_moved T
  refine ok_def F sc_doing_kept (fun xs QD ⟨_, _, _, _, _, e, _⟩ => by rw [e]; rfl) fun cdv A outer s H E hr => ?_
  refine ⟨_, (pss_cons (ps_set (i := 4) sc_doing_kept.nd rfl (by first | exact Or.inl rfl | exact Or.inr rfl) (pe_cal C_put_to_order (hr.mono (by first | decide | omega)) pass0 (pa_cons (pv 1) pa_nil)))
      (pss_cons (ps_expr (pe_cal C_refuse_no_places (hr.mono (by first | decide | omega)) pass0 (pa_cons (pv 4) (pa_cons (pv 3) pa_nil))))
      (pss_cons (ps_if (pt_not (pt_val (pe_cal C_brings_out (hr.mono (by first | decide | omega)) pass0 (pa_cons (pv 0) (pa_cons (pv 4) (pa_cons (pv 2) pa_nil)))))) (pss_one ps_never) pss_nil)
      (pss_cons (ps_setLc (i := 5) (own := [("place", 9)]) (g := (gName 9)) (by rfl) sc_doing_kept.nd rfl rfl (sw_true rfl rfl rfl (by decide +kernel)) (piL K (by rfl) (pv 3)) (blkOk_by (own := [("place", 9)]) (by kernel_rfl)) (fun _ _ _ _ _ => (pg_name (i := 9) sc_doing_kept.nd rfl (by first | exact Or.inl rfl | exact Or.inr rfl))) (fun _ _ _ _ _ => pts_nil) (fun _ _ _ _ _ => (pixL K (by rfl) (pv 4) (pv 9) (fun _ _ => rfl))))
      (pss_cons (ps_set (i := 6) sc_doing_kept.nd rfl (by first | exact Or.inl rfl | exact Or.inr rfl) (pe_cal C_first_standing (hr.mono (by first | decide | omega)) pass0 (pa_cons (pv 0) pa_nil)))
      (pss_cons (ps_set (i := 7) sc_doing_kept.nd rfl (by first | exact Or.inl rfl | exact Or.inr rfl) (pe_lst pa_nil))
      (pss_cons (ps_for PassesOwn.never rfl (piL K (by rfl) (pv 2)) (pg_name (i := 8) sc_doing_kept.nd rfl (by first | exact Or.inl rfl | exact Or.inr rfl)) (Evl.pss_cut (ps_if (pt_cmpR (opInD K (by rfl) (hu65 hr)) (pe_cal C_number_leaving (hr.mono (by first | decide | omega)) pass0 (pa_cons (pv 0) (pa_cons (pv 4) (pa_cons (pv 6) (pa_cons (pixT K (by rfl) (pv 8) pe_int (fun _ _ => rfl)) pa_nil))))) (pv 5) (by rfl)) (pss_one (ps_expr (pbm K (by rfl) PySem.F.plainAttrs_list PySem.F.slot_list_append PySem.F.type_list_append mt_append (pv 7) (pa_cons (pv 8) pa_nil)))) pss_nil)
      (pss_one (ps_set (i := 6) sc_doing_kept.nd rfl (by first | exact Or.inl rfl | exact Or.inr rfl) (pe_cal C_standing_moved (hr.mono (by first | decide | omega)) pass0 (pa_cons (pv 0) (pa_cons (pv 4) (pa_cons (pv 6) (pa_cons (pv 8) pa_nil)))))))))
      (pss_one (ps_ret (pv 7)))))))))), ?_⟩
  apply body_of
  · walk_at "lf"
  rintro _ Q ⟨ss, ws, row, ms, ps, rfl, hsl, hrl, hrn, hw, hml, hpb, hpr, hbr, q⟩
  walk_at "dd"
  refine ⟨row, rfl, by omega, hrn, ?_⟩
  walk_at "ff"
  walk_at "dd"
  refine ⟨ranks row, ps, rfl, by rw [ranks_len]; exact hpb, hpr, ?_⟩
  walk_at "dd"
  refine ⟨ss, ws, ranks row, ms, rfl, hsl, by rw [ranks_len]; exact hrl, ranks_nodup hrn, hw, hml, ?_⟩
  rw [ranks_ranks, hbr]
  walk_at "dd"
  refine w_ell rfl ?_
  have hpl := rise_len hpb hpr
  refine ⟨by rw [inD_len]; omega, mpI fun p => .int ((ranks row).getD p.toNat 0), ?_, ?_⟩
  · intro i x hx
    obtain ⟨p, hp, rfl⟩ := inD_get hx
    have := hpb p (List.mem_of_getElem? hp)
    have := ranks_len row
    walk_at "dd"
    refine w_ixL rfl (inD_atI (by omega) (by omega)) ?_
    exact ⟨_, rfl, rfl⟩
  rw [fm_mpII]
  walk_at "ff"
  walk_at "dd"
  refine ⟨ss, ws, rfl, by omega, ?_⟩
  walk_at "dd"
  refine w_ell rfl ?_
  have hrun : rRun ss ws (ranks row) ms (first0 ss) = some (last0 ss (ranks row).length) := of_decide_eq_true hbr
  refine ⟨rfl, fun i ρ' => ∃ (s : MS) (ks : List (Int × Int)) (v8 : Option Dv.T), ρ' = [some (.g (ntD ss ws)), some (.g (.list (inD row))), some (.g (.list (wsD ms))), some (.g (.list (inD ps))), some (.g (.list (inD (ranks row)))), some (.g (.list (inD (picks (ranks row) ps)))), some (.g (stD s.1 s.2.1 s.2.2)), some (.l (wsD ks)), v8, none] ∧ rRun ss ws (ranks row) (ms.drop i) s = some (last0 ss (ranks row).length) ∧ ks ++ keptW ss (ranks row) (picks (ranks row) ps) (ms.drop i) s = keptW ss (ranks row) (picks (ranks row) ps) ms (first0 ss) ∧ SmallS ss.length i s ∧ ks.length ≤ i, ⟨first0 ss, [], _, rfl, hrun, rfl, small_first ss, Nat.le_refl _⟩, ?_, ?_⟩
  · rintro i x ρ' hx ⟨s, ks, v8, rfl, run, kk, sm, hkl⟩
    obtain ⟨m, hm1, rfl⟩ := wsD_get hx
    have hi := lt_of_at hm1
    have hd : ms.drop i = m :: ms.drop (i + 1) := by
      rw [List.drop_eq_getElem_cons hi]
      rw [List.getElem?_eq_getElem hi] at hm1
      rw [Option.some.inj hm1]
    rw [hd] at run kk
    have run : (if m ∈ ws then (rStp ss (ranks row) s m).bind (rRun ss ws (ranks row) (ms.drop (i + 1))) else none) = _ := run
    have hm : m ∈ ws := by
      by_cases z : m ∈ ws
      · exact z
      · rw [if_neg z] at run
        cases run
    rw [if_pos hm] at run
    obtain ⟨t, ht⟩ : ∃ t, rStp ss (ranks row) s m = some t := by
      cases e : rStp ss (ranks row) s m with
      | none => rw [e] at run; cases run
      | some t => exact ⟨t, rfl⟩
    obtain ⟨hb, n, hn, et⟩ := rStp_some ht
    have hb2 : ∀ h ∈ s.2.1, h.length ≤ 1000 := fun h hh => by have := sm.2.2 h hh; omega
    rw [ht] at run
    have run2 : rRun ss ws (ranks row) (ms.drop (i + 1)) t = some (last0 ss (ranks row).length) := run
    rw [keptW_cons] at kk
    rw [ht, hn] at kk
    obtain ⟨a, b⟩ := m
    unfold wyD
    walk_at "dd"
    refine ⟨fun ρ' => ρ' = [some (.g (ntD ss ws)), some (.g (.list (inD row))), some (.g (.list (wsD ms))), some (.g (.list (inD ps))), some (.g (.list (inD (ranks row)))), some (.g (.list (inD (picks (ranks row) ps)))), some (.g (stD s.1 s.2.1 s.2.2)), some (.l (wsD (ks ++ if n ∈ picks (ranks row) ps then [(a, b)] else []))), some (.g (wyD (a, b))), none], ?_, ?_⟩
    · walk_at "dd"
      refine w_ixT rfl rfl ?_
      walk_at "dd"
      refine ⟨ss, ws, ranks row, s.1, s.2.1, s.2.2, a, rfl, sm.2.1, sm.1, (hw _ hm).1, ?_⟩
      rw [show numLeave ss (ranks row) s.1 s.2.1 a = some n from hn]
      walk_at "dd"
      refine w_inI rfl rfl ?_
      walk_at "dd"
      refine ite2 (fun h1 => ?_) (fun h1 => ?_)
      · have h1 := of_decide_eq_true h1
        rw [if_pos h1]
        walk_at "dd"
        · rw [wsD_len]
          omega
        rw [← wsD_snoc]
        rfl
      · have h1 := of_decide_eq_false (Bool.eq_false_iff.mpr h1)
        rw [if_neg h1, List.append_nil]
        walk_at "dd"
        rfl
    · rintro ρ' rfl
      walk_at "dd"
      refine ⟨ss, ws, ranks row, s.1, s.2.1, s.2.2, (a, b), n, rfl, sm.2.1, by omega, sm.1, hw _ hm, hb2, hn, ?_⟩
      walk_at "dd"
      refine ⟨t, ks ++ (if n ∈ picks (ranks row) ps then [(a, b)] else []), some (.g (wyD (a, b))), ?_, run2, ?_, small_next sm ht, ?_⟩
      · rw [et]
        rfl
      · rw [← kk]
        have : (∃ n' ∈ picks (ranks row) ps, some n = some n') ↔ n ∈ picks (ranks row) ps := ⟨fun ⟨_, h, e⟩ => by rw [Option.some.inj e]; exact h, fun h => ⟨n, h, rfl⟩⟩
        simp only [this, List.append_assoc]
      · rw [List.length_append]
        split <;> simp <;> omega
  · rintro ρ' ⟨s, ks, v8, rfl, run, kk, sm, hkl⟩
    rw [wsD_len, List.drop_length] at kk
    rw [show keptW ss (ranks row) (picks (ranks row) ps) [] s = [] from rfl, List.append_nil] at kk
    walk_at "dd"
    rw [kk]
    exact q

/-- the tokens that a doing's moves move -/
def whoT (ss : List Str) (td : List Int) : List (Int × Int) → TS0 → List Int
  | [], _ => []
  | m :: ms, s => (numLeave ss td s.1 s.2.1 m.1).getD 0 :: match tStp ss td s m with | some t => whoT ss td ms t | none => []
theorem whoT_cons (ss : List Str) (td : List Int) (m : Int × Int) (ms : List (Int × Int)) (s : TS0) : whoT ss td (m :: ms) s = (numLeave ss td s.1 s.2.1 m.1).getD 0 :: match tStp ss td s m with | some t => whoT ss td ms t | none => [] := rfl
theorem whoT_snoc {ss : List Str} {td : List Int} {m : Int × Int} : ∀ {ms : List (Int × Int)} {s t : TS0}, tRun ss td ms s = some t → whoT ss td (ms ++ [m]) s = whoT ss td ms s ++ [(numLeave ss td t.1 t.2.1 m.1).getD 0]
  | [], s, t, h => by
    cases h
    rw [List.nil_append, whoT_cons]
    cases tStp ss td s m <;> rfl
  | k :: ms, s, t, h => by
    have h : (tStp ss td s k).bind (tRun ss td ms) = some t := h
    rw [List.cons_append, whoT_cons, whoT_cons]
    cases e : tStp ss td s k with
    | none => rw [e] at h; cases h
    | some u =>
      rw [e] at h
      have h : tRun ss td ms u = some t := h
      show _ :: whoT ss td (ms ++ [m]) u = _ :: whoT ss td ms u ++ _
      rw [whoT_snoc h]
      rfl
theorem tStp_fst {ss : List Str} {td : List Int} {s t : TS0} {m : Int × Int} (h : tStp ss td s m = some t) : t.1 = if m.1 = -1 then s.1 + 1 else s.1 := by
  unfold tStp at h
  cases e : numLeave ss td s.1 s.2.1 m.1 with
  | none => rw [e] at h; cases h
  | some n => rw [e] at h; cases h; rfl
theorem tRun_fst {ss : List Str} {td : List Int} : ∀ {ms : List (Int × Int)} {s t : TS0}, tRun ss td ms s = some t → s.1 ≤ t.1
  | [], s, t, h => by cases h; exact Int.le_refl _
  | m :: ms, s, t, h => by
    have h : (tStp ss td s m).bind (tRun ss td ms) = some t := h
    cases e : tStp ss td s m with
    | none => rw [e] at h; cases h
    | some u =>
      rw [e] at h
      have h1 := tRun_fst (ms := ms) h
      have h2 := tStp_fst e
      split at h2 <;> omega
theorem numLeave_less {ss : List Str} {g : Int} {hs : List (List Int)} {a : Int} {n M : Nat} (hg : 0 ≤ g) (hn : n ≤ M) (h : a = -1 → g < n) : numLeave ss (rgI 0 M) g hs a = numLeave ss (rgI 0 n) g hs a := by
  unfold numLeave
  split
  · rename_i ha
    have := h ha
    rw [rgI_len, rgI_len, if_pos (by omega), if_pos (by omega), rgI_getD hg (by omega), rgI_getD hg (by omega)]
  · rfl
theorem tok_less {ss : List Str} {n M : Nat} (hn : n ≤ M) : ∀ {ms : List (Int × Int)} {s t : TS0}, tRun ss (rgI 0 M) ms s = some t → 0 ≤ s.1 → t.1 ≤ n → tRun ss (rgI 0 n) ms s = some t ∧ whoT ss (rgI 0 n) ms s = whoT ss (rgI 0 M) ms s
  | [], s, t, h, _, _ => by cases h; exact ⟨rfl, rfl⟩
  | m :: ms, s, t, h, g0, gn => by
    have h : (tStp ss (rgI 0 M) s m).bind (tRun ss (rgI 0 M) ms) = some t := h
    cases e : tStp ss (rgI 0 M) s m with
    | none => rw [e] at h; cases h
    | some u =>
      rw [e] at h
      have h : tRun ss (rgI 0 M) ms u = some t := h
      have h1 := tRun_fst h
      have h2 := tStp_fst e
      have h3 : numLeave ss (rgI 0 M) s.1 s.2.1 m.1 = numLeave ss (rgI 0 n) s.1 s.2.1 m.1 := numLeave_less g0 hn fun ha => by
        rw [if_pos ha] at h2
        omega
      have e2 : tStp ss (rgI 0 n) s m = some u := by
        unfold tStp at e ⊢
        rw [← h3]
        exact e
      obtain ⟨i1, i2⟩ := tok_less hn h (by split at h2 <;> omega) gn
      refine ⟨?_, ?_⟩
      · show (tStp ss (rgI 0 n) s m).bind (tRun ss (rgI 0 n) ms) = some t
        rw [e2]
        exact i1
      · rw [whoT_cons, whoT_cons, e, e2, h3]
        dsimp only
        rw [i2]
theorem kept_tok {ss : List Str} {td wn : List Int} {outs : List Int} (nd : outs.Nodup) : ∀ {ms : List (Int × Int)} {s t : TS0}, tRun ss td ms s = some t → t.2.2 = outs → 0 ≤ s.1 →
    keptW ss (td.map (outAt outs)) wn ms (phiS outs s) = ((ms.zip (whoT ss td ms s)).filter fun p => decide (outAt outs p.2 ∈ wn)).map (·.1)
  | [], s, t, h, _, _ => rfl
  | m :: ms, s, t, h, e, hg => by
    have h : (tStp ss td s m).bind (tRun ss td ms) = some t := h
    cases e1 : tStp ss td s m with
    | none => rw [e1] at h; cases h
    | some u =>
      rw [e1] at h
      have h : tRun ss td ms u = some t := h
      have pre := tRun_outs h
      rw [e] at pre
      have h2 := tStp_fst e1
      obtain ⟨n, hn⟩ : ∃ n, numLeave ss td s.1 s.2.1 m.1 = some n := by
        unfold tStp at e1
        cases e2 : numLeave ss td s.1 s.2.1 m.1 with
        | none => rw [e2] at e1; cases e1
        | some n => exact ⟨n, rfl⟩
      have ih := kept_tok (wn := wn) nd h e (by split at h2 <;> omega)
      have hn2 : numLeave ss (td.map (outAt outs)) (phiS outs s).1 (phiS outs s).2.1 m.1 = some (outAt outs n) := by
        show numLeave ss (td.map (outAt outs)) s.1 (s.2.1.map (List.map (outAt outs))) m.1 = _
        rw [numLeave_map _ _ _ _ _ _ hg, hn]
        rfl
      rw [keptW_cons, tok_step e1 nd pre hg, hn2, whoT_cons, e1, hn]
      dsimp only
      rw [ih, List.zip_cons_cons, List.filter_cons]
      have iff1 : (∃ n' ∈ wn, some (outAt outs n) = some n') ↔ outAt outs n ∈ wn := ⟨fun ⟨_, h, e⟩ => by rw [Option.some.inj e]; exact h, fun h => ⟨_, h, rfl⟩⟩
      by_cases hw : outAt outs n ∈ wn
      · rw [if_pos (iff1.mpr hw), if_pos (by simpa using hw)]
        rfl
      · rw [if_neg (fun z => hw (iff1.mp z)), if_neg (by simpa using hw)]
        rfl
theorem whoT_len {ss : List Str} {td : List Int} : ∀ {ms : List (Int × Int)} {s t : TS0}, tRun ss td ms s = some t → (whoT ss td ms s).length = ms.length
  | [], s, t, h => rfl
  | m :: ms, s, t, h => by
    have h : (tStp ss td s m).bind (tRun ss td ms) = some t := h
    cases e1 : tStp ss td s m with
    | none => rw [e1] at h; cases h
    | some u =>
      rw [e1] at h
      have h : tRun ss td ms u = some t := h
      rw [whoT_cons, e1]
      show (whoT ss td ms u).length + 1 = ms.length + 1
      rw [whoT_len h]
theorem who_in {ss : List Str} {n : Nat} : ∀ {ms : List (Int × Int)} {s : TS0}, TokOk ss.length n (rgI 0 ss.length) s → (∀ m ∈ ms, WayIn ss.length m) → (tRun ss (rgI 0 n) ms s).isSome = true → ∀ u ∈ whoT ss (rgI 0 n) ms s, 0 ≤ u ∧ u < n
  | [], s, _, _, _, u, hu => by cases hu
  | m :: ms, s, tk, hw, h, u, hu => by
    have h : ((tStp ss (rgI 0 n) s m).bind (tRun ss (rgI 0 n) ms)).isSome = true := h
    rw [whoT_cons] at hu
    have wm := hw m (by simp)
    have hbl : m.2 = -2 ∨ m.2 ∈ rgI 0 ss.length := wm.2.imp id fun z => mem_rgI.mpr (by omega)
    cases e : numLeave ss (rgI 0 n) s.1 s.2.1 m.1 with
    | none =>
      unfold tStp at h
      rw [e] at h
      cases h
    | some x =>
      have tk2 := tok_ok tk wm hbl e
      have et : tStp ss (rgI 0 n) s m = some (if m.1 = -1 then s.1 + 1 else s.1, held2 (held1 ss s.2.1 m.1) m.2 x, if m.2 = -2 then s.2.2 ++ [x] else s.2.2) := by
        unfold tStp
        rw [e]
        rfl
      rw [et] at h hu
      rw [e] at hu
      rcases List.mem_cons.mp hu with z | z
      · rw [show u = x from z]
        have g0 := tk.g0
        have gn := tk.gn
        by_cases ha : m.1 = -1
        · unfold numLeave at e
          rw [if_pos ha, rgI_len] at e
          by_cases hl : s.1 < (n : Int)
          · rw [if_pos hl, rgI_getD g0 hl] at e
            have := Option.some.inj e
            omega
          · rw [if_neg hl] at e
            cases e
        · have hl := wm.1.resolve_left ha
          have h1 := flat_held1 e ha (by rw [tk.len]; omega)
          have h2 : x ∈ s.2.1.flatten := h1.mem_iff.mp (by simp)
          have h3 := mem_rgI.mp (tk.pm.mem_iff.mp (List.mem_append_right _ h2))
          omega
      · exact who_in tk2 (fun k hk => hw k (List.mem_cons_of_mem _ hk)) h u z
theorem tok_begin (m n : Nat) : TokOk m n (rgI 0 m) (0, List.replicate m [], []) := ⟨Int.le_refl 0, by omega, by simp, by simp [rgI], fun k z => by
      exfalso
      apply z
      dsimp only
      rw [List.getD_eq_getElem?_getD, List.getElem?_replicate]
      split <;> rfl⟩
theorem outAt_in {n : Nat} {outs ps : List Int} (pm : outs.Perm (rgI 0 n)) (hps : ∀ p ∈ ps, 0 ≤ p ∧ p < n) (u : Int) : outAt outs u ∈ picks ((rgI 0 n).map (outAt outs)) ps ↔ u ∈ ps := by
  have at_ : ∀ p : Int, 0 ≤ p → p < n → ((rgI 0 n).map (outAt outs)).getD p.toNat 0 = outAt outs p := fun p h0 h1 => by
    have hl : p.toNat < (rgI 0 n).length := by rw [rgI_len]; omega
    have := rgI_getD h0 h1
    rw [List.getD_eq_getElem?_getD, List.getElem?_eq_getElem hl] at this
    rw [List.getD_eq_getElem?_getD, List.getElem?_map, List.getElem?_eq_getElem hl]
    show outAt outs (rgI 0 n)[p.toNat] = _
    rw [show (rgI 0 n)[p.toNat] = p from this]
  unfold picks
  constructor
  · intro h
    obtain ⟨p, hp, e⟩ := List.mem_map.mp h
    have hb := hps p hp
    rw [at_ p hb.1 hb.2] at e
    have hm : p ∈ outs := pm.mem_iff.mpr (mem_rgI.mpr (by omega))
    have h1 := List.idxOf_lt_length_iff.mpr hm
    have e2 : outs.idxOf p = outs.idxOf u := by unfold outAt at e; omega
    have h2 : outs.idxOf u < outs.length := by omega
    have g1 := List.getElem_idxOf h1
    have g2 := List.getElem_idxOf h2
    have : p = u := by
      rw [← g1, ← g2]
      congr 1
    rw [← this]
    exact hp
  · intro h
    have hb := hps u h
    exact List.mem_map.mpr ⟨u, h, at_ u hb.1 hb.2⟩

def cNetX : List PyData → (T → Prop) → Prop := fun xs Q => ∃ (ns : List Int) (most : Nat), xs = [.list (inD ns), .int most] ∧ 7 ≤ ns.length ∧ ns.length ≤ 1000 ∧ (∀ n ∈ ns, 0 ≤ n ∧ n < 10 ^ 40) ∧ most ≤ 6 ∧ ∀ (ss : List Str) (ws : List (Int × Int)), ss.length ≤ max 3 most → (∀ s ∈ ss, word s) → (∀ w ∈ ws, WayIn ss.length w) → ws.Pairwise leW → ws.length ≤ 100 → Q (.g (ntD ss ws))
theorem erase_map {α β : Type} (f : α → β) : ∀ (xs : List α) (k : Nat), (xs.map f).eraseIdx k = (xs.eraseIdx k).map f
  | [], _ => rfl
  | _ :: _, 0 => rfl
  | x :: xs, k + 1 => by
    show f x :: (xs.map f).eraseIdx k = f x :: (xs.eraseIdx k).map f
    rw [erase_map f xs k]
theorem cdv_small {i j : Int} (h0 : 0 < j) (h1 : j < 2 ^ 200) : CDivW i j := wide_div (b := 200) h0 (by omega) (by decide) (by decide)
theorem cdv_pow {i : Int} {k : Nat} {c : Int} (hc : c = 1) (hk : k ≤ 60) : CDivW i (c * 2 ^ k) := by
  subst hc
  have h := Nat.pow_le_pow_right (n := 2) (by omega) hk
  have h0 := Nat.pow_pos (n := k) (show 0 < 2 by omega)
  have e : ((2 : Int) ^ k) = ((2 ^ k : Nat) : Int) := by push_cast; rfl
  rw [e]
  refine cdv_small (by omega) ?_
  have : ((2 ^ 60 : Nat) : Int) < 2 ^ 200 := by decide
  omega
theorem ok_lnetx (T : Top K mg) : Cal P w K mg base CX0 2 "_law_net" ["xs", "most"] (spD K cNetX) := Cal.of T.d__law_net (fun _ _ _ _ _ _ us hl => match us, hl with | [_, _], _ => rfl) fun f fd F => by
  refine ok_def F sc__law_net (fun xs QD ⟨_, _, e, _⟩ => by rw [e]; rfl) fun cdv A outer s H E hr => ?_
  refine ⟨_, (Evl.pss_cut (ps_set (i := 2) sc__law_net.nd rfl (by first | exact Or.inl rfl | exact Or.inr rfl) (pixL K (by rfl) (pe_lst (pa_cons pe_int (pa_cons pe_int (pa_cons pe_int (pa_cons pe_int (pa_cons pe_int (pa_cons (pv 1) (pa_cons pe_int (pa_cons pe_int pa_nil))))))))) (pe_op op_mod (pixL K (by rfl) (pv 0) pe_int (fun _ _ => rfl)) pe_int) (fun _ _ => rfl)))
      (pss_cons (ps_setLc (i := 4) (own := [("k", 3)]) (g := (gName 3)) (by rfl) sc__law_net.nd rfl rfl (sw_true rfl rfl rfl (by decide +kernel)) (pi_range1 (by rfl) T.b_range (pa_cons (pv 2) pa_nil)) (blkOk_by (own := [("k", 3)]) (by kernel_rfl)) (fun _ _ _ _ _ => (pg_name (i := 3) sc__law_net.nd rfl (by first | exact Or.inl rfl | exact Or.inr rfl))) (fun _ _ _ _ _ => pts_nil) (fun _ _ _ _ _ => (pixL K (by rfl) (pe_lst (pa_cons pe_str (pa_cons pe_str pa_nil))) (pe_op op_mod (pe_op op_fdivW (pixL K (by rfl) (pv 0) pe_int (fun _ _ => rfl)) (pe_op op_shl pe_int (pv 3))) pe_int) (fun _ _ => rfl))))
      (pss_cons (ps_set (i := 5) sc__law_net.nd rfl (by first | exact Or.inl rfl | exact Or.inr rfl) (pe_listRg (by rfl) (by rfl) T.b_list (prg_1 (by rfl) T.b_range (pv 2))))
      (pss_cons (ps_set (i := 6) sc__law_net.nd rfl (by first | exact Or.inl rfl | exact Or.inr rfl) (pe_lst pa_nil))
      (pss_cons (ps_for PassesOwn.never rfl (pi_range1 (by rfl) T.b_range (pa_cons (pv 2) pa_nil)) (pg_name (i := 3) sc__law_net.nd rfl (by first | exact Or.inl rfl | exact Or.inr rfl)) (pss_one (ps_expr (pbm K (by rfl) PySem.F.plainAttrs_list PySem.F.slot_list_append PySem.F.type_list_append mt_append (pv 6) (pa_cons (pbm K (by rfl) PySem.F.plainAttrs_list PySem.F.slot_list_pop PySem.F.type_list_pop mt_popAt (pv 5) (pa_cons (pe_op op_mod (pe_op op_fdivW (pixL K (by rfl) (pv 0) pe_int (fun _ _ => rfl)) (pe_op op_add pe_int (pe_op op_mulI pe_int (pv 3)))) (pe_callB (crLen K (by rfl)) (by rfl) T.b_len PySem.boot_len (pa_cons (pv 5) pa_nil))) pa_nil)) pa_nil)))))
      (pss_cons (ps_set (i := 7) sc__law_net.nd rfl (by first | exact Or.inl rfl | exact Or.inr rfl) (pe_lst pa_nil))
      (pss_cons (ps_for PassesOwn.never rfl (pi_range1 (by rfl) T.b_range (pa_cons (pv 2) pa_nil)) (pg_name (i := 3) sc__law_net.nd rfl (by first | exact Or.inl rfl | exact Or.inr rfl)) (Evl.pss_cut (ps_if (PW.pt (pw_or (pt_cmpR op_eq (pv 3) pe_int (nomark _)) (pw_or1 (pt_cmpR op_gt (pe_op op_mod (pe_op op_fdivW (pixL K (by rfl) (pv 0) pe_int (fun _ _ => rfl)) (pe_op op_shl pe_int (pv 3))) pe_int) pe_int (nomark _))))) (pss_one (ps_expr (pbm K (by rfl) PySem.F.plainAttrs_list PySem.F.slot_list_append PySem.F.type_list_append mt_append (pv 7) (pa_cons (pe_tup (pa_cons (pe_un un_neg pe_int) (pa_cons (pixL K (by rfl) (pv 6) (pv 3) (fun _ _ => rfl)) pa_nil))) pa_nil)))) pss_nil)
      (Evl.pss_cut (ps_if (PW.pt (pw_or (pt_cmpR op_eq (pv 3) (pe_op op_sub (pv 2) pe_int) (nomark _)) (pw_or1 (pt_cmpR op_gt (pe_op op_mod (pe_op op_fdivW (pixL K (by rfl) (pv 0) pe_int (fun _ _ => rfl)) (pe_op op_shl pe_int (pv 3))) pe_int) pe_int (nomark _))))) (pss_one (ps_expr (pbm K (by rfl) PySem.F.plainAttrs_list PySem.F.slot_list_append PySem.F.type_list_append mt_append (pv 7) (pa_cons (pe_tup (pa_cons (pixL K (by rfl) (pv 6) (pv 3) (fun _ _ => rfl)) (pa_cons (pe_un un_neg pe_int) pa_nil))) pa_nil)))) pss_nil)
      (pss_one (ps_for PassesOwn.never rfl (pi_range2 (by rfl) T.b_range (pa_cons (pe_op op_add (pv 3) pe_int) (pa_cons (pv 2) pa_nil))) (pg_name (i := 8) sc__law_net.nd rfl (by first | exact Or.inl rfl | exact Or.inr rfl)) (pss_one (ps_if (PW.pt (pw_or (PW.pt (pw_and (pt_cmpR op_eq (pv 8) (pe_op op_add (pv 3) pe_int) (nomark _)) (pw_and1 (pt_cmpR op_gt (pe_op op_mod (pixL K (by rfl) (pv 0) pe_int (fun _ _ => rfl)) pe_int) pe_int (nomark _))))) (pw_or1 (pt_cmpR op_eq (pe_op op_mod (pe_op op_fdivW (pixL K (by rfl) (pv 0) pe_int (fun _ _ => rfl)) (pe_op op_add (pe_op op_add pe_int (pv 3)) (pe_op op_mulI pe_int (pv 8)))) pe_int) pe_int (nomark _))))) (pss_one (ps_expr (pbm K (by rfl) PySem.F.plainAttrs_list PySem.F.slot_list_append PySem.F.type_list_append mt_append (pv 7) (pa_cons (pe_tup (pa_cons (pixL K (by rfl) (pv 6) (pv 3) (fun _ _ => rfl)) (pa_cons (pixL K (by rfl) (pv 6) (pv 8) (fun _ _ => rfl)) pa_nil))) pa_nil)))) pss_nil)))))))
      (Evl.pss_cut (ps_if (pt_cmpR op_eq (pe_op op_mod (pixL K (by rfl) (pv 0) pe_int (fun _ _ => rfl)) pe_int) pe_int (nomark _)) (pss_one (ps_expr (pbm K (by rfl) PySem.F.plainAttrs_list PySem.F.slot_list_append PySem.F.type_list_append mt_append (pv 7) (pa_cons (pe_tup (pa_cons (pe_un un_neg pe_int) (pa_cons (pe_un un_neg pe_int) pa_nil))) pa_nil)))) pss_nil)
      (Evl.pss_cut (ps_if (PW.pt (pw_and (pt_cmpR op_eq (pe_op op_mod (pixL K (by rfl) (pv 0) pe_int (fun _ _ => rfl)) pe_int) pe_int (nomark _)) (pw_and1 (pt_cmpR (opNeD K (by rfl) (hu64 hr)) (pv 7) (pe_lst pa_nil) (nomark _))))) (pss_one (ps_expr (pbm K (by rfl) PySem.F.plainAttrs_list PySem.F.slot_list_pop PySem.F.type_list_pop mt_popAt (pv 7) (pa_cons (pe_op op_mod (pe_op op_fdivW (pixL K (by rfl) (pv 0) pe_int (fun _ _ => rfl)) pe_int) (pe_callB (crLen K (by rfl)) (by rfl) T.b_len PySem.boot_len (pa_cons (pv 7) pa_nil))) pa_nil)))) pss_nil)
      (pss_one (ps_ret (pe_tup (pa_cons (pv 4) (pa_cons (pe_callB (crSrtW K (by rfl)) (by rfl) T.b_sorted (by decide +kernel) (pa_cons (pv 7) pa_nil)) pa_nil)))))))))))))), ?_⟩
  apply body_of
  · walk_at "lf"
  rintro _ Q ⟨ns, most, rfl, hl7, hl, hb, hm, q⟩
  walk_at "dd"
  have hbg : ∀ k : Nat, k < ns.length → 0 ≤ ns.getD k 0 ∧ ns.getD k 0 < 10 ^ 40 := fun k hk => hb _ (by
    rw [List.getD_eq_getElem?_getD, List.getElem?_eq_getElem hk]
    exact List.getElem_mem _)
  refine ⟨fun ρ' => ∃ m : Nat, m ≤ max 3 most ∧ ρ' = [some (.g (.list (inD ns))), some (.g (.int most)), some (.g (.int m)), none, none, none, none, none, none], ?_, ?_⟩
  · walk_at "dd"
    walk_at "ix"
    walk_at "dd"
    · have p0 := Int.emod_nonneg (ns.getD (0 : Int).toNat 0) (b := 8) (by omega)
      have p1 := Int.emod_lt_of_pos (ns.getD (0 : Int).toNat 0) (b := 8) (by omega)
      generalize ns.getD (0 : Int).toNat 0 % 8 = wv at p0 p1 ⊢
      have hw : wv = 0 ∨ wv = 1 ∨ wv = 2 ∨ wv = 3 ∨ wv = 4 ∨ wv = 5 ∨ wv = 6 ∨ wv = 7 := by omega
      rcases hw with rfl | rfl | rfl | rfl | rfl | rfl | rfl | rfl
      · exact w_ixL rfl rfl (w_setG ⟨1, by omega, rfl⟩)
      · exact w_ixL rfl rfl (w_setG ⟨1, by omega, rfl⟩)
      · exact w_ixL rfl rfl (w_setG ⟨2, by omega, rfl⟩)
      · exact w_ixL rfl rfl (w_setG ⟨2, by omega, rfl⟩)
      · exact w_ixL rfl rfl (w_setG ⟨3, by omega, rfl⟩)
      · exact w_ixL rfl rfl (w_setG ⟨most, by omega, rfl⟩)
      · exact w_ixL rfl rfl (w_setG ⟨2, by omega, rfl⟩)
      · exact w_ixL rfl rfl (w_setG ⟨0, by omega, rfl⟩)
    all_goals walk_at "sd"
  rintro ρ' ⟨m, hmm, rfl⟩
  have hm6 : m ≤ 6 := by omega
  walk_at "dd"
  refine w_rg1 (m := m) rfl (by omega) ?_
  refine ⟨by rw [rgD_len]; omega, mpI fun n => .str (if ns.getD (1 : Int).toNat 0 / (2 ^ n.toNat) % 2 = 0 then "pile" else "line"), ?_, ?_⟩
  · rintro j x hx
    obtain ⟨hj, rfl⟩ := rgD_get hx
    walk_at "dd"
    walk_at "ix"
    walk_at "dd"
    · have p0 := Int.emod_nonneg (ns.getD (1 : Int).toNat 0 / (1 * 2 ^ (0 + (j : Int)).toNat)) (b := 2) (by omega)
      have p1 := Int.emod_lt_of_pos (ns.getD (1 : Int).toNat 0 / (1 * 2 ^ (0 + (j : Int)).toNat)) (b := 2) (by omega)
      show dIxL _ _ _
      have e1 : (1 : Int) * 2 ^ (0 + (j : Int)).toNat = 2 ^ (0 + (j : Int)).toNat := by omega
      rw [e1] at p0 p1 ⊢
      unfold mpI
      dsimp only
      generalize ns.getD (1 : Int).toNat 0 / 2 ^ (0 + (j : Int)).toNat % 2 = wv at p0 p1 ⊢
      have hw : wv = 0 ∨ wv = 1 := by omega
      rcases hw with rfl | rfl
      · exact w_ixL rfl rfl ⟨_, rfl, rfl⟩
      · exact w_ixL rfl rfl ⟨_, rfl, rfl⟩
    · decide
    · exact cdv_pow (by omega) (by omega)
    · exact ⟨by omega, by omega, by decide⟩
  rw [rgD_in, fm_mpI]
  obtain ⟨ss, hss, hsl, hsw⟩ : ∃ ss : List Str, (rgI 0 m).map (fun n => PyData.str (if ns.getD (1 : Int).toNat 0 / (2 ^ n.toNat) % 2 = 0 then "pile" else "line")) = ssD ss ∧ ss.length = m ∧ ∀ s ∈ ss, word s := by
    refine ⟨(rgI 0 m).map (fun n => if ns.getD (1 : Int).toNat 0 / (2 ^ n.toNat) % 2 = 0 then "pile" else "line"), by unfold ssD; rw [List.map_map]; rfl, by rw [List.length_map, rgI_len], fun s hs => ?_⟩
    obtain ⟨n, _, rfl⟩ := List.mem_map.mp hs
    split
    · exact .inl rfl
    · exact .inr rfl
  rw [hss]
  walk_at "ff"
  walk_at "dd"
  refine w_lrg1 (m := m) rfl (by omega) ?_
  walk_at "oo"
  walk_at "dd"
  refine w_rg1 (m := m) rfl (by omega) ?_
  refine ⟨rfl, fun i ρ' => ∃ (ls fs : List PyData) (v3 : Option Dv.T), ρ' = [some (.g (.list (inD ns))), some (.g (.int most)), some (.g (.int m)), v3, some (.g (.list (ssD ss))), some (.l ls), some (.l fs), none, none] ∧ ls.length = m - i ∧ fs.length = i ∧ (ls ++ fs).Perm (rgD 0 m), ⟨_, _, _, rfl, by rw [rgD_len]; rfl, rfl, by rw [List.append_nil]⟩, ?_, ?_⟩
  · rintro i x ρ' hx ⟨ls, fs, v3, rfl, h1, h2, h3⟩
    obtain ⟨hi, rfl⟩ := rgD_get hx
    walk_at "dd"
    refine w_appPop (es := fs) (ds := ls) (by decide) rfl rfl ?_
    walk_at "dd"
    walk_at "ix"
    walk_at "dd"
    · generalize ns.getD (2 : Int).toNat 0 / (1 + 3 * (0 + (i : Int))) = kk
      have p0 := Int.emod_nonneg kk (b := ((ls.length : Nat) : Int)) (by omega)
      have p1 := Int.emod_lt_of_pos kk (b := ((ls.length : Nat) : Int)) (by omega)
      generalize kk % ((ls.length : Nat) : Int) = k at p0 p1 ⊢
      obtain ⟨y, _, hy⟩ := atI_ok p0 p1
      refine ⟨_, k, _, y, rfl, rfl, by omega, by omega, seqIx_ok p0 p1, hy, by omega, _, _, _, rfl, ?_, ?_, (Dv.erase_perm hy).trans h3⟩
      · rw [List.length_eraseIdx, if_pos (by omega)]
        omega
      · rw [List.length_append, h2]
        rfl
    · omega
    · exact cdv_small (by omega) (by omega)
    · exact IntMulOk.of_left (intBits_le_64 (by omega) (by omega))
  · rintro ρ' ⟨ls, fs, v3, rfl, h1, h2, h3⟩
    rw [rgD_len] at h1 h2
    have e0 : ls = [] := List.eq_nil_of_length_eq_zero (by omega)
    subst e0
    rw [List.nil_append, rgD_in] at h3
    obtain ⟨os, rfl, gb⟩ := ints_of (P := fun n => 0 ≤ n ∧ n < m) (ds := fs) fun d hd => by
      obtain ⟨n, hn, rfl⟩ := List.mem_map.mp (h3.mem_iff.mp hd)
      have := mem_rgI.mp hn
      exact ⟨n, rfl, by omega, by omega⟩
    rw [inD_len] at h2
    have hos : ∀ k : Nat, k < m → 0 ≤ os.getD k 0 ∧ os.getD k 0 < m := fun k hk => gb _ (by
      rw [List.getD_eq_getElem?_getD, List.getElem?_eq_getElem (by omega)]
      exact List.getElem_mem _)
    have onj : ∀ a b : Nat, a < m → b < m → a ≠ b → os.getD a 0 ≠ os.getD b 0 := fun a b ha hb' hab e => by
      have h4 : (inD (rgI 0 m)).Nodup := by
        unfold inD List.Nodup
        rw [List.pairwise_map]
        exact (rise_rgI 0 m).imp fun h e => by
          have := PyData.int.inj e
          omega
      have h5 := h3.nodup_iff.mpr h4
      unfold inD List.Nodup at h5
      rw [List.pairwise_map] at h5
      have h6 : os.Nodup := h5.imp fun h e => h (by rw [e])
      rw [List.getD_eq_getElem?_getD, List.getD_eq_getElem?_getD, List.getElem?_eq_getElem (by omega), List.getElem?_eq_getElem (by omega)] at e
      exact hab ((List.getElem_inj h6).mp e)
    walk_at "dd"
    refine w_rg1 (m := m) rfl (by omega) ?_
    refine ⟨rfl, fun i ρ' => ∃ (ws : List (Int × Int)) (v3 v8 : Option Dv.T), ρ' = [some (.g (.list (inD ns))), some (.g (.int most)), some (.g (.int m)), v3, some (.g (.list (ssD ss))), some (.l []), some (.l (inD os)), some (.l (wsD ws)), v8] ∧ ws.length ≤ i * 8 ∧ ∀ w ∈ ws, WayIn m w, ⟨[], _, _, rfl, by simp, by simp⟩, ?_, ?_⟩
    · rintro i x ρ' hx ⟨ws, v3, v8, rfl, hwl, hww⟩
      obtain ⟨hi, rfl⟩ := rgD_get hx
      have hoi := hos i hi
      have e0 : (0 + (i : Int)).toNat = i := by omega
      walk_at "dd"
      refine ⟨fun ρ' => ∃ ws : List (Int × Int), ρ' = [some (.g (.list (inD ns))), some (.g (.int most)), some (.g (.int m)), some (.g (.int (0 + (i : Int)))), some (.g (.list (ssD ss))), some (.l []), some (.l (inD os)), some (.l (wsD ws)), v8] ∧ ws.length ≤ i * 8 + 1 ∧ ∀ w ∈ ws, WayIn m w, ?_, ?_⟩
      · have app : ∀ ρ', ρ' = [some (.g (.list (inD ns))), some (.g (.int most)), some (.g (.int m)), some (.g (.int (0 + (i : Int)))), some (.g (.list (ssD ss))), some (.l []), some (.l (inD os)), some (.l (wsD ws ++ [wyD (-1, os.getD i 0)])), v8] → (fun ρ' => ∃ ws : List (Int × Int), ρ' = [some (.g (.list (inD ns))), some (.g (.int most)), some (.g (.int m)), some (.g (.int (0 + (i : Int)))), some (.g (.list (ssD ss))), some (.l []), some (.l (inD os)), some (.l (wsD ws)), v8] ∧ ws.length ≤ i * 8 + 1 ∧ ∀ w ∈ ws, WayIn m w) ρ' := fun ρ' e => ⟨ws ++ [(-1, os.getD i 0)], by rw [e, wsD_snoc], by rw [List.length_append]; simp; omega, all_snoc hww ⟨.inl rfl, .inr hoi⟩⟩
        walk_at "dd"
        refine ite2 (fun hc => ?_) (fun hc => ?_)
        · walk_at "dd"
          walk_at "ix"
          walk_at "dd"
          · rw [wsD_len]
            omega
          rw [e0]
          exact app _ rfl
        · walk_at "dd"
          walk_at "ix"
          walk_at "dd"
          · refine ite2 (fun hc => ?_) (fun hc => ?_)
            · walk_at "dd"
              walk_at "ix"
              walk_at "dd"
              · rw [wsD_len]
                omega
              rw [e0]
              exact app _ rfl
            · walk_at "dd"
              exact ⟨ws, rfl, by omega, hww⟩
          · decide
          · exact cdv_pow (by omega) (by omega)
          · exact ⟨by omega, by omega, by decide⟩
      rintro ρ' ⟨ws, rfl, hwl, hww⟩
      walk_at "dd"
      refine ⟨fun ρ' => ∃ ws : List (Int × Int), ρ' = [some (.g (.list (inD ns))), some (.g (.int most)), some (.g (.int m)), some (.g (.int (0 + (i : Int)))), some (.g (.list (ssD ss))), some (.l []), some (.l (inD os)), some (.l (wsD ws)), v8] ∧ ws.length ≤ i * 8 + 2 ∧ ∀ w ∈ ws, WayIn m w, ?_, ?_⟩
      · have app : ∀ ρ', ρ' = [some (.g (.list (inD ns))), some (.g (.int most)), some (.g (.int m)), some (.g (.int (0 + (i : Int)))), some (.g (.list (ssD ss))), some (.l []), some (.l (inD os)), some (.l (wsD ws ++ [wyD (os.getD i 0, -2)])), v8] → (fun ρ' => ∃ ws : List (Int × Int), ρ' = [some (.g (.list (inD ns))), some (.g (.int most)), some (.g (.int m)), some (.g (.int (0 + (i : Int)))), some (.g (.list (ssD ss))), some (.l []), some (.l (inD os)), some (.l (wsD ws)), v8] ∧ ws.length ≤ i * 8 + 2 ∧ ∀ w ∈ ws, WayIn m w) ρ' := fun ρ' e => ⟨ws ++ [(os.getD i 0, -2)], by rw [e, wsD_snoc], by rw [List.length_append]; simp; omega, all_snoc hww ⟨.inr hoi, .inl rfl⟩⟩
        walk_at "dd"
        refine ite2 (fun hc => ?_) (fun hc => ?_)
        · walk_at "dd"
          walk_at "ix"
          walk_at "dd"
          · rw [wsD_len]
            omega
          rw [e0]
          exact app _ rfl
        · walk_at "dd"
          walk_at "ix"
          walk_at "dd"
          · refine ite2 (fun hc => ?_) (fun hc => ?_)
            · walk_at "dd"
              walk_at "ix"
              walk_at "dd"
              · rw [wsD_len]
                omega
              rw [e0]
              exact app _ rfl
            · walk_at "dd"
              exact ⟨ws, rfl, by omega, hww⟩
          · decide
          · exact cdv_pow (by omega) (by omega)
          · exact ⟨by omega, by omega, by decide⟩
      rintro ρ' ⟨ws, rfl, hwl, hww⟩
      walk_at "dd"
      refine w_rg2 (m := m - (i + 1)) (by omega) (by omega) ?_
      refine ⟨rfl, fun j ρ' => ∃ (ws : List (Int × Int)) (v8 : Option Dv.T), ρ' = [some (.g (.list (inD ns))), some (.g (.int most)), some (.g (.int m)), some (.g (.int (0 + (i : Int)))), some (.g (.list (ssD ss))), some (.l []), some (.l (inD os)), some (.l (wsD ws)), v8] ∧ ws.length ≤ i * 8 + 2 + j ∧ ∀ w ∈ ws, WayIn m w, ⟨ws, _, rfl, by omega, hww⟩, ?_, ?_⟩
      · rintro j x ρ' hx ⟨ws, v8, rfl, hwl, hww⟩
        obtain ⟨hj, rfl⟩ := rgD_get hx
        have e1 : (0 + (i : Int) + 1 + (j : Int)).toNat = i + 1 + j := by omega
        have hoj := hos (i + 1 + j) (by omega)
        have hne := onj i (i + 1 + j) hi (by omega) (by omega)
        have app : ∀ ρ', ρ' = [some (.g (.list (inD ns))), some (.g (.int most)), some (.g (.int m)), some (.g (.int (0 + (i : Int)))), some (.g (.list (ssD ss))), some (.l []), some (.l (inD os)), some (.l (wsD ws ++ [wyD (os.getD i 0, os.getD (i + 1 + j) 0)])), some (.g (.int (0 + (i : Int) + 1 + (j : Int))))] → (fun ρ' => ∃ (us : List (Int × Int)) (v8 : Option Dv.T), ρ' = [some (.g (.list (inD ns))), some (.g (.int most)), some (.g (.int m)), some (.g (.int (0 + (i : Int)))), some (.g (.list (ssD ss))), some (.l []), some (.l (inD os)), some (.l (wsD us)), v8] ∧ us.length ≤ i * 8 + 2 + (j + 1) ∧ ∀ w ∈ us, WayIn m w) ρ' := fun ρ' e => ⟨ws ++ [(os.getD i 0, os.getD (i + 1 + j) 0)], some (.g (.int (0 + (i : Int) + 1 + (j : Int)))), by rw [e, wsD_snoc], by rw [List.length_append]; simp; omega, all_snoc hww ⟨.inr hoi, .inr hoj⟩⟩
        walk_at "dd"
        refine ite2 (fun hc => ?_) (fun hc => ?_)
        · walk_at "dd"
          walk_at "ix"
          walk_at "dd"
          · refine ite2 (fun hc => ?_) (fun hc => ?_)
            · walk_at "dd"
              walk_at "ix"
              walk_at "dd"
              walk_at "ix"
              walk_at "dd"
              · rw [wsD_len]
                omega
              rw [e0, e1]
              exact app _ rfl
            · walk_at "dd"
              walk_at "ix"
              walk_at "dd"
              · refine ite2 (fun hc => ?_) (fun hc => ?_)
                · walk_at "dd"
                  walk_at "ix"
                  walk_at "dd"
                  walk_at "ix"
                  walk_at "dd"
                  · rw [wsD_len]
                    omega
                  rw [e0, e1]
                  exact app _ rfl
                · walk_at "dd"
                  exact ⟨ws, _, rfl, by omega, hww⟩
              · decide
              · exact cdv_small (by omega) (by omega)
              · exact IntMulOk.of_left (intBits_le_64 (by omega) (by omega))
          · decide
        · walk_at "dd"
          walk_at "ix"
          walk_at "dd"
          · refine ite2 (fun hc => ?_) (fun hc => ?_)
            · walk_at "dd"
              walk_at "ix"
              walk_at "dd"
              walk_at "ix"
              walk_at "dd"
              · rw [wsD_len]
                omega
              rw [e0, e1]
              exact app _ rfl
            · walk_at "dd"
              exact ⟨ws, _, rfl, by omega, hww⟩
          · decide
          · exact cdv_small (by omega) (by omega)
          · exact IntMulOk.of_left (intBits_le_64 (by omega) (by omega))
      · rintro ρ' ⟨ws, v8, rfl, hwl, hww⟩
        rw [rgD_len] at hwl
        exact ⟨ws, _, _, rfl, by omega, hww⟩
    · rintro ρ' ⟨ws, v3, v8, rfl, hwl, hww⟩
      rw [rgD_len] at hwl
      walk_at "dd"
      refine ⟨fun ρ' => ∃ ws : List (Int × Int), ρ' = [some (.g (.list (inD ns))), some (.g (.int most)), some (.g (.int m)), v3, some (.g (.list (ssD ss))), some (.l []), some (.l (inD os)), some (.l (wsD ws)), v8] ∧ ws.length ≤ m * 8 + 1 ∧ ∀ w ∈ ws, WayIn m w, ?_, ?_⟩
      · walk_at "dd"
        walk_at "ix"
        walk_at "dd"
        · refine ite2 (fun hc => ?_) (fun hc => ?_)
          · walk_at "dd"
            · rw [wsD_len]
              omega
            exact ⟨ws ++ [(-1, -2)], by rw [← wsD_snoc]; rfl, by rw [List.length_append]; simp; omega, all_snoc hww ⟨.inl rfl, .inl rfl⟩⟩
          · walk_at "dd"
            exact ⟨ws, rfl, by omega, hww⟩
        · decide
      rintro ρ' ⟨ws, rfl, hwl, hww⟩
      walk_at "dd"
      refine ⟨fun ρ' => ∃ ws : List (Int × Int), ρ' = [some (.g (.list (inD ns))), some (.g (.int most)), some (.g (.int m)), v3, some (.g (.list (ssD ss))), some (.l []), some (.l (inD os)), some (.l (wsD ws)), v8] ∧ ws.length ≤ m * 8 + 1 ∧ ∀ w ∈ ws, WayIn m w, ?_, ?_⟩
      · walk_at "dd"
        walk_at "ix"
        walk_at "dd"
        · refine ite2 (fun hc => ?_) (fun hc => ?_)
          · walk_at "dd"
            refine w_neWs (ws := ws) rfl rfl ?_
            walk_at "dd"
            refine ite2 (fun hc => ?_) (fun hc => ?_)
            · have hne : ws ≠ [] := by simpa using hc
              have hpos : 0 < ws.length := List.length_pos_iff.mpr hne
              refine ⟨⟨_, _, rfl, rfl⟩, ?_⟩
              walk_at "dd"
              walk_at "ix"
              walk_at "dd"
              · rw [wsD_len]
                generalize ns.getD (6 : Int).toNat 0 / 16 = kk
                have p0 := Int.emod_nonneg kk (b := ((ws.length : Nat) : Int)) (by omega)
                have p1 := Int.emod_lt_of_pos kk (b := ((ws.length : Nat) : Int)) (by omega)
                generalize kk % ((ws.length : Nat) : Int) = k at p0 p1 ⊢
                have hk : k.toNat < ws.length := by omega
                refine ⟨_, wsD ws, rfl, rfl, _, k, k.toNat, wyD ws[k.toNat], rfl, rfl, by omega, by omega, seqIx_ok p0 (by rw [wsD_len]; exact p1), by unfold wsD; rw [List.getElem?_map, List.getElem?_eq_getElem hk]; rfl, ws.eraseIdx k.toNat, ?_, ?_, fun w hw => hww w (List.mem_of_mem_eraseIdx hw)⟩
                · rw [show (wsD ws).eraseIdx k.toNat = wsD (ws.eraseIdx k.toNat) from erase_map wyD ws _]
                  rfl
                · have := List.length_eraseIdx_le ws k.toNat
                  omega
              · rw [wsD_len]
                omega
              · exact cdv_small (by decide) (by decide)
            · walk_at "dd"
              exact ⟨ws, rfl, by omega, hww⟩
          · walk_at "dd"
            exact ⟨ws, rfl, by omega, hww⟩
        · decide
      rintro ρ' ⟨ws, rfl, hwl, hww⟩
      walk_at "dd"
      refine w_sortW (ws := ws) rfl fun us pm hs => ?_
      walk_at "dd"
      exact q ss us (by omega) hsw (fun w hw => by rw [hsl]; exact hww w (pm.mem_iff.mp hw)) hs (by have := pm.length_eq; omega)

def cDrawn : List PyData → (T → Prop) → Prop := fun xs Q => ∃ (ss : List Str) (ws : List (Int × Int)) (ns : List Int) (M : Nat), xs = [ntD ss ws, .list (inD ns), .int M] ∧ ss.length ≤ 100 ∧ (∀ w ∈ ws, WayIn ss.length w) ∧ ws.length ≤ 100 ∧ 0 < ns.length ∧ ns.length ≤ 1000 ∧ M ≤ 60 ∧ Q (.g .none) ∧
  ∀ (ms : List (Int × Int)) (s : TS0) (n : Nat), n ≤ M → ms.length ≤ 60 → (∀ m ∈ ms, m ∈ ws) → TokOk ss.length n (rgI 0 ss.length) s → tRun ss (rgI 0 n) ms (0, List.replicate ss.length [], []) = some s → s.2.2.length = n → Q (.g (.tuple [.list (wsD ms), .list (inD ((rgI 0 n).map (outAt s.2.2))), .list (inD (whoT ss (rgI 0 n) ms (0, List.replicate ss.length [], [])))]))
theorem ok_drawn (T : Top K mg) : Cal P w K mg base CX0 1 "_law_drawn" ["net", "xs", "many"] (spD K cDrawn) := Cal.of T.d__law_drawn (fun _ _ _ _ _ _ us hl => match us, hl with | [_, _, _], _ => rfl) fun f fd F => by
  refine ok_def F sc__law_drawn (fun xs QD ⟨_, _, _, _, e, _⟩ => by rw [e]; rfl) fun cdv A outer s H E hr => ?_
  refine ⟨_, (pss_cons (ps_set (i := 3) sc__law_drawn.nd rfl (by first | exact Or.inl rfl | exact Or.inr rfl) (pe_lc (own := [("station", 14)]) (g := (gName 14)) (by rfl) sc__law_drawn.nd (piL K (by rfl) (pixT K (by rfl) (pv 0) pe_int (fun _ _ => rfl))) (blkOk_by (own := [("station", 14)]) (by kernel_rfl)) (fun _ _ _ _ _ => (pg_name (i := 14) sc__law_drawn.nd rfl (by first | exact Or.inl rfl | exact Or.inr rfl))) (fun _ _ _ _ _ => pts_nil) (fun _ _ _ _ _ => (pe_lst pa_nil))))
      (pss_cons (ps_set (i := 4) sc__law_drawn.nd rfl (by first | exact Or.inl rfl | exact Or.inr rfl) pe_int)
      (pss_cons (ps_set (i := 5) sc__law_drawn.nd rfl (by first | exact Or.inl rfl | exact Or.inr rfl) (pe_lst pa_nil))
      (pss_cons (ps_set (i := 6) sc__law_drawn.nd rfl (by first | exact Or.inl rfl | exact Or.inr rfl) (pe_lst pa_nil))
      (pss_cons (ps_set (i := 7) sc__law_drawn.nd rfl (by first | exact Or.inl rfl | exact Or.inr rfl) (pe_lst pa_nil))
      (pss_cons (ps_for PassesOwn.never rfl (pi_range1 (by rfl) T.b_range (pa_cons pe_int pa_nil)) (pg_name (i := 8) sc__law_drawn.nd rfl (by first | exact Or.inl rfl | exact Or.inr rfl)) (pss_cons (ps_setLc (i := 9) (own := [("way", 15)]) (g := (gName 15)) (by rfl) sc__law_drawn.nd rfl rfl (sw_true rfl rfl rfl (by decide +kernel)) (piL K (by rfl) (pixT K (by rfl) (pv 0) pe_int (fun _ _ => rfl))) (blkOk_by (own := [("way", 15)]) (by kernel_rfl)) (fun _ _ _ _ _ => (pg_name (i := 15) sc__law_drawn.nd rfl (by first | exact Or.inl rfl | exact Or.inr rfl))) (fun _ _ _ _ _ => (pts_one (PW.pt (pw_and (pt_cmpR op_ge (pixT K (by rfl) (pv 15) pe_int (fun _ _ => rfl)) pe_int (nomark _)) (pw_and1 (pt_cmpR (opNeD K (by rfl) (hu64 hr)) (pixL K (by rfl) (pv 3) (pixT K (by rfl) (pv 15) pe_int (fun _ _ => rfl)) (fun _ _ => rfl)) (pe_lst pa_nil) (nomark _))))))) (fun _ _ _ _ _ => (pv 15)))
      (Evl.pss_cut (ps_if (pt_cmpR op_lt (pv 4) (pv 2) (nomark _)) (pss_one (ps_set (i := 9) sc__law_drawn.nd rfl (by first | exact Or.inl rfl | exact Or.inr rfl) (pe_op op_cat (pv 9) (pe_lc (own := [("way", 15)]) (g := (gName 15)) (by rfl) sc__law_drawn.nd (piL K (by rfl) (pixT K (by rfl) (pv 0) pe_int (fun _ _ => rfl))) (blkOk_by (own := [("way", 15)]) (by kernel_rfl)) (fun _ _ _ _ _ => (pg_name (i := 15) sc__law_drawn.nd rfl (by first | exact Or.inl rfl | exact Or.inr rfl))) (fun _ _ _ _ _ => (pts_one (pt_cmpR op_eq (pixT K (by rfl) (pv 15) pe_int (fun _ _ => rfl)) (pe_un un_neg pe_int) (nomark _)))) (fun _ _ _ _ _ => (pv 15)))))) pss_nil)
      (pss_one (ps_if (pt_cmpR (opNeD K (by rfl) (hu64 hr)) (pv 9) (pe_lst pa_nil) (nomark _)) (pss_cons (ps_set (i := 10) sc__law_drawn.nd rfl (by first | exact Or.inl rfl | exact Or.inr rfl) (pe_op op_fdivW (pixL K (by rfl) (pv 1) (pe_op op_mod (pv 8) (pe_callB (crLen K (by rfl)) (by rfl) T.b_len PySem.boot_len (pa_cons (pv 1) pa_nil))) (fun _ _ => rfl)) (pe_op op_add pe_int (pe_op op_fdivW (pv 8) (pe_callB (crLen K (by rfl)) (by rfl) T.b_len PySem.boot_len (pa_cons (pv 1) pa_nil))))))
      (pss_cons (ps_asg (pixL K (by rfl) (pv 9) (pe_op op_mod (pv 10) (pe_callB (crLen K (by rfl)) (by rfl) T.b_len PySem.boot_len (pa_cons (pv 9) pa_nil))) (fun _ _ => rfl)) (pgT K (by rfl) (by rfl) (pgs_cons (pg_name (i := 11) sc__law_drawn.nd rfl (by first | exact Or.inl rfl | exact Or.inr rfl)) (pgs_cons (pg_name (i := 12) sc__law_drawn.nd rfl (by first | exact Or.inl rfl | exact Or.inr rfl)) pgs_nil))))
      (Evl.pss_cut (ps_if (pt_cmpR op_eq (pv 11) (pe_un un_neg pe_int) (nomark _)) (pss_cons (ps_set (i := 13) sc__law_drawn.nd rfl (by first | exact Or.inl rfl | exact Or.inr rfl) (pv 4))
      (pss_one (ps_set (i := 4) sc__law_drawn.nd rfl (by first | exact Or.inl rfl | exact Or.inr rfl) (pe_op op_add (pv 4) pe_int)))) (pss_one (ps_set (i := 13) sc__law_drawn.nd rfl (by first | exact Or.inl rfl | exact Or.inr rfl) (pbm K (by rfl) PySem.F.plainAttrs_list PySem.F.slot_list_pop PySem.F.type_list_pop mt_popAt (pixL K (by rfl) (pv 3) (pv 11) (fun _ _ => rfl)) (pa_cons (pixL K (by rfl) (pe_lst (pa_cons pe_int (pa_cons (pe_un un_neg pe_int) pa_nil))) (pe_callTy call_int1 (by rfl) T.b_int (by decide +kernel) (pa_cons (pe_cmpR op_eq (pixL K (by rfl) (pixT K (by rfl) (pv 0) pe_int (fun _ _ => rfl)) (pv 11) (fun _ _ => rfl)) pe_str (nomark _)) pa_nil)) (fun _ _ => rfl)) pa_nil)))))
      (Evl.pss_cut (ps_if (pt_cmpR op_eq (pv 12) (pe_un un_neg pe_int) (nomark _)) (pss_one (ps_expr (pbm K (by rfl) PySem.F.plainAttrs_list PySem.F.slot_list_append PySem.F.type_list_append mt_append (pv 5) (pa_cons (pv 13) pa_nil)))) (pss_one (ps_expr (pbm K (by rfl) PySem.F.plainAttrs_list PySem.F.slot_list_append PySem.F.type_list_append mt_append (pixL K (by rfl) (pv 3) (pv 12) (fun _ _ => rfl)) (pa_cons (pv 13) pa_nil)))))
      (pss_cons (ps_expr (pbm K (by rfl) PySem.F.plainAttrs_list PySem.F.slot_list_append PySem.F.type_list_append mt_append (pv 6) (pa_cons (pe_tup (pa_cons (pv 11) (pa_cons (pv 12) pa_nil))) pa_nil)))
      (pss_one (ps_expr (pbm K (by rfl) PySem.F.plainAttrs_list PySem.F.slot_list_append PySem.F.type_list_append mt_append (pv 7) (pa_cons (pv 13) pa_nil))))))))) pss_nil)))))
      (pss_cons (ps_if (pt_cmpR op_lt (pe_callB (crLen K (by rfl)) (by rfl) T.b_len PySem.boot_len (pa_cons (pv 5) pa_nil)) (pv 4) (nomark _)) (pss_one (ps_ret pe_non)) pss_nil)
      (pss_one (ps_ret (pe_tup (pa_cons (pv 6) (pa_cons (pe_lc (own := [("one", 13)]) (g := (gName 13)) (by rfl) sc__law_drawn.nd (pi_range1 (by rfl) T.b_range (pa_cons (pv 4) pa_nil)) (blkOk_by (own := [("one", 13)]) (by kernel_rfl)) (fun _ _ _ _ _ => (pg_name (i := 13) sc__law_drawn.nd rfl (by first | exact Or.inl rfl | exact Or.inr rfl))) (fun _ _ _ _ _ => pts_nil) (fun _ _ _ _ _ => (pbm K (by rfl) PySem.F.plainAttrs_list PySem.F.slot_list_index PySem.F.type_list_index (mtIndex K (by rfl)) (pv 5) (pa_cons (pv 13) pa_nil)))) (pa_cons (pv 7) pa_nil))))))))))))), ?_⟩
  apply body_of
  · walk_at "lf"
  rintro _ Q ⟨ss, ws, ns, M, rfl, hsl, hw, hwl, hnl, hnl2, hM, q0, q⟩
  unfold ntD
  walk_at "dd"
  refine w_ixT rfl atI_zero ?_
  refine w_ell rfl ?_
  refine ⟨by rw [ssD_len]; omega, ?_⟩
  rw [map_nil_ss]
  refine w_setLL ?_
  walk_at "dd"
  refine w_rg1 (m := 60) rfl (by decide) ?_
  refine ⟨rfl, fun i ρ' => ∃ (s : TS0) (ms : List (Int × Int)) (us : List Int) (v8 v9 v10 v11 v12 v13 : Option Dv.T), ρ' = [some (.g (ntD ss ws)), some (.g (.list (inD ns))), some (.g (.int M)), some (.ll (s.2.1.map inD)), some (.g (.int s.1)), some (.l (inD s.2.2)), some (.l (wsD ms)), some (.l (inD us)), v8, v9, v10, v11, v12, v13, none, none] ∧
    TokOk ss.length M (rgI 0 ss.length) s ∧ tRun ss (rgI 0 M) ms (0, List.replicate ss.length [], []) = some s ∧ us = whoT ss (rgI 0 M) ms (0, List.replicate ss.length [], []) ∧ (∀ m ∈ ms, m ∈ ws) ∧ ms.length ≤ i, ⟨(0, List.replicate ss.length [], []), [], [], _, _, _, _, _, _, rfl, ⟨Int.le_refl 0, by omega, by simp, by simp [rgI], fun k z => by
      exfalso
      apply z
      rw [List.getD_eq_getElem?_getD, List.getElem?_replicate]
      split <;> rfl⟩, rfl, rfl, by simp, by simp⟩, ?_, ?_⟩
  rotate_left
  · rintro ρ' ⟨s, ms, us, v8, v9, v10, v11, v12, v13, rfl, tk, run, rfl, hms, hml⟩
    rw [rgD_len] at hml
    walk_at "dd"
    rw [inD_len]
    refine ite2 (fun h1 => ?_) (fun h1 => ?_)
    · walk_at "dd"
      exact q0
    · have h1 : ¬ ((s.2.2.length : Nat) : Int) < s.1 := fun z => h1 (decide_eq_true z)
      have hpl := tk.pm.length_eq
      rw [List.length_append, rgI_len] at hpl
      have g0 := tk.g0
      have gn := tk.gn
      have hol : s.2.2.length = s.1.toNat := by omega
      obtain ⟨r1, r2⟩ := tok_less (n := s.1.toNat) (by omega) run (Int.le_refl 0) (by omega)
      have tk2 : TokOk ss.length s.1.toNat (rgI 0 ss.length) s := ⟨g0, by omega, tk.len, tk.pm, tk.lv⟩
      obtain ⟨e1, e2, e3⟩ := tok_done tk2 hol
      refine ⟨_, .fz 6 (.l (wsD ms)) rfl rfl (.fz 7 (.l (inD (whoT ss (rgI 0 M) ms (0, List.replicate ss.length [], [])))) rfl rfl (.refl _)), ?_⟩
      walk_at "dd"
      refine w_rg1 (m := s.1.toNat) (by omega) (by omega) ?_
      refine ⟨by rw [rgD_len]; omega, mpI fun t => .int (outAt s.2.2 t), ?_, ?_⟩
      · intro j x hx2
        obtain ⟨hj, rfl⟩ := rgD_get hx2
        have hm : (0 + (j : Int)) ∈ s.2.2 := e3.mem_iff.mpr (mem_rgI.mpr (by omega))
        walk_at "dd"
        refine ⟨s.2.2, rfl, ?_⟩
        walk_at "dd"
        refine ⟨_, rfl, hm, ?_⟩
        exact ⟨_, rfl, rfl⟩
      · rw [rgD_in, fm_mpII]
        walk_at "dd"
        rw [← r2]
        exact q ms s s.1.toNat (by omega) hml hms tk2 r1 hol
  rintro i x ρ' hx ⟨s, ms, us, v8, v9, v10, v11, v12, v13, rfl, tk, run, rfl, hms, hml⟩
  obtain ⟨hi, rfl⟩ := rgD_get hx
  have hlen := tk.len
  walk_at "dd"
  refine w_ixT rfl rfl ?_
  walk_at "dd"
  refine w_ell rfl ?_
  refine ⟨by rw [wsD_len]; omega, ifW fun w => decide (0 ≤ w.1) && !decide (s.2.1.getD w.1.toNat [] = []), ?_, ?_⟩
  · intro j x hx2
    obtain ⟨⟨a, b⟩, hw1, rfl⟩ := wsD_get hx2
    have hwm := hw _ (List.mem_of_getElem? hw1)
    rw [ifW_wy]
    walk_at "dd"
    unfold wyD
    refine w_ixT rfl rfl ?_
    walk_at "dd"
    dsimp only
    refine ite2 (fun h3 => ?_) (fun h3 => ?_)
    · have h3' := of_decide_eq_true h3
      have ha : 0 ≤ a ∧ a < ss.length := hwm.1.resolve_left (by dsimp only; omega)
      have hga : ((s.2.1.map inD).map PyData.list)[a.toNat]? = some (.list (inD (s.2.1.getD a.toNat []))) := by
        rw [List.getElem?_map, List.getElem?_map, List.getD_eq_getElem?_getD, List.getElem?_eq_getElem (by omega)]
        rfl
      walk_at "dd"
      refine w_ixT rfl rfl ?_
      walk_at "dd"
      refine w_ixH rfl (atI_of ha.1 hga) ?_
      walk_at "dd"
      refine w_neIn (ns := s.2.1.getD a.toNat []) (ms := []) rfl rfl ?_
      walk_at "dd"
      rw [h3]
      cases hz : !decide (s.2.1.getD a.toNat [] = []) with
      | false => rfl
      | true =>
        walk_at "dd"
        rfl
    · rw [Bool.eq_false_iff.mpr h3]
      rfl
  rw [fm_ifW]
  have hvl := List.length_filter_le (fun w : Int × Int => decide (0 ≤ w.1) && !decide (s.2.1.getD w.1.toNat [] = [])) ws
  have hvm : ∀ w ∈ ws.filter (fun w : Int × Int => decide (0 ≤ w.1) && !decide (s.2.1.getD w.1.toNat [] = [])), w ∈ ws ∧ ((w.1 = -1 ∧ s.1 < M) ∨ (0 ≤ w.1 ∧ s.2.1.getD w.1.toNat [] ≠ [])) := fun w h => by
    obtain ⟨h1, h2⟩ := List.mem_filter.mp h
    simp only [Bool.and_eq_true, Bool.not_eq_true', decide_eq_true_iff, decide_eq_false_iff_not] at h2
    exact ⟨h1, .inr h2⟩
  generalize ws.filter (fun w : Int × Int => decide (0 ≤ w.1) && !decide (s.2.1.getD w.1.toNat [] = [])) = vs at hvl hvm ⊢
  walk_at "oo"
  walk_at "dd"
  refine ⟨fun ρ' => ∃ vs : List (Int × Int), ρ' = [some (.g (ntD ss ws)), some (.g (.list (inD ns))), some (.g (.int M)), some (.ll (s.2.1.map inD)), some (.g (.int s.1)), some (.l (inD s.2.2)), some (.l (wsD ms)), some (.l (inD (whoT ss (rgI 0 M) ms (0, List.replicate ss.length [], [])))), some (.g (.int (0 + (i : Int)))), some (.l (wsD vs)), v10, v11, v12, v13, none, none] ∧ vs.length ≤ 200 ∧ ∀ w ∈ vs, w ∈ ws ∧ ((w.1 = -1 ∧ s.1 < M) ∨ (0 ≤ w.1 ∧ s.2.1.getD w.1.toNat [] ≠ [])), ?_, ?_⟩
  · walk_at "dd"
    refine ite2 (fun h1 => ?_) (fun h1 => ?_)
    · have h1 := of_decide_eq_true h1
      walk_at "dd"
      refine w_ixT rfl rfl ?_
      walk_at "dd"
      refine w_ell rfl ?_
      refine ⟨by rw [wsD_len]; omega, ifW fun w => decide (w.1 = -1), ?_, ?_⟩
      · intro j x hx2
        obtain ⟨⟨a, b⟩, hw1, rfl⟩ := wsD_get hx2
        rw [ifW_wy]
        walk_at "dd"
        unfold wyD
        refine w_ixT rfl rfl ?_
        walk_at "dd"
        refine ite2 (fun h1 => ?_) (fun h1 => ?_)
        · walk_at "dd"
          rw [h1]
          rfl
        · rw [Bool.eq_false_iff.mpr h1]
          rfl
      rw [fm_ifW]
      have hul := List.length_filter_le (fun w : Int × Int => decide (w.1 = -1)) ws
      walk_at "dd"
      refine w_cat rfl rfl (by rw [wsD_len, wsD_len]; omega) ?_
      rw [wsD_app]
      walk_at "oo"
      refine ⟨vs ++ ws.filter (fun w : Int × Int => decide (w.1 = -1)), rfl, by rw [List.length_append]; omega, fun w hw => ?_⟩
      rcases List.mem_append.mp hw with z | z
      · exact hvm w z
      · obtain ⟨z1, z2⟩ := List.mem_filter.mp z
        exact ⟨z1, .inl ⟨of_decide_eq_true z2, h1⟩⟩
    · walk_at "dd"
      exact ⟨vs, rfl, by omega, hvm⟩
  rintro ρ' ⟨vs, rfl, hvl, hvm⟩
  walk_at "dd"
  refine w_neWs (ws := vs) rfl rfl ?_
  walk_at "dd"
  refine ite2 (fun h1 => ?_) (fun h1 => ?_)
  rotate_left
  · walk_at "dd"
    exact ⟨s, ms, _, _, _, _, _, _, _, rfl, tk, run, rfl, hms, by omega⟩
  have hvne : vs ≠ [] := by simpa using h1
  have hpos : 0 < vs.length := List.length_pos_iff.mpr hvne
  have p0 := Int.emod_nonneg (0 + (i : Int)) (b := ((ns.length : Nat) : Int)) (by omega)
  have p1 := Int.emod_lt_of_pos (0 + (i : Int)) (b := ((ns.length : Nat) : Int)) (by omega)
  have p2 : 0 ≤ (0 + (i : Int)) / ((ns.length : Nat) : Int) := Int.ediv_nonneg (by omega) (by omega)
  have p3 : (0 + (i : Int)) / ((ns.length : Nat) : Int) ≤ 0 + (i : Int) := Int.ediv_le_self _ (by omega)
  walk_at "dd"
  rotate_left
  · rw [inD_len]
    omega
  rw [inD_len]
  refine w_ixL rfl (inD_atI p0 p1) ?_
  walk_at "dd"
  · rw [inD_len, wsD_len]
    generalize ns.getD ((0 + (i : Int)) % ((ns.length : Nat) : Int)).toNat 0 / (1 + (0 + (i : Int)) / ((ns.length : Nat) : Int)) = num
    have r30 := Int.emod_nonneg num (b := ((vs.length : Nat) : Int)) (by omega)
    have r31 := Int.emod_lt_of_pos num (b := ((vs.length : Nat) : Int)) (by omega)
    obtain ⟨⟨a, b⟩, hw1, hw2⟩ := atI_ok (xs := vs) r30 r31
    have hat : atI (wsD vs) (num % ((vs.length : Nat) : Int)) = some (wyD (a, b)) := atI_of r30 (by unfold wsD; rw [List.getElem?_map, hw2]; rfl)
    refine w_ixL rfl hat ?_
    obtain ⟨hin, hcan⟩ := hvm _ (List.mem_of_getElem? hw2)
    have hwm := hw _ hin
    unfold wyD
    walk_at "dd"
    dsimp only at hcan hwm ⊢
    refine ⟨fun ρ' => ∃ x : Int, numLeave ss (rgI 0 M) s.1 s.2.1 a = some x ∧ ρ' = [some (.g (ntD ss ws)), some (.g (.list (inD ns))), some (.g (.int M)), some (.ll ((held1 ss s.2.1 a).map inD)), some (.g (.int (if a = -1 then s.1 + 1 else s.1))), some (.l (inD s.2.2)), some (.l (wsD ms)), some (.l (inD (whoT ss (rgI 0 M) ms (0, List.replicate ss.length [], [])))), some (.g (.int (0 + (i : Int)))), some (.l (wsD vs)), some (.g (.int num)), some (.g (.int a)), some (.g (.int b)), some (.g (.int x)), none, none], ?_, ?_⟩
    · walk_at "dd"
      refine ite2 (fun h1 => ?_) (fun h1 => ?_)
      · have h1 := of_decide_eq_true h1
        subst h1
        have hg : s.1 < M := by
          rcases hcan with z | z
          · exact z.2
          · omega
        walk_at "dd"
        refine ⟨s.1, ?_, ?_⟩
        · unfold numLeave
          rw [if_pos rfl, rgI_len, if_pos hg, rgI_getD tk.g0 hg]
        · unfold held1
          rw [if_pos rfl, if_pos rfl]
          rfl
      · have h1 : ¬ a = -1 := fun z => h1 (decide_eq_true z)
        have ha : 0 ≤ a ∧ a < ss.length := hwm.1.resolve_left h1
        have he : s.2.1.getD a.toNat [] ≠ [] := by
          rcases hcan with z | z
          · exact absurd z.1 h1
          · exact z.2
        have hga2 : (s.2.1.map inD)[a.toNat]? = some (inD (s.2.1.getD a.toNat [])) := by
          rw [List.getElem?_map, List.getD_eq_getElem?_getD, List.getElem?_eq_getElem (by omega)]
          rfl
        walk_at "dd"
        refine w_mpk ha.1 hga2 ?_
        walk_at "dd"
        refine w_ixT rfl atI_zero ?_
        walk_at "dd"
        refine w_ixL rfl (ssD_at ha.1 ha.2) ?_
        walk_at "dd"
        by_cases hp : ss.getD a.toNat "line" = "pile"
        · rw [decide_eq_true hp]
          refine w_ixL rfl (show atI [PyData.int 0, PyData.int (-1)] (if true = true then 1 else 0) = some (.int (-1)) from rfl) ?_
          walk_at "dd"
          have h2 : numLeave ss (rgI 0 M) s.1 s.2.1 a = some ((s.2.1.getD a.toNat []).getLastD 0) := by
            unfold numLeave
            rw [if_neg h1, if_neg he, if_pos hp]
          have h3 : held1 ss s.2.1 a = s.2.1.set a.toNat (s.2.1.getD a.toNat []).dropLast := by
            unfold held1
            rw [if_neg h1, if_pos hp]
          refine pop_last he ⟨_, h2, ?_⟩
          rw [map_inD_set, h3, if_neg h1]
          rfl
        · rw [decide_eq_false hp]
          refine w_ixL rfl (show atI [PyData.int 0, PyData.int (-1)] (if false = true then 1 else 0) = some (.int 0) from rfl) ?_
          walk_at "dd"
          have h2 : numLeave ss (rgI 0 M) s.1 s.2.1 a = some ((s.2.1.getD a.toNat []).headD 0) := by
            unfold numLeave
            rw [if_neg h1, if_neg he, if_neg hp]
          have h3 : held1 ss s.2.1 a = s.2.1.set a.toNat (s.2.1.getD a.toNat []).tail := by
            unfold held1
            rw [if_neg h1, if_neg hp]
          refine pop_first he ⟨_, h2, ?_⟩
          rw [map_inD_set, h3, if_neg h1]
          rfl
    · rintro ρ' ⟨x, hx3, rfl⟩
      have hbl : b = -2 ∨ b ∈ rgI 0 ss.length := hwm.2.imp id fun z => mem_rgI.mpr (by omega)
      have tk2 := tok_ok tk hwm hbl hx3
      have hl1 := held1_len ss s.2.1 a
      walk_at "dd"
      refine ⟨fun ρ' => ρ' = [some (.g (ntD ss ws)), some (.g (.list (inD ns))), some (.g (.int M)), some (.ll ((held2 (held1 ss s.2.1 a) b x).map inD)), some (.g (.int (if a = -1 then s.1 + 1 else s.1))), some (.l (inD (if b = -2 then s.2.2 ++ [x] else s.2.2))), some (.l (wsD ms)), some (.l (inD (whoT ss (rgI 0 M) ms (0, List.replicate ss.length [], [])))), some (.g (.int (0 + (i : Int)))), some (.l (wsD vs)), some (.g (.int num)), some (.g (.int a)), some (.g (.int b)), some (.g (.int x)), none, none], ?_, ?_⟩
      · walk_at "dd"
        have ho := tok_outs_le tk
        refine ite2 (fun h2 => ?_) (fun h2 => ?_)
        · have h2 := of_decide_eq_true h2
          subst h2
          walk_at "dd"
          · rw [inD_len]
            omega
          · unfold held2
            rw [if_pos rfl, if_pos rfl, ← inD_app _ [x]]
            rfl
        · have h2 : ¬ b = -2 := fun z => h2 (decide_eq_true z)
          have hb : 0 ≤ b ∧ b < ss.length := hwm.2.resolve_left h2
          have hga2 : ((held1 ss s.2.1 a).map inD)[b.toNat]? = some (inD ((held1 ss s.2.1 a).getD b.toNat [])) := by
            rw [List.getElem?_map, List.getD_eq_getElem?_getD, List.getElem?_eq_getElem (by omega)]
            rfl
          walk_at "dd"
          refine w_mpk hb.1 hga2 ?_
          walk_at "dd"
          refine ⟨.int x, rfl, ?_, ?_⟩
          · rw [inD_len]
            have := getD_small (held1_small (ss := ss) (a := a) (tok_held_le tk)) b.toNat
            omega
          · unfold held2
            rw [if_neg h2, if_neg h2, ← map_inD_set, ← inD_app _ [x]]
            rfl
      · rintro ρ' rfl
        have hul := whoT_len run
        walk_at "dd"
        · rw [wsD_len]
          omega
        · rw [inD_len]
          omega
        · refine ⟨(if a = -1 then s.1 + 1 else s.1, held2 (held1 ss s.2.1 a) b x, if b = -2 then s.2.2 ++ [x] else s.2.2), ms ++ [(a, b)], whoT ss (rgI 0 M) ms (0, List.replicate ss.length [], []) ++ [x], some (.g (.int (0 + (i : Int)))), some (.l (wsD vs)), some (.g (.int num)), some (.g (.int a)), some (.g (.int b)), some (.g (.int x)), ?_, tk2, ?_, ?_, all_snoc hms hin, by rw [List.length_append]; simpa using hml⟩
          · rw [show wsD (ms ++ [(a, b)]) = wsD ms ++ [wyD (a, b)] from (wsD_snoc ms (a, b)).symm, ← inD_app _ [x]]
            rfl
          · rw [tRun_app, run]
            show (tStp ss (rgI 0 M) s (a, b)).bind (tRun ss (rgI 0 M) []) = _
            unfold tStp
            rw [show numLeave ss (rgI 0 M) s.1 s.2.1 (a, b).1 = some x from hx3]
            rfl
          · rw [whoT_snoc run, show numLeave ss (rgI 0 M) s.1 s.2.1 (a, b).1 = some x from hx3]
            rfl
  · rw [wsD_len]
    omega
  · rw [inD_len]
    exact cdv_small (by omega) (by omega)
  · rw [inD_len]
    exact cdv_small (by omega) (by omega)

theorem clean_ssD {ss : List Str} (h : ∀ s ∈ ss, word s) : clean (.list (ssD ss)) = true := by
  show cleanAll (ssD ss) = true
  rw [cleanAll_iff]
  intro x hx
  obtain ⟨s, hs, rfl⟩ := List.mem_map.mp hx
  exact clean_word (h s hs)
theorem depth_ssD (ss : List Str) : (PyData.list (ssD ss)).depth ≤ 1 := by
  show PyData.depthAll (ssD ss) + 1 ≤ 1
  have := depthAll_le (xs := ssD ss) (n := 0) fun x hx => by
    obtain ⟨w, _, rfl⟩ := List.mem_map.mp hx
    exact Nat.le_refl _
  omega
theorem clean_ntD {ss : List Str} (ws : List (Int × Int)) (h : ∀ s ∈ ss, word s) : clean (ntD ss ws) = true := by
  have h1 := clean_ssD h
  have h2 := clean_wsD ws
  show (clean (.list (ssD ss)) && (clean (.list (wsD ws)) && true)) = true
  rw [h1, h2]
  rfl
theorem depth_ntD (ss : List Str) (ws : List (Int × Int)) : (ntD ss ws).depth ≤ 64 := by
  have h1 := depth_ssD ss
  have h2 := depth_wsD ws
  show PyData.depthAll [.list (ssD ss), .list (wsD ws)] + 1 ≤ 64
  have := depthAll_le (xs := [.list (ssD ss), .list (wsD ws)]) (n := 2) fun x hx => by
    rcases List.mem_cons.mp hx with e | e
    · subst e; omega
    · rcases List.mem_cons.mp e with e | e
      · subst e; exact h2
      · cases e
  omega
theorem ixRow {n : Nat} (h : n ≤ 6) : ∃ m : Nat, m ≤ 12 ∧ atI ([.int 12, .int 12, .int 10] ++ (List.replicate (4 : Int).toNat [PyData.int 9]).flatten) (n : Int) = some (.int (m : Int)) := by
  have : n = 0 ∨ n = 1 ∨ n = 2 ∨ n = 3 ∨ n = 4 ∨ n = 5 ∨ n = 6 := by omega
  rcases this with rfl | rfl | rfl | rfl | rfl | rfl | rfl
  · exact ⟨12, by decide, rfl⟩
  · exact ⟨12, by decide, rfl⟩
  · exact ⟨10, by decide, rfl⟩
  · exact ⟨9, by decide, rfl⟩
  · exact ⟨9, by decide, rfl⟩
  · exact ⟨9, by decide, rfl⟩
  · exact ⟨9, by decide, rfl⟩
def spLaw (K : PySem.W.Frag) : Sp := fun vs H Q _ => ∃ (a : Addr) (ns : List Int), vs = [.ref a] ∧ SqL K H a (ns.map V.int) ∧ ns.length ≤ 63 ∧ ∀ H', Q (.bl true) H'
def cLaw : List PyData → (T → Prop) → Prop := fun xs Q => ∃ ns : List Int, xs = [.list (inD ns)] ∧ ns.length ≤ 63 ∧ Q (.g (.bool true))
theorem spLaw_D {vs : List V} {H : Hp} {Q : VK} {E : XK} (h : spLaw K vs H Q E) : spD K cLaw vs H Q E := by
  obtain ⟨a, ns, rfl, hs, hl, q⟩ := h
  exact ⟨H, [.list (inD ns)], fun t => t = .g (.bool true), Same.refl _, .cons (.lst hs (dpAll_of_ints ns)) .nil, ⟨ns, rfl, hl, rfl⟩, fun t v G' H' e _ vr _ => by
    subst e
    rw [dp_bl vr]
    exact q H'⟩

def pzI (ps : List Int) : PyData → Option PyData
  | .tuple [x, .int o] => if decide (o ∈ ps) = true then some x else none
  | _ => none
theorem fm_pzI (ps : List Int) : ∀ (ms : List (Int × Int)) (us : List Int), (zpD (wsD ms) (inD us)).filterMap (pzI ps) = wsD (((ms.zip us).filter fun p => decide (p.2 ∈ ps)).map (·.1))
  | [], us => rfl
  | m :: ms, [] => rfl
  | m :: ms, u :: us => by
    show (PyData.tuple [wyD m, .int u] :: zpD (wsD ms) (inD us)).filterMap (pzI ps) = _
    rw [List.filterMap_cons, List.zip_cons_cons, List.filter_cons, fm_pzI ps ms us]
    unfold pzI
    dsimp only
    cases decide (u ∈ ps) <;> rfl
theorem zpD_get {ms : List (Int × Int)} {us : List Int} {i : Nat} {x : PyData} (h : (zpD (wsD ms) (inD us))[i]? = some x) : ∃ m u, ms[i]? = some m ∧ us[i]? = some u ∧ x = .tuple [wyD m, .int u] := by
  unfold zpD at h
  rw [List.getElem?_map, Option.map_eq_some_iff] at h
  obtain ⟨⟨a, b⟩, h1, rfl⟩ := h
  obtain ⟨h2, h3⟩ := List.getElem?_zip_eq_some.mp h1
  obtain ⟨m, hm, rfl⟩ := wsD_get h2
  obtain ⟨u, hu, rfl⟩ := inD_get h3
  exact ⟨m, u, hm, hu, rfl⟩
theorem clean_kept {ss : List Str} (ws : List (Int × Int)) (rs : List Int) (u : List (Int × Int)) (ps : List Int) (h : ∀ s ∈ ss, word s) : clean (.list [ntD ss ws, .list (inD rs), .list (wsD u), .list (inD ps)]) = true := by
  have h1 := clean_ssD h
  have h2 := clean_wsD ws
  have h3 := clean_ints rs
  have h4 := clean_wsD u
  have h5 := clean_ints ps
  show ((clean (.list (ssD ss)) && (clean (.list (wsD ws)) && true)) && (clean (.list (inD rs)) && (clean (.list (wsD u)) && (clean (.list (inD ps)) && true)))) = true
  rw [h1, h2, h3, h4, h5]
  rfl
theorem depth_kept (ss : List Str) (ws u : List (Int × Int)) (rs ps : List Int) : (PyData.list [ntD ss ws, .list (inD rs), .list (wsD u), .list (inD ps)]).depth ≤ 64 := by
  have h1 := depth_ssD ss
  have h2 := depth_wsD ws
  have h3 : (PyData.list (inD rs)).depth ≤ 2 := by rw [depth_ints2]; decide
  have h4 := depth_wsD u
  have h6 : (PyData.list (inD ps)).depth ≤ 2 := by rw [depth_ints2]; decide
  have h5 : (ntD ss ws).depth ≤ 10 := by
    show PyData.depthAll [.list (ssD ss), .list (wsD ws)] + 1 ≤ 10
    have := depthAll_le (xs := [.list (ssD ss), .list (wsD ws)]) (n := 2) fun x hx => by
      simp only [List.mem_cons, List.not_mem_nil, or_false] at hx
      rcases hx with e | e <;> subst e
      · omega
      · exact h2
    omega
  show PyData.depthAll [ntD ss ws, .list (inD rs), .list (wsD u), .list (inD ps)] + 1 ≤ 64
  have := depthAll_le (xs := [ntD ss ws, .list (inD rs), .list (wsD u), .list (inD ps)]) (n := 10) fun x hx => by
    simp only [List.mem_cons, List.not_mem_nil, or_false] at hx
    rcases hx with e | e | e | e <;> subst e
    · exact h5
    · exact Nat.le_trans h3 (by decide)
    · exact Nat.le_trans h4 (by decide)
    · exact Nat.le_trans h6 (by decide)
  omega
theorem ok_law (T : Top K mg) {f : Addr} {fd : FuncData} (F : Fun K "law" "law" s_law f fd) : FnOk P w K mg base CX0 5 f fd ["script"] (spLaw K) := by
  have C__law_cell_at : Cal P w K mg base CX0 1 "_law_cell_at" _ _ := ok_cellat T
  have C__law_digits : Cal P w K mg base CX0 1 "_law_digits" _ _ := ok_digits T
  have C__law_net : Cal P w K mg base CX0 2 "_law_net" _ _ := ok_lnetx T
  have C__law_drawn : Cal P w K mg base CX0 1 "_law_drawn" _ _ := ok_drawn T
  have C_doing_kept : Cal P w K mg base CX0 4 "doing_kept" _ _ := ok_kept T
  have C__law_alike : Cal P w K mg base CX0 4 "_law_alike" _ _ := ok_alike2 T 4
  refine FnOk.imp (ok_def (c := cLaw) F sc_law (fun xs QD ⟨_, e, _⟩ => by rw [e]; rfl) fun cdv A outer s H E hr => ?_) fun vs H Q E h => spLaw_D h
  refine ⟨_, (pss_cons (ps_for PassesOwn.never rfl (pi_range1 (by rfl) T.b_range (pa_cons (pe_callB (call_max2 (by rfl)) (by rfl) T.b_max (by decide +kernel) (pa_cons pe_int (pa_cons (pe_callB (call_min2 (by rfl)) (by rfl) T.b_min (by decide +kernel) (pa_cons (pe_callB (crLen K (by rfl)) (by rfl) T.b_len PySem.boot_len (pa_cons (pv 0) pa_nil)) (pa_cons pe_int pa_nil))) pa_nil))) pa_nil)) (pg_name (i := 1) sc_law.nd rfl (by first | exact Or.inl rfl | exact Or.inr rfl)) (pss_cons (ps_set (i := 2) sc_law.nd rfl (by first | exact Or.inl rfl | exact Or.inr rfl) (pe_cal C__law_digits (hr.mono (by first | decide | omega)) pass0 (pa_cons (pe_cal C__law_cell_at (hr.mono (by first | decide | omega)) pass0 (pa_cons (pv 0) (pa_cons (pv 1) pa_nil))) (pa_cons pe_int (pa_cons (pe_op op_pow pe_int pe_int) pa_nil)))))
      (pss_cons (ps_set (i := 3) sc_law.nd rfl (by first | exact Or.inl rfl | exact Or.inr rfl) (pe_cal C__law_net (hr.mono (by first | decide | omega)) pass0 (pa_cons (pv 2) (pa_cons pe_int pa_nil))))
      (pss_cons (ps_set (i := 4) sc_law.nd rfl (by first | exact Or.inl rfl | exact Or.inr rfl) (pe_cal C__law_drawn (hr.mono (by first | decide | omega)) pass0 (pa_cons (pv 3) (pa_cons (pslL K (by rfl) (pv 2) (po_some pe_int) po_none) (pa_cons (pe_op op_add pe_int (pe_op op_mod (pixL K (by rfl) (pv 2) pe_int (fun _ _ => rfl)) pe_int)) pa_nil)))))
      (pss_one (ps_if (pt_cmpR op_notN (pv 4) pe_non (nomark _)) (pss_cons (ps_asg (pv 4) (pgT K (by rfl) (by rfl) (pgs_cons (pg_name (i := 5) sc_law.nd rfl (by first | exact Or.inl rfl | exact Or.inr rfl)) (pgs_cons (pg_name (i := 6) sc_law.nd rfl (by first | exact Or.inl rfl | exact Or.inr rfl)) (pgs_cons (pg_name (i := 7) sc_law.nd rfl (by first | exact Or.inl rfl | exact Or.inr rfl)) pgs_nil)))))
      (pss_cons (ps_setLc (i := 8) (own := [("number", 13)]) (g := (gName 13)) (by rfl) sc_law.nd rfl rfl (sw_true rfl rfl rfl (by decide +kernel)) (piL K (by rfl) (pv 6)) (blkOk_by (own := [("number", 13)]) (by kernel_rfl)) (fun _ _ _ _ _ => (pg_name (i := 13) sc_law.nd rfl (by first | exact Or.inl rfl | exact Or.inr rfl))) (fun _ _ _ _ _ => pts_nil) (fun _ _ _ _ _ => (pe_op op_sub (pe_op op_mulI pe_int (pv 13)) pe_int)))
      (pss_cons (ps_set (i := 9) sc_law.nd rfl (by first | exact Or.inl rfl | exact Or.inr rfl) (pe_lc (own := [("place", 14)]) (g := (gName 14)) (by rfl) sc_law.nd (pi_range1 (by rfl) T.b_range (pa_cons (pe_callB (crLen K (by rfl)) (by rfl) T.b_len PySem.boot_len (pa_cons (pv 8) pa_nil)) pa_nil)) (blkOk_by (own := [("place", 14)]) (by kernel_rfl)) (fun _ _ _ _ _ => (pg_name (i := 14) sc_law.nd rfl (by first | exact Or.inl rfl | exact Or.inr rfl))) (fun _ _ _ _ _ => (pts_one (pt_cmpR op_gt (pe_op op_mod (pe_op op_fdivW (pixL K (by rfl) (pv 2) pe_int (fun _ _ => rfl)) (pe_op op_shl pe_int (pv 14))) pe_int) pe_int (nomark _)))) (fun _ _ _ _ _ => (pv 14))))
      (pss_cons (ps_setLc (i := 10) (own := [("move", 15), ("one", 16)]) (g := (gTup K 2 (gCons (gName 15) (gCons (gName 16) gNil)))) (by rfl) sc_law.nd rfl rfl (sw_true rfl rfl rfl (by decide +kernel)) (piZ K (by rfl) (by rfl) T.b_zip (pa_cons (pv 5) (pa_cons (pv 7) pa_nil))) (blkOk_by (own := [("move", 15), ("one", 16)]) (by kernel_rfl)) (fun _ _ _ _ _ => (pgT K (by rfl) (by rfl) (pgs_cons (pg_name (i := 15) sc_law.nd rfl (by first | exact Or.inl rfl | exact Or.inr rfl)) (pgs_cons (pg_name (i := 16) sc_law.nd rfl (by first | exact Or.inl rfl | exact Or.inr rfl)) pgs_nil)))) (fun _ _ _ _ _ => (pts_one (pt_cmpR (opInD K (by rfl) (hu65 hr)) (pv 16) (pv 9) (by rfl)))) (fun _ _ _ _ _ => (pv 15)))
      (pss_cons (ps_set (i := 11) sc_law.nd rfl (by first | exact Or.inl rfl | exact Or.inr rfl) (pe_lst (pa_cons (pe_tup (pa_cons (pe_callTy (crLst K (by rfl)) (by rfl) T.b_list (by decide +kernel) (pa_cons (pixT K (by rfl) (pv 3) pe_int (fun _ _ => rfl)) pa_nil)) (pa_cons (pe_callTy (crLst K (by rfl)) (by rfl) T.b_list (by decide +kernel) (pa_cons (pixT K (by rfl) (pv 3) pe_int (fun _ _ => rfl)) pa_nil)) pa_nil))) (pa_cons (pe_callTy (crLst K (by rfl)) (by rfl) T.b_list (by decide +kernel) (pa_cons (pv 8) pa_nil)) (pa_cons (pe_callTy (crLst K (by rfl)) (by rfl) T.b_list (by decide +kernel) (pa_cons (pv 5) pa_nil)) (pa_cons (pe_callTy (crLst K (by rfl)) (by rfl) T.b_list (by decide +kernel) (pa_cons (pv 9) pa_nil)) pa_nil))))))
      (pss_cons (ps_set (i := 12) sc_law.nd rfl (by first | exact Or.inl rfl | exact Or.inr rfl) (pe_cal C_doing_kept (hr.mono (by first | decide | omega)) pass0 (pa_cons (pixL K (by rfl) (pv 11) pe_int (fun _ _ => rfl)) (pa_cons (pixL K (by rfl) (pv 11) pe_int (fun _ _ => rfl)) (pa_cons (pixL K (by rfl) (pv 11) pe_int (fun _ _ => rfl)) (pa_cons (pixL K (by rfl) (pv 11) pe_int (fun _ _ => rfl)) pa_nil))))))
      (pss_cons (ps_if (PW.pt (pw_or (pt_not (pt_val (pe_cal C__law_alike (hr.mono (by first | decide | omega)) pass0 (pa_cons (pv 12) (pa_cons (pv 10) pa_nil))))) (pw_or1 (pt_cmpR (opNeD K (by rfl) (hu64 hr)) (pv 11) (pe_lst (pa_cons (pv 3) (pa_cons (pv 8) (pa_cons (pv 5) (pa_cons (pv 9) pa_nil))))) (nomark _))))) (pss_one (ps_ret pe_bl)) pss_nil)
      (pss_cons (ps_expr (pbm K (by rfl) PySem.F.plainAttrs_list PySem.F.slot_list_append PySem.F.type_list_append mt_append (pv 12) (pa_cons (pe_tup (pa_cons pe_int (pa_cons pe_int pa_nil))) pa_nil)))
      (pss_cons (ps_if (pt_not (pt_val (pe_cal C__law_alike (hr.mono (by first | decide | omega)) pass0 (pa_cons (pe_cal C_doing_kept (hr.mono (by first | decide | omega)) pass0 (pa_cons (pixL K (by rfl) (pv 11) pe_int (fun _ _ => rfl)) (pa_cons (pixL K (by rfl) (pv 11) pe_int (fun _ _ => rfl)) (pa_cons (pixL K (by rfl) (pv 11) pe_int (fun _ _ => rfl)) (pa_cons (pixL K (by rfl) (pv 11) pe_int (fun _ _ => rfl)) pa_nil))))) (pa_cons (pv 10) pa_nil))))) (pss_one (ps_ret pe_bl)) pss_nil)
      (pss_one (ps_if (pt_not (pt_val (pe_cal C__law_alike (hr.mono (by first | decide | omega)) pass0 (pa_cons (pe_cal C_doing_kept (hr.mono (by first | decide | omega)) pass0 (pa_cons (pv 3) (pa_cons (pv 8) (pa_cons (pv 5) (pa_cons (pe_listRg (by rfl) (by rfl) T.b_list (prg_1 (by rfl) T.b_range (pe_callB (crLen K (by rfl)) (by rfl) T.b_len PySem.boot_len (pa_cons (pv 8) pa_nil)))) pa_nil))))) (pa_cons (pv 5) pa_nil))))) (pss_one (ps_ret pe_bl)) pss_nil))))))))))) pss_nil))))))
      (pss_one (ps_ret pe_bl))), ?_⟩
  apply body_of
  · walk_at "lf"
  rintro _ Q ⟨ns, rfl, hl, q⟩
  walk_at "dd"
  rw [inD_len]
  have hm : ∃ m : Nat, (if (if (6 : Int) < (ns.length : Nat) then (6 : Int) else (ns.length : Nat)) > 1 then (if (6 : Int) < (ns.length : Nat) then (6 : Int) else (ns.length : Nat)) else 1) = (m : Int) ∧ m ≤ 6 := by
    refine ⟨(if (if (6 : Int) < (ns.length : Nat) then (6 : Int) else (ns.length : Nat)) > 1 then (if (6 : Int) < (ns.length : Nat) then (6 : Int) else (ns.length : Nat)) else 1).toNat, ?_, ?_⟩ <;> split <;> split <;> omega
  obtain ⟨m, hm, hm8⟩ := hm
  rw [hm]
  refine w_rg1 (m := m) rfl (by omega) ?_
  refine ⟨rfl, fun i ρ' => ∃ v1 v2 v3 v4 v5 v6 v7 v8 v9 v10 v11 v12 : Option Dv.T, ρ' = [some (.g (.list (inD ns))), v1, v2, v3, v4, v5, v6, v7, v8, v9, v10, v11, v12, none, none, none, none], ⟨_, _, _, _, _, _, _, _, _, _, _, _, rfl⟩, ?_, ?_⟩
  rotate_left
  · rintro ρ' ⟨v1, v2, v3, v4, v5, v6, v7, v8, v9, v10, v11, v12, rfl⟩
    walk_at "dd"
    exact q
  rintro i x ρ' hx ⟨v1, v2, v3, v4, v5, v6, v7, v8, v9, v10, v11, v12, rfl⟩
  obtain ⟨hi, rfl⟩ := rgD_get hx
  walk_at "dd"
  · refine ⟨ns, 0 + (i : Int), rfl, by omega, fun c => ?_⟩
    walk_at "dd"
    rotate_left
    · exact ⟨by decide, by decide, by decide⟩
    refine ⟨c, 30, 10 ^ Int.toNat 9, rfl, by omega, by decide, by decide, fun xs hxl hxb => ?_⟩
    walk_at "ff"
    walk_at "nns"
    walk_at "nn"
    have hxb2 : ∀ n ∈ xs, 0 ≤ n ∧ n < 10 ^ 40 := fun n hn => by
      have := hxb n hn
      walk_at "nns" <;> walk_at "nn" <;> omega
    walk_at "dd"
    refine ⟨xs, 3, rfl, by omega, by omega, hxb2, by omega, fun ss ws hsl hsw hww hws hwl => ?_⟩
    walk_at "dd"
    walk_at "ix"
    walk_at "dd"
    rotate_left
    · decide
    have p0 := Int.emod_nonneg (xs.getD (7 : Int).toNat 0) (b := 7) (by omega)
    have p1 := Int.emod_lt_of_pos (xs.getD (7 : Int).toNat 0) (b := 7) (by omega)
    generalize xs.getD (7 : Int).toNat 0 % 7 = mo at p0 p1 ⊢
    obtain ⟨mo, rfl⟩ := Int.eq_ofNat_of_zero_le p0
    rw [cut_from xs (by decide)]
    refine ⟨ss, ws, xs.drop (8 : Int).toNat, 1 + mo, rfl, by omega, hww, hwl, by rw [List.length_drop]; show 0 < xs.length - 8; omega, by rw [List.length_drop]; omega, by omega, ?_, fun ms s n hn hml hms tk run hol => ?_⟩
    · walk_at "dd"
      exact ⟨_, _, _, _, _, _, _, _, _, _, _, _, rfl⟩
    obtain ⟨e1, e2, e3⟩ := tok_done tk hol
    have nd : s.2.2.Nodup := e3.nodup_iff.mpr ((rise_rgI 0 n).imp fun h => by omega)
    have hol2 : s.2.2.length = n := hol
    obtain ⟨row, hrow, hrl, hrk, hrn⟩ : ∃ row : List Int, ((rgI 0 n).map (outAt s.2.2)).map (fun o => 3 * o - 4) = row ∧ row.length = n ∧ ranks row = (rgI 0 n).map (outAt s.2.2) ∧ row.Nodup := by
      have hl : ((rgI 0 n).map fun k => 3 * k - 4).length = n := by rw [List.length_map, rgI_len]
      have hr : ((rgI 0 n).map fun k => 3 * k - 4).Pairwise (· < ·) := by
        rw [List.pairwise_map]
        exact (rise_rgI 0 n).imp fun h => by omega
      have e : ((rgI 0 n).map (outAt s.2.2)).map (fun o => 3 * o - 4) = plantRow ((rgI 0 n).map fun k => 3 * k - 4) s.2.2 n := by
        unfold plantRow
        rw [List.map_map]
        refine List.map_congr_left fun t ht => ?_
        have hm : t ∈ s.2.2 := e3.mem_iff.mpr ht
        have hlt := List.idxOf_lt_length_iff.mpr hm
        have hlt2 : s.2.2.idxOf t < (rgI 0 n).length := by rw [rgI_len]; omega
        rw [List.getD_eq_getElem?_getD, List.getElem?_map, List.getElem?_eq_getElem hlt2]
        have h5 := rgI_getD (n := n) (g := (s.2.2.idxOf t : Nat)) (by omega) (by omega)
        rw [Int.toNat_natCast, List.getD_eq_getElem?_getD, List.getElem?_eq_getElem hlt2] at h5
        show 3 * ((s.2.2.idxOf t : Nat) : Int) - 4 = 3 * (rgI 0 n)[s.2.2.idxOf t] - 4
        rw [show (rgI 0 n)[s.2.2.idxOf t] = ((s.2.2.idxOf t : Nat) : Int) from h5]
      refine ⟨_, rfl, by rw [List.length_map, List.length_map, rgI_len], ?_, ?_⟩
      · rw [e]
        exact plant_ranks hl hr e3
      · rw [e]
        exact (plant_perm hl e3).nodup_iff.mpr (hr.imp fun h => by omega)
    have hbr : brings ss ws (ranks row) ms = true := by
      have run2 := tok_run (ws := ws) nd run rfl hms (Int.le_refl 0)
      unfold brings
      rw [hrk]
      have f0 : phiS s.2.2 (0, List.replicate ss.length [], []) = first0 ss := by unfold phiS first0; simp
      have fl : phiS s.2.2 s = last0 ss n := by unfold phiS last0; rw [e1, e2, hol]; simp
      rw [f0, fl] at run2
      rw [run2, List.length_map, rgI_len]
      simp
    have hob : ∀ o ∈ (rgI 0 n).map (outAt s.2.2), 0 ≤ o ∧ o ≤ n := fun o ho => by
      obtain ⟨t, ht, rfl⟩ := List.mem_map.mp ho
      have := List.idxOf_le_length (a := t) (l := s.2.2)
      unfold outAt
      omega
    generalize hod : (rgI 0 n).map (outAt s.2.2) = od at hrow hrk hob ⊢
    have hodl : od.length = n := by rw [← hod, List.length_map, rgI_len]
    walk_at "dd"
    refine w_ell rfl ?_
    refine ⟨by rw [inD_len]; omega, mpI fun o => .int (3 * o - 4), ?_, ?_⟩
    · intro j x hx2
      obtain ⟨o, ho, rfl⟩ := inD_get hx2
      walk_at "dd"
      · rfl
      · have := hob o (List.mem_of_getElem? ho)
        exact IntMulOk.of_left (intBits_le_64 (by omega) (by omega))
    rw [fm_mpII, hrow]
    walk_at "ff"
    walk_at "dd"
    rw [inD_len]
    refine w_rg1 (m := row.length) rfl (by omega) ?_
    have hgb : ∀ k : Nat, k < 30 → 0 ≤ xs.getD k 0 ∧ xs.getD k 0 < 10 ^ 40 := fun k hk => hxb2 _ (by
      rw [List.getD_eq_getElem?_getD, List.getElem?_eq_getElem (by omega)]
      exact List.getElem_mem _)
    refine ⟨by rw [rgD_len]; omega, ifI fun p => decide (0 < xs.getD (28 : Int).toNat 0 / (1 * 2 ^ p.toNat) % 3), ?_, ?_⟩
    · rintro j x hx
      obtain ⟨hj, rfl⟩ := rgD_get hx
      walk_at "dd"
      walk_at "ix"
      walk_at "dd"
      · refine ite2 (fun hc => ?_) (fun hc => ?_)
        · walk_at "dd"
          simp only [ifI, hc, if_true]
        · simp only [ifI, hc]
          rfl
      · decide
      · exact cdv_pow (by omega) (by omega)
      · exact ⟨by omega, by omega, by decide⟩
    rw [rgD_in, fm_ifI]
    generalize hps : (rgI 0 row.length).filter (fun p => decide (0 < xs.getD (28 : Int).toNat 0 / (1 * 2 ^ p.toNat) % 3)) = ps
    have hpb : ∀ p ∈ ps, 0 ≤ p ∧ p < row.length := fun p hp => by
      rw [← hps] at hp
      have := mem_rgI.mp (List.mem_filter.mp hp).1
      omega
    have hpr : ps.Pairwise (· < ·) := by
      rw [← hps]
      exact (rise_rgI 0 row.length).filter _
    have hpl := rise_len hpb hpr
    walk_at "ff"
    walk_at "dd"
    have hwho := whoT_len run
    generalize hwh : whoT ss (rgI 0 n) ms (0, List.replicate ss.length [], []) = us at hwho ⊢
    refine ⟨_, _, wsD ms, inD us, rfl, rfl, rfl, by unfold zpD; rw [List.length_map, List.length_zip, wsD_len, inD_len]; omega, pzI ps, ?_, ?_⟩
    · rintro j x hx
      obtain ⟨⟨a, b⟩, u, hm1, hu, rfl⟩ := zpD_get hx
      walk_at "dd"
      refine w_inI rfl rfl ?_
      walk_at "dd"
      refine ite2 (fun hc => ?_) (fun hc => ?_)
      · walk_at "dd"
        simp only [pzI, hc, if_true]
      · simp only [pzI, hc]
        rfl
    rw [fm_pzI]
    generalize hks : ((ms.zip us).filter fun p => decide (p.2 ∈ ps)).map (·.1) = ks
    have hkl : ks.length ≤ 60 := by
      rw [← hks, List.length_map]
      have := List.length_filter_le (fun p : (Int × Int) × Int => decide (p.2 ∈ ps)) (ms.zip us)
      rw [List.length_zip] at this
      omega
    walk_at "ff"
    walk_at "dd"
    refine w_ixT rfl rfl ?_
    walk_at "dd"
    refine w_ixT rfl rfl ?_
    walk_at "dd"
    have hkeep : ∀ qs : List Int, (∀ p ∈ qs, 0 ≤ p ∧ p < n) → keptW ss (ranks row) (picks (ranks row) qs) ms (first0 ss) = ((ms.zip us).filter fun p => decide (p.2 ∈ qs)).map (·.1) := fun qs hq => by
      have h1 := kept_tok (wn := picks od qs) nd run rfl (Int.le_refl 0)
      have f0 : phiS s.2.2 (0, List.replicate ss.length [], []) = first0 ss := by unfold phiS first0; simp
      rw [f0, hwh, hod] at h1
      rw [hrk, h1]
      congr 1
      refine List.filter_congr fun p _ => ?_
      have := outAt_in e3 hq p.2
      rw [hod] at this
      simp only [this]
    have hps2 := hkeep ps fun p hp => by have := hpb p hp; omega
    rw [hks] at hps2
    walk_at "ff"
    walk_at "dd"
    refine w_ixL rfl rfl ?_
    walk_at "dd"
    refine w_ixL rfl rfl ?_
    walk_at "dd"
    refine w_ixL rfl rfl ?_
    walk_at "dd"
    refine w_ixL rfl rfl ?_
    walk_at "dd"
    have h60 : n ≤ 60 := by omega
    refine ⟨ss, ws, row, ms, ps, rfl, by omega, by omega, hrn, hww, by omega, hpb, hpr, hbr, ?_⟩
    rw [hps2]
    walk_at "oo"
    walk_at "dd"
    have hkc : clean (.list (wsD ks)) = true := clean_wsD _
    have hkd : (PyData.list (wsD ks)).depth < 4 := Nat.lt_of_le_of_lt (depth_wsD _) (by decide)
    have hkz : small (.list (wsD ks)) = true := small_wsD (by omega)
    refine ⟨.list (wsD ks), rfl, hkc, hkd, hkz, rfl, ?_⟩
    walk_at "dd"
    refine w_neSame (x := .list [ntD ss ws, .list (inD row), .list (wsD ms), .list (inD ps)]) rfl rfl (clean_kept _ _ _ _ hsw) (depth_kept _ _ _ _ _) ?_
    walk_at "dd"
    · rw [wsD_len]
      omega
    refine w_ixL rfl rfl ?_
    walk_at "dd"
    refine w_ixL rfl rfl ?_
    walk_at "dd"
    refine w_ixL rfl rfl ?_
    walk_at "dd"
    refine w_ixL rfl rfl ?_
    walk_at "dd"
    refine ⟨ss, ws, row, ms, ps, rfl, by omega, by omega, hrn, hww, by omega, hpb, hpr, hbr, ?_⟩
    rw [hps2]
    walk_at "dd"
    refine ⟨.list (wsD ks), rfl, hkc, hkd, hkz, ?_⟩
    walk_at "dd"
    refine w_lrg1 (m := row.length) (by rw [inD_len]) (by omega) ?_
    rw [rgD_in]
    walk_at "dd"
    have hall : ((ms.zip us).filter fun p => decide (p.2 ∈ rgI 0 row.length)).map (·.1) = ms := by
      have h1 : ((ms.zip us).filter fun p => decide (p.2 ∈ rgI 0 row.length)) = ms.zip us := by
        refine List.filter_eq_self.mpr fun p hp => decide_eq_true ?_
        have h2 := who_in (tok_begin ss.length n) (fun m hm => hww m (hms m hm)) (by rw [run]; rfl) p.2 (by rw [hwh]; exact (List.of_mem_zip (a := p.1) (b := p.2) hp).2)
        exact mem_rgI.mpr (by omega)
      rw [h1, List.map_fst_zip (by omega)]
    have hap : ∀ p ∈ rgI 0 row.length, 0 ≤ p ∧ p < row.length := fun p hp => by
      have := mem_rgI.mp hp
      omega
    refine ⟨ss, ws, row, ms, rgI 0 row.length, rfl, by omega, by omega, hrn, hww, by omega, hap, rise_rgI 0 row.length, hbr, ?_⟩
    rw [hkeep _ (fun p hp => by have := hap p hp; omega), hall]
    walk_at "dd"
    refine ⟨.list (wsD ms), rfl, clean_wsD _, Nat.lt_of_le_of_lt (depth_wsD _) (by decide), small_wsD (by omega), ?_⟩
    walk_at "dd"
    exact ⟨_, _, _, _, _, _, _, _, _, _, _, _, rfl⟩

end
end K34


namespace K34
open PySem PySem.Spec PyProof.Rows L2 Px
theorem fin {P : Program} {w : World} {K : PySem.W.Frag} {mg : Str → Option Value} {h : Heap} {fa : Addr} (KX : K.In h) (hfa : mg "law" = some (.ref fa)) (T : Top K mg) :
    ∃ fd : FuncData, (∀ (s : Shared) (u : Value), BindsTo s fd ⟨[u], []⟩ [("script", u)]) ∧ ∀ base : Heap, K.In base → base.Ns mainGlobals mg → FnOk P w K mg base CX0 5 fa fd ["script"] (spLaw K) :=
  Px.law_end T.d_law (fun _ _ _ _ _ _ us hl => match us, hl with | [_], _ => rfl) (fun base f fd F => ok_law T F) hfa
end K34
open PySem PySem.W PyProof.Rows
set_option maxRecDepth 100000 in
set_option maxHeartbeats 0 in
theorem PySem.Challenge.cw_pilenets_k34_doings_kept_holds : PySem.Challenge.rw_pilenets_k34_doings_kept.Holds := by
  w_on; o_law; k_head; (case hw => w_witness2)
  k_fill
  refine L2.walk_of (l := PySem.Challenge.rw_pilenets_k34_doings_kept) (n := 63) (k := 5) (x := "script") (CX := fun _ => L2.CX0) (sp := fun w => K34.spLaw _) rfl (by decide) rfl ⟨rfl, by decide, by decide⟩ (fun w h Y => PySem.W.kIn_of Y) ?F (fun _ _ a ns hl _ hS => ⟨a, ns, rfl, hS, hl, fun _ => rfl⟩) (fun _ _ _ _ _ h => h)
  case F =>
    intro w mg fa h KX G hmg
    refine' K34.fin KX hmg ⟨?d_put_to_order, ?d_refuse_alike, ?d_first_standing, ?d_last_standing, ?d_brings_out, ?d_may_be_done, ?d_number_leaving, ?d_standing_moved, ?d_doing_kept, ?d_refuse_no_places, ?d__law_cell_at, ?d__law_digits, ?d__law_alike, ?d__law_net, ?d__law_drawn, ?d_law, ?b_enumerate, ?b_sorted, ?b_len, ?b_set, ?b_list, ?b_tuple, ?b_range, ?b_isinstance, ?b_str, ?b_int, ?b_bool, ?b_max, ?b_min, ?b_zip, ?g_PILE, ?g_IN, ?g_OUT⟩
    case d_put_to_order =>
      refine' Px.dfn_mk KX G ?a ?l ?c ?k
      (case a => k_is); (case l => k_is); (case c => k_is); (case k => k_is)
    case d_refuse_alike =>
      refine' Px.dfn_mk KX G ?a ?l ?c ?k
      (case a => k_is); (case l => k_is); (case c => k_is); (case k => k_is)
    case d_first_standing =>
      refine' Px.dfn_mk KX G ?a ?l ?c ?k
      (case a => k_is); (case l => k_is); (case c => k_is); (case k => k_is)
    case d_last_standing =>
      refine' Px.dfn_mk KX G ?a ?l ?c ?k
      (case a => k_is); (case l => k_is); (case c => k_is); (case k => k_is)
    case d_brings_out =>
      refine' Px.dfn_mk KX G ?a ?l ?c ?k
      (case a => k_is); (case l => k_is); (case c => k_is); (case k => k_is)
    case d_may_be_done =>
      refine' Px.dfn_mk KX G ?a ?l ?c ?k
      (case a => k_is); (case l => k_is); (case c => k_is); (case k => k_is)
    case d_number_leaving =>
      refine' Px.dfn_mk KX G ?a ?l ?c ?k
      (case a => k_is); (case l => k_is); (case c => k_is); (case k => k_is)
    case d_standing_moved =>
      refine' Px.dfn_mk KX G ?a ?l ?c ?k
      (case a => k_is); (case l => k_is); (case c => k_is); (case k => k_is)
    case d_doing_kept =>
      refine' Px.dfn_mk KX G ?a ?l ?c ?k
      (case a => k_is); (case l => k_is); (case c => k_is); (case k => k_is)
    case d_refuse_no_places =>
      refine' Px.dfn_mk KX G ?a ?l ?c ?k
      (case a => k_is); (case l => k_is); (case c => k_is); (case k => k_is)
    case d__law_cell_at =>
      refine' Px.dfn_mk KX G ?a ?l ?c ?k
      (case a => k_is); (case l => k_is); (case c => k_is); (case k => k_is)
    case d__law_digits =>
      refine' Px.dfn_mk KX G ?a ?l ?c ?k
      (case a => k_is); (case l => k_is); (case c => k_is); (case k => k_is)
    case d__law_alike =>
      refine' Px.dfn_mk KX G ?a ?l ?c ?k
      (case a => k_is); (case l => k_is); (case c => k_is); (case k => k_is)
    case d__law_net =>
      refine' Px.dfn_mk KX G ?a ?l ?c ?k
      (case a => k_is); (case l => k_is); (case c => k_is); (case k => k_is)
    case d__law_drawn =>
      refine' Px.dfn_mk KX G ?a ?l ?c ?k
      (case a => k_is); (case l => k_is); (case c => k_is); (case k => k_is)
    case d_law =>
      refine' Px.dfn_mk KX G ?a ?l ?c ?k
      (case a => k_is); (case l => k_is); (case c => k_is); (case k => k_is)
    case b_enumerate =>
      refine' PySem.W.mg_none_of KX G ?a
      (case a => k_is)
    case b_sorted =>
      refine' PySem.W.mg_none_of KX G ?a
      (case a => k_is)
    case b_len =>
      refine' PySem.W.mg_none_of KX G ?a
      (case a => k_is)
    case b_set =>
      refine' PySem.W.mg_none_of KX G ?a
      (case a => k_is)
    case b_list =>
      refine' PySem.W.mg_none_of KX G ?a
      (case a => k_is)
    case b_tuple =>
      refine' PySem.W.mg_none_of KX G ?a
      (case a => k_is)
    case b_range =>
      refine' PySem.W.mg_none_of KX G ?a
      (case a => k_is)
    case b_isinstance =>
      refine' PySem.W.mg_none_of KX G ?a
      (case a => k_is)
    case b_str =>
      refine' PySem.W.mg_none_of KX G ?a
      (case a => k_is)
    case b_int =>
      refine' PySem.W.mg_none_of KX G ?a
      (case a => k_is)
    case b_bool =>
      refine' PySem.W.mg_none_of KX G ?a
      (case a => k_is)
    case b_max =>
      refine' PySem.W.mg_none_of KX G ?a
      (case a => k_is)
    case b_min =>
      refine' PySem.W.mg_none_of KX G ?a
      (case a => k_is)
    case b_zip =>
      refine' PySem.W.mg_none_of KX G ?a
      (case a => k_is)
    case g_PILE =>
      apply Exists.intro
      refine' PySem.W.mg_of KX G ?a
      (case a => k_is)
    case g_IN =>
      apply Exists.intro
      refine' PySem.W.mg_of KX G ?a
      (case a => k_is)
    case g_OUT =>
      apply Exists.intro
      refine' PySem.W.mg_of KX G ?a
      (case a => k_is)
