import PyProof.Rows.All
import Wide.All
import OpenK.AllK
import Wide.FinOn
import HandS.ForMost
import HandS.Exc
import HandS.ExcOwn
import HandS.ExcInit
import HandS.TryOnly
import HandS.TryMany
import HandS.WordsExc
import HandS.Gcd
import HandS.Wide
import HandS.WideMore
import HandS.WideBits
import HandS.IsInst
import HandS.Style
import HandS.Flow
import HandS.SortRule
import HandS.SortInts
import HandS.Conv
import HandS.ExcField
import KE.SortData
import HandS.More
import KE.BitLaws
import KE.GoesEnum
import KE.GoesMore
import PyProof.WalksMore
import HandS.TupAny
import HandS.Zip
import HandS.Rev
import HandS.TupMul
import HandS.Deep
import KE.DataMinMax
import KE.IntBitsLaws
import PyProof.SliceList
import KE.GoesZip
import KE.GoesNew
import HandS.SetFor
import HandS.Strs
import HandS.List
import HandS.Dict
import KE.KRevIter
import HandS.RevRange
import KE.KRevSl
import PyProof.StrOps2
import PyProof.FitsStr
import PySem.Challenge.RW_classledger_k68_whole_class_sides
set_option Elab.async false
set_option linter.all false
set_option maxRecDepth 100000
set_option maxHeartbeats 4000000
namespace CB
open PySem PySem.Spec PyProof.Rows L2
/-! ### operators of any size -/
section
variable {X : Cx}
theorem op_mulI : OpR X (binaryOp .Mult) (rI IntMulOk fun i j => .int (i * j)) := opI fun _ _ _ _ _ _ _ hc q => mul_int q hc
theorem iop_mulI : OpR X (inplaceOp .Mult) (rI IntMulOk fun i j => .int (i * j)) := opI fun _ _ _ _ _ _ _ hc q => imul_int q hc
/-- math.isqrt of an int below 2 ^ 13000 -/
def rIsqrt : List V → Hp → VK → Prop := fun vs H Q => ∃ a : Int, vs = [.int a] ∧ 0 ≤ a ∧ a < 2 ^ 13000 ∧ Q (.int ((Float64.isqrt a.toNat : Nat) : Int)) H
theorem log_lt {n k : Nat} (h : n < 2 ^ (k + 1)) : n.log2 ≤ k := PySem.W.mg_log h
theorem cr_isqrt : CallR X (.builtin "math.isqrt") rIsqrt := by
  intro pins s σ H vs us Q I r h
  obtain ⟨a, rfl, h0, h1, q⟩ := h
  obtain ⟨u, rfl, ru⟩ := vals1 r
  obtain ⟨t, rfl⟩ := ru
  have hl : a.toNat.log2 ≤ 12999 := log_lt (by
    have e : ((2 : Int) ^ 13000) = ((2 ^ 13000 : Nat) : Int) := by rw [Int.natCast_pow]; rfl
    rw [e] at h1
    show a.toNat < 2 ^ 13000
    omega)
  exact call_function_meets PySem.W.MGF.kind_isqrt PySem.W.MGF.plain_isqrt PySem.W.MGF.entry_isqrt (PySem.W.MGF.args_isqrt _) (PySem.W.mg_run_isqrt a t (by omega) (by omega) (by omega)).meets
    ⟨.int _, H, I.tok _, ⟨_, rfl⟩, q⟩
theorem isqrt_spec (n : Nat) : Float64.isqrt n * Float64.isqrt n ≤ n ∧ n < (Float64.isqrt n + 1) * (Float64.isqrt n + 1) := PySem.Float64.isqrt_spec n
/-! ### a < b < c < d -/
def tChain3 (r r' r'' : R2) (ta tb tc td : TE) : TE := fun σ H Q => ta σ H fun x H1 => tb σ H1 fun y H2 => r x y H2 fun z H3 => ∃ k, z = .bl k ∧
  (if k = true then tc σ H3 fun y' H4 => r' y y' H4 fun z' H5 => ∃ k', z' = .bl k' ∧ (if k' = true then td σ H5 fun w' H6 => r'' y' w' H6 Q else Q (.bl false) H5) else Q (.bl false) H3)
variable {a b c d : Expr} {ta tb tc td : TE} {pos : Pos}
theorem pt_chain3 {o1 o2 o3 : CmpOp} {r r' r'' : R2} (ho : OpR X (compareOp o1) r) (ho' : OpR X (compareOp o2) r') (ho'' : OpR X (compareOp o3) r'') (ha : PE X a ta) (hb : PE X b tb) (hc : PE X c tc) (hd : PE X d td)
    (hm : lastMarks [o1, o2, o3] [b, c, d] = false := by with_unfolding_all rfl) : PT X (.Compare a [o1, o2, o3] [b, c, d] pos) (tTest (tChain3 r r' r'' ta tb tc td)) := by
  refine ⟨fun pins s σ H Q I h => ?_⟩
  refine isTrue_chain (thn (ha.run pins s σ H _ I h) fun v s1 ⟨x, H1, I1, r1, q1⟩ => test_link (thn (hb.run pins s1 σ H1 _ I1 q1) fun u s2 ⟨y, H2, I2, r2, q2⟩ =>
    thn (ho pins s2 σ H2 x y v u _ I2 r1 r2 q2) fun d1 s3 ⟨z, H3, I3, r3, k, e, q3⟩ => ?_)) hm
  subst e
  cases r3
  refine wpAny_truthy_bool ?_
  cases k with
  | false =>
    obtain ⟨k', e', q'⟩ := q3
    cases e'
    exact ite_ff ⟨H3, I3, q'⟩
  | true =>
    refine ite_tt (test_link (thn (hc.run pins s3 σ H3 _ I3 q3) fun u' s4 ⟨y', H4, I4, r4, q4⟩ => thn (ho' pins s4 σ H4 y y' u u' _ I4 r2 r4 q4) fun d2 s5 ⟨z2, H5, I5, r5, k2, e2, q5⟩ => ?_))
    subst e2
    cases r5
    refine wpAny_truthy_bool ?_
    cases k2 with
    | false =>
      obtain ⟨k', e', q'⟩ := q5
      cases e'
      exact ite_ff ⟨H5, I5, q'⟩
    | true =>
      refine ite_tt (test_last (thn (hd.run pins s5 σ H5 _ I5 q5) fun w' s6 ⟨z3, H6, I6, r6, q6⟩ => thn (ho'' pins s6 σ H6 y' z3 u' w' _ I6 r4 r6 q6) fun d3 s7 ⟨z4, H7, I7, r7, k4, e4, q7⟩ => ?_))
      subst e4
      cases r7
      exact wpAny_truthy_bool ⟨H7, I7, q7⟩
end
/-! ### a def that a caller calls by its name -/
structure Cal (P : Program) (w : World) (K : PySem.W.Frag) (mg : Str → Option Value) (base : Heap) (x : Str) (k : Nat) (ps : List Str) (sp : Sp) : Prop where
  ok : ∃ f fd, FnOk P w K mg base CX0 k f fd ps sp ∧ mg x = some (.ref f) ∧ PySem.W.keepIn K (.ref f) = true ∧ Binds K fd ps []
section
variable {X : Cx} {k : Nat} {ps : List Str} {sp : Sp} {x : Str} {p pos : Pos} {e : Expr} {es : List Expr} {t : TA}
theorem pe_cal (C : Cal X.prog X.w X.K X.mg X.base x k ps sp) (hr : Room k X.A) (hg : Gl X x) (ha : PA X (e :: es) t) (hdb : (x == ("__debug__" : Str)) = false := by decide)
    (he : starEach (e :: es) X.env = (false, eval e X.env) :: starEach es X.env := by rfl) (hpl : (backTo pos (starEach es X.env)).any (·.1) = false := by rfl) : PE X (.Call (.Name x p) (e :: es) [] pos) (tCall sp [] E0 t) := by
  obtain ⟨f, fd, F, hm, hk, hb⟩ := C.ok
  exact pe_call F hr hg hm hk hb .nil pass0 ha hdb he hpl
end
/-! ### readings, unfolded -/
section
variable {σ : L2.St} {H : Hp} {Q : VK} {QT : Bool → Hp → Prop} {QA : List V → Hp → Prop} {D : Ends} {i j : Nat} {v x y : V} {ta tb tc td : TE} {tA tB' : TT} {t u : TS} {tr : TA} {K : PySem.W.Frag}
theorem rd_var : tVar i σ H Q = ∃ v, σ[i]? = some (some v) ∧ Q v H := rfl
theorem rd_C : tC v σ H Q = Q v H := rfl
theorem rd_op {r : R2} : tOp r ta tb σ H Q = ta σ H fun x H1 => tb σ H1 fun y H2 => r x y H2 Q := rfl
theorem rd_un {r : V → Hp → VK → Prop} : tUn r ta σ H Q = ta σ H fun x H1 => r x H1 Q := rfl
theorem rd_I {C : Int → Int → Prop} {g : Int → Int → V} : rI C g x y H Q = ∃ i j, x = .int i ∧ y = .int j ∧ C i j ∧ Q (g i j) H := rfl
theorem rd_I0 {g : Int → Int → V} : rI0 g x y H Q = ∃ i j, x = .int i ∧ y = .int j ∧ Q (g i j) H := rfl
theorem rd_U {g : Int → V} : rU g x H Q = ∃ i, x = .int i ∧ Q (g i) H := rfl
theorem rd_Eq : rEq x y H Q = (scal x y = true ∧ Q (.bl (decide (x = y))) H) := rfl
theorem rd_Ne : rNe x y H Q = (scal x y = true ∧ Q (.bl (!decide (x = y))) H) := rfl
theorem rd_test : tTest ta σ H QT = ta σ H fun x H' => ∃ k, x = .bl k ∧ QT k H' := rfl
theorem rd_B : L2.tB ta σ H QT = ta σ H fun x H' => ∃ k, x = .bl k ∧ QT k H' := rfl
theorem rd_and {s t : TT} : tAnd s t σ H QT = s σ H fun c H1 => if c = true then t σ H1 QT else QT false H1 := rfl
theorem rd_or {s t : TT} : tOr s t σ H QT = s σ H fun c H1 => if c = true then QT true H1 else t σ H1 QT := rfl
theorem rd_not {s : TT} : tNot s σ H QT = s σ H fun c H1 => QT (!c) H1 := rfl
theorem rd_andV : tAndV ta tb σ H Q = ta σ H fun x H1 => ∃ c, x = .bl c ∧ if c = true then tb σ H1 Q else Q (.bl false) H1 := rfl
theorem rd_orV : tOrV ta tb σ H Q = ta σ H fun x H1 => ∃ c, x = .bl c ∧ if c = true then Q (.bl true) H1 else tb σ H1 Q := rfl
theorem rd_notV : tNotV ta σ H Q = ta σ H fun x H1 => ∃ c, x = .bl c ∧ Q (.bl (!c)) H1 := rfl
theorem rd_if {c : TT} : tIf c ta tb σ H Q = c σ H fun b H1 => if b = true then ta σ H1 Q else tb σ H1 Q := rfl
theorem rd_chain {r r' : R2} : tChain r r' ta tb tc σ H Q = ta σ H fun x H1 => tb σ H1 fun y H2 => r x y H2 fun z H3 => ∃ k, z = .bl k ∧ (if k = true then tc σ H3 fun w' H4 => r' y w' H4 Q else Q (.bl false) H3) := rfl
theorem rd_chain3 {r r' r'' : R2} : tChain3 r r' r'' ta tb tc td σ H Q = ta σ H fun x H1 => tb σ H1 fun y H2 => r x y H2 fun z H3 => ∃ k, z = .bl k ∧
  (if k = true then tc σ H3 fun y' H4 => r' y y' H4 fun z' H5 => ∃ k', z' = .bl k' ∧ (if k' = true then td σ H5 fun w' H6 => r'' y' w' H6 Q else Q (.bl false) H5) else Q (.bl false) H3) := rfl
theorem rd_next : tNext D σ H = D.nx σ H := rfl
theorem rd_seq : tSeq t u D σ H = t { D with nx := u D } σ H := rfl
theorem rd_drop : tDrop ta D σ H = ta σ H fun _ H1 => D.nx σ H1 := rfl
theorem rd_ret : tRet ta D σ H = ta σ H D.rt := rfl
theorem rd_retN : tRetN D σ H = D.rt .non H := rfl
theorem rd_break : tBreak D σ H = D.bk σ H := rfl
theorem rd_cont : tCont D σ H = D.ct σ H := rfl
theorem rd_ifS {c : TT} : tIfS c t u D σ H = c σ H fun b H1 => if b = true then t D σ H1 else u D σ H1 := rfl
theorem rd_asg {g : TG} : tAsg ta g D σ H = ta σ H fun x H1 => g x σ H1 D.nx := rfl
theorem rd_name {QS : L2.St → Hp → Prop} : gName i v σ H QS = QS (σ.set i (some v)) H := rfl
theorem rd_gsub {to ti : TE} {s : TSet} {QS : L2.St → Hp → Prop} : gSub to ti s v σ H QS = to σ H fun o H1 => ti σ H1 fun i H2 => s o i v H2 fun H3 => QS σ H3 := rfl
theorem rd_gtup {n : Nat} {g : TGs} {QS : L2.St → Hp → Prop} : gTup K n g v σ H QS = ∃ a xs, v = .ref a ∧ SqT K H a xs ∧ xs.length = n ∧ g xs σ H QS := rfl
theorem rd_gcons {g : TG} {gs : TGs} {vs : List V} {QS : L2.St → Hp → Prop} : gCons g gs vs σ H QS = ∃ v r, vs = v :: r ∧ g v σ H fun σ' H' => gs r σ' H' QS := rfl
theorem rd_gnil {vs : List V} {QS : L2.St → Hp → Prop} : gNil vs σ H QS = (vs = [] ∧ QS σ H) := rfl
theorem rd_par : tPar i j tr D σ H = tr σ H fun vs H1 => ∃ v w, vs = [v, w] ∧ D.nx ((σ.set i (some v)).set j (some w)) H1 := rfl
theorem rd_aug {te : TE} {ti : TIp} : tAug i te ti D σ H = ∃ x, σ[i]? = some (some x) ∧ te σ H fun y H1 => ti x y H1 fun z H2 => D.nx (σ.set i (some z)) H2 := rfl
theorem rd_ipI {f : Int → Int → Int} : ipI f x y H Q = ∃ i j, x = .int i ∧ y = .int j ∧ Q (.int (f i j)) H := rfl
theorem rd_nil : tNil σ H QA = QA [] H := rfl
theorem rd_cons : tCons ta tr σ H QA = ta σ H fun x H1 => tr σ H1 fun xs H2 => QA (x :: xs) H2 := rfl
theorem rd_tup : tTup tr σ H Q = tr σ H fun xs H1 => xs.length ≤ sizeLine ∧ ∀ p, H1 p = none → Q (.ref p) (upd H1 p (.tup xs)) := rfl
theorem rd_lst : tLst tr σ H Q = tr σ H fun xs H1 => xs.length ≤ sizeLine ∧ ∀ p, H1 p = none → Q (.ref p) (upd H1 p (.lst xs)) := rfl
theorem rd_CB {r : List V → Hp → VK → Prop} : tCB r tr σ H Q = tr σ H fun vs H1 => r vs H1 Q := rfl
theorem rd_call {sp : Sp} {dvs : List V} {E : XK} : tCall sp dvs E tr σ H Q = tr σ H fun vs H1 => sp (vs ++ dvs) H1 Q E := rfl
theorem rd_callS {sp : Sp} {E : L2.St → XK} : tCallS sp E tr σ H Q = tr σ H fun vs H1 => sp vs H1 Q (E σ) := rfl
theorem rd_ixL : rIxL K x y H Q = ∃ p xs i v, x = .ref p ∧ y = .int i ∧ SqL K H p xs ∧ atI xs i = some v ∧ Q v H := rfl
theorem rd_ixT : rIxT K x y H Q = ∃ p xs i v, x = .ref p ∧ y = .int i ∧ SqT K H p xs ∧ atI xs i = some v ∧ Q v H := rfl
theorem rd_isqrt {vs : List V} : rIsqrt vs H Q = ∃ a : Int, vs = [.int a] ∧ 0 ≤ a ∧ a < 2 ^ 13000 ∧ Q (.int ((Float64.isqrt a.toNat : Nat) : Int)) H := rfl
theorem rd_sum {vs : List V} : rSum K vs H Q = ∃ (a : Addr) (ns : List Int), vs = [V.ref a] ∧ SqL K H a (ns.map V.int) ∧ Q (.int ns.sum) H := rfl
end

/-! ### a def of the text: it stands, its name, its parameters -/
structure Dn (K : PySem.W.Frag) (mg : Str → Option Value) (x : Str) (st : Stmt) (ps : List Str) : Prop where
  ok : ∃ f fd, Fun K x x st f fd ∧ mg x = some (.ref f) ∧ Binds K fd ps []
section
variable {P : Program} {w : World} {K : PySem.W.Frag} {mg : Str → Option Value} {base : Heap}
theorem Dn.cal {x : Str} {st : Stmt} {N ps : List Str} {k : Nat} {sp : Sp} (D : Dn K mg x st ps) (S : FnScope N ps (defScope st)) (len : ∀ vs H Q E, sp vs H Q E → vs.length = ps.length)
    (hbody : ∀ (f : Addr) (cdv : Value) (A : Around) (outer : List Env) (s : Shared) (H : Hp) (vs : List V) (Q : VK) (E : XK), Room k (A.deeper (envOfC x (defScope st) s.heap.objs.size f cdv)) → sp vs H Q E →
      ∃ t, PSs (cxOf CX0 P w K mg base N x (defScope st) f cdv A outer s H E).nox (defBody st) t ∧ t { nx := fun _ H' => Q .non H', rt := Q } (start N vs) H) : Cal P w K mg base x (k + 1) ps sp := by
  obtain ⟨f, fd, F, hm, hb⟩ := D.ok
  exact ⟨f, fd, F.ok S len fun cdv A outer s H vs Q E hr h => hbody f cdv A outer s H vs Q E hr h, hm, F.kp, hb⟩
end
/-- a weaker wish -/
theorem same_upd {H : Hp} {p : Addr} {o : HO} (h : H p = none) : Same H (upd H p o) := fun b x e => by
  rw [upd_ne (ne_of_none e h)]
  exact e
theorem ex_int {p : Int → Prop} {i : Int} : (∃ j, V.int i = V.int j ∧ p j) = p i := by simp
theorem ex_bl {p : Bool → Prop} {i : Bool} : (∃ j, V.bl i = V.bl j ∧ p j) = p i := by simp
theorem ex_ref {p : Addr → Prop} {i : Addr} : (∃ j, V.ref i = V.ref j ∧ p j) = p i := by simp
theorem ex_str {p : Str → Prop} {i : Str} : (∃ j, V.str i = V.str j ∧ p j) = p i := by simp
theorem ex_some {p : V → Prop} {x : V} : (∃ v, some (some x) = some (some v) ∧ p v) = p x := by simp
theorem ex_2i {p : Int → Int → Prop} {i j : Int} : (∃ a b, V.int i = V.int a ∧ V.int j = V.int b ∧ p a b) = p i j := by simp
theorem ex_l1 {p : Int → Prop} {i : Int} : (∃ j, [V.int i] = [V.int j] ∧ p j) = p i := by simp
theorem ex_l2 {p : Int → Int → Prop} {i j : Int} : (∃ a b, [V.int i, V.int j] = [V.int a, V.int b] ∧ p a b) = p i j := propext ⟨fun ⟨_, _, e, h⟩ => by cases e; exact h, fun h => ⟨_, _, rfl, h⟩⟩
theorem ex_v2 {p : V → V → Prop} {i j : V} : (∃ a b, [i, j] = [a, b] ∧ p a b) = p i j := propext ⟨fun ⟨_, _, e, h⟩ => by cases e; exact h, fun h => ⟨_, _, rfl, h⟩⟩
theorem int1_eq {p : Int → Prop} {q : Bool → Prop} {i : Int} : ((∃ j, [V.int i] = [V.int j] ∧ p j) ∨ ∃ k, [V.int i] = [V.bl k] ∧ q k) = p i := by simp
theorem scal_int {i j : Int} : (scal (V.int i) (V.int j) = true) = True := by simp [scal]
theorem scal_str {i j : Str} : (scal (V.str i) (V.str j) = true) = True := by simp [scal]
theorem dec_ii {i j : Int} : decide (V.int i = V.int j) = decide (i = j) := by simp
theorem ite_dec {p : Prop} [Decidable p] {A B : Prop} : (if decide p = true then A else B) = (if p then A else B) := by simp
theorem ite_ndec {p : Prop} [Decidable p] {A B : Prop} : (if (!decide p) = true then A else B) = (if p then B else A) := by
  by_cases h : p <;> simp [h]
section
variable {H : Hp} {Q : VK} {x y v : V}
theorem rd_setL {R : Hp → Prop} : rSetL x y v H R = ∃ p xs k j, x = .ref p ∧ y = .int k ∧ H p = some (.lst xs) ∧ ixN xs.length k = some j ∧ R (upd H p (.lst (xs.set j v))) := rfl
theorem rd_append {K : PySem.W.Frag} {to : TE} {t : TA} {σ : L2.St} : tBM K "list" rAppend to t σ H Q = to σ H fun x H1 => tyV K "list" x H1 ∧ t σ H1 fun xs H2 => ∃ l ys y, x = .ref l ∧ xs = [y] ∧ H2 l = some (.lst ys) ∧ ys.length < sizeLine ∧ Q .non (upd H2 l (.lst (ys ++ [y]))) := rfl
theorem K_nox {X : Cx} : X.nox.K = X.K := rfl
theorem K_cxOf {CX : CXT} {P : Program} {w : World} {K : PySem.W.Frag} {mg : Str → Option Value} {base : Heap} {N : List Str} {qual : Str} {scope : Scope} {f : Addr} {cd : Value} {A : Around} {outer : List Env} {s : Shared} {H : Hp} {E : XK} :
  (cxOf CX P w K mg base N qual scope f cd A outer s H E).K = K := rfl
end
/-- int * int with a small side -/
theorem mulL {i j : Int} (h : -(2 ^ 64) < i ∧ i < 2 ^ 64) : IntMulOk i j := CMul.ok (.inl h)
theorem mulR {i j : Int} (h : -(2 ^ 64) < j ∧ j < 2 ^ 64) : IntMulOk i j := CMul.ok (.inr h)
theorem tyL {K : PySem.W.Frag} {l : Addr} {xs : List V} {H : Hp} (h : H l = some (.lst xs)) : tyV K "list" (.ref l) H := .inl ⟨rfl, _, SqL.of h⟩
/-! ### loops, by a word: the reading stops at ForL .. -/
def ForJ (J : It) (g : TG) (tb : TS) (D : Ends) (σ : L2.St) (H1 : Hp) : Prop := ∃ W : Nat → Nat → L2.St → Hp → Prop, (∃ m, W 0 m σ H1) ∧ ∀ i m σ H, W i m σ H →
  (J.stop i H ∧ D.nx σ H) ∨ (J.go i H ∧ ∃ N : L2.St → Hp → Prop, (∀ σ' H', N σ' H' → ∃ m', m' < m ∧ W (i + 1) m' σ' H') ∧ ∀ x H', J.yld i H x H' → g x σ H' fun σ2 H2 => tb { D with nx := N, ct := N, bk := D.nx } σ2 H2)
def ForL (K : PySem.W.Frag) (a : Addr) := ForJ (Itl K a)
def ForT (K : PySem.W.Frag) (a : Addr) := ForJ (Itt K a)
def ForR (lo : Int) (n : Nat) := ForJ (Itr lo n)
def ForC (lo c : Int) (n : Nat) := ForJ (Itc lo c n)
section
variable {K : PySem.W.Frag} {a : Addr} {xs : List V} {g : TG} {tb : TS} {D : Ends} {σ : L2.St} {H : Hp} {te : TE} {ta : TA}
theorem rd_forL : tFor (iList K te) g tb D σ H = te σ H fun x H1 => ∃ a, x = .ref a ∧ (∃ xs, SqL K H1 a xs) ∧ ForL K a g tb D σ H1 := rfl
theorem rd_forT : tFor (iTup K te) g tb D σ H = te σ H fun x H1 => ∃ a, x = .ref a ∧ (∃ xs, SqT K H1 a xs) ∧ ForT K a g tb D σ H1 := rfl
theorem rd_forR1 : tFor (iRng1 ta) g tb D σ H = ta σ H fun vs H1 => ∃ j : Int, vs = [.int j] ∧ -(2 ^ 62) ≤ j ∧ j < 2 ^ 62 ∧ ForR 0 j.toNat g tb D σ H1 := rfl
theorem rd_forR2 : tFor (iRng2 ta) g tb D σ H = ta σ H fun vs H1 => ∃ i j : Int, vs = [.int i, .int j] ∧ (-(2 ^ 62) ≤ i ∧ i < 2 ^ 62 ∧ -(2 ^ 62) ≤ j ∧ j < 2 ^ 62) ∧ ForR i (j - i).toNat g tb D σ H1 := rfl
theorem rd_forR3 : tFor (iRng3 ta) g tb D σ H = ta σ H fun vs H1 => ∃ (i j c : Int) (n : Nat), vs = [.int i, .int j, .int c] ∧ RgC i j c n ∧ ForC i c n g tb D σ H1 := rfl
theorem ForL.mk (Pv : Nat → L2.St → Hp → Prop) (h0 : Pv 0 σ H) (hl : ∀ i σ H, i ≤ xs.length → Pv i σ H → SqL K H a xs)
    (hs : ∀ i x σ H, xs[i]? = some x → Pv i σ H → g x σ H fun σ2 H2 => tb { D with nx := Pv (i + 1), ct := Pv (i + 1), bk := D.nx } σ2 H2) (hd : ∀ σ H, Pv xs.length σ H → D.nx σ H) : ForL K a g tb D σ H := for_list Pv h0 hl hs hd
theorem ForT.mk (Pv : Nat → L2.St → Hp → Prop) (h0 : Pv 0 σ H) (hl : ∀ i σ H, i ≤ xs.length → Pv i σ H → SqT K H a xs)
    (hs : ∀ i x σ H, xs[i]? = some x → Pv i σ H → g x σ H fun σ2 H2 => tb { D with nx := Pv (i + 1), ct := Pv (i + 1), bk := D.nx } σ2 H2) (hd : ∀ σ H, Pv xs.length σ H → D.nx σ H) : ForT K a g tb D σ H := for_tup Pv h0 hl hs hd
theorem ForR.mk {lo : Int} {n : Nat} (Pv : Nat → L2.St → Hp → Prop) (h0 : Pv 0 σ H)
    (hs : ∀ i σ H, i < n → Pv i σ H → g (.int (lo + i)) σ H fun σ2 H2 => tb { D with nx := Pv (i + 1), ct := Pv (i + 1), bk := D.nx } σ2 H2) (hd : ∀ σ H, Pv n σ H → D.nx σ H) : ForR lo n g tb D σ H := for_range Pv h0 hs hd
theorem ForC.mk {lo c : Int} {n : Nat} (Pv : Nat → L2.St → Hp → Prop) (h0 : Pv 0 σ H)
    (hs : ∀ i σ H, i < n → Pv i σ H → g (.int (lo + (i : Nat) * c)) σ H fun σ2 H2 => tb { D with nx := Pv (i + 1), ct := Pv (i + 1), bk := D.nx } σ2 H2) (hd : ∀ σ H, Pv n σ H → D.nx σ H) : ForC lo c n g tb D σ H := for_rangeC Pv h0 hs hd
/-- while, the test's answer told (it lays nothing) -/
theorem while_mk {c : TT} (Pv : L2.St → Hp → Prop) (μ : L2.St → Hp → Nat) (h0 : Pv σ H)
    (hs : ∀ σ H, Pv σ H → ∃ b : Bool, (∀ Q : Bool → Hp → Prop, Q b H → c σ H Q) ∧ (b = true → tb { D with nx := fun σ' H' => Pv σ' H' ∧ μ σ' H' < μ σ H, ct := fun σ' H' => Pv σ' H' ∧ μ σ' H' < μ σ H, bk := D.nx } σ H) ∧ (b = false → D.nx σ H)) : tWhile c tb D σ H := by
  refine ⟨fun m σ H => m = μ σ H ∧ Pv σ H, ⟨_, rfl, h0⟩, ?_⟩
  rintro m σ H ⟨rfl, p⟩
  obtain ⟨b, hc, h1, h2⟩ := hs σ H p
  refine hc _ ?_
  cases b with
  | true => rw [if_pos rfl]; exact ⟨_, fun σ' H' ⟨p', l⟩ => ⟨_, l, rfl, p'⟩, h1 rfl⟩
  | false => rw [if_neg Bool.false_ne_true]; exact h2 rfl
end
/-! ### comprehensions -/
def LcJ (J : It) (g : TG) (tt : TT) (te : TE) (vs : List Nat) (σ : L2.St) (H1 : Hp) (Q : VK) : Prop := ∀ D, H1 D = none → ∃ W : Nat → Nat → Hp → Prop, (∃ m, W 0 m (upd H1 D (.lst []))) ∧ ∀ i m H, W i m H →
  (J.stop i H ∧ Q (.ref D) H) ∨ (J.go i H ∧ ∃ Nx : Hp → Prop, (∀ H', Nx H' → ∃ m', m' < m ∧ W (i + 1) m' H') ∧ ∀ x H', J.yld i H x H' → g x (wipe σ vs) H' fun σ2 H2 => wipe σ2 vs = wipe σ vs ∧ tt σ2 H2 fun b H3 =>
    if b = true then te σ2 H3 fun y H4 => ∃ acc, H4 D = some (.lst acc) ∧ acc.length < sizeLine ∧ Nx (upd H4 D (.lst (acc ++ [y]))) else Nx H3)
def LcL (K : PySem.W.Frag) (a : Addr) := LcJ (Itl K a)
def LcT (K : PySem.W.Frag) (a : Addr) := LcJ (Itt K a)
def LcR (lo : Int) (n : Nat) := LcJ (Itr lo n)
section
variable {K : PySem.W.Frag} {a : Addr} {xs : List V} {g : TG} {tt : TT} {te tl : TE} {ta : TA} {vs : List Nat} {σ : L2.St} {H : Hp} {Q : VK}
theorem rd_lcL : tLc (iList K tl) g tt te vs σ H Q = tl σ H fun x H1 => ∃ a, x = .ref a ∧ (∃ xs, SqL K H1 a xs) ∧ LcL K a g tt te vs σ H1 Q := rfl
theorem rd_lcT : tLc (iTup K tl) g tt te vs σ H Q = tl σ H fun x H1 => ∃ a, x = .ref a ∧ (∃ xs, SqT K H1 a xs) ∧ LcT K a g tt te vs σ H1 Q := rfl
theorem rd_lcR1 : tLc (iRng1 ta) g tt te vs σ H Q = ta σ H fun us H1 => ∃ j : Int, us = [.int j] ∧ -(2 ^ 62) ≤ j ∧ j < 2 ^ 62 ∧ LcR 0 j.toNat g tt te vs σ H1 Q := rfl
theorem rd_lcR2 : tLc (iRng2 ta) g tt te vs σ H Q = ta σ H fun us H1 => ∃ i j : Int, us = [.int i, .int j] ∧ (-(2 ^ 62) ≤ i ∧ i < 2 ^ 62 ∧ -(2 ^ 62) ≤ j ∧ j < 2 ^ 62) ∧ LcR i (j - i).toNat g tt te vs σ H1 Q := rfl
/-- the word of a comprehension at D: what is made so far, the heap -/
theorem LcL.mk (Pv : Nat → Addr → Hp → Prop) (h0 : ∀ D, H D = none → Pv 0 D (upd H D (.lst []))) (hl : ∀ D i H, i ≤ xs.length → Pv i D H → SqL K H a xs)
    (hs : ∀ D i x H, xs[i]? = some x → Pv i D H → g x (wipe σ vs) H fun σ2 H2 => wipe σ2 vs = wipe σ vs ∧ tt σ2 H2 fun b H3 =>
      if b = true then te σ2 H3 fun y H4 => ∃ acc, H4 D = some (.lst acc) ∧ acc.length < sizeLine ∧ Pv (i + 1) D (upd H4 D (.lst (acc ++ [y]))) else Pv (i + 1) D H3) (hd : ∀ D H', H D = none → Pv xs.length D H' → Q (.ref D) H') : LcL K a g tt te vs σ H Q :=
  fun D hD => lc_list (Qd := fun H' => Q (.ref D) H') (fun i H => Pv i D H) (h0 D hD) (hl D) (hs D) (fun H' p => hd D H' hD p)
theorem LcT.mk (Pv : Nat → Addr → Hp → Prop) (h0 : ∀ D, H D = none → Pv 0 D (upd H D (.lst []))) (hl : ∀ D i H, i ≤ xs.length → Pv i D H → SqT K H a xs)
    (hs : ∀ D i x H, xs[i]? = some x → Pv i D H → g x (wipe σ vs) H fun σ2 H2 => wipe σ2 vs = wipe σ vs ∧ tt σ2 H2 fun b H3 =>
      if b = true then te σ2 H3 fun y H4 => ∃ acc, H4 D = some (.lst acc) ∧ acc.length < sizeLine ∧ Pv (i + 1) D (upd H4 D (.lst (acc ++ [y]))) else Pv (i + 1) D H3) (hd : ∀ D H', H D = none → Pv xs.length D H' → Q (.ref D) H') : LcT K a g tt te vs σ H Q :=
  fun D hD => lc_tup (Qd := fun H' => Q (.ref D) H') (fun i H => Pv i D H) (h0 D hD) (hl D) (hs D) (fun H' p => hd D H' hD p)
theorem LcR.mk {lo : Int} {n : Nat} (Pv : Nat → Addr → Hp → Prop) (h0 : ∀ D, H D = none → Pv 0 D (upd H D (.lst [])))
    (hs : ∀ D i H, i < n → Pv i D H → g (.int (lo + i)) (wipe σ vs) H fun σ2 H2 => wipe σ2 vs = wipe σ vs ∧ tt σ2 H2 fun b H3 =>
      if b = true then te σ2 H3 fun y H4 => ∃ acc, H4 D = some (.lst acc) ∧ acc.length < sizeLine ∧ Pv (i + 1) D (upd H4 D (.lst (acc ++ [y]))) else Pv (i + 1) D H3) (hd : ∀ D H', H D = none → Pv n D H' → Q (.ref D) H') : LcR lo n g tt te vs σ H Q :=
  fun D hD => lc_range (Qd := fun H' => Q (.ref D) H') (fun i H => Pv i D H) (h0 D hD) (hs D) (fun H' p => hd D H' hD p)
theorem rd_yes {QT : Bool → Hp → Prop} : tYes σ H QT = QT true H := rfl
theorem rd_sl {r : V → Option Int → Option Int → Hp → VK → Prop} {tlo thi : L2.St → Hp → (Option Int → Hp → Prop) → Prop} : tSl r te tlo thi σ H Q = te σ H fun x H1 => tlo σ H1 fun l H2 => thi σ H2 fun u H3 => r x l u H3 Q := rfl
theorem rd_noPart {QO : Option Int → Hp → Prop} : tNoPart σ H QO = QO none H := rfl
theorem rd_part {QO : Option Int → Hp → Prop} : tPart te σ H QO = te σ H fun x H1 => ∃ i, x = .int i ∧ QO (some i) H1 := rfl
theorem rd_slL {x : V} {lo hi : Option Int} : rSlL K x lo hi H Q = ∃ a xs, x = .ref a ∧ SqL K H a xs ∧ ∀ p, H p = none → Q (.ref p) (upd H p (.lst (cutV xs lo hi))) := rfl
end
/-! ### isinstance of a built-in class -/
theorem isi_mk {K : PySem.W.Frag} {x : V} {T t : String} {b : Bool} {H : Hp} {Q : VK} (ty : TyX K H x (.type t)) (e : kitB t T = some b) (q : Q (.bl b) H) : rIsi K [x, .ty T] H Q := ⟨x, .ty T, _, _, b, rfl, .ty T, ty, kit_ty e, q⟩
/-! ### the same with the next turn's word a letter (simp doesn't read it) -/
section
variable {K : PySem.W.Frag} {a : Addr} {xs : List V} {g : TG} {tb : TS} {D : Ends} {σ : L2.St} {H : Hp} {te : TE} {ta : TA} {tt : TT} {vs : List Nat} {Q : VK}
theorem while_w {c : TT} (Pw : L2.St → Hp → Prop) (μ : L2.St → Hp → Nat) (h0 : Pw σ H)
    (hs : ∀ σ H, Pw σ H → ∀ N : L2.St → Hp → Prop, (∀ σ' H', Pw σ' H' → μ σ' H' < μ σ H → N σ' H') →
      ∃ b : Bool, (∀ Q : Bool → Hp → Prop, Q b H → c σ H Q) ∧ (b = true → tb { D with nx := N, ct := N, bk := D.nx } σ H) ∧ (b = false → D.nx σ H)) : tWhile c tb D σ H :=
  while_mk Pw μ h0 fun σ H p => hs σ H p _ fun _ _ h1 h2 => ⟨h1, h2⟩
theorem ForL.w (Pw : Nat → L2.St → Hp → Prop) (h0 : Pw 0 σ H) (hl : ∀ i σ H, i ≤ xs.length → Pw i σ H → SqL K H a xs)
    (hs : ∀ i x σ H, xs[i]? = some x → Pw i σ H → ∀ N : L2.St → Hp → Prop, (∀ σ' H', Pw (i + 1) σ' H' → N σ' H') → g x σ H fun σ2 H2 => tb { D with nx := N, ct := N, bk := D.nx } σ2 H2) (hd : ∀ σ H, Pw xs.length σ H → D.nx σ H) : ForL K a g tb D σ H :=
  ForL.mk Pw h0 hl (fun i x σ H e p => hs i x σ H e p _ fun _ _ h => h) hd
theorem ForT.w (Pw : Nat → L2.St → Hp → Prop) (h0 : Pw 0 σ H) (hl : ∀ i σ H, i ≤ xs.length → Pw i σ H → SqT K H a xs)
    (hs : ∀ i x σ H, xs[i]? = some x → Pw i σ H → ∀ N : L2.St → Hp → Prop, (∀ σ' H', Pw (i + 1) σ' H' → N σ' H') → g x σ H fun σ2 H2 => tb { D with nx := N, ct := N, bk := D.nx } σ2 H2) (hd : ∀ σ H, Pw xs.length σ H → D.nx σ H) : ForT K a g tb D σ H :=
  ForT.mk Pw h0 hl (fun i x σ H e p => hs i x σ H e p _ fun _ _ h => h) hd
theorem ForR.w {lo : Int} {n : Nat} (Pw : Nat → L2.St → Hp → Prop) (h0 : Pw 0 σ H)
    (hs : ∀ i σ H, i < n → Pw i σ H → ∀ N : L2.St → Hp → Prop, (∀ σ' H', Pw (i + 1) σ' H' → N σ' H') → g (.int (lo + i)) σ H fun σ2 H2 => tb { D with nx := N, ct := N, bk := D.nx } σ2 H2) (hd : ∀ σ H, Pw n σ H → D.nx σ H) : ForR lo n g tb D σ H :=
  ForR.mk Pw h0 (fun i σ H e p => hs i σ H e p _ fun _ _ h => h) hd
theorem ForC.w {lo c : Int} {n : Nat} (Pw : Nat → L2.St → Hp → Prop) (h0 : Pw 0 σ H)
    (hs : ∀ i σ H, i < n → Pw i σ H → ∀ N : L2.St → Hp → Prop, (∀ σ' H', Pw (i + 1) σ' H' → N σ' H') → g (.int (lo + (i : Nat) * c)) σ H fun σ2 H2 => tb { D with nx := N, ct := N, bk := D.nx } σ2 H2) (hd : ∀ σ H, Pw n σ H → D.nx σ H) : ForC lo c n g tb D σ H :=
  ForC.mk Pw h0 (fun i σ H e p => hs i σ H e p _ fun _ _ h => h) hd
/-- a comprehension: Pw turn D made heap: the list at D holds made -/
theorem LcL.w (Pw : Nat → Addr → List V → Hp → Prop) (h0 : ∀ D, H D = none → Pw 0 D [] (upd H D (.lst []))) (hl : ∀ D i ys H, i ≤ xs.length → Pw i D ys H → SqL K H a xs)
    (hs : ∀ D i x ys H, xs[i]? = some x → Pw i D ys H → ∀ N : Hp → Prop, (∀ ys' H', Pw (i + 1) D ys' H' → N H') → g x (wipe σ vs) H fun σ2 H2 => wipe σ2 vs = wipe σ vs ∧ tt σ2 H2 fun b H3 =>
      if b = true then te σ2 H3 fun y H4 => ∃ acc, H4 D = some (.lst acc) ∧ acc.length < sizeLine ∧ N (upd H4 D (.lst (acc ++ [y]))) else N H3) (hd : ∀ D ys H', H D = none → Pw xs.length D ys H' → Q (.ref D) H') : LcL K a g tt te vs σ H Q :=
  LcL.mk (xs := xs) (fun i D H => ∃ ys, Pw i D ys H) (fun D n => ⟨[], h0 D n⟩) (fun D i H hi ⟨ys, p⟩ => hl D i ys H hi p) (fun D i x H e ⟨ys, p⟩ => hs D i x ys H e p _ fun ys' H' h => ⟨ys', h⟩) (fun D H' n ⟨ys, p⟩ => hd D ys H' n p)
theorem LcT.w (Pw : Nat → Addr → List V → Hp → Prop) (h0 : ∀ D, H D = none → Pw 0 D [] (upd H D (.lst []))) (hl : ∀ D i ys H, i ≤ xs.length → Pw i D ys H → SqT K H a xs)
    (hs : ∀ D i x ys H, xs[i]? = some x → Pw i D ys H → ∀ N : Hp → Prop, (∀ ys' H', Pw (i + 1) D ys' H' → N H') → g x (wipe σ vs) H fun σ2 H2 => wipe σ2 vs = wipe σ vs ∧ tt σ2 H2 fun b H3 =>
      if b = true then te σ2 H3 fun y H4 => ∃ acc, H4 D = some (.lst acc) ∧ acc.length < sizeLine ∧ N (upd H4 D (.lst (acc ++ [y]))) else N H3) (hd : ∀ D ys H', H D = none → Pw xs.length D ys H' → Q (.ref D) H') : LcT K a g tt te vs σ H Q :=
  LcT.mk (xs := xs) (fun i D H => ∃ ys, Pw i D ys H) (fun D n => ⟨[], h0 D n⟩) (fun D i H hi ⟨ys, p⟩ => hl D i ys H hi p) (fun D i x H e ⟨ys, p⟩ => hs D i x ys H e p _ fun ys' H' h => ⟨ys', h⟩) (fun D H' n ⟨ys, p⟩ => hd D ys H' n p)
theorem LcR.w {lo : Int} {n : Nat} (Pw : Nat → Addr → List V → Hp → Prop) (h0 : ∀ D, H D = none → Pw 0 D [] (upd H D (.lst [])))
    (hs : ∀ D i ys H, i < n → Pw i D ys H → ∀ N : Hp → Prop, (∀ ys' H', Pw (i + 1) D ys' H' → N H') → g (.int (lo + i)) (wipe σ vs) H fun σ2 H2 => wipe σ2 vs = wipe σ vs ∧ tt σ2 H2 fun b H3 =>
      if b = true then te σ2 H3 fun y H4 => ∃ acc, H4 D = some (.lst acc) ∧ acc.length < sizeLine ∧ N (upd H4 D (.lst (acc ++ [y]))) else N H3) (hd : ∀ D ys H', H D = none → Pw n D ys H' → Q (.ref D) H') : LcR lo n g tt te vs σ H Q :=
  LcR.mk (fun i D H => ∃ ys, Pw i D ys H) (fun D n => ⟨[], h0 D n⟩) (fun D i H e ⟨ys, p⟩ => hs D i ys H e p _ fun ys' H' h => ⟨ys', h⟩) (fun D H' n ⟨ys, p⟩ => hd D ys H' n p)
end
theorem rd_max2 {xs : List V} {H : Hp} {Q : VK} : (fun (xs : List V) (H : Hp) (Q : VK) => ∃ i j : Int, xs = [.int i, .int j] ∧ Q (.int (if j > i then j else i)) H) xs H Q = ∃ i j : Int, xs = [.int i, .int j] ∧ Q (.int (if j > i then j else i)) H := rfl
theorem rd_wipe0 {σ : L2.St} : wipe σ [] = σ := rfl
theorem rd_wipe1 {σ : L2.St} {v : Nat} {vs : List Nat} : wipe σ (v :: vs) = (wipe σ vs).set v none := rfl
theorem rd_eqD {K : PySem.W.Frag} {x y : V} {H : Hp} {Q : VK} : rEqD K x y H Q = ∃ d e, Dp K H x d ∧ Dp K H y e ∧ SeqAt.shaped d = true ∧ SeqAt.shaped e = true ∧ Q (.bl (PyData.eqv d e)) H := rfl
theorem rd_neD {K : PySem.W.Frag} {x y : V} {H : Hp} {Q : VK} : rNeD K x y H Q = ∃ d e, Dp K H x d ∧ Dp K H y e ∧ SeqAt.shaped d = true ∧ SeqAt.shaped e = true ∧ Q (.bl (!PyData.eqv d e)) H := rfl
theorem rd_rep {x y : V} {H : Hp} {Q : VK} : rRep x y H Q = ∃ l k xs, x = .ref l ∧ y = .int k ∧ H l = some (.lst xs) ∧ -(2 ^ 63) ≤ k ∧ k < 2 ^ 63 ∧ xs.length * k.toNat ≤ sizeLine ∧ ∀ p, H p = none → Q (.ref p) (upd H p (.lst (List.replicate k.toNat xs).flatten)) := rfl
theorem dp_ints {K : PySem.W.Frag} {H : Hp} : ∀ l : List Int, DpAll K H (l.map V.int) (l.map PyData.int)
  | [] => .nil
  | i :: l => .cons (.int i) (dp_ints l)
theorem dp_strs {K : PySem.W.Frag} {H : Hp} : ∀ l : List Str, DpAll K H (l.map V.str) (l.map PyData.str)
  | [] => .nil
  | i :: l => .cons (.str i) (dp_strs l)
/-! ### powers of any size; tuples made of lists; data -/
def CPowI (i j : Int) : Prop := 0 ≤ j ∧ (Builtin.Int.intBits i : Int) * j ≤ 2 ^ 27
theorem op_powI {X : Cx} : OpR X (binaryOp .Pow) (rI CPowI fun i j => .int (i ^ j.toNat)) := opI fun _ _ _ _ _ _ _ hc q => pow_int hc.1 hc.2 q
theorem bits_le {i : Int} {n : Nat} (h : i.natAbs < 2 ^ n) (h0 : 0 < n) : Builtin.Int.intBits i ≤ n := by
  have a := PySem.Flt.log2_lt_of h0 h
  unfold Builtin.Int.intBits
  split <;> omega
theorem powI {i j : Int} {n : Nat} (h : i.natAbs < 2 ^ n) (h0 : 0 < n) (hj : 0 ≤ j) (hz : (n : Int) * j ≤ 2 ^ 27) : CPowI i j := by
  refine ⟨hj, Int.le_trans (Int.mul_le_mul_of_nonneg_right ?_ hj) hz⟩
  exact Int.ofNat_le.mpr (bits_le h h0)
def rTupOf (K : PySem.W.Frag) : List V → Hp → VK → Prop := fun xs H Q => ∃ p ys, xs = [.ref p] ∧ ((SqL K H p ys ∧ ∀ l, H l = none → Q (.ref l) (upd H l (.tup ys))) ∨ (SqT K H p ys ∧ Q (.ref p) H))
theorem cr_tupOf {X : Cx} : CallR X (.type "tuple") (rTupOf X.K) := call_tuple_of
theorem rd_tupOf {K : PySem.W.Frag} {xs : List V} {H : Hp} {Q : VK} : rTupOf K xs H Q = ∃ p ys, xs = [.ref p] ∧ ((SqL K H p ys ∧ ∀ l, H l = none → Q (.ref l) (upd H l (.tup ys))) ∨ (SqT K H p ys ∧ Q (.ref p) H)) := rfl
def rLenS (K : PySem.W.Frag) : List V → Hp → VK → Prop := fun xs H Q => ∃ x n, xs = [x] ∧ LenV K x H n ∧ Q (.int n) H
theorem cr_lenS {X : Cx} : CallR X (.builtin "len") (rLenS X.K) := call_len
theorem rd_lenS {K : PySem.W.Frag} {xs : List V} {H : Hp} {Q : VK} : rLenS K xs H Q = ∃ x n, xs = [x] ∧ LenV K x H n ∧ Q (.int n) H := rfl
theorem rd_gcd {vs : List V} {H : Hp} {Q : VK} : rGcd vs H Q = ∃ a b : Int, vs = [.int a, .int b] ∧ Q (.int ((Nat.gcd a.natAbs b.natAbs : Nat) : Int)) H := rfl
/-- what holds between two statements -/
theorem seq_cut {t u : TS} {D : Ends} {σ : L2.St} {H : Hp} (Pw : L2.St → Hp → Prop) (h1 : ∀ R : L2.St → Hp → Prop, (∀ σ H, Pw σ H → R σ H) → t { D with nx := R } σ H) (h2 : ∀ σ H, Pw σ H → u D σ H) : tSeq t u D σ H := h1 (u D) h2
theorem rd_any {K : PySem.W.Frag} {vs : List V} {H : Hp} {Q : VK} : rAny K vs H Q = ∃ (a : Addr) (bs : List Bool), vs = [V.ref a] ∧ SqL K H a (bs.map V.bl) ∧ Q (.bl (bs.any id)) H := rfl
theorem rd_all {K : PySem.W.Frag} {vs : List V} {H : Hp} {Q : VK} : rAll K vs H Q = ∃ (a : Addr) (bs : List Bool), vs = [V.ref a] ∧ SqL K H a (bs.map V.bl) ∧ Q (.bl (bs.all id)) H := rfl
theorem rd_ext {K : PySem.W.Frag} {to : TE} {t : TA} {σ : L2.St} {H : Hp} {Q : VK} : tBM K "list" rExtend to t σ H Q = to σ H fun x H1 => tyV K "list" x H1 ∧ t σ H1 fun xs H2 => ∃ l b ys zs, x = .ref l ∧ xs = [.ref b] ∧ H2 l = some (.lst ys) ∧ H2 b = some (.lst zs) ∧ ys.length + zs.length ≤ sizeLine ∧ Q .non (upd H2 l (.lst (ys ++ zs))) := rfl
theorem rd_glst {K : PySem.W.Frag} {n : Nat} {g : TGs} {v : V} {σ : L2.St} {H : Hp} {QS : L2.St → Hp → Prop} : gLst K n g v σ H QS = ∃ a xs, v = .ref a ∧ SqL K H a xs ∧ xs.length = n ∧ g xs σ H QS := rfl
theorem ix_listK {X : Cx} {K : PySem.W.Frag} (h : X.K = K) : IxR X (rIxL K) := by
  subst h
  exact ix_list
theorem ix_tupK {X : Cx} {K : PySem.W.Frag} (h : X.K = K) : IxR X (rIxT K) := by
  subst h
  exact ix_tup
end CB/-! sorted of a list of triples of ints, any number of them -/
namespace CB
open PySem PyProof.Rows Srt SrtO L2
abbrev T3 := Int × Int × Int
def lexT (p q : T3) : Bool := if p.1 = q.1 then lexB p.2 q.2 else decide (p.1 < q.1)
theorem lexT_iff {p q : T3} : lexT p q = true ↔ p.1 < q.1 ∨ (p.1 = q.1 ∧ (p.2.1 < q.2.1 ∨ (p.2.1 = q.2.1 ∧ p.2.2 < q.2.2))) := by
  unfold lexT
  by_cases e : p.1 = q.1
  · rw [if_pos e, lexB_iff]
    omega
  · rw [if_neg e, decide_eq_true_eq]
    omega
theorem lexT_no {p q : T3} : lexT p q = false ↔ ¬ (p.1 < q.1 ∨ (p.1 = q.1 ∧ (p.2.1 < q.2.1 ∨ (p.2.1 = q.2.1 ∧ p.2.2 < q.2.2)))) := by
  rw [← lexT_iff]
  cases lexT p q <;> simp
theorem swo_T {α : Type} (k : α → T3) : Swo fun v u => lexT (k v) (k u) := by
  refine ⟨fun x y h => ?_, fun x y z h1 h2 => ?_⟩
  · have a := lexT_iff.mp h
    refine lexT_no.mpr ?_
    omega
  · have a := lexT_no.mp h1
    have b := lexT_no.mp h2
    refine lexT_no.mpr ?_
    omega
theorem lexT_eq {p q : T3} (h1 : lexT p q = false) (h2 : lexT q p = false) : p = q := by
  have a := lexT_no.mp h1
  have b := lexT_no.mp h2
  obtain ⟨p1, p2, p3⟩ := p
  obtain ⟨q1, q2, q3⟩ := q
  simp only at a b
  have e1 : p1 = q1 := by omega
  have e2 : p2 = q2 := by omega
  have e3 : p3 = q3 := by omega
  rw [e1, e2, e3]
/-- two sorted rearrangements of triples are one -/
theorem srtT_uniq : ∀ {l m : List T3}, l.Pairwise (fun p q => lexT q p = false) → m.Pairwise (fun p q => lexT q p = false) → l.Perm m → l = m := fun {l m} h1 h2 h => by
  refine List.Perm.eq_of_pairwise (le := fun p q => lexT q p = false) (fun a b _ _ x y => lexT_eq y x) h1 h2 h
section
variable {prog : Program} {w : World} {A : Around} {E : Value → Shared → Prop} {s : Shared}
def IsTrip (h : Heap) (v : Value) (k : T3) : Prop := ∃ a o t u r n, v = .ref a ∧ h.get? a = some o ∧ o.cls = .type "tuple" ∧ o.data = .seq #[.int k.1 t, .int k.2.1 u, .int k.2.2 r] n
theorem IsTrip.keeps {h h' : Heap} {v : Value} {k : T3} (p : IsTrip h v k) (kk : ∀ b o, h.get? b = some o → o.cls = .type "tuple" → h'.get? b = some o) : IsTrip h' v k := by
  obtain ⟨a, o, t, u, r, n, e, ho, hc, hd⟩ := p
  exact ⟨a, o, t, u, r, n, e, kk _ _ ho hc, hc, hd⟩
theorem firstsT {h : Heap} : ∀ {vs : List Value}, (∀ v ∈ vs, ∃ k, IsTrip h v k) → ∃ fs : List Value, PySem.W.KatTups h vs fs ∧ fs.length = vs.length ∧ ∀ f ∈ fs, ∃ x t, f = Value.int x t
  | [], _ => ⟨[], PySem.W.KatTups.nil, rfl, fun _ hm => by simp at hm⟩
  | v :: vs, hp => by
    obtain ⟨fs, h1, h2, h3⟩ := firstsT (vs := vs) fun v' hm => hp v' (List.mem_cons_of_mem _ hm)
    obtain ⟨k, a, o, t, u, r, n, e, ho, hc, hd⟩ := hp v (List.mem_cons_self ..)
    subst e
    refine ⟨.int k.1 t :: fs, PySem.W.KatTups.cons ho hc hd rfl h1, by rw [List.length_cons, List.length_cons, h2], fun f hm => ?_⟩
    rcases List.mem_cons.mp hm with rfl | hm
    · exact ⟨k.1, t, rfl⟩
    · exact h3 f hm
theorem trip_cmp {vs : List Value} {k : Value → T3} (hp : ∀ v ∈ vs, IsTrip s.heap v (k v)) : SrtO.Cmp prog w A s (tuples' true) (fun p => p.1 ∈ vs) (lt2 fun v u => lexT (k v) (k u)) := by
  intro p q hm hm'
  have h1 := hp _ hm
  have h2 := hp _ hm'
  show wpAny (model prog w) A (keyLt' (tuples' true) p.1 q.1) (fun r s' => s' = s ∧ r = lexT (k p.1) (k q.1)) (fun _ _ => False) s
  generalize k p.1 = kp at h1 ⊢
  generalize k q.1 = kq at h2 ⊢
  obtain ⟨x, y, z⟩ := kp
  obtain ⟨x', y', z'⟩ := kq
  obtain ⟨a, o, t, u, r, n, e, ho, hc, hd⟩ := h1
  obtain ⟨a', o', t', u', r', n', e', ho', hc', hd'⟩ := h2
  rw [e, e']
  simp only at hd hd'
  refine PySem.W.kat_lt ho hd ho' hd' ?_
  show PySem.W.KatLex prog w A true (decide (3 < 3)) _ [(.int x t, .int x' t'), (.int y u, .int y' u'), (.int z r, .int z' r')] 0 s
  refine PySem.W.kat_cons (SeqAt.EqAt.int_int x t x' t' prog w _ _ ?_)
  refine PySem.W.kat_go (fun e1 => ?_) (fun e1 => ?_)
  · have ex : x = x' := by simpa using e1
    refine PySem.W.kat_yes (PySem.W.kat_cons (SeqAt.EqAt.int_int y u y' u' prog w _ _ ?_))
    refine PySem.W.kat_go (fun e2 => ?_) (fun e2 => ?_)
    · have ey : y = y' := by simpa using e2
      refine PySem.W.kat_yes (PySem.W.kat_cons (SeqAt.EqAt.int_int z r z' r' prog w _ _ ?_))
      refine PySem.W.kat_go (fun e3 => ?_) (fun e3 => ?_)
      · have ez : z = z' := by simpa using e3
        have e4 : lexT (x, y, z) (x', y', z') = false := lexT_no.mpr (by simp only; omega)
        exact PySem.W.kat_yes (PySem.W.kat_nil ⟨rfl, e4.symm⟩)
      · have e4 : lexT (x, y, z) (x', y', z') = decide (z < z') := by
          unfold lexT lexB
          simp only
          rw [if_pos ex, if_pos ey]
        refine PySem.W.kat_no (PySem.W.kat_one _ _ (PyProof.Rows.lt_int ?_))
        exact (show s = s ∧ decide (z < z') = lexT (x, y, z) (x', y', z') from ⟨rfl, e4.symm⟩)
    · have ey : ¬ y = y' := by simpa using e2
      have e4 : lexT (x, y, z) (x', y', z') = decide (y < y') := by
        unfold lexT lexB
        simp only
        rw [if_pos ex, if_neg ey]
      refine PySem.W.kat_no (PySem.W.kat_one _ _ (PyProof.Rows.lt_int ?_))
      exact (show s = s ∧ decide (y < y') = lexT (x, y, z) (x', y', z') from ⟨rfl, e4.symm⟩)
  · have ex : ¬ x = x' := by simpa using e1
    have e3 : lexT (x, y, z) (x', y', z') = decide (x < x') := by
      unfold lexT
      simp only
      rw [if_neg ex]
    exact PySem.W.kat_no (oneLt_int ⟨rfl, e3.symm⟩)
theorem trips_sortableO {a : Addr} {vs : List Value} {k : Value → T3} (h0 : 0 < vs.length) (hp : ∀ v ∈ vs, IsTrip s.heap v (k v)) (ha : ∀ o, s.heap.get? a = some o → o.cls ≠ .type "tuple") : SortableO prog w A s a vs fun v u => lexT (k v) (k u) := by
  intro h' keep
  have hp' : ∀ v ∈ vs, IsTrip h' v (k v) := fun v hm => (hp v hm).keeps fun b o e c => keep b o (fun z => by subst z; exact ha o e c) e
  obtain ⟨fs, h1, h2, h3⟩ := firstsT fun v hm => ⟨_, hp' v hm⟩
  refine ⟨tuples' true, fun Q E hq => ?_, trip_cmp hp'⟩
  refine PySem.W.kat_kind (T := .type "int") h1 (by omega) (fun f hm => ?_) (by rfl) ?_
  · obtain ⟨x, t, rfl⟩ := h3 f hm
    exact PySem.W.Looks.now
  · have e : (Value.type "int" != Value.type "tuple") = true := by first | decide +kernel | rfl | decide
    rw [e]
    exact hq
theorem sorted_tripsO {l : Addr} {vs : List Value} {k : Value → T3} {Q : Value → Shared → Prop} (hl : s.heap.IsList l vs.toArray) (hz : vs.length ≤ sizeLine) (hp : ∀ v ∈ vs, IsTrip s.heap v (k v))
    (h : ∀ (h' : Heap) (d : Addr) (out : List Value), Srtd (fun v u => lexT (k v) (k u)) out → Stb (fun v u => lexT (k v) (k u)) out vs → (∀ b o, s.heap.get? b = some o → h'.get? b = some o) → s.heap.objs.size ≤ d → (∃ n, h'.get? d = some (seqObj "list" out.toArray n)) → Q (.ref d) { s with heap := h' }) :
    wpAny (model prog w) A (call (.builtin "sorted") [.ref l]) Q E s := by
  refine sorted_ord (swo_T k) hl hz (fun h2 h₁ a ha kk => ?_) fun out hs hb => ?_
  · refine trips_sortableO (s := { s with heap := h₁ }) (by omega) (fun v hm => (hp v hm).keeps fun b o e _ => (kk b o e).2) fun o e => ?_
    have e' : some o = some (seqObj "list" vs.toArray 0) := e.symm.trans ha
    cases e'
    intro c
    exact absurd (Value.type.inj c) (by decide)
  · exact h _ _ out hs hb (fun b o e => sortedAll_old e) (Nat.le_succ _) (sortedAll_at s.heap vs out.toArray)
end
end CB
namespace CB
open PySem PySem.Spec PyProof.Rows L2
/-- the triple that stands at x -/
def kT (H : Hp) : V → T3
  | .ref r => match H r with
    | some (.tup [.int a, .int b, .int c]) => (a, b, c)
    | _ => (0, 0, 0)
  | _ => (0, 0, 0)
def IsT3 (H : Hp) (x : V) : Prop := ∃ r a b c, x = V.ref r ∧ H r = some (.tup [.int a, .int b, .int c])
theorem IsT3.at {H : Hp} {x : V} (h : IsT3 H x) : ∃ r, x = V.ref r ∧ H r = some (.tup [.int (kT H x).1, .int (kT H x).2.1, .int (kT H x).2.2]) := by
  obtain ⟨r, a, b, c, rfl, e⟩ := h
  refine ⟨r, rfl, ?_⟩
  have q : kT H (V.ref r) = (a, b, c) := by
    show (match H r with
      | some (.tup [.int a, .int b, .int c]) => (a, b, c)
      | _ => (0, 0, 0)) = _
    rw [e]
  rw [q, e]
/-- the list of triples that stand at the xs -/
def Trs (H : Hp) (xs : List V) (ts : List T3) : Prop := (∀ x ∈ xs, IsT3 H x) ∧ ts = xs.map (kT H)
theorem kT_same {H H' : Hp} (s : Same H H') {x : V} (h : IsT3 H x) : kT H' x = kT H x ∧ IsT3 H' x := by
  obtain ⟨r, a, b, c, rfl, e⟩ := h
  have e' := s _ _ e
  refine ⟨?_, r, a, b, c, rfl, e'⟩
  show (match H' r with
      | some (.tup [.int a, .int b, .int c]) => (a, b, c)
      | _ => (0, 0, 0)) = (match H r with
      | some (.tup [.int a, .int b, .int c]) => (a, b, c)
      | _ => (0, 0, 0))
  rw [e, e']
theorem Trs.same {H H' : Hp} {xs : List V} {ts : List T3} (s : Same H H') (h : Trs H xs ts) : Trs H' xs ts := by
  obtain ⟨h1, rfl⟩ := h
  exact ⟨fun x m => (kT_same s (h1 x m)).2, List.map_congr_left fun x m => (kT_same s (h1 x m)).1.symm⟩
theorem Trs.keep {H H' : Hp} {xs : List V} {ts : List T3} (s : ∀ r a b c, H r = some (.tup [.int a, .int b, .int c]) → H' r = some (.tup [.int a, .int b, .int c])) (h : Trs H xs ts) : Trs H' xs ts := by
  obtain ⟨h1, rfl⟩ := h
  refine ⟨fun x m => ?_, List.map_congr_left fun x m => ?_⟩
  · obtain ⟨r, a, b, c, e, q⟩ := h1 x m
    exact ⟨r, a, b, c, e, s _ _ _ _ q⟩
  · obtain ⟨r, a, b, c, rfl, q⟩ := h1 x m
    show (match H r with
      | some (.tup [.int a, .int b, .int c]) => (a, b, c)
      | _ => (0, 0, 0)) = (match H' r with
      | some (.tup [.int a, .int b, .int c]) => (a, b, c)
      | _ => (0, 0, 0))
    rw [q, s _ _ _ _ q]
theorem same_at {H H1 : Hp} {f : Addr} {o : HO} (s : Same H H1) (n : H f = none) : Same H (upd H1 f o) := fun b x e => by
  rw [upd_ne (ne_of_none e n)]
  exact s b x e
theorem Trs.updL {H : Hp} {f : Addr} {l : List V} {o : HO} {xs : List V} {ts : List T3} (h : Trs H xs ts) (e : H f = some (.lst l)) : Trs (upd H f o) xs ts :=
  h.keep fun r a b c q => by rw [upd_ne (ne_of q e (by intro z; cases z))]; exact q
theorem Trs.updN {H : Hp} {f : Addr} {o : HO} {xs : List V} {ts : List T3} (h : Trs H xs ts) (e : H f = none) : Trs (upd H f o) xs ts := h.same (same_upd e)
theorem Trs.nil {H : Hp} : Trs H [] [] := ⟨fun x m => by simp at m, rfl⟩
theorem Trs.snoc {H : Hp} {xs : List V} {ts : List T3} {r : Addr} {a b c : Int} (h : Trs H xs ts) (e : H r = some (.tup [.int a, .int b, .int c])) : Trs H (xs ++ [.ref r]) (ts ++ [(a, b, c)]) := by
  obtain ⟨h1, rfl⟩ := h
  refine ⟨fun x m => ?_, ?_⟩
  · rcases List.mem_append.mp m with m | m
    · exact h1 x m
    · rw [List.mem_singleton.mp m]
      exact ⟨r, a, b, c, rfl, e⟩
  · rw [List.map_append]
    show _ = _ ++ [kT H (.ref r)]
    have q : kT H (V.ref r) = (a, b, c) := by
      show (match H r with
        | some (.tup [.int a, .int b, .int c]) => (a, b, c)
        | _ => (0, 0, 0)) = _
      rw [e]
    rw [q]
theorem Trs.get {H : Hp} {xs : List V} {ts : List T3} {i : Nat} {x : V} (h : Trs H xs ts) (e : xs[i]? = some x) : ∃ r a b c, x = .ref r ∧ H r = some (.tup [.int a, .int b, .int c]) ∧ ts[i]? = some (a, b, c) := by
  obtain ⟨h1, rfl⟩ := h
  obtain ⟨r, e1, e2⟩ := (h1 x (List.mem_of_getElem? e)).at
  exact ⟨r, _, _, _, e1, e2, by rw [List.getElem?_map, e]; rfl⟩
theorem Trs.len {H : Hp} {xs : List V} {ts : List T3} (h : Trs H xs ts) : ts.length = xs.length := by
  rw [h.2, List.length_map]
/-- sorted(xs), xs a list of triples of ints -/
def rSorted3 (K : PySem.W.Frag) : List V → Hp → VK → Prop := fun vs H Q => ∃ (a : Addr) (xs : List V) (ts : List T3), vs = [V.ref a] ∧ SqL K H a xs ∧ Trs H xs ts ∧
  ∀ ys us p, Trs H ys us → us.Pairwise (fun p q => lexT q p = false) → us.Perm ts → H p = none → Q (.ref p) (upd H p (.lst ys))
section
variable {X : Cx}
theorem cr_sorted3 : CallR X (.builtin "sorted") (rSorted3 X.K) := by
  intro pins s σ H vs us Q I r h
  obtain ⟨a, xs, ts, rfl, hs, ⟨hx, rfl⟩, q⟩ := h
  obtain ⟨its, rv, hl, hz⟩ := I.list hs
  obtain ⟨u, rfl, ru⟩ := vals1 r
  obtain rfl : u = Value.ref a := ru
  obtain ⟨e1, e2⟩ := refs_back rv fun x m => by
    obtain ⟨t, e, _⟩ := (hx x m).at
    exact ⟨t, e⟩
  refine sorted_tripsO (k := fun u => kT H (backV u)) hl.isList (by rw [← rv.length]; exact hz) (fun v hv => ?_) fun h' d out h1 h2 kp hd hn => ?_
  · obtain ⟨t, rfl⟩ := e2 v hv
    have hm : V.ref t ∈ xs := by rw [e1]; exact List.mem_map.mpr ⟨_, hv, rfl⟩
    obtain ⟨t', e, ht⟩ := (hx _ hm).at
    cases e
    obtain ⟨_, its2, r2, o, ho, hc, n, hd⟩ := I.hok _ _ ht
    cases r2 with
    | cons ra r2 =>
      cases r2 with
      | cons rb r2 =>
        cases r2 with
        | cons rc r2 =>
          cases r2
          obtain ⟨t1, rfl⟩ := ra
          obtain ⟨t2, rfl⟩ := rb
          obtain ⟨t3, rfl⟩ := rc
          exact ⟨t, o, t1, t2, t3, n, rfl, ho, hc, hd⟩
  · have h3 : ∀ u ∈ out, ∃ a, u = Value.ref a := fun u hu => e2 u (h2.perm.mem_iff.mp hu)
    obtain ⟨n, hn⟩ := hn
    have hp : (out.map backV).Perm xs := by
      rw [e1]
      exact h2.perm.map backV
    have hT : ∀ x ∈ out.map backV, IsT3 H x := fun x m => hx x (hp.mem_iff.mp m)
    have hS : ((out.map backV).map (kT H)).Pairwise (fun p q => lexT q p = false) := by
      rw [List.pairwise_map, List.pairwise_map]
      exact h1
    refine ⟨.ref d, upd H d (.lst (out.map backV)), I.laid (t' := s.toks) kp hd ⟨?_, out, n, vals_back h3, hn⟩, rfl, q _ _ d ⟨hT, rfl⟩ hS (hp.map (kT H)) (I.hok.fresh hd)⟩
    rw [hp.length_eq]
    exact hz
end
section
variable {H : Hp} {Q : VK} {K : PySem.W.Frag} {vs : List V}
theorem rd_sorted3 : rSorted3 K vs H Q = ∃ (a : Addr) (xs : List V) (ts : List T3), vs = [V.ref a] ∧ SqL K H a xs ∧ Trs H xs ts ∧
  ∀ ys us p, Trs H ys us → us.Pairwise (fun p q => lexT q p = false) → us.Perm ts → H p = none → Q (.ref p) (upd H p (.lst ys)) := rfl
end
/-! ### triples as data -/
def dT3 (t : T3) : PyData := .tuple [.int t.1, .int t.2.1, .int t.2.2]
theorem dp_t3 {K : PySem.W.Frag} {H : Hp} {x : V} (h : IsT3 H x) : Dp K H x (dT3 (kT H x)) := by
  obtain ⟨r, rfl, e⟩ := h.at
  exact .tup (SqT.of e) (.cons (.int _) (.cons (.int _) (.cons (.int _) .nil)))
theorem dp_trs {K : PySem.W.Frag} {H : Hp} : ∀ {xs : List V} {ts : List T3}, Trs H xs ts → DpAll K H xs (ts.map dT3) := fun {xs ts} h => by
  obtain ⟨h1, rfl⟩ := h
  induction xs with
  | nil => exact .nil
  | cons x xs ih => exact .cons (dp_t3 (h1 x List.mem_cons_self)) (ih fun y m => h1 y (List.mem_cons_of_mem _ m))
theorem lay_t3 : ∀ ts : List T3, PyData.canLayAll0 (ts.map dT3) = true
  | [] => rfl
  | t :: ts => by
    show (PyData.canLay0 (dT3 t) && PyData.canLayAll0 (ts.map dT3)) = true
    rw [lay_t3 ts]
    rfl
theorem depth_t3 : ∀ ts : List T3, PyData.depthAll (ts.map dT3) ≤ 3
  | [] => by decide
  | t :: ts => by
    have := depth_t3 ts
    show max (PyData.depth (dT3 t)) (PyData.depthAll (ts.map dT3)) ≤ 3
    have e : PyData.depth (dT3 t) = 1 := rfl
    omega
theorem shaped_t3 (ts : List T3) : SeqAt.shaped (.tuple (ts.map dT3)) = true := by
  unfold SeqAt.shaped
  have a : PyData.canLay0 (.tuple (ts.map dT3)) = true := lay_t3 ts
  have b : PyData.depth (.tuple (ts.map dT3)) ≤ 64 := by
    have := depth_t3 ts
    show PyData.depthAll (ts.map dT3) + 1 ≤ 64
    omega
  rw [a, decide_eq_true b]
  rfl
end CB
/-! try with several clauses, each with a name or without -/
namespace CB
open PySem PySem.Spec PyProof.Rows L2
abbrev Cl := Value × Option Nat × (Addr → Value → Option Addr → TS)
def endA (i : Option Nat) (D : Ends) : Ends := match i with
  | none => D
  | some i => { nx := fun p q => D.nx (p.set i none) q, rt := D.rt, bk := fun p q => D.bk (p.set i none) q, ct := fun p q => D.ct (p.set i none) q }
def setA (i : Option Nat) (p : L2.St) (a : Addr) : L2.St := match i with
  | none => p
  | some i => p.set i (some (.ref a))
def wA (K : PySem.W.Frag) (Wo : WX) (D : Ends) : List Cl → WX
  | [] => Wo
  | (c, i, ts) :: r => fun cls d p H => ∃ b, PySem.W.exmOne K cls c = some b ∧ (b = true → ∀ a, H a = none → ts a cls d (endA i D) (setA i p a) H) ∧ (b = false → wA K Wo D r cls d p H)
/-- the clauses of the text -/
inductive HdA (X : Cx) : List ExceptHandler → List Cl → Prop
  | nil : HdA X [] []
  | bare {x : Str} {c : Value} {ts : Addr → Value → Option Addr → TS} {b1 : Stmt} {su : List Stmt} {np pp : Pos} {hs : List ExceptHandler} {l : List Cl} (hc : Names X x c)
      (hw : ∀ (a : Addr) (o : Obj) (cls : Value) (d : Option Addr) (pn : List (Addr × Obj)), Zc cls d o → (∃ vs, o.data = .fields vs) → PSs (X.suite a ((a, o) :: pn)) (b1 :: su) (ts a cls d)) (r : HdA X hs l) :
      HdA X (.ExceptHandler (some (.Name x np)) none (b1 :: su) pp :: hs) ((c, none, ts) :: l)
  | named {x n : Str} {c : Value} {i : Nat} {ts : Addr → Value → Option Addr → TS} {b1 : Stmt} {su : List Stmt} {np pp : Pos} {hs : List ExceptHandler} {l : List Cl} (hc : Names X x c) (hi : X.N[i]? = some n) (hn : X.env.kindOf n = some .local)
      (hw : ∀ (a : Addr) (o : Obj) (cls : Value) (d : Option Addr) (pn : List (Addr × Obj)), Zc cls d o → (∃ vs, o.data = .fields vs) → PSs (X.suite a ((a, o) :: pn)) (b1 :: su) (ts a cls d)) (r : HdA X hs l) :
      HdA X (.ExceptHandler (some (.Name x np)) (some n) (b1 :: su) pp :: hs) ((c, some i, ts) :: l)
section
variable {X : Cx} {body : List Stmt} {h1 : ExceptHandler} {hs : List ExceptHandler} {l : List Cl} {pos : Pos} {tb : WX → TS} {Wo : WX}
theorem ps_tryA (hst : X.stack = X.env :: X.outer) (hf : X.env.frame = some X.env.locals) (hN : X.N.Nodup) (tk : Takes X Wo)
    (hb : ∀ (W : WX) (pn : List (Addr × Obj)) (xe : Value → Shared → Prop), Takes (X.tr pn xe) W → PassesOwn (model X.prog X.w) X.A X.env xe → PSs (X.tr pn xe) body (tb W))
    (hh : HdA X (h1 :: hs) l) : PS X (.Try body (h1 :: hs) [] [] pos) (fun D p H => tb (wA X.K Wo D l) D p H) := by
  refine ⟨fun pins s p H D I hgo => ?_⟩
  have ok := I.ok
  have frm : X.A.frames = some (X.env :: X.outer) := by rw [ok.frames, hst]
  refine wpAny_Try_except (wpAny_mono ((hb (wA X.K Wo D l) (X.pn ++ pins) (fun e s₁ => wpAny (model X.prog X.w) X.A (noteFrame e X.env) (fun _ s₂ => wpAny (model X.prog X.w) X.A (setFlight e none) (fun _ s₃ => wpAny (model X.prog X.w) X.A (handleBy e X.env (h1 :: hs)) (SP X pins D) X.xe s₃) X.xe s₂) X.xe s₁)
    (fun u s' xx => ?_) PassesOwn.looking).run [] s p H D (I.toTry _) hgo) (fun f s1 hsp => ?_) (fun e s1 he => he))
  · obtain ⟨a, B, sI, pins', p', H', cls, d, rfl, Jt, nb, up, sky, na, os, ag, wish⟩ := xx
    have J : Inv X pins p' H' sI := Jt.ofTry ok
    have skyB : Sky B (X.env :: X.outer) a (Zc cls d) X.env.locals s'.heap := by rw [← hst]; exact sky
    show wpAny (model X.prog X.w) X.A (noteFrame (.ref a) X.env) _ _ _
    refine Sky.land Zc.steady frm hf skyB fun hp3 fl3 up3 => ?_
    have J3 : Inv X pins p' H' { s' with heap := hp3 } := J.landed nb fl3.1 (up.trans up3) os ag
    obtain ⟨o3, v3, g3, z3, d3⟩ := fl3.there
    have out : ∀ {hp : Heap} {o : Obj} {vs : Array Value}, hp.FunFrames B (X.env :: X.outer) → hp.get? a = some o → o.data = .fields vs → a ∉ frs (X.env :: X.outer) := fun {hp o vs} ff e dd hm => by
      obtain ⟨_, o', e', hnf⟩ := ff.mem hm; rw [e] at e'; cases e'; exact hnf _ dd
    have nfr := out fl3.2.2.1 g3 d3
    have nL : a ≠ X.env.locals := fun z => nfr (List.mem_filterMap.mpr ⟨X.env, List.mem_cons_self, by rw [hf, z]⟩)
    have nF : a ∉ X.fs := fun hm => by obtain ⟨e, he, q⟩ := List.mem_filterMap.mp hm; exact nfr (List.mem_filterMap.mpr ⟨e, List.mem_cons_of_mem _ he, q⟩)
    have S3 := J3.suite g3 d3 na nL nF
    have LT : PySem.W.Looks (model X.prog X.w) hp3 (typeOf (.ref a)) cls := fun A Q E s k q => wpAny_typeOf_ref (k _ _ g3) (by rw [z3.1]; exact q)
    have test : ∀ {x : Str} {np : Pos} {c : Value} (hc : Names X x c) {Q : Value → Shared → Prop} {E : Value → Shared → Prop}, Q c { s' with heap := hp3 } → wpAny (model X.prog X.w) (X.A.mark (some (.ref a))) (eval (.Name x np) X.env) Q E { s' with heap := hp3 } := fun {x np c} hc {Q E} q => by
      obtain ⟨hg, hdb, hm | ⟨hm, hv, hnn⟩⟩ := hc
      · exact ld_glob (X := X.suite a ((a, o3) :: (X.pn ++ pins))) S3 hg hm q hdb
      · exact ld_blt (X := X.suite a ((a, o3) :: (X.pn ++ pins))) S3 hg hm hv q hnn hdb
    have go : ∀ {hs' : List ExceptHandler} {l' : List Cl}, HdA X hs' l' → wA X.K Wo D l' cls d p' H' → wpAny (model X.prog X.w) X.A (handleBy (.ref a) X.env hs') (SP X pins D) X.xe { s' with heap := hp3 } := by
      intro hs' l' hk
      induction hk with
      | nil =>
        intro w
        refine wpAny_handleBy_nil ?_
        obtain ⟨k1, k2, k3, oe, vs, T, oT, ts', he, hz, hd, h1', hr⟩ := id fl3
        unfold PySem.passOn
        refine wpAny_bind (wpAny_field he hd h1' ?_)
        rw [if_neg (show ¬ ((Value.ref T == Value.none) = true) from by simp)]
        have fin : wpAny (model X.prog X.w) X.A (setFlight (.ref a) X.env.frame) (fun _ s4 => wpAny (model X.prog X.w) X.A (throw (.ref a) : Sem Flow) (SP X pins D) X.xe s4) X.xe { s' with heap := hp3 } := by
          rw [hf]
          refine HandSPX.setFlight_upZ fl3 fun h4 hh4 up4 => wpAny_throw (tk _ _ ?_)
          exact ⟨a, B, sI, pins, p', H', cls, d, rfl, J, nb, (up.trans up3).trans up4, .inr (.inr (by rw [hst]; exact hh4)), na, os, ag, w⟩
        first | exact wpAny_bind (wpAny_pure (wpAny_bind fin)) | exact wpAny_bind fin
      | @bare x c ts b1 su np pp hs2 l2 hc hw r ih =>
        intro w
        obtain ⟨b, hb1, hyes, hno⟩ := w
        refine wpAny_handleBy_cons (codeAny_handlers_test ?_) (by intro q; cases q)
        have LM := PySem.W.exm_one (M := model X.prog X.w) (J3.kIn) LT hb1
        refine test hc (LM.here ?_)
        cases b with
        | true =>
          refine codeAny_handlers_suite (HandSPX.lands_againZ fl3 fun h4 fl4 up4 => ?_)
          have J4 : Inv X pins p' H' { s' with heap := h4 } := J.landed nb fl4.1 ((up.trans up3).trans up4) os ag
          obtain ⟨o4, v4, g4, z4, d4⟩ := fl4.there
          have S4 := J4.suite g4 d4 na nL nF
          refine wpAny_mono ((hw a o4 cls d (X.pn ++ pins) z4 ⟨_, d4⟩).run [] _ _ H' _ S4 (hyes rfl a na)) (fun f s6 hsp => ?_) (fun _ _ z => False.elim z)
          cases f with
          | ret u => obtain ⟨v6, p6, H6, S6, r6, q6⟩ := hsp; exact ⟨_, _, _, S6.unsuite ok, r6, q6⟩
          | _ => obtain ⟨p6, H6, S6, q6⟩ := hsp; exact ⟨_, _, S6.unsuite ok, q6⟩
        | false => exact ih (hno rfl)
      | @named x n c i ts b1 su np pp hs2 l2 hc hi hn hw r ih =>
        intro w
        obtain ⟨b, hb1, hyes, hno⟩ := w
        refine wpAny_handleBy_cons (codeAny_handlers_test ?_) (by intro q; cases q)
        have LM := PySem.W.exm_one (M := model X.prog X.w) (J3.kIn) LT hb1
        refine test hc (LM.here ?_)
        cases b with
        | true =>
          refine codeAny_handlers_suite_as (HandSPX.lands_againZ fl3 fun h4 fl4 up4 => ?_)
          have J4 : Inv X pins p' H' { s' with heap := h4 } := J.landed nb fl4.1 ((up.trans up3).trans up4) os ag
          obtain ⟨o4, v4, g4, z4, d4⟩ := fl4.there
          have S4 := J4.suite g4 d4 na nL nF
          refine store_ok (X := X.suite a ((a, o4) :: (X.pn ++ pins))) (v := .ref a) S4 hN hi (.inl hn) rfl (fun s5 S5 => ?_) (.inr hn)
          refine wpAny_mono ((hw a o4 cls d (X.pn ++ pins) z4 ⟨_, d4⟩).run [] s5 _ H' _ S5 (hyes rfl a na)) (fun f s6 hsp => ?_) (fun _ _ z => False.elim z)
          have gone : ∀ {p6 : L2.St} {H6 : Hp} {Q : Shared → Prop}, Inv (X.suite a ((a, o4) :: (X.pn ++ pins))) [] p6 H6 s6 → (∀ s7, Inv X pins (p6.set i none) H6 s7 → Q s7) →
              wpAny (model X.prog X.w) X.A (do bindName X.env n .none; unbindBehindTheSuite X.env n pp) (fun _ s7 => Q s7) X.xe s6 := fun {p6 H6 Q} S6 hq => gone_ok (S6.unsuite ok) hN hi hn hq
          cases f with
          | ret u => obtain ⟨v6, p6, H6, S6, r6, q6⟩ := hsp; exact gone S6 fun s7 J7 => ⟨_, _, _, J7, r6, q6⟩
          | next => obtain ⟨p6, H6, S6, q6⟩ := hsp; exact gone S6 fun s7 J7 => ⟨_, _, J7, q6⟩
          | brk => obtain ⟨p6, H6, S6, q6⟩ := hsp; exact gone S6 fun s7 J7 => ⟨_, _, J7, q6⟩
          | cont => obtain ⟨p6, H6, S6, q6⟩ := hsp; exact gone S6 fun s7 J7 => ⟨_, _, J7, q6⟩
        | false => exact ih (hno rfl)
    exact go hh wish
  · cases f with
    | ret u => obtain ⟨v, p', H', J', r, q⟩ := hsp; exact ⟨v, p', H', J'.ofTry ok, r, q⟩
    | next => obtain ⟨p', H', J', q⟩ := hsp; exact wpAny_execs_nil ⟨p', H', J'.ofTry ok, q⟩
    | brk => obtain ⟨p', H', J', q⟩ := hsp; exact ⟨p', H', J'.ofTry ok, q⟩
    | cont => obtain ⟨p', H', J', q⟩ := hsp; exact ⟨p', H', J'.ofTry ok, q⟩
end
end CB
/-! the program's errors: Malformed (no own __init__), Refused (with its reason) -/
namespace CB
open PySem PySem.Spec PyProof.Rows L2
structure CalX (P : Program) (w : World) (K : PySem.W.Frag) (mg : Str → Option Value) (base : Heap) (x : Str) (k : Nat) (ps : List Str) (sp : Sp) : Prop where
  ok : ∃ f fd, FnOk P w K mg base (L2.CX P w) k f fd ps sp ∧ mg x = some (.ref f) ∧ PySem.W.keepIn K (.ref f) = true ∧ Binds K fd ps []
section
variable {P : Program} {w : World} {K : PySem.W.Frag} {mg : Str → Option Value} {base : Heap}
theorem Dn.calX {x : Str} {st : Stmt} {N ps : List Str} {k : Nat} {sp : Sp} (D : Dn K mg x st ps) (S : FnScope N ps (defScope st)) (len : ∀ vs H Q E, sp vs H Q E → vs.length = ps.length)
    (hbody : ∀ (f : Addr) (cdv : Value) (A : Around) (outer : List Env) (s : Shared) (H : Hp) (vs : List V) (Q : VK) (E : XK), Room k (A.deeper (envOfC x (defScope st) s.heap.objs.size f cdv)) → sp vs H Q E →
      ∃ t, PSs (cxOf (L2.CX P w) P w K mg base N x (defScope st) f cdv A outer s H E) (defBody st) t ∧ t { nx := fun _ H' => Q .non H', rt := Q } (start N vs) H) : CalX P w K mg base x (k + 1) ps sp := by
  obtain ⟨f, fd, F, hm, hb⟩ := D.ok
  exact ⟨f, fd, F.okX S len fun cdv A outer s H vs Q E hr h => hbody f cdv A outer s H vs Q E hr h, hm, F.kp, hb⟩
end
section
variable {X : Cx} {k : Nat} {ps : List Str} {sp : Sp} {x : Str} {p pos : Pos} {e : Expr} {es : List Expr} {t : TA} {W : WX}
/-- a call that may raise, W what is wished of what it raises -/
theorem pe_calS (C : CalX X.prog X.w X.K X.mg X.base x k ps sp) (tk : Takes X W) (hr : Room k X.A) (hg : Gl X x) (ha : PA X (e :: es) t) (hdb : (x == ("__debug__" : Str)) = false := by decide)
    (he : starEach (e :: es) X.env = (false, eval e X.env) :: starEach es X.env := by rfl) (hpl : (backTo pos (starEach es X.env)).any (·.1) = false := by rfl) : PE X (.Call (.Name x p) (e :: es) [] pos) (tCallS sp (WE W) t) := by
  obtain ⟨f, fd, F, hm, hk, hb⟩ := C.ok
  exact pe_callS F hr hg hm hk hb (fun σ => passAt tk σ) ha hdb he hpl
end
abbrev veB : List Value := [.type "ValueError", .type "Exception", .type "BaseException", .type "object"]
structure ErrM (K : PySem.W.Frag) (mg : Str → Option Value) (C : Addr) : Prop where
  g : mg "Malformed" = some (.ref C)
  x : PySem.W.excIn K C veB "ValueError.__new__" = true
  k : PySem.W.keepIn K (.ref C) = true
  b : PySem.W.subIn K (.ref C) (.type "BaseException") = some true
  t : PySem.W.typeIn K (.ref C) = some (.type "type")
  mm : PySem.W.exmOne K (.ref C) (.ref C) = some true
structure ErrO (K : PySem.W.Frag) (mg : Str → Option Value) (C : Addr) : Prop where
  m : ErrM K mg C
structure ErrR (K : PySem.W.Frag) (mg : Str → Option Value) (M C f : Addr) : Prop where
  g : mg "Refused" = some (.ref C)
  ox : OexC K C
  i : PySem.W.findIn K (.ref C) "__init__" = some (some (.ref f))
  t : PySem.W.typeIn K (.ref f) = some (.type "function")
  n : PySem.W.findIn K (.ref C) "reason" = some none
  xf : XfC K C
  rm : PySem.W.exmOne K (.ref C) (.ref M) = some false
  rr : PySem.W.exmOne K (.ref C) (.ref C) = some true
/-- Refused.__init__(self, reason) -/
def spRI (K : PySem.W.Frag) : Sp := fun vs H Q _ => ∃ (a C : Addr) (v : V), vs = [.ref a, v] ∧ OexC K C ∧ PySem.W.findIn K (.ref C) "reason" = some none ∧ H a = some (exo a C none) ∧
  ∀ dx, H dx = none → dx ≠ a → Q .non (upd (upd H dx (exd dx [("reason", v)])) a (exo a C (some dx)))
structure ErrI (P : Program) (w : World) (K : PySem.W.Frag) (mg : Str → Option Value) (base : Heap) (M C : Addr) : Prop where
  m : ErrM K mg M
  r : ∃ f fd, ErrR K mg M C f ∧ FnOk P w K mg base CX0 1 f fd ["self", "reason"] (spRI K) ∧ Binds K fd ["self", "reason"] []
section
variable {P : Program} {w : World} {K : PySem.W.Frag} {mg : Str → Option Value} {base : Heap} {M C : Addr}
end
/-- raise Malformed('..') -/
theorem ps_mal {X : Cx} {W : WX} {M : Addr} {m : Str} {j : Nat} {p p2 pos pp : Pos} (E : ErrM X.K X.mg M) (hc : X.calm = true) (tk : Takes X W) (hg : Gl X "Malformed") : PS X (.Raise (some (.Call (.Name "Malformed" p) [.Constant (.str m) j p2] [] pos)) none pp) (fun _ σ H => W (.ref M) none σ H) :=
  ps_raise hc tk (pmk_own PySem.F.excBase_ValueError E.x E.g E.k (raises_own E.b E.t) hg)
/-- raise Refused('..') -/
theorem ps_ref {X : Cx} {W : WX} {M C : Addr} {m : Str} {j : Nat} {p p2 pos pp : Pos} (E : ErrI X.prog X.w X.K X.mg X.base M C) (hc : X.calm = true) (tk : Takes X W) (hr : Room 2 X.A) (hg : Gl X "Refused") (hs : starEach [Expr.Constant (.str m) j p2] X.env = (false, eval (Expr.Constant (.str m) j p2) X.env) :: starEach [] X.env := by rfl)
    (hpl : (backTo pos (starEach [] X.env)).any (·.1) = false := by rfl) :
    PS X (.Raise (some (.Call (.Name "Refused" p) [.Constant (.str m) j p2] [] pos)) none pp) (fun _ σ H => ∀ d H', Same H H' → H d = none → H' d = some (.xd [("reason", .str m)]) → W (.ref C) (some d) σ H') := by
  obtain ⟨f, fd, R, F, b⟩ := E.r
  refine ⟨fun pins s σ H D I h => ?_⟩
  refine (ps_raise hc tk (pmk_oex R.ox R.i R.t F hr b .nil pass0 hg R.g (pa_cons pe_str pa_nil hs) rfl hs hpl)).run pins s σ H D I ?_
  show ([V.str m].length ≤ 1000 ∧ _)
  refine ⟨by show 1 ≤ 1000; decide, fun a na => ⟨a, C, .str m, rfl, R.ox, R.n, upd_same, fun dx ndx ne => ⟨rfl, dx, [("reason", .str m)], upd_same, ?_, ?_, ?_⟩⟩⟩
  · rw [upd_ne ne, upd_same]
  · rw [upd_ne ne] at ndx
    exact ndx
  · rw [upd_ne ne] at ndx
    refine h dx _ (fun b o e => ?_) ndx upd_same
    have hbd : b ≠ dx := ne_of_none e ndx
    have hba : b ≠ a := ne_of_none e na
    rw [upd_ne hbd, del_ne hba, upd_ne hba, upd_ne hbd, upd_ne hba]
    exact e
end CB
namespace CB
open PySem PySem.Spec PyProof.Rows L2
theorem exm_b {K : PySem.W.Frag} {S C : Addr} {b : Bool} (h1 : PySem.W.subIn K (.ref C) (.type "BaseException") = some true) (h2 : PySem.W.isClsIn K C = true) (h3 : PySem.W.typeIn K (.ref C) = some (.type "type")) (h4 : PySem.W.subIn K (.ref S) (.ref C) = some b) :
    PySem.W.exmOne K (.ref S) (.ref C) = some b := by
  unfold PySem.W.exmOne
  rw [if_pos (by rw [h1] <;> rfl)]
  show (if ((PySem.W.clsIn K C).isSome && PySem.W.typeIn K (.ref C) == some (.type "type")) = true then PySem.W.subIn K (.ref S) (.ref C) else none) = some b
  have h5 : (PySem.W.clsIn K C).isSome = true := h2
  rw [h5, h3, if_pos (by rfl)]
  exact h4
theorem dn_mk {K : PySem.W.Frag} {h : Heap} {mg : Str → Option Value} {x : Str} {st : Stmt} {ps : List Str} {f : Addr} {oc : Value} {od an : Option Addr} {osl : Array (Option Value)} {kV doc pm cdv ct : Value} (X : K.In h) (G : h.Ns mainGlobals mg)
    (a : PySem.W.nsIn K mainGlobals x = some (some (.ref f))) (l : K.lookup f = some ⟨oc, od, .func (PySem.W.fnOf x x (defArgs st) (defBody st) (defScope st) .none kV doc pm an cdv ct), osl⟩) (c : PySem.W.codeIn K cdv x = true) (k : PySem.W.keepIn K (.ref f) = true)
    (hb : ∀ (kV doc pm : Value) (an : Option Addr) (cdv ct : Value) (us : List Value), us.length = ps.length → bindArgs (PySem.W.fnOf x x (defArgs st) (defBody st) (defScope st) .none kV doc pm an cdv ct) ⟨us, []⟩ = pure (ps.zip us)) : Dn K mg x st ps :=
  ⟨f, _, fun_mk l c k, PySem.W.mg_of X G a, (fun_mk l c k).binds hb⟩
end CB
/-! sorted of a list of pairs of pairs of ints -/
namespace CB
open PySem PySem.Spec PyProof.Rows Srt SrtO L2
abbrev M4 := (Int × Int) × (Int × Int)
def dM (m : M4) : PyData := .tuple [.tuple [.int m.1.1, .int m.1.2], .tuple [.int m.2.1, .int m.2.2]]
def lexM (p q : M4) : Bool := if p.1 = q.1 then lexB p.2 q.2 else lexB p.1 q.1
theorem alike_M (p q : M4) : PySem.W.alike (dM p) (dM q) = true := by
  simp [dM, PySem.W.alike, PySem.W.alikeAll]
theorem eqv_pp (a b c d : Int) : PyData.eqv (.tuple [.int a, .int b]) (.tuple [.int c, .int d]) = decide ((a, b) = (c, d)) := by
  have e : PyData.eqv (.tuple [.int a, .int b]) (.tuple [.int c, .int d]) = ((a == c) && ((b == d) && true)) := rfl
  rw [e]
  by_cases h1 : a = c
  · by_cases h2 : b = d
    · simp [h1, h2]
    · simp [h2]
  · simp [h1]
theorem lt_pp (p q : Int × Int) : PySem.W.dataLt (.tuple [.int p.1, .int p.2]) (.tuple [.int q.1, .int q.2]) = lexB p q := by
  rw [PySem.W.dataLt_ii]
  have h := @lexB_iff p q
  cases hb : lexB p q with
  | true => exact decide_eq_true (h.mp hb)
  | false => exact decide_eq_false fun z => by rw [h.mpr z] at hb; cases hb
theorem lt_M (p q : M4) : PySem.W.dataLt (dM p) (dM q) = lexM p q := by
  unfold dM lexM
  rw [PySem.W.dataLt_pair (by simp [PySem.W.alike, PySem.W.alikeAll]) (by simp [PySem.W.alike, PySem.W.alikeAll]), eqv_pp, eqv_pp, lt_pp, lt_pp]
  by_cases h1 : p.1 = q.1
  · rw [if_pos (decide_eq_true h1), if_pos h1]
    by_cases h2 : p.2 = q.2
    · rw [if_pos (decide_eq_true h2), h2]
      symm
      cases hb : lexB q.2 q.2 with
      | false => rfl
      | true =>
        have := lexB_iff.mp hb
        omega
    · rw [if_neg (fun z => h2 (of_decide_eq_true z))]
  · rw [if_neg (fun z => h1 (of_decide_eq_true z)), if_neg h1]
theorem lexM_iff {p q : M4} : lexM p q = true ↔ (p.1.1 < q.1.1 ∨ (p.1.1 = q.1.1 ∧ (p.1.2 < q.1.2 ∨ (p.1.2 = q.1.2 ∧ (p.2.1 < q.2.1 ∨ (p.2.1 = q.2.1 ∧ p.2.2 < q.2.2)))))) := by
  obtain ⟨⟨a, b⟩, ⟨c, d⟩⟩ := p
  obtain ⟨⟨a', b'⟩, ⟨c', d'⟩⟩ := q
  unfold lexM
  by_cases e : (a, b) = (a', b')
  · rw [if_pos e, lexB_iff]
    have e1 : a = a' := congrArg Prod.fst e
    have e2 : b = b' := congrArg Prod.snd e
    simp only
    omega
  · rw [if_neg e, lexB_iff]
    have : ¬ (a = a' ∧ b = b') := fun z => e (by rw [z.1, z.2])
    simp only
    omega
theorem lexM_no {p q : M4} : lexM p q = false ↔ ¬ (p.1.1 < q.1.1 ∨ (p.1.1 = q.1.1 ∧ (p.1.2 < q.1.2 ∨ (p.1.2 = q.1.2 ∧ (p.2.1 < q.2.1 ∨ (p.2.1 = q.2.1 ∧ p.2.2 < q.2.2)))))) := by
  rw [← lexM_iff]
  cases lexM p q <;> simp
theorem lexM_eq {p q : M4} (h1 : lexM p q = false) (h2 : lexM q p = false) : p = q := by
  have a := lexM_no.mp h1
  have b := lexM_no.mp h2
  obtain ⟨⟨p1, p2⟩, ⟨p3, p4⟩⟩ := p
  obtain ⟨⟨q1, q2⟩, ⟨q3, q4⟩⟩ := q
  simp only at a b
  have e1 : p1 = q1 := by omega
  have e2 : p2 = q2 := by omega
  have e3 : p3 = q3 := by omega
  have e4 : p4 = q4 := by omega
  rw [e1, e2, e3, e4]
theorem srtM_uniq {l m : List M4} (h1 : l.Pairwise (fun p q => lexM q p = false)) (h2 : m.Pairwise (fun p q => lexM q p = false)) (h : l.Perm m) : l = m :=
  List.Perm.eq_of_pairwise (le := fun p q => lexM q p = false) (fun a b _ _ x y => lexM_eq y x) h1 h2 h
/-- x is, in H, the tuple m of tuples -/
def IsM (H : Hp) (x : V) (m : M4) : Prop := ∃ r r1 r2, x = V.ref r ∧ H r = some (.tup [.ref r1, .ref r2]) ∧ H r1 = some (.tup [.int m.1.1, .int m.1.2]) ∧ H r2 = some (.tup [.int m.2.1, .int m.2.2])
theorem IsM.fn {H : Hp} {x : V} {m m' : M4} (h : IsM H x m) (h' : IsM H x m') : m = m' := by
  obtain ⟨r, r1, r2, rfl, e, e1, e2⟩ := h
  obtain ⟨_, _, _, q, f, f1, f2⟩ := h'
  cases q
  rw [e] at f
  cases f
  rw [e1] at f1
  rw [e2] at f2
  obtain ⟨⟨a, b⟩, ⟨c, d⟩⟩ := m
  obtain ⟨⟨a', b'⟩, ⟨c', d'⟩⟩ := m'
  simp only [Option.some.injEq, HO.tup.injEq, List.cons.injEq, V.int.injEq, and_true] at f1 f2
  rw [f1.1, f1.2, f2.1, f2.2]
theorem IsM.same {H H' : Hp} {x : V} {m : M4} (s : Same H H') (h : IsM H x m) : IsM H' x m := by
  obtain ⟨r, r1, r2, q, e, e1, e2⟩ := h
  exact ⟨r, r1, r2, q, s _ _ e, s _ _ e1, s _ _ e2⟩
open Classical in
noncomputable def kM (H : Hp) (x : V) : M4 := if h : ∃ m, IsM H x m then h.choose else ((0, 0), (0, 0))
theorem IsM.k {H : Hp} {x : V} {m : M4} (h : IsM H x m) : kM H x = m := by
  unfold kM
  rw [dif_pos ⟨m, h⟩]
  exact (Exists.choose_spec (⟨m, h⟩ : ∃ m, IsM H x m)).fn h
/-- the list of such tuples at the xs -/
def Mats (H : Hp) (xs : List V) (ms : List M4) : Prop := (∀ x ∈ xs, IsM H x (kM H x)) ∧ ms = xs.map (kM H)
theorem Mats.same {H H' : Hp} {xs : List V} {ms : List M4} (s : Same H H') (h : Mats H xs ms) : Mats H' xs ms := by
  obtain ⟨h1, rfl⟩ := h
  have e : ∀ x ∈ xs, kM H' x = kM H x := fun x m => ((h1 x m).same s).k
  exact ⟨fun x m => by rw [e x m]; exact (h1 x m).same s, List.map_congr_left fun x m => (e x m).symm⟩
theorem Mats.keep {H H' : Hp} {xs : List V} {ms : List M4} (s : ∀ r us, H r = some (.tup us) → H' r = some (.tup us)) (h : Mats H xs ms) : Mats H' xs ms := by
  obtain ⟨h1, rfl⟩ := h
  have g : ∀ x ∈ xs, IsM H' x (kM H x) := fun x m => by
    obtain ⟨r, r1, r2, q, e, e1, e2⟩ := h1 x m
    exact ⟨r, r1, r2, q, s _ _ e, s _ _ e1, s _ _ e2⟩
  exact ⟨fun x m => by rw [(g x m).k]; exact g x m, List.map_congr_left fun x m => ((g x m).k).symm⟩
theorem Mats.updL {H : Hp} {f : Addr} {l : List V} {o : HO} {xs : List V} {ms : List M4} (h : Mats H xs ms) (e : H f = some (.lst l)) : Mats (upd H f o) xs ms :=
  h.keep fun r us q => by rw [upd_ne (ne_of q e (by intro z; cases z))]; exact q
theorem Mats.updN {H : Hp} {f : Addr} {o : HO} {xs : List V} {ms : List M4} (h : Mats H xs ms) (e : H f = none) : Mats (upd H f o) xs ms := h.same (same_upd e)
theorem Mats.nil {H : Hp} : Mats H [] [] := ⟨fun x m => by simp at m, rfl⟩
theorem Mats.snoc {H : Hp} {xs : List V} {ms : List M4} {x : V} {m : M4} (h : Mats H xs ms) (e : IsM H x m) : Mats H (xs ++ [x]) (ms ++ [m]) := by
  obtain ⟨h1, rfl⟩ := h
  refine ⟨fun y hy => ?_, ?_⟩
  · rcases List.mem_append.mp hy with hy | hy
    · exact h1 y hy
    · rw [List.mem_singleton.mp hy, e.k]
      exact e
  · rw [List.map_append, List.map_singleton, e.k]
theorem Mats.get {H : Hp} {xs : List V} {ms : List M4} {i : Nat} {x : V} (h : Mats H xs ms) (e : xs[i]? = some x) : ∃ m, IsM H x m ∧ ms[i]? = some m := by
  obtain ⟨h1, rfl⟩ := h
  exact ⟨_, h1 x (List.mem_of_getElem? e), by rw [List.getElem?_map, e]; rfl⟩
theorem Mats.len {H : Hp} {xs : List V} {ms : List M4} (h : Mats H xs ms) : ms.length = xs.length := by
  rw [h.2, List.length_map]
theorem dp_M {K : PySem.W.Frag} {H : Hp} {x : V} {m : M4} (h : IsM H x m) : Dp K H x (dM m) := by
  obtain ⟨r, r1, r2, rfl, e, e1, e2⟩ := h
  exact .tup (SqT.of e) (.cons (.tup (SqT.of e1) (.cons (.int _) (.cons (.int _) .nil))) (.cons (.tup (SqT.of e2) (.cons (.int _) (.cons (.int _) .nil))) .nil))
theorem dp_Ms {K : PySem.W.Frag} {H : Hp} : ∀ {xs : List V} {ms : List M4}, Mats H xs ms → DpAll K H xs (ms.map dM) := fun {xs ms} h => by
  obtain ⟨h1, rfl⟩ := h
  induction xs with
  | nil => exact .nil
  | cons x xs ih => exact .cons (dp_M (h1 x List.mem_cons_self)) (ih fun y m => h1 y (List.mem_cons_of_mem _ m))
theorem lay_M : ∀ ms : List M4, PyData.canLayAll0 (ms.map dM) = true
  | [] => rfl
  | m :: ms => by
    show (PyData.canLay0 (dM m) && PyData.canLayAll0 (ms.map dM)) = true
    rw [lay_M ms]
    rfl
theorem depth_M : ∀ ms : List M4, PyData.depthAll (ms.map dM) ≤ 3
  | [] => by decide
  | m :: ms => by
    have := depth_M ms
    show max (PyData.depth (dM m)) (PyData.depthAll (ms.map dM)) ≤ 3
    have e : PyData.depth (dM m) = 2 := rfl
    omega
theorem shaped_M (ms : List M4) : SeqAt.shaped (.tuple (ms.map dM)) = true := by
  unfold SeqAt.shaped
  have a : PyData.canLay0 (.tuple (ms.map dM)) = true := lay_M ms
  have b : PyData.depth (.tuple (ms.map dM)) ≤ 64 := by
    have := depth_M ms
    show PyData.depthAll (ms.map dM) + 1 ≤ 64
    omega
  rw [a, decide_eq_true b]
  rfl
/-- sorted(xs), xs a list of pairs of pairs -/
def rSortedM (K : PySem.W.Frag) : List V → Hp → VK → Prop := fun vs H Q => ∃ (a : Addr) (xs : List V) (ms : List M4), vs = [V.ref a] ∧ SqL K H a xs ∧ Mats H xs ms ∧
  ∀ ys us p, Mats H ys us → us.Pairwise (fun p q => lexM q p = false) → us.Perm ms → H p = none → Q (.ref p) (upd H p (.lst ys))
theorem rd_sortedM {K : PySem.W.Frag} {vs : List V} {H : Hp} {Q : VK} : rSortedM K vs H Q = ∃ (a : Addr) (xs : List V) (ms : List M4), vs = [V.ref a] ∧ SqL K H a xs ∧ Mats H xs ms ∧
  ∀ ys us p, Mats H ys us → us.Pairwise (fun p q => lexM q p = false) → us.Perm ms → H p = none → Q (.ref p) (upd H p (.lst ys)) := rfl
section
variable {X : Cx}
theorem each_vals : ∀ {vs : List Value} {xs : List V}, Vals xs vs → PySem.W.EachIs (fun v x => RelV x v) vs xs
  | _, _, .nil => .nil
  | _, _, .cons r h => .cons r (each_vals h)
theorem vals_each : ∀ {vs : List Value} {xs : List V}, PySem.W.EachIs (fun v x => RelV x v) vs xs → Vals xs vs
  | _, _, .nil => .nil
  | _, _, .cons r h => .cons r (vals_each h)
theorem cr_sortedM (hu : X.A.units + 64 < cLine) : CallR X (.builtin "sorted") (rSortedM X.K) := by
  intro pins s σ H vs us Q I r h
  obtain ⟨a, xs, ms, rfl, hs, ⟨hx, rfl⟩, q⟩ := h
  obtain ⟨its, rv, hl, hz⟩ := I.list hs
  obtain ⟨u, rfl, ru⟩ := vals1 r
  obtain rfl : u = Value.ref a := ru
  have hlen := rv.length
  have e0 : PySem.W.EachIs (fun v x => RelV x v) its xs := each_vals rv
  have mem : PySem.W.EachIs (fun v (x : V) => ∃ as, Reads s.heap v (dM (kM H x)) as) its xs := by
    refine PySem.W.EachIs.of_zip (by omega) fun p hp => ?_
    exact Dp.reads I _ _ _ (dp_M (hx p.2 (List.of_mem_zip hp).2)) (e0.zip p hp)
  refine PySem.W.sorted_data (s := s) (β := V) (R := fun v x => RelV x v) (enc := fun x => dM (kM H x)) hl.isList e0 mem (PySem.W.AllAlike.of fun b b' => alike_M _ _) (PySem.W.Sortable.tuples fun b => ⟨_, _, rfl⟩) (by omega) (fun b _ => ?_) fun out ho eo => ?_
  · have : PyData.depth (dM (kM H b)) = 2 := rfl
    omega
  · have ep : (fun b b' : V => PySem.W.dataLe false (fun x => dM (kM H x)) b b') = fun b b' => !lexM (kM H b') (kM H b) := by
      rw [PySem.W.dataLe_eq]
      funext b b'
      show (!PySem.W.dataLt (dM (kM H b')) (dM (kM H b))) = _
      rw [lt_M]
    have hp : (xs.mergeSort (PySem.W.dataLe false (fun x => dM (kM H x)))).Perm xs := List.mergeSort_perm xs _
    have hT : ∀ x ∈ xs.mergeSort (PySem.W.dataLe false (fun x => dM (kM H x))), IsM H x (kM H x) := fun x m => hx x (hp.mem_iff.mp m)
    have hS : ((xs.mergeSort (PySem.W.dataLe false (fun x => dM (kM H x)))).map (kM H)).Pairwise (fun p q => lexM q p = false) := by
      rw [List.pairwise_map]
      have := List.pairwise_mergeSort (le := fun b b' : V => !lexM (kM H b') (kM H b)) (fun x y z h1 h2 => ?_) (fun x y => ?_) xs
      · rw [show PySem.W.dataLe false (fun x => dM (kM H x)) = fun b b' => !lexM (kM H b') (kM H b) from ep]
        exact this.imp fun h => by simpa using h
      · have a1 := lexM_no.mp (by simpa using h1 : lexM (kM H y) (kM H x) = false)
        have a2 := lexM_no.mp (by simpa using h2 : lexM (kM H z) (kM H y) = false)
        have : lexM (kM H z) (kM H x) = false := lexM_no.mpr (by omega)
        simp [this]
      · by_cases c : lexM (kM H y) (kM H x) = true
        · have a1 := lexM_iff.mp c
          have : lexM (kM H x) (kM H y) = false := lexM_no.mpr (by omega)
          simp [this]
        · simp [Bool.not_eq_true _ |>.mp c]
    obtain ⟨n, hn⟩ := sortedAll_at s.heap its (List.toArray out)
    refine ⟨.ref (s.heap.objs.size + 1), upd H (s.heap.objs.size + 1) (.lst (xs.mergeSort (PySem.W.dataLe false (fun x => dM (kM H x))))), I.laid (t' := s.toks) (fun b o e => sortedAll_old e) (Nat.le_succ _) ⟨?_, out, n, vals_each eo, hn⟩, rfl, q _ _ _ ⟨hT, rfl⟩ hS (hp.map (kM H)) (I.hok.fresh (Nat.le_succ _))⟩
    rw [hp.length_eq]
    omega
end
end CB
/-! a call of what an expression tells, one of several defs -/
namespace CB
open PySem PySem.Spec PyProof.Rows L2
structure HeldE (P : Program) (w : World) (K : PySem.W.Frag) (mg : Str → Option Value) (base : Heap) (kk : Nat) (f : Addr) (sp : Sp) : Prop where
  ex : ∃ (k : Nat) (fd : FuncData) (ps : List Str), k ≤ kk ∧ FnOk P w K mg base (L2.CX P w) k f fd ps sp ∧ PySem.W.keepIn K (.ref f) = true ∧ Binds K fd ps []
def tCallE (S : Addr → Sp → Prop) (E : L2.St → XK) (tf : TE) (t : TA) : TE := fun σ H Q => tf σ H fun y H1 => ∃ f sp, y = V.ref f ∧ S f sp ∧ t σ H1 fun vs H2 => sp vs H2 Q (E σ)
section
variable {X : Cx} {S : Addr → Sp → Prop} {kk : Nat} {p pos : Pos} {fe e : Expr} {es : List Expr} {tf : TE} {t : TA} {W : WX}
theorem pe_callE (A : ∀ f sp, S f sp → HeldE X.prog X.w X.K X.mg X.base kk f sp) (tk : Takes X W) (hr : Room kk X.A) (hf : PE X fe tf) (ha : PA X (e :: es) t)
    (ht : eval (.Call fe (e :: es) [] pos) X.env = (do callWith pos (← eval fe X.env) [] (backTo pos (starEach (e :: es) X.env)) (backToKw pos (keywordEach [] X.env))) := by rfl)
    (he : starEach (e :: es) X.env = (false, eval e X.env) :: starEach es X.env := by rfl) (hpl : (backTo pos (starEach es X.env)).any (·.1) = false := by rfl) : PE X (.Call fe (e :: es) [] pos) (tCallE S (WE W) tf t) := by
  refine ⟨fun pins s σ H Q I h => ?_⟩
  refine Call_ (thn (hf.run pins s σ H _ I h) fun u s1 ⟨y, H1, I1, ry, f, sp, ey, hS, q⟩ => ?_) ht
  subst ey
  obtain rfl : u = Value.ref f := ry
  obtain ⟨k, fd, ps, hk, F, hkeep, hb⟩ := (A f sp hS).ex
  refine PySem.W.callWith_K (h₀ := X.base) I1.ok.mod.kin hkeep (thn (ha.run pos pins s1 σ H1 _ I1 q) fun us s2 ⟨vs, H2, I2, r, q2⟩ => ⟨I2.kIn, ?_⟩) he hpl
  exact run_fnS F (hr.mono hk) hb (passAt tk σ) I2 r q2
end
theorem rd_callE {S : Addr → Sp → Prop} {E : L2.St → XK} {tf : TE} {t : TA} {σ : L2.St} {H : Hp} {Q : VK} : tCallE S E tf t σ H Q = tf σ H fun y H1 => ∃ f sp, y = V.ref f ∧ S f sp ∧ t σ H1 fun vs H2 => sp vs H2 Q (E σ) := rfl
theorem CalX.held {P : Program} {w : World} {K : PySem.W.Frag} {mg : Str → Option Value} {base : Heap} {x : Str} {k kk : Nat} {ps : List Str} {sp : Sp} (C : CalX P w K mg base x k ps sp) (h : k ≤ kk) : ∃ f, mg x = some (.ref f) ∧ HeldE P w K mg base kk f sp := by
  obtain ⟨f, fd, F, hm, hk, hb⟩ := C.ok
  exact ⟨f, hm, ⟨k, fd, ps, h, F, hk, hb⟩⟩
end CB
/-! dicts with int keys, list.pop: readings unfolded -/
namespace CB
open PySem PySem.Spec PyProof.Rows L2
section
variable {K : PySem.W.Frag} {σ : L2.St} {H : Hp} {Q : VK} {td ty tx tv to : TE} {D : Ends}
theorem rd_pop : tBM0 K "list" rPop to σ H Q = to σ H fun x H1 => tyV K "list" x H1 ∧ ∃ l xs y, x = .ref l ∧ H1 l = some (.lst xs) ∧ xs[xs.length - 1]? = some y ∧ Q y (upd H1 l (.lst xs.dropLast)) := by
  show (to σ H fun x H1 => tyV K "list" x H1 ∧ ∃ l xs y, x = V.ref l ∧ ([] : List V) = [] ∧ _) = _
  congr 1
  funext x H1
  simp
theorem rd_dnew : tDNewK σ H Q = ∀ p, H p = none → Q (.ref p) (upd H p (.dK [])) := rfl
theorem rd_dget : tDGet td ty σ H Q = td σ H fun x H1 => ty σ H1 fun y H2 => ∃ a v, x = .ref a ∧ DGet H2 a y (some v) ∧ Q v H2 := rfl
theorem rd_dget2 : tDGet2 td ty tx σ H Q = td σ H fun x H1 => ∃ a, x = .ref a ∧ IsD H1 a ∧ ty σ H1 fun y H2 => tx σ H2 fun z H3 => ∃ o, DGet H3 a y o ∧ Q (o.getD z) H3 := rfl
theorem rd_dput : sDPut td ty tv D σ H = tv σ H fun v H1 => td σ H1 fun x H2 => ty σ H2 fun y H3 => ∃ a H4, x = .ref a ∧ DPut H3 a y v H4 ∧ D.nx σ H4 := rfl
end
/-- a dict of ints by a list of pairs -/
def dI (l : List (Nat × Nat)) : List (Key × V) := l.map fun q => (Sum.inl (q.1 : Int), V.int (q.2 : Int))
def getC (l : List (Nat × Nat)) (p : Nat) : Option Nat := (l.find? fun q => decide (q.1 = p)).map (·.2)
theorem val_dI (l : List (Nat × Nat)) (p : Nat) : valV (dI l) (Sum.inl (p : Int)) = (getC l p).map fun c : Nat => V.int (c : Int) := by
  unfold valV dI getC
  induction l with
  | nil => rfl
  | cons q l ih =>
    rw [List.map_cons, List.find?_cons, List.find?_cons]
    have e : decide ((Sum.inl (q.1 : Int) : Key) = Sum.inl (p : Int)) = decide (q.1 = p) := by
      by_cases c : q.1 = p
      · rw [decide_eq_true c, decide_eq_true (by rw [c])]
      · rw [decide_eq_false c, decide_eq_false (fun z => c (by have := Sum.inl.inj z; omega))]
    show Option.map _ (match decide ((Sum.inl (q.1 : Int) : Key) = Sum.inl (p : Int)) with | true => _ | false => _) = _
    rw [e]
    cases decide (q.1 = p) with
    | true => rfl
    | false => exact ih
/-- one more of p -/
def bumpC (l : List (Nat × Nat)) (p c : Nat) : List (Nat × Nat) := if (l.any fun q => decide (q.1 = p)) = true then l.map (fun q => if q.1 = p then (q.1, c) else q) else l ++ [(p, c)]
theorem put_dI (l : List (Nat × Nat)) (p c : Nat) : putK (dI l) (Sum.inl (p : Int)) (V.int (c : Int)) = dI (bumpC l p c) := by
  have e : ∀ n : Nat, decide ((Sum.inl (n : Int) : Key) = Sum.inl (p : Int)) = decide (n = p) := fun n => by
    by_cases c : n = p
    · rw [decide_eq_true c, decide_eq_true (by rw [c])]
    · rw [decide_eq_false c, decide_eq_false (fun z => c (by have := Sum.inl.inj z; omega))]
  have ea : (dI l).any (fun kv => decide (kv.1 = (Sum.inl (p : Int) : Key))) = l.any fun q => decide (q.1 = p) := by
    unfold dI
    rw [List.any_map]
    congr 1
    funext q
    exact e q.1
  unfold putK bumpC
  rw [ea]
  by_cases h : (l.any fun q => decide (q.1 = p)) = true
  · rw [if_pos h, if_pos h]
    unfold dI
    rw [List.map_map, List.map_map]
    refine List.map_congr_left fun q _ => ?_
    show (if (Sum.inl (q.1 : Int) : Key) = Sum.inl (p : Int) then _ else _) = _
    by_cases c : q.1 = p
    · rw [if_pos (by rw [c])]
      show _ = (fun q : Nat × Nat => ((Sum.inl (q.1 : Int) : Key), V.int (q.2 : Int))) (if q.1 = p then _ else _)
      rw [if_pos c]
    · rw [if_neg (fun z => c (by have := Sum.inl.inj z; omega))]
      show _ = (fun q : Nat × Nat => ((Sum.inl (q.1 : Int) : Key), V.int (q.2 : Int))) (if q.1 = p then _ else _)
      rw [if_neg c]
  · rw [if_neg h, if_neg h]
    unfold dI
    rw [List.map_append]
    rfl
theorem dget_I {H : Hp} {a : Addr} {l : List (Nat × Nat)} {p : Nat} (e : H a = some (.dK (dI l))) : DGet H a (.int (p : Int)) ((getC l p).map fun c : Nat => V.int (c : Int)) := by
  have := DGet.k (k := Sum.inl (p : Int)) e
  rw [val_dI] at this
  exact this
theorem dput_I {H : Hp} {a : Addr} {l : List (Nat × Nat)} {p c : Nat} (e : H a = some (.dK (dI l))) (hl : l.length < sizeLine) : DPut H a (.int (p : Int)) (.int (c : Int)) (upd H a (.dK (dI (bumpC l p c)))) := by
  have := DPut.k (k := Sum.inl (p : Int)) (v := .int (c : Int)) e (by unfold dI; rw [List.length_map]; exact hl)
  rw [put_dI] at this
  exact this
end CB
/-! any of ints; enumerate of a tuple; a tuple times an int, few times -/
namespace CB
open PySem PySem.Spec PyProof.Rows L2
/-! ### any(ints), a list or a tuple -/
theorem vals_int : ∀ {ns : List Int} {us : List Value}, Vals (ns.map V.int) us → ∃ ts : List Tok, ts.length = ns.length ∧ us = List.zipWith Value.int ns ts
  | [], us, h => by
    rw [List.map_nil] at h
    cases h
    exact ⟨[], rfl, rfl⟩
  | n :: ns, us, h => by
    rw [List.map_cons] at h
    cases h with
    | cons r t =>
      obtain ⟨tk, rfl⟩ := r
      obtain ⟨ts, hl, rfl⟩ := vals_int t
      exact ⟨tk :: ts, by rw [List.length_cons, List.length_cons, hl], rfl⟩
theorem truth_ints {prog : Program} {w : World} {A : Around} {ns : List Int} {us : List Value} (h : Vals (ns.map V.int) us) :
    TruthOf prog w A (fun i v => us.toArray[i]? = some v) (fun i => ns.getD i 0 != 0) := by
  intro i v s Q E hv hq
  obtain ⟨ts, hl, rfl⟩ := vals_int h
  have hv : (List.zipWith Value.int ns ts)[i]? = some v := by simpa using hv
  rw [List.getElem?_zipWith] at hv
  cases hn : ns[i]? with
  | none => rw [hn] at hv; cases ht : ts[i]? <;> rw [ht] at hv <;> cases hv
  | some n =>
    cases ht : ts[i]? with
    | none => rw [hn, ht] at hv; cases hv
    | some t =>
      rw [hn, ht] at hv
      cases hv
      have e : ns.getD i 0 = n := by rw [List.getD_eq_getElem?_getD, hn]; rfl
      have hq : Q (ns.getD i 0 != 0) s := hq
      rw [e] at hq
      exact PySem.P.truthy_int hq
theorem any_ints : ∀ ns : List Int, (List.range ns.length).any (fun i => ns.getD i 0 != 0) = ns.any (· != 0)
  | [] => rfl
  | n :: ns => by
    rw [List.length_cons, List.range_succ_eq_map, List.any_cons, List.any_map, List.any_cons, ← any_ints ns]
    all_goals rfl
section
variable {X : Cx}
def rAnyI (K : PySem.W.Frag) : List V → Hp → VK → Prop := fun vs H Q => ∃ (a : Addr) (ns : List Int), vs = [V.ref a] ∧ (SqL K H a (ns.map V.int) ∨ SqT K H a (ns.map V.int)) ∧ Q (.bl (ns.any (· != 0))) H
theorem iter_tupA {prog : Program} {w : World} {A : Around} {E : Value → Shared → Prop} {s : Shared} {l : Addr} {items : Array Value} {Q : Value → Shared → Prop} (ht : s.heap.IsTuple l items)
    (h : ∀ s2 : Shared, s2 = { s with heap := s.heap.push { cls := .type "tuple_iterator", data := .fields #[.ref l, .int 0 0] } } → (s2.heap.IsTupleIter s.heap.objs.size l 0 ∧ s2.heap.IsTuple l items) → l ≠ s.heap.objs.size → Q (.ref s.heap.objs.size) s2) : wpAny (model prog w) A (pyIter (.ref l)) Q E s := by
  have lt : l < s.heap.objs.size := by
    obtain ⟨_, e, _⟩ := ht
    exact Heap.lt_size e
  exact wpAny_pyIter_tuple ht (h _ rfl ⟨⟨_, Heap.get?_push_size _ rfl, rfl, rfl⟩, ht.at fun o e => Heap.get?_push_of_some _ e⟩ (Nat.ne_of_lt lt))
theorem cr_anyI (hc : X.calm = true) : CallR X (.builtin "any") (rAnyI X.K) := by
  intro pins s σ H vs us Q I r h
  obtain ⟨a, ns, rfl, hs, q⟩ := h
  rw [Vals.ref1 r]
  have fin : ∀ {us : List Value} {h' : Heap} {tk : Nat} {o : Obj}, Vals (ns.map V.int) us → (∀ b ob, b ∉ [s.heap.objs.size] → (s.heap.push o).get? b = some ob → h'.get? b = some ob) →
      (∃ x H', Inv X pins σ H' { s with heap := h', toks := tk } ∧ RelV x (Value.bool ((List.range us.toArray.size).any fun i => ns.getD i 0 != 0)) ∧ Q x H') := fun {us h' tk o} rv hk => by
    refine ⟨.bl _, H, I.kept fun b ob eo => hk b ob (fun hm => ?_) (Heap.get?_push_of_some _ eo), ?_, q⟩
    · have hm := List.mem_singleton.mp hm
      subst hm
      exact absurd (Heap.lt_size eo) (Nat.lt_irrefl _)
    · have e : us.toArray.size = ns.length := by
        rw [List.size_toArray, ← rv.length, List.length_map]
      rw [e, any_ints]
      rfl
  rcases hs with hs | hs
  · obtain ⟨its, rv, hl, _⟩ := I.list hs
    refine call_any_walk (iter_any hl.isList fun s2 e2 st hne => ?_)
    subst e2
    exact ⟨_, _, _, _, _, _, _, rfl, Walks.list (A := X.A.in1) (I.ok.hd hc) _ a hne its.toArray, st, truth_ints rv, fun h' tk hk => fin rv hk⟩
  · obtain ⟨its, rv, hl, _⟩ := I.tuple hs
    refine call_any_walk (iter_tupA (show s.heap.IsTuple a its.toArray from hl) fun s2 e2 st hne => ?_)
    subst e2
    exact ⟨_, _, _, _, _, _, _, rfl, Walks.tuple (A := X.A.in1) (I.ok.hd hc) _ a hne its.toArray, st, truth_ints rv, fun h' tk hk => fin rv hk⟩
theorem rd_anyI {K : PySem.W.Frag} {vs : List V} {H : Hp} {Q : VK} : rAnyI K vs H Q = ∃ (a : Addr) (ns : List Int), vs = [V.ref a] ∧ (SqL K H a (ns.map V.int) ∨ SqT K H a (ns.map V.int)) ∧ Q (.bl (ns.any (· != 0))) H := rfl
end
/-! ### enumerate(t), t a tuple -/
theorem meets_enum1 {v : Value} {o : Obj} {Hh : Heap → Prop} (Bg : Begins v o Hh) : Meets (Builtin.«enumerate.__new__» ⟨[.type "enumerate", v], []⟩)
    (fun _ R s => Hh s.heap ∧ R (.ok (.ret (.ref (s.heap.push o).objs.size))) { s with heap := (s.heap.push o).push { cls := .type "enumerate", data := .fields #[.none, .bool false, .ref s.heap.objs.size, rawInt 0, .none, .none] } }) :=
  .of_wp fun prog w A R s h => by
    obtain ⟨hp, g, d, tk, os⟩ := s
    obtain ⟨hv, h⟩ := h
    have sube := sub_enumerate
    have go : ∀ {A1 : Around} {E1 : Value → Shared → Prop} {Q1 : Value → Shared → Prop}, Q1 (.ref hp.objs.size) ⟨hp.push o, g, d, tk, os⟩ → wpAny (model prog w) A1 (pyIter v) Q1 E1 ⟨hp, g, d, tk, os⟩ := fun q => Bg.iter prog w _ _ ⟨hp, g, d, tk, os⟩ _ hv q
    wp_walk using go
    refine wpAny_stack_any fun st => wpAny_pure ?_
    split
    · rename_i cl _ _ _ _ _
      cases (cl == Value.type "enumerate") <;> (wp_walk using go; exact ⟨_, rfl, h⟩)
    · wp_walk using go
      exact ⟨_, rfl, h⟩
section
variable {prog : Program} {w : World} {A : Around} {E : Value → Shared → Prop} {s : Shared}
theorem enum1_at {v : Value} {o : Obj} {Hh : Heap → Prop} {Q : Value → Shared → Prop} (Bg : Begins v o Hh) (hv : Hh s.heap)
    (h : ∀ h1, IsEnum h1 (s.heap.objs.size + 1) s.heap.objs.size 0 .none → h1.get? s.heap.objs.size = some o → (∀ b ob, s.heap.get? b = some ob → h1.get? b = some ob) → Q (.ref (s.heap.objs.size + 1)) { s with heap := h1 }) :
    wpAny (model prog w) A (call (.type "enumerate") [v]) Q E s := by
  have sz : (s.heap.push o).objs.size = s.heap.objs.size + 1 := Heap.size_push ..
  have en : IsEnum ((s.heap.push o).push { cls := .type "enumerate", data := .fields #[.none, .bool false, .ref s.heap.objs.size, rawInt 0, .none, .none] }) (s.heap.objs.size + 1) s.heap.objs.size 0 .none := by
    have z := Heap.get?_push_size (s.heap.push o) (o := { cls := .type "enumerate", data := .fields #[.none, .bool false, .ref s.heap.objs.size, rawInt 0, .none, .none] }) rfl
    rw [sz] at z
    exact z
  refine callType_new F.called_enumerate (by decide) (F.typeCall_enumerate_1 _) (F.newCall_enumerate_1 _) (fun ob => F.args_object_init_2 ob _) F.entry_enumerate_new (meets_enum1 Bg) ⟨hv, ?_⟩
  show _ ∧ _
  rw [sz]
  exact ⟨⟨_, en, rfl⟩, h _ en (Heap.get?_push_of_some _ (Heap.get?_push_size _ Bg.free)) fun b ob x => Heap.get?_push_of_some _ (Heap.get?_push_of_some _ x)⟩
end
def IteT (K : PySem.W.Frag) (a : Addr) : It :=
  ⟨fun i H => ∃ (xs : List V) (x : V), SqT K H a xs ∧ xs[i]? = some x, fun i H v H1 => ∃ T x, v = .ref T ∧ H T = none ∧ H1 = upd H T (.tup [.int (i : Nat), x]) ∧ ∀ xs, SqT K H a xs → xs[i]? = some x, fun i H => ∃ xs : List V, SqT K H a xs ∧ xs.length = i⟩
theorem turn_enumT {P : Program} {w : World} {K : PySem.W.Frag} {elts : List Expr} {kk : Nat} {tpos : Pos} (a e it : Addr) :
    Turn P w K (.Tuple elts kk tpos) (IteT K a) [e, it] e (fun i h => (∃ old, IsEnum h e it ((i : Nat) : Int) old) ∧ h.IsTupleIter it a i ∧ e ≠ it ∧ e ≠ a ∧ a ≠ it) where
  mem := List.mem_cons_self
  obj := fun i h st b hb => by
    obtain ⟨⟨old, en⟩, ⟨o, ho, _, hd⟩, _⟩ := st
    rcases (by simpa using hb : b = e ∨ b = it) with rfl | rfl
    · exact ⟨_, en, fun v q => nomatch q⟩
    · refine ⟨o, ho, fun v q => ?_⟩
      rw [hd] at q
      cases q
  keep := fun i h h1 st k => by
    obtain ⟨⟨old, en⟩, hi, ne⟩ := st
    exact ⟨⟨old, k e List.mem_cons_self _ en⟩, hi.at fun o q => k it (List.mem_cons_of_mem _ List.mem_cons_self) o q, ne⟩
  item := by
    intro X hP hw hK hc i pins s σ H E I hf st hg
    subst hP hw hK
    obtain ⟨⟨old, en⟩, hit, ne, nea, nai⟩ := st
    obtain ⟨xs, x, hq, hx⟩ := hg
    obtain ⟨its, rv, tp, _⟩ := I.tuple hq
    obtain ⟨u, hu, ru⟩ := rv.get hx
    have lte : e < s.heap.objs.size := Heap.lt_size en
    have lti : it < s.heap.objs.size := by
      obtain ⟨_, q, _⟩ := hit
      exact Heap.lt_size q
    have ilt : i < its.toArray.size := by
      rw [List.size_toArray]
      exact (List.getElem?_eq_some_iff.mp hu).1
    refine wpAny_pyNext_enum_itemD (Draws.tuple (A := X.A.in1) (I.ok.hd hc) it a nai its.toArray) en ⟨hit, show s.heap.IsTuple a its.toArray from tp⟩ ilt ne (by simp [ne, nea]) fun x1 h1 tk hx1 ho st1 hT sz hk => ?_
    have ex1 : x1 = u := by
      have z : its[i]? = some x1 := by simpa using hx1
      rw [hu] at z
      cases z
      rfl
    subst ex1
    refine ⟨_, rfl, wpAny_letOwnedTupleGo_enum (s := { s with heap := h1, toks := tk + 1 }) ho fun h2 en2 sb => ?_⟩
    have hT2 : h2.get? s.heap.objs.size = some { cls := .type "tuple", data := .seq #[.int i tk, x1] } := (sb.2 _ (Nat.ne_of_gt lte)).trans hT
    have fresh : ObjOk X.prog X.w (upd H s.heap.objs.size (.tup [.int (i : Nat), x])) h2 s.heap.objs.size (.tup [.int (i : Nat), x]) :=
      ⟨by show 2 ≤ sizeLine; decide, [.int i tk, x1], .cons ⟨_, rfl⟩ (.cons ru .nil), ⟨_, hT2, rfl, _, rfl⟩⟩
    have I2 : Inv X pins σ (upd H s.heap.objs.size (.tup [.int (i : Nat), x])) { s with heap := h2, toks := tk + 1 } :=
      I.turnedNew (ch := [e, it]) (fun b ob hb q => (sb.2 b (fun z => hb (by simp [z]))).trans (hk b ob (fun z => hb (by simp [z])) (fun z => hb (by simp [z])) q)) hf (Nat.le_refl _) fresh
    refine ⟨.ref s.heap.objs.size, _, I2, rfl, ⟨_, x, rfl, I.hok.fresh (Nat.le_refl _), rfl, fun ys hy => by rw [I.tuple_inj hy hq]; exact hx⟩, ⟨⟨x1, ?_⟩, st1.1.at fun o q => (sb.2 it (Ne.symm ne)).trans q, ne, nea, nai⟩, fun b hb => ?_⟩
    · rw [show ((i + 1 : Nat) : Int) = (i : Int) + 1 by omega]
      exact en2
    · have lt : b < s.heap.objs.size := by
        rcases (by simpa using hb : b = e ∨ b = it) with rfl | rfl
        · exact lte
        · exact lti
      rw [upd_ne (Nat.ne_of_lt lt)]
      exact (hf b hb).1
  done := by
    intro X hP hw hK hc i pins s σ H E I hf st hg
    subst hP hw hK
    obtain ⟨⟨old, en⟩, hit, ne, nea, nai⟩ := st
    obtain ⟨xs, hq, hx⟩ := hg
    obtain ⟨its, rv, tp, _⟩ := I.tuple hq
    obtain ⟨g0, g1, g2, g3, g4, g5⟩ := hf it (List.mem_cons_of_mem _ List.mem_cons_self)
    have sz : its.toArray.size = i := by
      have := rv.length
      rw [List.size_toArray]
      omega
    subst sz
    exact wpAny_pyNext_enum_endD (Draws.tuple (A := X.A.in1) (I.ok.hd hc) it a nai its.toArray) en ⟨hit, show s.heap.IsTuple a its.toArray from tp⟩ fun h1 eb => ⟨rfl, I.turned (t' := s.toks) (fun b o hb q => eb b o hb q) g0 g1 g3 g4 g5⟩
  self := fun A i s Q E st h => let ⟨⟨_, en⟩, _⟩ := st; wpAny_pyIter_enum en h
def iEnumT (K : PySem.W.Frag) (ta : TA) : TI := fun σ H R => ta σ H fun vs H1 => ∃ a xs, vs = [.ref a] ∧ SqT K H1 a xs ∧ R (IteT K a) H1
theorem pi_enumT {X : Cx} {e : Expr} {ta : TA} {p pos tpos : Pos} {elts : List Expr} {kk : Nat} (hg : Gl X "enumerate") (hm : X.mg "enumerate" = none) (ha : PA X [e] ta) (hs : starEach [e] X.env = [(false, eval e X.env)] := by rfl) :
    PI X (.Tuple elts kk tpos) (.Call (.Name "enumerate" p) [e] [] pos) (iEnumT X.K ta) := by
  refine ⟨fun pins s σ H R I h => ?_⟩
  refine Call_ (ld_blt I hg hm boot_enumerate (PyProof.Rows.callWith_type1 (thn (ha.run pos pins s σ H _ I h) fun us s1 ⟨vs, H1, I1, r1, a, xs, ex, hq, q⟩ => ?_) hs rfl))
  subst ex
  rw [Vals.ref1 r1]
  obtain ⟨its, rv, tp, _⟩ := I1.tuple hq
  have tp' : s1.heap.IsTuple a its.toArray := tp
  have lta : a < s1.heap.objs.size := by
    obtain ⟨_, z, _⟩ := tp'
    exact Heap.lt_size z
  refine enum1_at (begins_tuple a its.toArray) tp' fun h1 en hi hk => wpAny_pyIter_enum en ?_
  have I2 : Inv X pins σ H1 { s1 with heap := h1 } := I1.kept (t' := s1.toks) hk
  refine ⟨s1.heap.objs.size + 1, [s1.heap.objs.size + 1, s1.heap.objs.size], _, _, H1, rfl, I2, turn_enumT a (s1.heap.objs.size + 1) s1.heap.objs.size, ⟨⟨.none, en⟩, ⟨_, hi, rfl, rfl⟩, Nat.succ_ne_self _, Nat.ne_of_gt (Nat.lt_succ_of_lt lta), Nat.ne_of_lt lta⟩, fun b hb => ?_, q⟩
  have le : s1.heap.objs.size ≤ b := by
    rcases (by simpa using hb : b = s1.heap.objs.size + 1 ∨ b = s1.heap.objs.size) with rfl | rfl
    · exact Nat.le_succ _
    · exact Nat.le_refl _
  exact I1.fpOk le (I1.hok.fresh le)
/-- a loop over an enumerated tuple, by a word -/
def ForE (K : PySem.W.Frag) (a : Addr) := ForJ (IteT K a)
section
variable {K : PySem.W.Frag} {a : Addr} {xs : List V} {g : TG} {tb : TS} {D : Ends} {σ : L2.St} {H : Hp} {ta : TA} {tt : TT} {te : TE} {vs : List Nat} {Q : VK}
theorem rd_forE : tFor (iEnumT K ta) g tb D σ H = ta σ H fun us H1 => ∃ a xs, us = [.ref a] ∧ SqT K H1 a xs ∧ ForE K a g tb D σ H1 := rfl
theorem ForE.w (Pw : Nat → L2.St → Hp → Prop) (h0 : Pw 0 σ H) (hl : ∀ i σ H, i ≤ xs.length → Pw i σ H → SqT K H a xs)
    (hs : ∀ (i : Nat) (x : V) (T : Addr) σ H, xs[i]? = some x → Pw i σ H → H T = none → ∀ N : L2.St → Hp → Prop, (∀ σ' H', Pw (i + 1) σ' H' → N σ' H') → g (.ref T) σ (upd H T (.tup [.int (i : Nat), x])) fun σ2 H2 => tb { D with nx := N, ct := N, bk := D.nx } σ2 H2)
    (hd : ∀ σ H, Pw xs.length σ H → D.nx σ H) : ForE K a g tb D σ H := by
  refine ⟨fun i m σ H => m = xs.length - i ∧ i ≤ xs.length ∧ Pw i σ H, ⟨_, rfl, Nat.zero_le _, h0⟩, ?_⟩
  rintro i m σ H ⟨rfl, hi, p⟩
  have hq := hl i σ H hi p
  rcases Nat.lt_or_ge i xs.length with c | c
  · have hx : xs[i]? = some xs[i] := List.getElem?_eq_getElem c
    refine .inr ⟨⟨xs, _, hq, hx⟩, Pw (i + 1), fun σ' H' p' => ⟨xs.length - (i + 1), by omega, rfl, c, p'⟩, fun v H' y => ?_⟩
    obtain ⟨T, x, rfl, hT, rfl, f⟩ := y
    exact hs i x T σ H (f xs hq) p hT _ fun _ _ h => h
  · have e : i = xs.length := by omega
    subst e
    exact .inl ⟨⟨xs, hq, rfl⟩, hd σ H p⟩
/-- a comprehension over an enumerated tuple -/
def LcE (K : PySem.W.Frag) (a : Addr) := LcJ (IteT K a)
theorem rd_lcE : tLc (iEnumT K ta) g tt te vs σ H Q = ta σ H fun us H1 => ∃ a xs, us = [.ref a] ∧ SqT K H1 a xs ∧ LcE K a g tt te vs σ H1 Q := rfl
theorem LcE.w (Pw : Nat → Addr → List V → Hp → Prop) (h0 : ∀ D, H D = none → Pw 0 D [] (upd H D (.lst []))) (hl : ∀ D i ys H, i ≤ xs.length → Pw i D ys H → SqT K H a xs)
    (hs : ∀ D (i : Nat) x (T : Addr) ys H, xs[i]? = some x → Pw i D ys H → H T = none → ∀ N : Hp → Prop, (∀ ys' H', Pw (i + 1) D ys' H' → N H') → g (.ref T) (wipe σ vs) (upd H T (.tup [.int (i : Nat), x])) fun σ2 H2 => wipe σ2 vs = wipe σ vs ∧ tt σ2 H2 fun b H3 =>
      if b = true then te σ2 H3 fun y H4 => ∃ acc, H4 D = some (.lst acc) ∧ acc.length < sizeLine ∧ N (upd H4 D (.lst (acc ++ [y]))) else N H3) (hd : ∀ D ys H', H D = none → Pw xs.length D ys H' → Q (.ref D) H') : LcE K a g tt te vs σ H Q := by
  intro D hD
  refine ⟨fun i m H => m = xs.length - i ∧ i ≤ xs.length ∧ ∃ ys, Pw i D ys H, ⟨_, rfl, Nat.zero_le _, _, h0 D hD⟩, ?_⟩
  rintro i m H ⟨rfl, hi, ys, p⟩
  have hq := hl D i ys H hi p
  rcases Nat.lt_or_ge i xs.length with c | c
  · have hx : xs[i]? = some xs[i] := List.getElem?_eq_getElem c
    refine .inr ⟨⟨xs, _, hq, hx⟩, fun H' => ∃ ys, Pw (i + 1) D ys H', fun H' p' => ⟨xs.length - (i + 1), by omega, rfl, c, p'⟩, fun v H' y => ?_⟩
    obtain ⟨T, x, rfl, hT, rfl, f⟩ := y
    exact hs D i x T ys H (f xs hq) p hT _ fun ys' H' h => ⟨ys', h⟩
  · have e : i = xs.length := by omega
    subst e
    exact .inl ⟨⟨xs, hq, rfl⟩, hd D ys H hD p⟩
end
end CB
/-! the least of data alike, a list or a tuple; the place of a datum in a list -/
namespace CB
open PySem PySem.Spec PyProof.Rows L2
section
variable {X : Cx}
theorem un65 {k : Nat} {A : Around} (r : Room k A) : A.units + 65 < cLine := by
  have := r.un
  omega
theorem minD_in (x : PyData) : ∀ xs : List PyData, PySem.W.minD x xs ∈ x :: xs := by
  intro xs
  unfold PySem.W.minD
  induction xs generalizing x with
  | nil => exact List.mem_cons_self
  | cons y r ih =>
    rw [List.foldl_cons]
    have h := ih (if PySem.W.dataLt y x then y else x)
    rcases List.mem_cons.mp h with h | h
    · rw [h]
      split
      · exact List.mem_cons_of_mem _ List.mem_cons_self
      · exact List.mem_cons_self
    · exact List.mem_cons_of_mem _ (List.mem_cons_of_mem _ h)
theorem lay_of {x : PyData} : ∀ {xs : List PyData}, PyData.canLayAll0 xs = true → x ∈ xs → PyData.canLay0 x = true
  | [], _, h => by simp at h
  | y :: r, l, h => by
    have l' : (PyData.canLay0 y && PyData.canLayAll0 r) = true := l
    rw [Bool.and_eq_true] at l'
    rcases List.mem_cons.mp h with h | h
    · rw [h]; exact l'.1
    · exact lay_of l'.2 h
theorem read_one {h : Heap} {v : Value} {d d' : PyData} {as bs : List Addr} (r : Reads h v d as) (r' : Reads h v d' bs) (l : PyData.canLay0 d = true) (l' : PyData.canLay0 d' = true) : d = d' := by
  have e1 := SeqAt.readsAll_map [d] [v] _ (by show (PyData.canLay0 d && true) = true; rw [l]; rfl) (.cons r .nil)
  have e2 := SeqAt.readsAll_map [d'] [v] _ (by show (PyData.canLay0 d' && true) = true; rw [l']; rfl) (.cons r' .nil)
  rw [e1] at e2
  exact (List.cons.inj e2).1
/-- min(xs), xs a list or a tuple of data alike -/
def rMinD (K : PySem.W.Frag) : List V → Hp → VK → Prop := fun vs H Q => ∃ (a : Addr) (ys : List V) (x : PyData) (xs : List PyData), vs = [V.ref a] ∧ (SqL K H a ys ∨ SqT K H a ys) ∧ DpAll K H ys (x :: xs) ∧ PyData.canLayAll0 (x :: xs) = true ∧ PySem.W.AlikeAll (x :: xs) ∧ PyData.depthAll (x :: xs) ≤ 60 ∧
  ∀ (i : Nat) v, ys[i]? = some v → (x :: xs)[i]? = some (PySem.W.minD x xs) → Q v H
theorem cr_minD (hc : X.calm = true) (hu : X.A.units + 65 < cLine) : CallR X (.builtin "min") (rMinD X.K) := by
  intro pins s σ H vs us Q I r h
  obtain ⟨a, ys, x, xs, rfl, hs, hd, lay, al, dp, q⟩ := h
  rw [Vals.ref1 r]
  have fin : ∀ {its : List Value} {as : List Addr} {i : Nat} {v : Value} {h' : Heap} {tk : Nat} {bs : List Addr}, Vals ys its → ReadsAll s.heap its (x :: xs) as → its.toArray[i]? = some v → Reads h' v (PySem.W.minD x xs) bs → (∀ b o, s.heap.get? b = some o → h'.get? b = some o) →
      (∃ y H', Inv X pins σ H' { s with heap := h', toks := tk } ∧ RelV y v ∧ Q y H') := fun {its as i v h' tk bs} rv ra hv rd hk => by
    have hv' : its[i]? = some v := by simpa using hv
    obtain ⟨b2, r2, hi, _, _⟩ := PySem.W.readsAll_at ra i v hv'
    have hx : (x :: xs)[i]? = some ((x :: xs).getD i .none) := by
      rw [List.getD_eq_getElem?_getD, List.getElem?_eq_getElem hi]
      rfl
    have mem := List.mem_of_getElem? hx
    have e := read_one (Reads.keeps hk r2) rd (lay_of lay mem) (lay_of lay (minD_in x xs))
    have hl := rv.length
    have hil : i < its.length := by
      obtain ⟨z, _⟩ := List.getElem?_eq_some_iff.mp hv'
      exact z
    have hy : ys[i]? = some ys[i] := List.getElem?_eq_getElem (by omega)
    obtain ⟨u, hu, ru⟩ := rv.get hy
    rw [hu] at hv'
    cases hv'
    exact ⟨ys[i], H, I.kept hk, ru, q i _ hy (by rw [hx, e])⟩
  have ar : X.A.units + 1 + PyData.depthAll (x :: xs) < cLine := by omega
  rcases hs with hs | hs
  · obtain ⟨its, rv, hl, _⟩ := I.list hs
    obtain ⟨as, ra⟩ := Dp.readsAll I _ _ its hd rv
    exact PySem.W.min_list_data (I.ok.hd hc) hl.isList (by simpa using ra) al ar fun i v h' tk bs hv rd hk => fin rv ra hv rd hk
  · obtain ⟨its, rv, hl, _⟩ := I.tuple hs
    obtain ⟨as, ra⟩ := Dp.readsAll I _ _ its hd rv
    exact PySem.W.min_tuple_data (I.ok.hd hc) (show s.heap.IsTuple a its.toArray from hl) (by simpa using ra) al ar fun i v h' tk bs hv rd hk => fin rv ra hv rd hk
theorem rd_minD {K : PySem.W.Frag} {vs : List V} {H : Hp} {Q : VK} : rMinD K vs H Q = ∃ (a : Addr) (ys : List V) (x : PyData) (xs : List PyData), vs = [V.ref a] ∧ (SqL K H a ys ∨ SqT K H a ys) ∧ DpAll K H ys (x :: xs) ∧ PyData.canLayAll0 (x :: xs) = true ∧ PySem.W.AlikeAll (x :: xs) ∧ PyData.depthAll (x :: xs) ≤ 60 ∧
  ∀ (i : Nat) v, ys[i]? = some v → (x :: xs)[i]? = some (PySem.W.minD x xs) → Q v H := rfl
theorem rd_indexD {K : PySem.W.Frag} {x : V} {xs : List V} {H : Hp} {Q : VK} : rIndexD K x xs H Q = ∃ (a : Addr) (y : V) (d : PyData) (ds : List PyData) (j : Nat) (z : PyData), x = V.ref a ∧ xs = [y] ∧ Dp K H (V.ref a) (.list ds) ∧ Dp K H y d ∧
  SeqAt.shaped (.list ds) = true ∧ SeqAt.shaped d = true ∧ ds[j]? = some z ∧ PyData.eqv z d = true ∧ (∀ (m : Nat) (z' : PyData), m < j → ds[m]? = some z' → PyData.eqv z' d = false) ∧ Q (.int (j : Nat)) H := rfl
end
end CB
/-! divmod; comprehensions by what holds beside the list that is made -/
namespace CB
open PySem PySem.Spec PyProof.Rows L2
/-! ### divmod of any size -/
def rDm : List V → Hp → VK → Prop := fun xs H Q => ∃ i j : Int, xs = [.int i, .int j] ∧ CDivP i j ∧ ∀ p, H p = none → Q (.ref p) (upd H p (.tup [.int (i / j), .int (i % j)]))
theorem cr_dm {X : Cx} : CallR X (.builtin "divmod") rDm := call_divmodW
theorem rd_dm {xs : List V} {H : Hp} {Q : VK} : rDm xs H Q = ∃ i j : Int, xs = [.int i, .int j] ∧ CDivP i j ∧ ∀ p, H p = none → Q (.ref p) (upd H p (.tup [.int (i / j), .int (i % j)])) := rfl
/-! ### a comprehension: what holds beside the list that is made -/
section
variable {K : PySem.W.Frag} {a : Addr} {xs : List V} {g : TG} {tt : TT} {te : TE} {vs : List Nat} {σ : L2.St} {H : Hp} {Q : VK} {lo : Int} {n : Nat}
/-- lists made since H stand as they were -/
def Kn (H H1 H2 : Hp) : Prop := ∀ D l, H D = none → H1 D = some (.lst l) → H2 D = some (.lst l)
theorem Kn.same {H H1 H2 : Hp} (s : Same H1 H2) : Kn H H1 H2 := fun D l _ e => s _ _ e
theorem Kn.refl {H H1 : Hp} : Kn H H1 H1 := fun _ _ _ e => e
theorem Kn.trans {H H1 H2 H3 : Hp} (a : Kn H H1 H2) (b : Kn H H2 H3) : Kn H H1 H3 := fun D l n e => b D l n (a D l n e)
/-- what does not speak of lists made since H -/
def Ind (H : Hp) (I : Hp → Prop) : Prop := ∀ H1 D l l', I H1 → H D = none → H1 D = some (.lst l) → I (upd H1 D (.lst l'))
theorem same_updD {H H1 : Hp} {D : Addr} {o : HO} (s : Same H H1) (n : H D = none) : Same H (upd H1 D o) := fun b x e => by
  rw [upd_ne (ne_of_none e n)]
  exact s _ _ e
theorem Ind.same {H : Hp} : Ind H (Same H) := fun H1 D l l' s n _ => same_updD s n
abbrev Turn1 (H : Hp) (g : TG) (tt : TT) (te : TE) (vs : List Nat) (σ : L2.St) (I : Nat → List V → Hp → Prop) (i : Nat) (x : V) : Prop :=
  ∀ zs H1, I i zs H1 → ∀ (M : VK) (S : Hp → Prop), (∀ v H2, Kn H H1 H2 → I (i + 1) (zs ++ [v]) H2 → M v H2) → (∀ H2, Kn H H1 H2 → I (i + 1) zs H2 → S H2) →
    g x (wipe σ vs) H1 fun σ2 H2 => wipe σ2 vs = wipe σ vs ∧ tt σ2 H2 fun b H3 => if b = true then te σ2 H3 M else S H3
theorem turn1 {I : Nat → List V → Hp → Prop} {i : Nat} {x : V} (hi : ∀ i zs, Ind H (I i zs)) (hz : ∀ i zs H1, I i zs H1 → zs.length < sizeLine) (t : Turn1 H g tt te vs σ I i x) {D : Addr} (nD : H D = none) {zs : List V} {H1 : Hp}
    (p : I i zs H1 ∧ H1 D = some (.lst zs)) {N : Hp → Prop} (hN : ∀ ys' H', I (i + 1) ys' H' ∧ H' D = some (.lst ys') → N H') : g x (wipe σ vs) H1 fun σ2 H2 => wipe σ2 vs = wipe σ vs ∧ tt σ2 H2 fun b H3 =>
      if b = true then te σ2 H3 fun y H4 => ∃ acc, H4 D = some (.lst acc) ∧ acc.length < sizeLine ∧ N (upd H4 D (.lst (acc ++ [y]))) else N H3 :=
  t zs H1 p.1 (fun y H4 => ∃ acc, H4 D = some (.lst acc) ∧ acc.length < sizeLine ∧ N (upd H4 D (.lst (acc ++ [y])))) N
    (fun v H2 k q => ⟨zs, k D zs nD p.2, hz _ _ _ p.1, hN (zs ++ [v]) _ ⟨hi _ _ H2 D zs _ q nD (k D zs nD p.2), upd_same⟩⟩) (fun H2 k q => hN zs _ ⟨q, k D zs nD p.2⟩)
theorem LcT.i (I : Nat → List V → Hp → Prop) (hi : ∀ i zs, Ind H (I i zs)) (h0 : ∀ H1, Same H H1 → I 0 [] H1) (hl : ∀ i zs H1, I i zs H1 → SqT K H1 a xs) (hz : ∀ i zs H1, I i zs H1 → zs.length < sizeLine)
    (hs : ∀ i x, xs[i]? = some x → Turn1 H g tt te vs σ I i x) (hd : ∀ D zs H', H D = none → I xs.length zs H' → H' D = some (.lst zs) → Q (.ref D) H') : LcT K a g tt te vs σ H Q :=
  LcT.w (xs := xs) (fun i D zs H1 => (I i zs H1 ∧ H1 D = some (.lst zs)) ∧ H D = none) (fun D nD => ⟨⟨h0 _ (same_upd nD), upd_same⟩, nD⟩) (fun D i zs H1 _ p => hl i zs H1 p.1.1)
    (fun D i x zs H1 hx p N hN => turn1 hi hz (hs i x hx) p.2 p.1 fun ys' H' q => hN ys' H' ⟨q, p.2⟩) (fun D zs H' _ p => hd D zs H' p.2 p.1.1 p.1.2)
theorem LcL.i (I : Nat → List V → Hp → Prop) (hi : ∀ i zs, Ind H (I i zs)) (h0 : ∀ H1, Same H H1 → I 0 [] H1) (hl : ∀ i zs H1, I i zs H1 → SqL K H1 a xs) (hz : ∀ i zs H1, I i zs H1 → zs.length < sizeLine)
    (hs : ∀ i x, xs[i]? = some x → Turn1 H g tt te vs σ I i x) (hd : ∀ D zs H', H D = none → I xs.length zs H' → H' D = some (.lst zs) → Q (.ref D) H') : LcL K a g tt te vs σ H Q :=
  LcL.w (xs := xs) (fun i D zs H1 => (I i zs H1 ∧ H1 D = some (.lst zs)) ∧ H D = none) (fun D nD => ⟨⟨h0 _ (same_upd nD), upd_same⟩, nD⟩) (fun D i zs H1 _ p => hl i zs H1 p.1.1)
    (fun D i x zs H1 hx p N hN => turn1 hi hz (hs i x hx) p.2 p.1 fun ys' H' q => hN ys' H' ⟨q, p.2⟩) (fun D zs H' _ p => hd D zs H' p.2 p.1.1 p.1.2)
theorem LcR.i (I : Nat → List V → Hp → Prop) (hi : ∀ i zs, Ind H (I i zs)) (h0 : ∀ H1, Same H H1 → I 0 [] H1) (hz : ∀ i zs H1, I i zs H1 → zs.length < sizeLine)
    (hs : ∀ i, i < n → Turn1 H g tt te vs σ I i (.int (lo + i))) (hd : ∀ D zs H', H D = none → I n zs H' → H' D = some (.lst zs) → Q (.ref D) H') : LcR lo n g tt te vs σ H Q :=
  LcR.w (fun i D zs H1 => (I i zs H1 ∧ H1 D = some (.lst zs)) ∧ H D = none) (fun D nD => ⟨⟨h0 _ (same_upd nD), upd_same⟩, nD⟩)
    (fun D i zs H1 hx p N hN => turn1 hi hz (hs i hx) p.2 p.1 fun ys' H' q => hN ys' H' ⟨q, p.2⟩) (fun D zs H' _ p => hd D zs H' p.2 p.1.1 p.1.2)
/-- the items are told: y i is what the turn i adds, if it adds any -/
def pureI (H : Hp) (m : Nat) (y : Nat → Option V) (i : Nat) (zs : List V) (H1 : Hp) : Prop := Same H H1 ∧ zs = (List.range i).filterMap y ∧ i ≤ m
abbrev Turn2 (H : Hp) (g : TG) (tt : TT) (te : TE) (vs : List Nat) (σ : L2.St) (y : Option V) (x : V) : Prop :=
  ∀ H1, Same H H1 → ∀ (M : VK) (S : Hp → Prop), (∀ v H2, y = some v → Same H1 H2 → M v H2) → (∀ H2, y = none → Same H1 H2 → S H2) →
    g x (wipe σ vs) H1 fun σ2 H2 => wipe σ2 vs = wipe σ vs ∧ tt σ2 H2 fun b H3 => if b = true then te σ2 H3 M else S H3
theorem turn2 {m : Nat} {y : Nat → Option V} {i : Nat} {x : V} (hm : i < m) (t : Turn2 H g tt te vs σ (y i) x) : Turn1 H g tt te vs σ (pureI H m y) i x := by
  rintro zs H1 ⟨s1, rfl, _⟩ M S hM hS
  refine t H1 s1 M S (fun v H2 e s2 => hM v H2 (.same s2) ⟨s1.trans s2, ?_, hm⟩) (fun H2 e s2 => hS H2 (.same s2) ⟨s1.trans s2, ?_, hm⟩)
  · rw [List.range_succ, List.filterMap_append, List.filterMap_cons, e]
    rfl
  · rw [List.range_succ, List.filterMap_append, List.filterMap_cons, e, List.filterMap_nil, List.append_nil]
theorem pureI.ind {m : Nat} {y : Nat → Option V} (i : Nat) (zs : List V) : Ind H (pureI H m y i zs) := fun H1 D l l' p n _ => ⟨same_updD p.1 n, p.2⟩
theorem pureI.z {m : Nat} {y : Nat → Option V} (hm : m ≤ 10000000) (i : Nat) (zs : List V) (H1 : Hp) (p : pureI H m y i zs H1) : zs.length < sizeLine := by
  obtain ⟨_, rfl, hi⟩ := p
  have := List.length_filterMap_le y (List.range i)
  rw [List.length_range] at this
  rw [PySem.sizeLine_eq]
  omega
theorem LcT.p (y : Nat → Option V) (hm : xs.length ≤ 10000000) (hx : ∀ H1, Same H H1 → SqT K H1 a xs) (hs : ∀ i x, xs[i]? = some x → Turn2 H g tt te vs σ (y i) x)
    (hd : ∀ D H', H D = none → Same H H' → H' D = some (.lst ((List.range xs.length).filterMap y)) → Q (.ref D) H') : LcT K a g tt te vs σ H Q :=
  LcT.i (pureI H xs.length y) pureI.ind (fun H1 s => ⟨s, rfl, Nat.zero_le _⟩) (fun i zs H1 p => hx H1 p.1) (pureI.z hm) (fun i x h => turn2 (List.getElem?_eq_some_iff.mp h).1 (hs i x h)) (fun D zs H' nD p e => hd D H' nD p.1 (by rw [← p.2.1]; exact e))
theorem LcL.p (y : Nat → Option V) (hm : xs.length ≤ 10000000) (hx : ∀ H1, Same H H1 → SqL K H1 a xs) (hs : ∀ i x, xs[i]? = some x → Turn2 H g tt te vs σ (y i) x)
    (hd : ∀ D H', H D = none → Same H H' → H' D = some (.lst ((List.range xs.length).filterMap y)) → Q (.ref D) H') : LcL K a g tt te vs σ H Q :=
  LcL.i (pureI H xs.length y) pureI.ind (fun H1 s => ⟨s, rfl, Nat.zero_le _⟩) (fun i zs H1 p => hx H1 p.1) (pureI.z hm) (fun i x h => turn2 (List.getElem?_eq_some_iff.mp h).1 (hs i x h)) (fun D zs H' nD p e => hd D H' nD p.1 (by rw [← p.2.1]; exact e))
theorem LcR.p (y : Nat → Option V) (hm : n ≤ 10000000) (hs : ∀ i, i < n → Turn2 H g tt te vs σ (y i) (.int (lo + i)))
    (hd : ∀ D H', H D = none → Same H H' → H' D = some (.lst ((List.range n).filterMap y)) → Q (.ref D) H') : LcR lo n g tt te vs σ H Q :=
  LcR.i (pureI H n y) pureI.ind (fun H1 s => ⟨s, rfl, Nat.zero_le _⟩) (pureI.z hm) (fun i h => turn2 h (hs i h)) (fun D zs H' nD p e => hd D H' nD p.1 (by rw [← p.2.1]; exact e))
end
theorem small_size {n : Nat} (h : n ≤ 10000000) : n < sizeLine := by rw [PySem.sizeLine_eq]; omega
theorem iabs (i : Int) : (if i < 0 then -i else i) = (i.natAbs : Int) := by
  split <;> omega
theorem fm_self {α : Type} : ∀ l : List α, (List.range l.length).filterMap (fun i => l[i]?) = l
  | [] => rfl
  | a :: l => by
    rw [List.length_cons, List.range_succ_eq_map, List.filterMap_cons, List.filterMap_map]
    show a :: _ = _
    congr 1
    exact fm_self l
theorem fm_get {α β : Type} (l : List α) (g : α → Option β) : (List.range l.length).filterMap (fun i => l[i]?.bind g) = l.filterMap g := by
  rw [← List.filterMap_filterMap, fm_self]
theorem fm_ite {α β : Type} (l : List α) (p : α → Bool) (f : α → β) : l.filterMap (fun a => if p a = true then some (f a) else none) = (l.filter p).map f := by
  induction l with
  | nil => rfl
  | cons a l ih =>
    rw [List.filterMap_cons, List.filter_cons]
    by_cases h : p a = true
    · rw [if_pos h, if_pos h, List.map_cons, ← ih]
    · rw [if_neg h, if_neg h, ← ih]
theorem lg_int {n : Int} (h : n.natAbs ≤ 1000000000000000000000000) : n.natAbs.log2 < 9000 := by
  have := log_lt (n := n.natAbs) (k := 80) (Nat.lt_of_le_of_lt h (by decide))
  omega
/-- a def that is never called so -/
def spNev : Sp := fun _ _ _ _ => False
theorem Dn.never {P : Program} {w : World} {K : PySem.W.Frag} {mg : Str → Option Value} {base : Heap} {x : Str} {st : Stmt} {N ps : List Str} (D : Dn K mg x st ps) (S : FnScope N ps (defScope st)) : Cal P w K mg base x 1 ps spNev :=
  D.cal S (fun _ _ _ _ h => h.elim) (fun _ _ _ _ _ _ _ _ _ _ h => h.elim)
theorem ixNk {n j : Nat} (hj : j < n) : ixN n (j : Int) = some j := by
  have h1 : (0 : Int) ≤ (j : Int) := by omega
  have h2 : (j : Int) < (n : Int) := by omega
  unfold ixN
  rw [if_pos h1, if_pos h2, Int.toNat_natCast]
/-- targets within a comprehension -/
theorem pg_tupK {X : Cx} {K : PySem.W.Frag} {es : List Expr} {k : Nat} {pos : Pos} {t : TGs} {n : Nat} (hK : X.K = K) (hc : X.calm = true) (h : PGs X es t)
    (hn : (assignEach es X.env).length = n) (hst : (assignEach es X.env).findIdx? (·.1) = none) : PG X (.Tuple es k pos) (gTup K n t) := by
  subst hK
  exact pg_tup hc h hn hst
/-! ### tuples of ints -/
section
variable {K : PySem.W.Frag} {H : Hp}
def dIs (ns : List Int) : PyData := .tuple (ns.map PyData.int)
theorem lay_ints : ∀ ts : List Int, PyData.canLayAll0 (ts.map PyData.int) = true
  | [] => rfl
  | t :: ts => by
    show (PyData.canLay0 (.int t) && PyData.canLayAll0 (ts.map PyData.int)) = true
    rw [lay_ints ts]
    rfl
theorem depth_ints : ∀ ts : List Int, PyData.depthAll (ts.map PyData.int) ≤ 1
  | [] => by decide
  | t :: ts => by
    have := depth_ints ts
    show max (PyData.depth (.int t)) (PyData.depthAll (ts.map PyData.int)) ≤ 1
    have e : PyData.depth (.int t) = 0 := rfl
    omega
theorem shaped_ints (ts : List Int) : SeqAt.shaped (dIs ts) = true := by
  unfold SeqAt.shaped dIs
  have a : PyData.canLay0 (.tuple (ts.map PyData.int)) = true := lay_ints ts
  have b : PyData.depth (.tuple (ts.map PyData.int)) ≤ 64 := by
    have := depth_ints ts
    show PyData.depthAll (ts.map PyData.int) + 1 ≤ 64
    omega
  rw [a, decide_eq_true b]
  rfl
theorem eqvAll_ints : ∀ xs ys : List Int, PyData.eqvAll (xs.map PyData.int) (ys.map PyData.int) = decide (xs = ys)
  | [], [] => rfl
  | [], _ :: _ => rfl
  | _ :: _, [] => rfl
  | x :: xs, y :: ys => by
    show ((x == y) && PyData.eqvAll (xs.map PyData.int) (ys.map PyData.int)) = _
    rw [eqvAll_ints xs ys]
    by_cases h1 : x = y
    · by_cases h2 : xs = ys
      · simp [h1, h2]
      · simp [h2]
    · simp [h1]
theorem eqv_ints (xs ys : List Int) : PyData.eqv (dIs xs) (dIs ys) = decide (xs = ys) := eqvAll_ints xs ys
theorem dp_I {p : Addr} {ns : List Int} (h : H p = some (.tup (ns.map V.int))) : Dp K H (.ref p) (dIs ns) := .tup (SqT.of h) (dp_ints ns)
end
/-! ### sums, slices, multiples of tuples of any size; isinstance of several classes -/
theorem rd_catA {K : PySem.W.Frag} {x y : V} {H : Hp} {Q : VK} : rCatA K x y H Q = ∃ a b xs ys, x = .ref a ∧ y = .ref b ∧ SqT K H a xs ∧ SqT K H b ys ∧ xs.length + ys.length ≤ sizeLine ∧
  (xs = [] → Q (.ref b) H) ∧ (xs ≠ [] → ys = [] → Q (.ref a) H) ∧ (xs ≠ [] → ys ≠ [] → ∀ p, H p = none → Q (.ref p) (upd H p (.tup (xs ++ ys)))) := rfl
theorem rd_slA {K : PySem.W.Frag} {x : V} {lo hi : Option Int} {H : Hp} {Q : VK} : rSlA K x lo hi H Q = ∃ a xs, x = .ref a ∧ SqT K H a xs ∧
  (HT.sIx xs.length 0 lo = 0 ∧ HT.sIx xs.length xs.length hi = xs.length → Q (.ref a) H) ∧ (¬ (HT.sIx xs.length 0 lo = 0 ∧ HT.sIx xs.length xs.length hi = xs.length) → ∀ p, H p = none → Q (.ref p) (upd H p (.tup (cutV xs lo hi)))) := rfl
theorem rd_repT {K : PySem.W.Frag} {x y : V} {H : Hp} {Q : VK} : rRepT K x y H Q = ∃ l k xs, x = .ref l ∧ y = .int k ∧ SqT K H l xs ∧ xs ≠ [] ∧ 2 ≤ k ∧ k ≤ 1000 ∧ xs.length ≤ 1000 ∧ ∀ p, H p = none → Q (.ref p) (upd H p (.tup (List.replicate k.toNat xs).flatten)) := rfl
theorem rd_isiT {K : PySem.W.Frag} {xs : List V} {H : Hp} {Q : VK} : rIsiT K xs H Q = ∃ (x : V) (tp : Addr) (cs : List V) (t : Value) (us : List Value) (b : Bool), xs = [x, .ref tp] ∧ H tp = some (.tup cs) ∧ Paired ClsV cs us ∧ TyX K H x t ∧ PySem.W.kitAny K t us = some b ∧ Q (.bl b) H := rfl
theorem isiT_mk {K : PySem.W.Frag} {x : V} {T t1 t2 : String} {b1 b2 : Bool} {H : Hp} {tp : Addr} {Q : VK} (hT : H tp = some (.tup [.ty t1, .ty t2])) (ty : TyX K H x (.type T)) (e1 : kitB T t1 = some b1) (e2 : kitB T t2 = some b2) (q : Q (.bl (b1 || b2)) H) : rIsiT K [x, .ref tp] H Q := by
  refine ⟨x, tp, _, _, [.type t1, .type t2], b1 || b2, rfl, hT, .cons (.ty t1) (.cons (.ty t2) .nil), ty, kitAny_cons (kit_ty e1) (fun h => kitAny_cons (r := b1 || b2) (kit_ty e2) (fun h2 => ?_) (fun h2 => ?_)) (fun h => ?_), q⟩
  · rw [h, h2]; rfl
  · rw [h2, Bool.or_true]
  · rw [h]; rfl
/-! ### rows of ints that stand in a list or a tuple -/
def RowsAt (H : Hp) (xs : List V) (rs : List (List Int)) : Prop := xs.length = rs.length ∧ ∀ (i : Nat) (r : List Int), rs[i]? = some r → ∃ p : Addr, xs[i]? = some (V.ref p) ∧ H p = some (.tup (r.map V.int))
section
variable {K : PySem.W.Frag} {H H' : Hp} {xs : List V} {rs : List (List Int)}
theorem RowsAt.nil : RowsAt H [] [] := ⟨rfl, fun i r e => by simp at e⟩
theorem RowsAt.same (h : RowsAt H xs rs) (s : Same H H') : RowsAt H' xs rs := ⟨h.1, fun i r e => by
  obtain ⟨p, h1, h2⟩ := h.2 i r e
  exact ⟨p, h1, s _ _ h2⟩⟩
theorem RowsAt.snoc {p : Addr} {r : List Int} (h : RowsAt H xs rs) (hp : H p = some (.tup (r.map V.int))) : RowsAt H (xs ++ [V.ref p]) (rs ++ [r]) := by
  refine ⟨by rw [List.length_append, List.length_append, h.1]; rfl, fun i r' e => ?_⟩
  rcases Nat.lt_or_ge i rs.length with c | c
  · rw [List.getElem?_append_left c] at e
    rw [List.getElem?_append_left (by rw [h.1]; exact c)]
    exact h.2 i r' e
  · rw [List.getElem?_append_right c] at e
    rw [List.getElem?_append_right (by rw [h.1]; exact c), h.1]
    cases hi : i - rs.length with
    | zero =>
      rw [hi] at e
      cases e
      exact ⟨p, rfl, hp⟩
    | succ n => rw [hi] at e; simp at e
theorem RowsAt.get (h : RowsAt H xs rs) {i : Nat} {v : V} (e : xs[i]? = some v) : ∃ p r, v = .ref p ∧ rs[i]? = some r ∧ H p = some (.tup (r.map V.int)) := by
  have hi : i < rs.length := by
    rw [← h.1]
    exact (List.getElem?_eq_some_iff.mp e).1
  obtain ⟨p, h1, h2⟩ := h.2 i _ (List.getElem?_eq_getElem hi)
  rw [e] at h1
  cases h1
  exact ⟨p, _, rfl, List.getElem?_eq_getElem hi, h2⟩
theorem RowsAt.updL {D : Addr} {l : List V} {o : HO} (h : RowsAt H xs rs) (hD : H D = some (.lst l)) : RowsAt (upd H D o) xs rs := ⟨h.1, fun i r e => by
  obtain ⟨p, h1, h2⟩ := h.2 i r e
  refine ⟨p, h1, ?_⟩
  rw [upd_ne (ne_of h2 hD (by intro z; cases z))]
  exact h2⟩
end
end CB
/-! a list stored into a slice of a list: from a place on, and from a place on with a step -/
namespace CB
open PySem PySem.Spec PyProof.Rows L2
/-- the items behind the store -/
def putS {α : Type} (xs ys : List α) (d e st : Nat) : List α := if st = 1 then xs.take d ++ ys ++ xs.drop (max d e) else
  (((List.range ys.length).map fun k => d + st * k).zip ys).foldl (fun zs q => zs.set q.1 q.2) xs
theorem foldl_set_map {α β : Type} (f : α → β) : ∀ (ps : List (Nat × α)) (xs : List α), (ps.map fun q => (q.1, f q.2)).foldl (fun zs q => zs.set q.1 q.2) (xs.map f) = (ps.foldl (fun zs q => zs.set q.1 q.2) xs).map f
  | [], _ => rfl
  | q :: ps, xs => by
    show (ps.map fun q => (q.1, f q.2)).foldl (fun zs q => zs.set q.1 q.2) ((xs.map f).set q.1 (f q.2)) = _
    rw [← List.map_set, foldl_set_map f ps]
    rfl
theorem foldl_set_len {α : Type} : ∀ (ps : List (Nat × α)) (xs : List α), (ps.foldl (fun zs q => zs.set q.1 q.2) xs).length = xs.length
  | [], _ => rfl
  | q :: ps, xs => by
    show (ps.foldl (fun zs q => zs.set q.1 q.2) (xs.set q.1 q.2)).length = _
    rw [foldl_set_len ps, List.length_set]
theorem vals_foldl : ∀ {ys : List V} {us : List Value} (ks : List Nat) {xs : List V} {ts : List Value}, Vals ys us → Vals xs ts →
    Vals ((ks.zip ys).foldl (fun zs q => zs.set q.1 q.2) xs) ((ks.zip us).foldl (fun zs q => zs.set q.1 q.2) ts)
  | _, _, [], _, _, _, r => r
  | _, _, k :: ks, _, _, .nil, r => r
  | _, _, k :: ks, _, _, .cons h t, r => vals_foldl ks t (r.set h k)
theorem arr_foldl {α : Type} : ∀ (ps : List (Nat × α)) (xs : List α), ps.foldl (fun (zs : Array α) q => zs.setIfInBounds q.1 q.2) xs.toArray = (ps.foldl (fun zs q => zs.set q.1 q.2) xs).toArray
  | [], _ => rfl
  | q :: ps, xs => by
    show ps.foldl _ (xs.toArray.setIfInBounds q.1 q.2) = _
    rw [List.setIfInBounds_toArray, arr_foldl ps]
    rfl
section
variable {prog : Program} {w : World} {A : Around} {E : Value → Shared → Prop} {s : Shared}
theorem bounds_from {d n : Nat} {st : Option Int} (hd : d ≤ n) (h1 : 0 < st.getD 1) : sliceBounds (some (d : Int)) none st n = ((d : Int), (n : Int), st.getD 1) := by
  simp only [sliceBounds]
  have a : ¬ ((d : Int) < 0) := by omega
  simp only [a, h1, gt_iff_lt, if_true, if_false]
  congr 1
  omega
/-- the write of a list's slots, whatever it is -/
theorem store_slice {l b sl : Addr} {us ws : Array Value} {n m d st : Nat} {vl vs : Value} {so : Option Int} {Q : Unit → Shared → Prop}
    (hl : s.heap.get? l = some { cls := .type "list", data := .seq us n }) (hb : s.heap.get? b = some { cls := .type "list", data := .seq ws m }) (ne : l ≠ b)
    (hs : s.heap.IsSliceOf sl vl .none vs) (pl : IsPart vl (some (d : Int))) (ps : IsPart vs so) (hso : so.getD 1 = (st : Int)) (s0 : 0 < st) (hd : d ≤ us.size)
    (hz : us.size + ws.size ≤ sizeLine) (hc : st ≠ 1 → ws.size = (sliceRange (d : Int) (us.size : Int) (st : Int)).length)
    (h : Q () { s with heap := s.heap.update l (Obj.mapSeq fun xs => if st = 1 then xs.extract 0 d ++ ws ++ xs.extract (max d us.size) xs.size else
      ((sliceRange (d : Int) (us.size : Int) (st : Int)).zip ws.toList).foldl (fun xs q => xs.setIfInBounds q.1 q.2) xs) }) :
    wpAny (model prog w) A (setItem (.ref l) (.ref sl) (.ref b)) Q E s := by
  have il := PySem.IsL.isList hl
  have ib := PySem.IsL.isList hb
  obtain ⟨os, hos, hcs, hds⟩ := id hs
  have ty : s.TypeIs (.ref sl) "slice" := ⟨os, hos, hcs⟩
  have s1 : so ≠ some 0 := fun z => by rw [z] at hso; have : (0 : Int) = (st : Int) := hso; omega
  have raw0 : ¬ ((rawPart so == rawInt 0) = true) := by
    cases so with
    | none => exact Bool.false_ne_true
    | some c => exact fun z => s1 (by have : c = 0 := by simpa [rawPart, rawInt] using z
                                      rw [this])
  have diff : Builtin.List.listSameRef (.ref l) (.ref b) = false := beq_eq_false_iff_ne.mpr ne
  have mx : (max (d : Int) (us.size : Int)).toNat = max d us.size := by omega
  unfold setItem
  try with_reducible refine wpAny_holding ?_
  first | refine wpAny_bind (wpAny_pure ?_) | skip
  refine wpAny_bind (wpAny_sequenceKey il.typeIs (by decide) (wpAny_bind (wpAny_callSpecial?_slot (name := Str.ofString "__setitem__") il.typeIs slot_list_setitem (wpAny_call_entry slot_list_setitem il.typeIs entry_list_setitem ?_ (args_list_setitem _ _ _)))))
  show wpAny _ _ (Builtin.List.listSubscript? (.ref sl) >>= fun _ => _) _ _ s
  refine wpAny_bind (m := Builtin.List.listSubscript? (.ref sl)) ?_
  unfold Builtin.List.listSubscript?
  refine wpAny_bind (wpAny_specialOf ty slice_no_index ?_)
  rw [if_pos (by rfl)]
  refine wpAny_pure ?_
  show wpAny _ _ (typeOf (.ref sl) >>= fun _ => _) _ _ s
  refine wpAny_bind (wpAny_typeOf ty ?_)
  first | rw [if_neg (by decide)] | refine PySem.W.KFB.if_not (by decide) ?_
  rw [listSliceParts_eq]
  refine wpAny_bind (wpAny_bind (wpAny_field hos hds (x := vs) rfl (wpAny_bind (wpAny_listPart ps ?_))))
  rw [if_neg raw0]
  refine wpAny_bind (wpAny_field hos hds (x := vl) rfl (wpAny_bind (wpAny_listPart pl (wpAny_bind (wpAny_field hos hds (x := .none) rfl (wpAny_bind (wpAny_listPart .none (wpAny_pure ?_))))))))
  first
    | refine PySem.W.KFB.if_not diff ?_
    | (dsimp only
       rw [if_neg (by rw [diff]; exact Bool.false_ne_true)])
  refine wpAny_bind (m := Builtin.List.listAllItems (.ref b) "must assign iterable to extended slice") ?_
  unfold Builtin.List.listAllItems
  refine wpAny_bind (wpAny_typeOf ib.typeIs ?_)
  first | refine PySem.W.KFB.if_so (by decide) ?_ | rw [if_pos (by decide)]
  unfold Builtin.List.listItems
  refine wpAny_bind (wpAny_seqItems hb rfl (wpAny_pure (wpAny_bind (wpAny_bind (wpAny_seqItems hl rfl (wpAny_pure ?_))))))
  refine wpAny_bind (wpAny_of_eq ((sliceIndices_raw (some (d : Int)) none so us.size s1).trans (congrArg (pure : Int × Int × Int → Sem (Int × Int × Int)) (bounds_from hd (by omega)))) ?_)
  rw [hso]
  show wpAny _ _ (if ((st : Int) == 1) = true then _ else _) _ _ s
  by_cases one : st = 1
  · subst one
    rw [if_pos (by decide)]
    refine wpAny_bind (wpAny_rule ?_)
    first | refine PySem.W.KFB.if_not (notLongL hz) ?_ | (rw [notLongL hz, if_neg Bool.false_ne_true])
    first | refine wpAny_bind (wpAny_pure ?_) | skip
    show wpAny _ _ (updateSeq l (fun xs => xs.extract 0 ((d : Int)).toNat ++ ws ++ xs.extract (max (d : Int) (us.size : Int)).toNat xs.size) >>= fun _ => _) _ _ s
    rw [mx, Int.toNat_natCast]
    refine wpAny_bind (wpAny_updateSeq (hz := by omega) (_hz' := by simp only [Array.size_append, Array.size_extract]; omega) hl rfl ?_)
    refine wpAny_bind (wpAny_letGo ?_)
    first
      | exact wpAny_bind (wpAny_pure (wpAny_pure ⟨.none, rfl, wpAny_pure h⟩))
      | exact wpAny_pure ⟨.none, rfl, wpAny_pure h⟩
  · rw [if_neg (by rw [beq_iff_eq]; omega)]
    have hc := hc one
    have np : (ws.size != (sliceRange (d : Int) (us.size : Int) (st : Int)).length) = false := by rw [hc]; exact bne_self_eq_false _
    first | refine PySem.W.KFB.if_not np ?_ | (dsimp only; rw [np, if_neg Bool.false_ne_true])
    first | refine wpAny_bind (wpAny_pure ?_) | skip
    refine wpAny_bind (wpAny_rule ?_)
    have z2 : ∀ (ps : List (Nat × Value)) (xs : Array Value), (ps.foldl (fun xs q => xs.setIfInBounds q.1 q.2) xs).size = xs.size := by
      intro ps
      induction ps with
      | nil => intro xs; rfl
      | cons q ps ih => intro xs; exact (ih _).trans (Array.size_setIfInBounds ..)
    show wpAny _ _ (updateSeq l (fun xs => ((sliceRange (d : Int) (us.size : Int) (st : Int)).zip ws.toList).foldl (fun xs q => xs.setIfInBounds q.1 q.2) xs) >>= fun _ => _) _ _ s
    refine wpAny_bind (wpAny_updateSeq (hz := by omega) (_hz' := by rw [z2]; omega) hl rfl ?_)
    simp only [if_neg one] at h
    refine wpAny_bind (wpAny_letGo ?_)
    first
      | exact wpAny_bind (wpAny_pure (wpAny_pure ⟨.none, rfl, wpAny_pure h⟩))
      | exact wpAny_pure ⟨.none, rfl, wpAny_pure h⟩
theorem range_from {d n st : Nat} (s0 : 0 < st) : sliceRange (d : Int) (n : Int) (st : Int) = (List.range ((n - d + (st - 1)) / st)).map fun k => d + st * k := by
  unfold sliceRange
  rw [if_pos (show (st : Int) > 0 by omega)]
  have e : (if (d : Int) < (n : Int) then ((n : Int) - d + st - 1) / (st : Int) else 0).toNat = (n - d + (st - 1)) / st := by
    by_cases c : d < n
    · rw [if_pos (by omega)]
      have : (n : Int) - d + st - 1 = ((n - d + (st - 1) : Nat) : Int) := by omega
      rw [this]
      show (((n - d + (st - 1)) / st : Nat) : Int).toNat = _
      rw [Int.toNat_natCast]
    · rw [if_neg (by omega)]
      have : n - d = 0 := by omega
      rw [this, Nat.zero_add, Nat.div_eq_of_lt (by omega)]
      rfl
  show List.map _ (List.range (if (d : Int) < (n : Int) then ((n : Int) - d + st - 1) / (st : Int) else 0).toNat) = _
  rw [e]
  refine List.map_congr_left fun k _ => ?_
  show ((d : Int) + (st : Int) * (k : Int)).toNat = _
  have : (st : Int) * (k : Int) = ((st * k : Nat) : Int) := (Int.natCast_mul _ _).symm
  rw [this]
  omega
end
section
variable {X : Cx} {pos p2 : Pos}
/-- o[lo:] = v, o[lo::st] = v: by values -/
def rPutS : V → Option Int → Option Int → V → Hp → (Hp → Prop) → Prop := fun o lo so v H Q => ∃ (l b : Addr) (xs ys : List V) (d st : Nat), o = .ref l ∧ v = .ref b ∧ l ≠ b ∧ H l = some (.lst xs) ∧ H b = some (.lst ys) ∧
  lo = some (d : Int) ∧ so.getD 1 = (st : Int) ∧ 0 < st ∧ d ≤ xs.length ∧ xs.length + ys.length ≤ sizeLine ∧ (st ≠ 1 → ys.length = (xs.length - d + (st - 1)) / st) ∧ Q (upd H l (.lst (putS xs ys d xs.length st)))
theorem put_slice {pins : List (Addr × Obj)} {s : Shared} {σ : L2.St} {H : Hp} {o v : V} {lo so : Option Int} {ov u vl vs : Value} {sl : Addr} {Q : Hp → Prop} (I : Inv X pins σ H s) (ro : RelV o ov) (rv : RelV v u)
    (hs : s.heap.IsSliceOf sl vl .none vs) (pl : IsPart vl lo) (ps : IsPart vs so) (h : rPutS o lo so v H Q) : wpAny (model X.prog X.w) X.A (setItem ov (.ref sl) u) (fun _ s' => ∃ H', Inv X pins σ H' s' ∧ Q H') X.xe s := by
  obtain ⟨l, b, xs, ys, d, st, rfl, rfl, ne, hl, hb, rfl, hst, s0, hd, hz, hc, q⟩ := h
  cases ro
  cases rv
  obtain ⟨z, its, n, r, el, e⟩ := I.lstM hl
  obtain ⟨z2, ws, m, r2, el2, e2⟩ := I.lstM hb
  refine store_slice (d := d) (st := st) e e2 ne hs pl ps hst s0 (by rw [List.size_toArray]; omega) (by rw [List.size_toArray, List.size_toArray]; omega) (fun c => ?_) ⟨_, ?_, q⟩
  · rw [range_from s0, List.length_map, List.length_range, List.size_toArray, List.size_toArray, ← el2, ← el]
    exact hc c
  · unfold putS
    by_cases one : st = 1
    · refine I.lset (its' := its.take d ++ ws ++ its.drop (max d xs.length)) (t' := s.toks) hl e ?_ ?_ ?_
      · simp only [if_pos one]
        show its.toArray.extract 0 d ++ ws.toArray ++ its.toArray.extract (max d its.toArray.size) its.toArray.size = _
        rw [splice_eq, List.size_toArray, ← el]
      · rw [if_pos one]
        exact Vals.append (Vals.append (r.take _) r2) (r.drop _)
      · rw [if_pos one, List.length_append, List.length_append, List.length_take, List.length_drop]
        omega
    · refine I.lset (its' := (((List.range ys.length).map fun k => d + st * k).zip ws).foldl (fun zs q => zs.set q.1 q.2) its) (t' := s.toks) hl e ?_ ?_ ?_
      · simp only [if_neg one]
        show ((sliceRange (d : Int) (its.toArray.size : Int) (st : Int)).zip ws).foldl (fun xs q => xs.setIfInBounds q.1 q.2) its.toArray = _
        rw [arr_foldl, range_from s0, List.size_toArray, ← el, hc one]
      · rw [if_neg one]
        exact vals_foldl _ r2 r
      · rw [if_neg one, foldl_set_len]
        omega
def gPutS (te : TE) (tl ts : TO) : TG := fun v σ H Q => te σ H fun o H1 => tl σ H1 fun lo H2 => ts σ H2 fun so H3 => rPutS o lo so v H3 fun H4 => Q σ H4
theorem pg_putS {rl : Value → Value → Value → List Value} {o : Expr} {lo so : Option Expr} {te : TE} {tl ts : TO} (ho : PE X o te) (hl : PO X lo tl) (hs : PO X so ts)
    (ha : ∀ v, assign (.Subscript o (.Slice lo none so p2) pos) X.env v = (do
      let a ← holding [v] (eval o X.env)
      let i ← holding [v, a] (eval (.Slice lo none so p2) X.env)
      standAt pos
      holding [v, a, i] (setItem a i v)
      release (rl v a i) []) := by intro _; rfl) : PG X (.Subscript o (.Slice lo none so p2) pos) (gPutS te tl ts) := by
  refine ⟨fun pins s σ H v u Q I r h => ?_⟩
  rw [ha]
  refine wpAny_bind (wpAny_holding (thn (ho.run pins s σ H _ I h) fun a s1 ⟨x, H1, I1, r1, q1⟩ => ?_))
  refine wpAny_bind (wpAny_holding ?_)
  refine wpAny_Slice (thn (hl.run pins s1 σ H1 _ I1 q1) fun vl s2 ⟨lo, H2, I2, pl, q2⟩ => ?_)
  rw [evalPart_none]
  refine wpAny_pure (thn (hs.run pins s2 σ H2 _ I2 q2) fun vs s3 ⟨so, H3, I3, ps, q3⟩ => ?_)
  have I4 : Inv X pins σ H3 { s3 with heap := s3.heap.push { cls := .type "slice", data := .fields #[vl, .none, vs] } } := I3.kept (t' := s3.toks) fun b ob q => Heap.get?_push_of_some _ q
  refine wpAny_bind (wpAny_standAt (wpAny_bind (wpAny_holding (thn (put_slice (sl := s3.heap.objs.size) I4 r1 r (Heap.IsSliceOf.new ..) pl ps q3) fun _ s5 ⟨H5, I5, q5⟩ => ?_))))
  exact wpAny_release ⟨σ, H5, I5, q5⟩
theorem rd_putS {te : TE} {tl ts : TO} : gPutS te tl ts v σ H Q = te σ H fun o H1 => tl σ H1 fun lo H2 => ts σ H2 fun so H3 => rPutS o lo so v H3 fun H4 => Q σ H4 := rfl
theorem rPutS.w {l b : Addr} {xs ys : List V} {d st : Nat} {lo so : Option Int} {H : Hp} {Q : Hp → Prop} (ne : l ≠ b) (hl : H l = some (.lst xs)) (hb : H b = some (.lst ys)) (e1 : lo = some (d : Int)) (e2 : so.getD 1 = (st : Int)) (s0 : 0 < st)
    (hd : d ≤ xs.length) (hz : xs.length + ys.length ≤ sizeLine) (hc : st ≠ 1 → ys.length = (xs.length - d + (st - 1)) / st) (q : Q (upd H l (.lst (putS xs ys d xs.length st)))) : rPutS (.ref l) lo so (.ref b) H Q :=
  ⟨l, b, xs, ys, d, st, rfl, rfl, ne, hl, hb, e1, e2, s0, hd, hz, hc, q⟩
end
end CB
namespace CB
open PySem PySem.Spec PyProof.Rows L2
/-! ### Refused alone, where a law has no Malformed -/
structure ErrP (K : PySem.W.Frag) (mg : Str → Option Value) (C f : Addr) : Prop where
  g : mg "Refused" = some (.ref C)
  ox : OexC K C
  i : PySem.W.findIn K (.ref C) "__init__" = some (some (.ref f))
  t : PySem.W.typeIn K (.ref f) = some (.type "function")
  n : PySem.W.findIn K (.ref C) "reason" = some none
  xf : XfC K C
  rr : PySem.W.exmOne K (.ref C) (.ref C) = some true
structure ErrQ (P : Program) (w : World) (K : PySem.W.Frag) (mg : Str → Option Value) (base : Heap) (C : Addr) : Prop where
  r : ∃ f fd, ErrP K mg C f ∧ FnOk P w K mg base CX0 1 f fd ["self", "reason"] (spRI K) ∧ Binds K fd ["self", "reason"] []
theorem ps_refQ {X : Cx} {W : WX} {C : Addr} {m : Str} {j : Nat} {p p2 pos pp : Pos} (E : ErrQ X.prog X.w X.K X.mg X.base C) (hc : X.calm = true) (tk : Takes X W) (hr : Room 2 X.A) (hg : Gl X "Refused") (hs : starEach [Expr.Constant (.str m) j p2] X.env = (false, eval (Expr.Constant (.str m) j p2) X.env) :: starEach [] X.env := by rfl)
    (hpl : (backTo pos (starEach [] X.env)).any (·.1) = false := by rfl) :
    PS X (.Raise (some (.Call (.Name "Refused" p) [.Constant (.str m) j p2] [] pos)) none pp) (fun _ σ H => ∀ d H', Same H H' → H d = none → H' d = some (.xd [("reason", .str m)]) → W (.ref C) (some d) σ H') := by
  obtain ⟨f, fd, R, F, b⟩ := E.r
  refine ⟨fun pins s σ H D I h => ?_⟩
  refine (ps_raise hc tk (pmk_oex R.ox R.i R.t F hr b .nil pass0 hg R.g (pa_cons pe_str pa_nil hs) rfl hs hpl)).run pins s σ H D I ?_
  show ([V.str m].length ≤ 1000 ∧ _)
  refine ⟨by show 1 ≤ 1000; decide, fun a na => ⟨a, C, .str m, rfl, R.ox, R.n, upd_same, fun dx ndx ne => ⟨rfl, dx, [("reason", .str m)], upd_same, ?_, ?_, ?_⟩⟩⟩
  · rw [upd_ne ne, upd_same]
  · rw [upd_ne ne] at ndx
    exact ndx
  · rw [upd_ne ne] at ndx
    refine h dx _ (fun b o e => ?_) ndx upd_same
    have hbd : b ≠ dx := ne_of_none e ndx
    have hba : b ≠ a := ne_of_none e na
    rw [upd_ne hbd, del_ne hba, upd_ne hba, upd_ne hbd, upd_ne hba]
    exact e
end CB
namespace CB
open PySem PySem.Spec PyProof.Rows L2
/-- a tuple of ints that a module's name holds -/
abbrev TC (K : PySem.W.Frag) (mg : Str → Option Value) (x : Str) (ns : List Int) : Prop := ∃ a : Addr, mg x = some (.ref a) ∧ ∀ H : Hp, SqT K H a (ns.map V.int)
end CB
namespace CB
open PySem PySem.Spec PyProof.Rows L2
/-- a loop whose test leaves another heap -/
theorem while_h {c : TT} {tb : TS} {D : Ends} {σ : L2.St} {H : Hp} (Pw : L2.St → Hp → Prop) (μ : L2.St → Hp → Nat) (h0 : Pw σ H)
    (hs : ∀ σ H, Pw σ H → ∀ N : L2.St → Hp → Prop, (∀ σ' H', Pw σ' H' → μ σ' H' < μ σ H → N σ' H') →
      ∀ R : Bool → Hp → Prop, (∀ H1, tb { D with nx := N, ct := N, bk := D.nx } σ H1 → R true H1) → (∀ H1, D.nx σ H1 → R false H1) → c σ H R) : tWhile c tb D σ H := by
  refine ⟨fun m σ H => m = μ σ H ∧ Pw σ H, ⟨_, rfl, h0⟩, ?_⟩
  rintro m σ H ⟨rfl, p⟩
  refine hs σ H p (fun σ' H' => Pw σ' H' ∧ μ σ' H' < μ σ H) (fun σ' H' a b => ⟨a, b⟩) _ (fun H1 h => ?_) (fun H1 h => ?_)
  · rw [if_pos rfl]
    exact ⟨_, fun σ' H' ⟨p', l⟩ => ⟨_, l, rfl, p'⟩, h⟩
  · rw [if_neg Bool.false_ne_true]
    exact h
end CB
namespace CB
open PySem PySem.Spec PyProof.Rows L2
/-- a value's truth within a comprehension -/
theorem pt_truthK {X : Cx} {K : PySem.W.Frag} (h : X.K = K) {a : Expr} {ta : TE} (ha : PE X a ta) (he : ∀ whole, isTrue a X.env whole = (do let v ← whole; standAt a.pos; holding [v] (truthy v))) :
    PT X a (fun σ H Q => ta σ H fun x H' => ∃ k, TruV K x H' k ∧ Q k H') := by
  subst h
  exact pt_truth ha he
end CB
/-! zip of two, each a list or a tuple -/
namespace CB
open PySem PySem.Spec PyProof.Rows L2
/-- a tuple (true) or a list -/
def SqB (t : Bool) (K : PySem.W.Frag) (H : Hp) (a : Addr) (xs : List V) : Prop := match t with
  | true => SqT K H a xs
  | false => SqL K H a xs
def ItB (t : Bool) (h : Heap) (it a : Addr) (i : Nat) : Prop := match t with
  | true => h.IsTupleIter it a i
  | false => h.IsListIter it a i
def HsB (t : Bool) (h : Heap) (a : Addr) (us : Array Value) : Prop := match t with
  | true => h.IsTuple a us
  | false => h.IsList a us
def obB (t : Bool) (a : Addr) : Obj := match t with
  | true => { cls := .type "tuple_iterator", data := .fields #[.ref a, .int 0 0] }
  | false => { cls := .type "list_iterator", data := .fields #[.ref a, .int 0 0] }
theorem SqB.inj {X : Cx} {pins : List (Addr × Obj)} {σ : L2.St} {H : Hp} {s : Shared} {t : Bool} {a : Addr} {xs ys : List V} (I : Inv X pins σ H s) (h : SqB t X.K H a xs) (h' : SqB t X.K H a ys) : xs = ys := by
  cases t with
  | true => exact I.tuple_inj h h'
  | false => exact I.list_inj h h'
theorem SqB.laid {X : Cx} {pins : List (Addr × Obj)} {σ : L2.St} {H : Hp} {s : Shared} {t : Bool} {a : Addr} {xs : List V} (I : Inv X pins σ H s) (h : SqB t X.K H a xs) : ∃ us : List Value, Vals xs us ∧ HsB t s.heap a us.toArray := by
  cases t with
  | true =>
    obtain ⟨us, r, p, _⟩ := I.tuple h
    exact ⟨us, r, p⟩
  | false =>
    obtain ⟨us, r, p, _⟩ := I.list h
    exact ⟨us, r, p.isList⟩
theorem HsB.lt {t : Bool} {h : Heap} {a : Addr} {us : Array Value} (p : HsB t h a us) : a < h.objs.size := by
  cases t with
  | true => obtain ⟨_, e, _⟩ := p; exact Heap.lt_size e
  | false => obtain ⟨_, e, _⟩ := p; exact Heap.lt_size e
theorem HsB.at {t : Bool} {h h' : Heap} {a : Addr} {us : Array Value} (p : HsB t h a us) (k : ∀ o, h.get? a = some o → h'.get? a = some o) : HsB t h' a us := by
  cases t with
  | true => exact Heap.IsTuple.at p k
  | false => exact Heap.IsList.at p k
theorem ItB.at {t : Bool} {h h' : Heap} {it a : Addr} {i : Nat} (p : ItB t h it a i) (k : ∀ o, h.get? it = some o → h'.get? it = some o) : ItB t h' it a i := by
  cases t with
  | true => exact Heap.IsTupleIter.at p k
  | false => exact Heap.IsListIter.at p k
theorem ItB.ob {t : Bool} {h : Heap} {it a : Addr} {i : Nat} (p : ItB t h it a i) : ∃ o, h.get? it = some o ∧ ∀ v, o.data ≠ .cell v := by
  cases t with
  | true => obtain ⟨o, e, _, d⟩ := p; exact ⟨o, e, fun v q => by rw [d] at q; cases q⟩
  | false => obtain ⟨o, e, _, d⟩ := p; exact ⟨o, e, fun v q => by rw [d] at q; cases q⟩
theorem drawsB {prog : Program} {w : World} {A : Around} (t : Bool) (hh : A.handled = none) (it a : Addr) (hne : a ≠ it) (us : Array Value) :
    Draws prog w A it [it, a] us.size (fun i v => us[i]? = some v) (fun i h => ItB t h it a i ∧ HsB t h a us) := by
  cases t with
  | true => exact Draws.tuple hh it a hne us
  | false => exact Draws.list hh it a hne us
theorem beginsB (t : Bool) (a : Addr) (us : Array Value) : Begins (.ref a) (obB t a) fun h => HsB t h a us := by
  cases t with
  | true => exact begins_tuple a us
  | false => exact begins_list a us
theorem itB_new {t : Bool} {h : Heap} {it a : Addr} (e : h.get? it = some (obB t a)) : ItB t h it a 0 := by
  cases t with
  | true => exact ⟨_, e, rfl, rfl⟩
  | false => exact ⟨_, e, rfl, rfl⟩
/-- what stands at a and b at each turn, the items in new pairs -/
def Itm (s t : Bool) (K : PySem.W.Frag) (a b : Addr) : It where
  go := fun i H => ∃ (xs ys : List V) (x y : V), (SqB s K H a xs ∧ xs[i]? = some x) ∧ SqB t K H b ys ∧ ys[i]? = some y
  yld := fun i H v H' => ∃ T x y, v = .ref T ∧ H T = none ∧ H' = upd H T (.tup [x, y]) ∧ (∀ xs, SqB s K H a xs → xs[i]? = some x) ∧ (∀ ys, SqB t K H b ys → ys[i]? = some y)
  stop := fun i H => ∃ xs ys : List V, (SqB s K H a xs ∧ SqB t K H b ys) ∧ i ≤ xs.length ∧ i ≤ ys.length ∧ (i = xs.length ∨ i = ys.length)
/-- the state of a zip's own objects -/
def ZpB (s t : Bool) (a b z TI TO i1 i2 : Addr) (i : Nat) (h : Heap) : Prop :=
  IsZip h z TI TO .none ∧ IsTupOf2 h TI (.ref i1) (.ref i2) ∧ (∃ x y, IsTupOf2 h TO x y) ∧ ItB s h i1 a i ∧ ItB t h i2 b i
theorem nm2 {x y z : Addr} (h1 : x ≠ y) (h2 : x ≠ z) : x ∉ [y, z] := fun h => by
  rcases List.mem_cons.mp h with e | e
  · exact h1 e
  · exact h2 (List.mem_singleton.mp e)
theorem fp5 {z TI TO i1 i2 c : Addr} {p : Addr → Prop} (hc : c ∈ [z, TI, TO, i1, i2]) (h0 : p z) (h1 : p TI) (h2 : p TO) (h3 : p i1) (h4 : p i2) : p c := by
  simp only [List.mem_cons, List.not_mem_nil, or_false] at hc
  rcases hc with rfl | rfl | rfl | rfl | rfl <;> assumption
theorem turn_zipM {P : Program} {w : World} {K : PySem.W.Frag} {elts : List Expr} {kk : Nat} {tpos : Pos} (s t : Bool) {a b z TI TO i1 i2 : Addr} (S : ZipSep2 z TI TO i1 i2 [i1, a] [i2, b]) (n1 : a ≠ i1) (n2 : b ≠ i2) :
    Turn P w K (.Tuple elts kk tpos) (Itm s t K a b) [z, TI, TO, i1, i2] z (ZpB s t a b z TI TO i1 i2) where
  mem := List.mem_cons_self
  obj := fun i h st c hc => by
    obtain ⟨q0, q1, ⟨x, y, q2⟩, q3, q4⟩ := st
    exact fp5 (p := fun c => ∃ o, h.get? c = some o ∧ ∀ v, o.data ≠ .cell v) hc ⟨_, q0, fun _ e => nomatch e⟩ ⟨_, q1, fun _ e => nomatch e⟩ ⟨_, q2, fun _ e => nomatch e⟩ q3.ob q4.ob
  keep := fun i h h1 st k => by
    obtain ⟨q0, q1, ⟨x, y, q2⟩, q3, q4⟩ := st
    exact ⟨k z (by simp) _ q0, k TI (by simp) _ q1, ⟨x, y, k TO (by simp) _ q2⟩, q3.at (k i1 (by simp)), q4.at (k i2 (by simp))⟩
  item := by
    intro X hP hw hK hcalm i pins sh σ H E I hf st hgo
    subst hP hw hK
    obtain ⟨q0, q1, ⟨x0, y0, q2⟩, q3, q4⟩ := st
    obtain ⟨xs, ys, x, y, ⟨hxs, hx⟩, hys, hy⟩ := hgo
    obtain ⟨us, r1, p1⟩ := hxs.laid I
    obtain ⟨vs, r2, p2⟩ := hys.laid I
    obtain ⟨u, hu, ru⟩ := r1.get hx
    obtain ⟨v, hv, rv⟩ := r2.get hy
    have lz : z < sh.heap.objs.size := Heap.lt_size q0
    have iu : i < us.toArray.size := by
      rw [List.size_toArray]
      exact (List.getElem?_eq_some_iff.mp hu).1
    have iv : i < vs.toArray.size := by
      rw [List.size_toArray]
      exact (List.getElem?_eq_some_iff.mp hv).1
    refine wpAny_pyNext_zipD2_item S (drawsB s (A := X.A.in1) (I.ok.hd hcalm) i1 a n1 us.toArray) (drawsB t (A := X.A.in1) (I.ok.hd hcalm) i2 b n2 vs.toArray) q0 q1 q2 ⟨q3, p1⟩ ⟨q4, p2⟩ iu iv fun u' v' h1 tk eu ev z1 T1 s1 s2 nT sz k => ?_
    have eu : u' = u := by
      have e : us[i]? = some u' := by simpa using eu
      rw [hu] at e
      exact (Option.some.inj e).symm
    have ev : v' = v := by
      have e : vs[i]? = some v' := by simpa using ev
      rw [hv] at e
      exact (Option.some.inj e).symm
    subst eu ev
    refine ⟨_, rfl, wpAny_letOwnedTupleGo_zip (s := { sh with heap := h1, toks := tk }) z1 fun h2 z2 sb => ?_⟩
    have nT2 : h2.get? sh.heap.objs.size = some { cls := .type "tuple", data := .seq #[u', v'] } := (sb.2 _ (Nat.ne_of_gt lz)).trans nT
    have new : ObjOk X.prog X.w (upd H sh.heap.objs.size (.tup [x, y])) h2 sh.heap.objs.size (.tup [x, y]) :=
      ⟨by show 2 ≤ sizeLine; decide, [u', v'], .cons ru (.cons rv .nil), ⟨_, nT2, rfl, _, rfl⟩⟩
    have kk : ∀ c o, c ∉ [z, TI, TO, i1, i2] → sh.heap.get? c = some o → h2.get? c = some o := fun c o hc e =>
      (sb.2 c fun z => hc (by simp [z])).trans (k c o (fun z => hc (by simp [z])) (fun z => hc (by simp [z])) (fun z => hc (by simp [z])) (fun z => hc (by simp [z])) e)
    have I2 : Inv X pins σ (upd H sh.heap.objs.size (.tup [x, y])) { sh with heap := h2, toks := tk } := I.turnedNew (ch := [z, TI, TO, i1, i2]) kk hf (Nat.le_refl _) new
    have old : ∀ c o, sh.heap.get? c = some o → c ≠ sh.heap.objs.size := fun c o e => Nat.ne_of_lt (Heap.lt_size e)
    refine ⟨.ref sh.heap.objs.size, _, I2, rfl, ⟨_, x, y, rfl, I.hok.fresh (Nat.le_refl _), rfl, fun l hl => by rw [hl.inj I hxs]; exact hx, fun l hl => by rw [hl.inj I hys]; exact hy⟩, ⟨z2, ?_, ⟨u', v', ?_⟩, ?_, ?_⟩, fun c hc => ?_⟩
    · exact (sb.2 _ S.TIz).trans (k _ _ S.TIz S.TITO S.TIi1 S.TIi2 q1)
    · exact (sb.2 _ S.TOz).trans T1
    · exact s1.1.at fun o e => (sb.2 i1 S.zi1.symm).trans e
    · exact s2.1.at fun o e => (sb.2 i2 S.zi2.symm).trans e
    · have ne : c ≠ sh.heap.objs.size := fp5 (p := fun c => c ≠ sh.heap.objs.size) hc (old _ _ q0) (old _ _ q1) (old _ _ q2) (by obtain ⟨o, e, _⟩ := q3.ob; exact old _ _ e) (by obtain ⟨o, e, _⟩ := q4.ob; exact old _ _ e)
      rw [upd_ne ne]
      exact (hf c hc).1
  done := by
    intro X hP hw hK hcalm i pins sh σ H E I hf st hstop
    subst hP hw hK
    obtain ⟨q0, q1, ⟨x0, y0, q2⟩, q3, q4⟩ := st
    obtain ⟨xs, ys, ⟨hxs, hys⟩, l1, l2, he⟩ := hstop
    obtain ⟨us, r1, p1⟩ := hxs.laid I
    obtain ⟨vs, r2, p2⟩ := hys.laid I
    have e1 : us.toArray.size = xs.length := by rw [List.size_toArray, r1.length]
    have e2 : vs.toArray.size = ys.length := by rw [List.size_toArray, r2.length]
    refine wpAny_pyNext_zipD2_end S (drawsB s (A := X.A.in1) (I.ok.hd hcalm) i1 a n1 us.toArray) (drawsB t (A := X.A.in1) (I.ok.hd hcalm) i2 b n2 vs.toArray) q0 q1 q2 ⟨q3, p1⟩ ⟨q4, p2⟩ (by omega) (by omega) (by omega) fun h1 tk k => ?_
    exact ⟨rfl, I.turnedL (ch := [z, TI, TO, i1, i2]) (fun c o hc e => k c o (fun z => hc (by simp [z])) (fun z => hc (by simp [z])) (fun z => hc (by simp [z])) (fun z => hc (by simp [z])) e) hf⟩
  self := fun A i sh Q E st h => wpAny_pyIter_zip st.1 h
/-- zip(e, e2), the kinds of both told -/
def iZipM (s t : Bool) (K : PySem.W.Frag) (ta : TA) : TI := fun σ H R => ta σ H fun vs H1 => ∃ a b xs ys, vs = [.ref a, .ref b] ∧ SqB s K H1 a xs ∧ SqB t K H1 b ys ∧ R (Itm s t K a b) H1
theorem pi_zipM {X : Cx} {e e2 : Expr} {ta : TA} {p pos tpos : Pos} {elts : List Expr} {kk : Nat} (s t : Bool) (hg : Gl X "zip") (hm : X.mg "zip" = none) (ha : PA X [e, e2] ta)
    (hs : starEach [e, e2] X.env = (false, eval e X.env) :: starEach [e2] X.env := by rfl) (hpl : (backTo pos (starEach [e2] X.env)).any (·.1) = false := by rfl) :
    PI X (.Tuple elts kk tpos) (.Call (.Name "zip" p) [e, e2] [] pos) (iZipM s t X.K ta) := by
  refine ⟨fun pins sh σ H R I h => ?_⟩
  refine Call_ (ld_blt I hg hm PyProof.Rows.boot_zip (PyProof.Rows.callWith_type1 (thn (ha.run pos pins sh σ H _ I h) fun us s1 ⟨vs, H1, I1, rr, a, b, xs, ys, ex, hx, hy, q⟩ => ?_) hs hpl))
  subst ex
  obtain ⟨u1, u2, rfl, ra, rb⟩ := vals2 rr
  cases ra
  cases rb
  obtain ⟨us, r1, p1⟩ := hx.laid I1
  obtain ⟨ws, r2, p2⟩ := hy.laid I1
  have la : @LT.lt Nat _ a s1.heap.objs.size := p1.lt
  have lb : @LT.lt Nat _ b s1.heap.objs.size := p2.lt
  refine zip_begins2 (beginsB s a us.toArray) (beginsB t b ws.toArray) p1 p2 fun h1 z0 z1 z2 g1 g2 sz k => wpAny_pyIter_zip z0 ?_
  have I2 : Inv X pins σ H1 { s1 with heap := h1 } := I1.kept (t' := s1.toks) k
  have S : ZipSep2 (s1.heap.objs.size + 4) (s1.heap.objs.size + 2) (s1.heap.objs.size + 3) s1.heap.objs.size (s1.heap.objs.size + 1) [s1.heap.objs.size, a] [s1.heap.objs.size + 1, b] := by
    constructor <;> first | (refine PySem.W.neN ?_; omega) | exact List.mem_cons_self | (refine nm2 ?_ ?_ <;> refine PySem.W.neN ?_ <;> omega)
  refine ⟨s1.heap.objs.size + 4, _, _, _, H1, rfl, I2, turn_zipM s t S (Nat.ne_of_lt la) (Nat.ne_of_lt (Nat.lt_succ_of_lt lb)), ⟨z0, z1, ⟨_, _, z2⟩, itB_new g1, itB_new g2⟩, fun c hc => ?_, q⟩
  have le : s1.heap.objs.size ≤ c := fp5 (p := fun c => s1.heap.objs.size ≤ c) hc (Nat.le_add_right _ _) (Nat.le_add_right _ _) (Nat.le_add_right _ _) (Nat.le_refl _) (Nat.le_add_right _ _)
  exact I1.fpOk le (I1.hok.fresh le)
/-! loops and comprehensions over it -/
def ForZ (s t : Bool) (K : PySem.W.Frag) (a b : Addr) := ForJ (Itm s t K a b)
def LcZ (s t : Bool) (K : PySem.W.Frag) (a b : Addr) := LcJ (Itm s t K a b)
section
variable {K : PySem.W.Frag} {s t : Bool} {a b : Addr} {xs ys : List V} {g : TG} {tb : TS} {D : Ends} {σ : L2.St} {H : Hp} {ta : TA} {tt : TT} {te : TE} {vs : List Nat} {Q : VK}
theorem rd_forZ : tFor (iZipM s t K ta) g tb D σ H = ta σ H fun us H1 => ∃ a b xs ys, us = [.ref a, .ref b] ∧ SqB s K H1 a xs ∧ SqB t K H1 b ys ∧ ForZ s t K a b g tb D σ H1 := rfl
theorem rd_lcZ : tLc (iZipM s t K ta) g tt te vs σ H Q = ta σ H fun us H1 => ∃ a b xs ys, us = [.ref a, .ref b] ∧ SqB s K H1 a xs ∧ SqB t K H1 b ys ∧ LcZ s t K a b g tt te vs σ H1 Q := rfl
theorem itm_go {i : Nat} (hx : SqB s K H a xs) (hy : SqB t K H b ys) (h1 : i < xs.length) (h2 : i < ys.length) : (Itm s t K a b).go i H := ⟨xs, ys, _, _, ⟨hx, List.getElem?_eq_getElem h1⟩, hy, List.getElem?_eq_getElem h2⟩
theorem ForZ.w {n : Nat} (hn : n = min xs.length ys.length) (Pw : Nat → L2.St → Hp → Prop) (h0 : Pw 0 σ H) (hl : ∀ i σ H, i ≤ n → Pw i σ H → SqB s K H a xs ∧ SqB t K H b ys)
    (hs : ∀ (i : Nat) (x y : V) (T : Addr) σ H, xs[i]? = some x → ys[i]? = some y → Pw i σ H → H T = none → ∀ N : L2.St → Hp → Prop, (∀ σ' H', Pw (i + 1) σ' H' → N σ' H') → g (.ref T) σ (upd H T (.tup [x, y])) fun σ2 H2 => tb { D with nx := N, ct := N, bk := D.nx } σ2 H2)
    (hd : ∀ σ H, Pw n σ H → D.nx σ H) : ForZ s t K a b g tb D σ H := by
  refine ⟨fun i m σ H => m = n - i ∧ i ≤ n ∧ Pw i σ H, ⟨_, rfl, Nat.zero_le _, h0⟩, ?_⟩
  rintro i m σ H ⟨rfl, hi, p⟩
  obtain ⟨qx, qy⟩ := hl i σ H hi p
  rcases Nat.lt_or_ge i n with c | c
  · refine .inr ⟨itm_go qx qy (by omega) (by omega), Pw (i + 1), fun σ' H' p' => ⟨n - (i + 1), by omega, rfl, c, p'⟩, fun v H' y => ?_⟩
    obtain ⟨T, x, y, rfl, hT, rfl, f1, f2⟩ := y
    exact hs i x y T σ H (f1 xs qx) (f2 ys qy) p hT _ fun _ _ h => h
  · have e : i = n := by omega
    subst e
    exact .inl ⟨⟨xs, ys, ⟨qx, qy⟩, by omega, by omega, by omega⟩, hd σ H p⟩
/-- a comprehension over zip, by what holds beside the list that is made -/
theorem LcZ.i {n : Nat} (hn : n = min xs.length ys.length) (I : Nat → List V → Hp → Prop) (hi : ∀ i zs, Ind H (I i zs)) (h0 : ∀ H1, Same H H1 → I 0 [] H1) (hl : ∀ i zs H1, I i zs H1 → SqB s K H1 a xs ∧ SqB t K H1 b ys) (hz : ∀ i zs H1, I i zs H1 → zs.length < sizeLine)
    (hs : ∀ (i : Nat) (x y : V), xs[i]? = some x → ys[i]? = some y → ∀ zs H1 T, I i zs H1 → H1 T = none → ∀ (M : VK) (S : Hp → Prop), (∀ v H2, Kn H H1 H2 → I (i + 1) (zs ++ [v]) H2 → M v H2) → (∀ H2, Kn H H1 H2 → I (i + 1) zs H2 → S H2) →
      g (.ref T) (wipe σ vs) (upd H1 T (.tup [x, y])) fun σ2 H2 => wipe σ2 vs = wipe σ vs ∧ tt σ2 H2 fun b H3 => if b = true then te σ2 H3 M else S H3)
    (hd : ∀ D zs H', H D = none → I n zs H' → H' D = some (.lst zs) → Q (.ref D) H') : LcZ s t K a b g tt te vs σ H Q := by
  intro D hD
  refine ⟨fun i m H1 => m = n - i ∧ i ≤ n ∧ ∃ zs, I i zs H1 ∧ H1 D = some (.lst zs), ⟨_, rfl, Nat.zero_le _, [], h0 _ (same_upd hD), upd_same⟩, ?_⟩
  rintro i m H1 ⟨rfl, hin, zs, p, hz1⟩
  obtain ⟨qx, qy⟩ := hl i zs H1 p
  rcases Nat.lt_or_ge i n with c | c
  · refine .inr ⟨itm_go qx qy (by omega) (by omega), fun H' => ∃ zs, I (i + 1) zs H' ∧ H' D = some (.lst zs), fun H' p' => ⟨n - (i + 1), by omega, rfl, c, p'⟩, fun v H' y => ?_⟩
    obtain ⟨T, x, y, rfl, hT, rfl, f1, f2⟩ := y
    exact hs i x y (f1 xs qx) (f2 ys qy) zs H1 T p hT (fun y H4 => ∃ acc, H4 D = some (.lst acc) ∧ acc.length < sizeLine ∧ ∃ zs, I (i + 1) zs (upd H4 D (.lst (acc ++ [y]))) ∧ (upd H4 D (.lst (acc ++ [y]))) D = some (.lst zs)) _
      (fun v H2 k q => ⟨zs, k D zs hD hz1, hz _ _ _ p, zs ++ [v], hi _ _ H2 D zs _ q hD (k D zs hD hz1), upd_same⟩) (fun H2 k q => ⟨zs, q, k D zs hD hz1⟩)
  · have e : i = n := by omega
    subst e
    exact .inl ⟨⟨xs, ys, ⟨qx, qy⟩, by omega, by omega, by omega⟩, hd D zs H1 hD p hz1⟩
/-- the items are told -/
theorem LcZ.p {n : Nat} (hn : n = min xs.length ys.length) (y : Nat → Option V) (hm : n ≤ 10000000) (hx : ∀ H1, Same H H1 → SqB s K H1 a xs ∧ SqB t K H1 b ys)
    (hs : ∀ (i : Nat) (x x' : V), xs[i]? = some x → ys[i]? = some x' → ∀ H1 T, Same H H1 → H1 T = some (.tup [x, x']) → ∀ (M : VK) (S : Hp → Prop), (∀ v H2, y i = some v → Same H1 H2 → M v H2) → (∀ H2, y i = none → Same H1 H2 → S H2) →
      g (.ref T) (wipe σ vs) H1 fun σ2 H2 => wipe σ2 vs = wipe σ vs ∧ tt σ2 H2 fun b H3 => if b = true then te σ2 H3 M else S H3)
    (hd : ∀ D H', H D = none → Same H H' → H' D = some (.lst ((List.range n).filterMap y)) → Q (.ref D) H') : LcZ s t K a b g tt te vs σ H Q := by
  refine LcZ.i hn (pureI H n y) pureI.ind (fun H1 s => ⟨s, rfl, Nat.zero_le _⟩) (fun i zs H1 p => hx H1 p.1) (pureI.z hm) ?_ (fun D zs H' nD p e => hd D H' nD p.1 (by rw [← p.2.1]; exact e))
  rintro i x x' h1 h2 zs H1 T ⟨s1, rfl, _⟩ nT M S hM hS
  have sT := same_upd (o := HO.tup [x, x']) nT
  have i1 := (List.getElem?_eq_some_iff.mp h1).1
  have i2 := (List.getElem?_eq_some_iff.mp h2).1
  refine hs i x x' h1 h2 _ T (s1.trans sT) upd_same M S (fun v H2 e s2 => hM v H2 (.same (sT.trans s2)) ⟨(s1.trans sT).trans s2, ?_, by omega⟩) (fun H2 e s2 => hS H2 (.same (sT.trans s2)) ⟨(s1.trans sT).trans s2, ?_, by omega⟩)
  · rw [List.range_succ, List.filterMap_append, List.filterMap_cons, e]
    rfl
  · rw [List.range_succ, List.filterMap_append, List.filterMap_cons, e, List.filterMap_nil, List.append_nil]
end
end CB
/-! set(..) of a list of ints, sorted -/
namespace CB
open PySem PySem.Spec PyProof.Rows L2
section
variable {P : Program} {w : World} {A : Around} {E : Value → Shared → Prop} {s : Shared}
/-- the new set, empty -/
abbrev eset (w : World) : Obj := ⟨.type "set", none, .set #[] 0 (.fresh 0 0 (!w.params.followText "set-order")), #[]⟩
abbrev hp1 (w : World) (s : Shared) : Heap := s.heap.push (eset w)
theorem set_of_list {l : Addr} {us : Array Value} (ns : List Int) {Q : Value → Shared → Prop} (nh : A.handled = none) (il : s.heap.IsList l us) (ui : IntsAre us.toList ns) (few : ns.length + 1 < scanBound)
    (q : ∀ (h' : Heap) (t c : Nat), SetR w h' s.heap.objs.size (fun j => decide (j ∈ ns)) c → c ≤ ns.length → (∀ b o, s.heap.get? b = some o → h'.get? b = some o) → Q (.ref s.heap.objs.size) { s with heap := h', toks := t }) :
    wpAny (model P w) A (call (.type "set") [.ref l]) Q E s := by
  have us_ns : us.size = ns.length := by
    have e := IntsAre.length ui
    rwa [Array.length_toList] at e
  obtain ⟨c, tl, mro⟩ := F.called_set.mro
  have made := F.called_set.made
  have sub := F.called_set.sub
  have notT := F.called_set.notType
  have canC := F.called_set.canCreate
  have chk := F.typeCall_set_1 (.ref l)
  refine wpAny_call (codeAny_of_tree (show wpAny _ _ (callAny (.type "set") _) _ _ _ from ?_))
  refine wpAny_pure ⟨Code.quiet_builtin _ (by decide +kernel), codeAny_builtin F.entry_type_call ?_⟩
  rw [Around.under_plain (weight_type_call_type "set" [.ref l] []) rfl]
  repeat (any_goals (first | assumption | wp_step))
  refine codeAny_mono (code_set_led1 (w := w) (.ref l) (E := E) (Q₁ := fun ob t => ob = .ref s.heap.objs.size ∧ t = { s with heap := hp1 w s }) ⟨rfl, rfl⟩) fun r t ht => ?_
  match r, ht with
  | .error e, ht => exact ht
  | .ok .next, ht => exact ht.elim
  | .ok .brk, ht => exact ht.elim
  | .ok .cont, ht => exact ht.elim
  | .ok (.ret ob), ht =>
    obtain ⟨rfl, rfl⟩ := ht
    have at1 : (hp1 w s).get? s.heap.objs.size = some (eset w) := Heap.get?_push_size _ rfl
    have ty1 : Shared.TypeIs { s with heap := hp1 w s } (.ref s.heap.objs.size) "set" := ⟨_, at1, rfl⟩
    have look := F.called_set.init.lookup
    have bind := F.called_set.init.bind (.ref s.heap.objs.size)
    repeat (any_goals (first | assumption | wp_step))
    refine codeAny_mono (codeAny_call_builtin (R := wants (fun x t => x = .none ∧ ∃ (h' : Heap) (tk c : Nat), t = { s with heap := h', toks := tk } ∧ (SetR w h' s.heap.objs.size (fun j => decide (j ∈ ns)) c ∧ c ≤ ns.length) ∧ ∀ b o, s.heap.get? b = some o → h'.get? b = some o) E)
      F.called_set.init.plain F.entry_set_init (check_set_init_1 ty1 ?_)) fun r2 t2 ht2 => ?_
    · obtain ⟨⟨oc, od, oa, osl⟩, g0, rfl, nl, rfl⟩ := il
      have g1 : (hp1 w s).get? l = some ⟨.type "list", od, .seq us nl, osl⟩ := Heap.get?_push_of_some _ g0
      have s1 := F.sub_list_set
      have s2 := F.sub_list_frozenset
      have nd : (Value.type "list" == Value.type "dict") = false := by decide
      have il1 : (hp1 w s).IsList l us := ⟨_, g1, rfl, nl, rfl⟩
      unfold Builtin.«set.__init__» noKeywords Builtin.Frozenset.updateFrom
      generalize iterator : pyIter = IT
      wp_walk
      subst iterator
      refine wpAny_pyIter_list il1 (wpAny_bind (wpAny_runValue ?_))
      have l0 : l < s.heap.objs.size := Heap.lt_size g0
      have z1 : (hp1 w s).objs.size = s.heap.objs.size + 1 := Heap.size_push ..
      have n1 : l ≠ (hp1 w s).objs.size := fun e => Nat.ne_of_lt (Nat.lt_succ_of_lt l0) (Eq.trans e z1)
      have n2 : s.heap.objs.size ∉ [(hp1 w s).objs.size, l] := fun z => by
        rcases List.mem_cons.mp z with z | z
        · exact Nat.ne_of_lt (Nat.lt_succ_self _) (Eq.trans z z1)
        · exact Nat.ne_of_lt l0 (List.mem_singleton.mp z).symm
      have told : ∀ (i : Nat) (v : Value), us[i]? = some v → ∃ k t, ns[i]? = some k ∧ v = .int k t := fun i v hv => by
        have hi : i < ns.length := us_ns ▸ (Array.getElem?_eq_some_iff.mp hv).1
        obtain ⟨t, e⟩ := PyProof.Rows.IntsAre.int_at ui i v (by rwa [Array.getElem?_toList])
        refine ⟨ns[i], t, List.getElem?_eq_getElem hi, e.trans ?_⟩
        rw [List.getD_eq_getElem?_getD, List.getElem?_eq_getElem hi]
        rfl
      refine set_update_ints (w := w) (Walks.list (by simp [nh]) _ l n1 us).toS s.heap.objs.size n2 ns us_ns few told us.size 0 _ (Nat.sub_zero _) (Nat.zero_le _) ⟨⟨_, Heap.get?_push_size _ rfl, rfl, rfl⟩, il1.push _⟩ ⟨0, Nat.le_refl 0, ?_⟩ ?_
      · exact setR_new_at (Heap.get?_push_of_some _ at1)
      · intro ⟨h', g', d', t', o'⟩ c' mv hc hS
        obtain rfl : g' = s.gens := mv.gens
        obtain rfl : d' = s.drawn := mv.drawn
        obtain rfl : o' = s.os := mv.os
        refine wpAny_pure (show wpAny _ _ (ret Value.none) _ _ _ from wpAny_pure ⟨rfl, h', t', c', rfl, ⟨hS, by omega⟩, fun b o e => ?_⟩)
        have b0 : b < s.heap.objs.size := Heap.lt_size e
        refine mv.heap b o (fun z => ?_) (Heap.get?_push_of_some _ (Heap.get?_push_of_some _ e))
        rcases List.mem_cons.mp z with z | z
        · exact Nat.ne_of_lt b0 z
        · exact Nat.ne_of_lt (Nat.lt_succ_of_lt b0) (Eq.trans (List.mem_singleton.mp z) z1)
    · match r2, ht2 with
      | .error e, ht2 => exact ht2
      | .ok .next, ht2 => exact ht2.elim
      | .ok .brk, ht2 => exact ht2.elim
      | .ok .cont, ht2 => exact ht2.elim
      | .ok (.ret x), ht2 =>
        obtain ⟨rfl, h', tk, c', rfl, ⟨hS, hc⟩, kept⟩ := ht2
        repeat (any_goals (first | assumption | wp_step))
        exact q _ _ _ hS hc kept
end
section
variable {X : Cx}
/-- set(xs) of a list of ints -/
def rSetL1 (K : PySem.W.Frag) (w : World) : List V → Hp → VK → Prop := fun xs H Q => ∃ (a : Addr) (ns : List Int), xs = [V.ref a] ∧ SqL K H a (ns.map V.int) ∧ ns.length ≤ 1000 ∧
  ∀ p c, H p = none → c ≤ ns.length → Q (.ref p) (upd H p (SetO w p (fun j => decide (j ∈ ns)) c))
theorem cr_setL1 (hc : X.calm = true) : CallR X (.type "set") (rSetL1 X.K X.w) := by
  intro pins s σ H xs us Q I r h
  obtain ⟨a, ns, rfl, hs, few, q⟩ := h
  obtain ⟨its, rv, il, _⟩ := I.list hs
  rw [Vals.ref1 r]
  refine set_of_list ns (I.ok.hd hc) il.isList rv.ints (by unfold scanBound; omega) fun h' t c R hcn kept => ?_
  exact ⟨.ref _, _, I.laid (t' := t) kept (Nat.le_refl _) (setO_new R), rfl, q _ c (I.hok.fresh (Nat.le_refl _)) hcn⟩
theorem cr_setL1w {w : World} (hw : X.w = w) (hc : X.calm = true) : CallR X (.type "set") (rSetL1 X.K w) := by
  subst hw
  exact cr_setL1 hc
theorem cr_sortedSetw {w : World} (hw : X.w = w) (hc : X.calm = true) : CallR X (.builtin "sorted") (rSortedSet w) := by
  subst hw
  exact cr_sortedSet hc
theorem rd_setL1 {K : PySem.W.Frag} {w : World} {xs : List V} {H : Hp} {Q : VK} : rSetL1 K w xs H Q = ∃ (a : Addr) (ns : List Int), xs = [V.ref a] ∧ SqL K H a (ns.map V.int) ∧ ns.length ≤ 1000 ∧
  ∀ p c, H p = none → c ≤ ns.length → Q (.ref p) (upd H p (SetO w p (fun j => decide (j ∈ ns)) c)) := rfl
theorem rd_sortedSet {w : World} {xs : List V} {H : Hp} {Q : VK} : rSortedSet w xs H Q = ∃ (a : Addr) (S : Int → Bool) (n : Nat), xs = [V.ref a] ∧ H a = some (SetO w a S n) ∧ n < 64 ∧
  ∀ (ns : List Int) (p : Addr), ns.Pairwise (· < ·) → (∀ k : Int, k ∈ ns ↔ S k = true) → ns.length = n → H p = none → Q (.ref p) (upd H p (.lst (ns.map V.int))) := rfl
end
end CB
namespace CB
open PySem PySem.Spec PyProof.Rows L2
/-! ### tuple * int, any number of times -/
theorem mul_same (l : Addr) (us : Array Value) (n : Nat) (dd : Option Addr) (sl : Array (Option Value)) (u : Tok) :
    Meets (Builtin.«tuple.__mul__» ⟨[.ref l, .int 1 u], []⟩) (fun _ R s => s.heap.get? l = some ⟨.type "tuple", dd, .seq us n, sl⟩ ∧ R (.ok (.ret (.ref l))) s) :=
  .of_wp fun prog w A R s h => by
    obtain ⟨hp, g, d, tk, os⟩ := s
    obtain ⟨hl, h⟩ := h
    have ix := AutoSeq1.idx_int
    have b1 : (decide ((1 : Int) < -(2 ^ 63)) || decide ((1 : Int) ≥ 2 ^ 63)) = false := by decide
    have b2 : (us.isEmpty || (1 : Int) == 1) = true := by rw [show ((1 : Int) == 1) = true from rfl, Bool.or_true]
    wp_walk using wpAny_loadPart' hl
    exact ⟨_, rfl, h⟩
theorem mul_none (l : Addr) (us : Array Value) (n : Nat) (dd : Option Addr) (sl : Array (Option Value)) (u : Tok) (ne : us.isEmpty = false) :
    Meets (Builtin.«tuple.__mul__» ⟨[.ref l, .int 0 u], []⟩) (fun _ R s => s.heap.get? l = some ⟨.type "tuple", dd, .seq us n, sl⟩ ∧ R (.ok (.ret (.ref s.heap.objs.size))) { s with heap := s.heap.push { cls := .type "tuple", data := .seq #[] } }) :=
  .of_wp fun prog w A R s h => by
    obtain ⟨hp, g, d, tk, os⟩ := s
    obtain ⟨hl, h⟩ := h
    have ix := AutoSeq1.idx_int
    have b2 : (us.isEmpty || (0 : Int) == 1) = false := by rw [ne]; rfl
    wp_walk using wpAny_loadPart' hl
    exact ⟨_, rfl, h⟩
/-- a tuple that a statement made, k times: for one it is the same tuple -/
def rRepA : R2 := fun x y H Q => ∃ (l : Addr) (k : Nat) (xs : List V), x = .ref l ∧ y = .int k ∧ H l = some (.tup xs) ∧ xs ≠ [] ∧ k ≤ 1000 ∧ xs.length ≤ 1000 ∧
  ∀ p H', Same H H' → H' p = some (.tup (List.replicate k xs).flatten) → Q (.ref p) H'
theorem op_repA {X : Cx} : OpR X (binaryOp .Mult) rRepA := by
  intro pins s σ H x y v u Q I rx ry h
  obtain ⟨l, k, xs, rfl, rfl, hT, hne, k1, hz, q⟩ := h
  by_cases c2 : 2 ≤ k
  · exact op_repT pins s σ H _ _ v u Q I rx ry ⟨l, k, xs, rfl, rfl, SqT.of hT, hne, by omega, by omega, hz, fun p np => q p _ (same_upd np) (by rw [upd_same, Int.toNat_natCast])⟩
  cases rx
  obtain ⟨t, rfl⟩ := ry
  obtain ⟨its, r, ⟨⟨cls, dd, data, sl⟩, ho, hc, n, hd⟩, hs⟩ := I.tuple (SqT.of hT)
  simp only at hc hd
  subst hc hd
  have ne : its.toArray.isEmpty = false := by
    cases its with
    | cons a b => rfl
    | nil => exact absurd (List.eq_nil_of_length_eq_zero r.length) hne
  have k01 : k = 1 ∨ k = 0 := by omega
  rcases k01 with rfl | rfl
  · refine wpAny_binaryOp_repeat_ref (T := "tuple") (U := "int") (by decide) ⟨_, ho, rfl⟩
      (fun s' => typeIs_int s' 1 t) noFill_tuple_mul F.fills_int_mul F.slot_int_rmul
      repeat_tuple F.slot_int_index.lookup (call_meets F.slot_int_rmul (typeIs_int s 1 t)
        F.entry_int_rmul (F.args_int_rmul_2 _ _) (int_rmul_tuple 1 t l its.toArray n dd sl)
        ⟨ho, rfl, ⟨_, ho, rfl⟩, call_meets F.slot_tuple_mul ⟨_, ho, rfl⟩ F.entry_tuple_mul
          (F.args_tuple_mul_2 _ _) (mul_same l its.toArray n dd sl t) ⟨ho, ?_⟩⟩)
    exact ⟨.ref l, H, I, rfl, q l H (Same.refl _) (by rw [hT, List.replicate_one, List.flatten_cons, List.flatten_nil, List.append_nil])⟩
  · refine wpAny_binaryOp_repeat_ref (T := "tuple") (U := "int") (by decide) ⟨_, ho, rfl⟩
      (fun s' => typeIs_int s' 0 t) noFill_tuple_mul F.fills_int_mul F.slot_int_rmul
      repeat_tuple F.slot_int_index.lookup (call_meets F.slot_int_rmul (typeIs_int s 0 t)
        F.entry_int_rmul (F.args_int_rmul_2 _ _) (int_rmul_tuple 0 t l its.toArray n dd sl)
        ⟨ho, rfl, ⟨_, ho, rfl⟩, call_meets F.slot_tuple_mul ⟨_, ho, rfl⟩ F.entry_tuple_mul
          (F.args_tuple_mul_2 _ _) (mul_none l its.toArray n dd sl t ne) ⟨ho, ?_⟩⟩)
    refine ⟨.ref s.heap.objs.size, upd H s.heap.objs.size (.tup []), I.laid (t' := s.toks) (fun b ob e => Heap.get?_push_of_some _ e) (Nat.le_refl _) ?_, rfl, q _ _ (same_upd (I.hok.fresh (Nat.le_refl _))) (by rw [upd_same]; rfl)⟩
    exact ⟨Nat.zero_le _, _, .nil, IsTup.new _ _⟩
theorem rd_repA {x y : V} {H : Hp} {Q : VK} : rRepA x y H Q = ∃ (l : Addr) (k : Nat) (xs : List V), x = .ref l ∧ y = .int k ∧ H l = some (.tup xs) ∧ xs ≠ [] ∧ k ≤ 1000 ∧ xs.length ≤ 1000 ∧
  ∀ p H', Same H H' → H' p = some (.tup (List.replicate k xs).flatten) → Q (.ref p) H' := rfl
end CB
/-! a dict of ints, by ints, that a module's name holds (own work) -/
namespace CB
open PySem PySem.Spec PyProof.Rows L2
def EntI : List DictEntry → List (Int × Int) → Prop
  | [], [] => True
  | e :: es, q :: kvs => (∃ t, e.key = .int q.1 t) ∧ e.hash = hashInt q.1 ∧ (∃ t, e.val = .int q.2 t) ∧ EntI es kvs
  | _, _ => False
def lkI (kvs : List (Int × Int)) (k : Int) : Option Int := (kvs.find? fun q => decide (q.1 = k)).map (·.2)
theorem EntI.keys : ∀ {es : List DictEntry} {kvs : List (Int × Int)}, EntI es kvs → ∀ e ∈ es, ∃ k t, e.key = .int k t ∧ e.hash = hashInt k
  | [], [], _, e, he => by simp at he
  | e0 :: es, q :: kvs, ⟨⟨t, h1⟩, h2, _, r⟩, e, he => by
    rcases List.mem_cons.mp he with rfl | he
    · exact ⟨_, t, h1, h2⟩
    · exact r.keys e he
theorem EntI.find (k : Int) : ∀ {es : List DictEntry} {kvs : List (Int × Int)}, EntI es kvs → match lkI kvs k with
    | some v => ∃ t, (es.find? fun d => Value.isInt k d.key).map (·.val) = some (.int v t)
    | none => (es.find? fun d => Value.isInt k d.key).map (·.val) = none
  | [], [], _ => rfl
  | e0 :: es, q :: kvs, ⟨⟨t, h1⟩, h2, ⟨u, h3⟩, r⟩ => by
    have ih := EntI.find k r
    unfold lkI at ih ⊢
    rw [List.find?_cons, List.find?_cons]
    by_cases c : q.1 = k
    · have e1 : Value.isInt k e0.key = true := by rw [h1]; simp [Value.isInt, c]
      rw [e1, decide_eq_true c]
      exact ⟨u, by rw [← h3]; rfl⟩
    · have e1 : Value.isInt k e0.key = false := by rw [h1]; simp [Value.isInt, c]
      rw [e1, decide_eq_false c]
      exact ih
/-- at d stands such a dict -/
def DcA (K : PySem.W.Frag) (d : Addr) (kvs : List (Int × Int)) : Prop := ∃ (es : Array DictEntry) (n : Nat), K.lookup d = some ⟨.type "dict", none, .dict es n, #[]⟩ ∧ (d == sysModules) = false ∧ EntI es.toList kvs
abbrev DC (K : PySem.W.Frag) (mg : Str → Option Value) (x : Str) (kvs : List (Int × Int)) : Prop := ∃ d : Addr, mg x = some (.ref d) ∧ DcA K d kvs
theorem DcA.map {prog : Program} {w : World} {K : PySem.W.Frag} {d : Addr} {kvs : List (Int × Int)} {h : Heap} (X : K.In h) (D : DcA K d kvs) :
    ∃ f, h.MapOf (intKind prog w) d f ∧ (d == sysModules) = false ∧ ∀ k, match lkI kvs k with | some v => ∃ t, f k = some (.int v t) | none => f k = none := by
  obtain ⟨⟨es⟩, n, hl, low, he⟩ := D
  refine ⟨fun k => findBy (intKind prog w).is ⟨es⟩ k, ⟨_, ⟨es⟩, n, X _ _ hl, ⟨rfl, rfl, rfl⟩, rfl, fun e hm => ?_, fun _ => rfl⟩, low, fun k => ?_⟩
  · obtain ⟨k, t, h1, h2⟩ := he.keys e (Array.mem_toList_iff.mpr hm)
    exact ⟨k, by rw [h1]; exact intKind_is prog w k t, h2⟩
  · have := he.find k
    unfold findBy
    dsimp only
    have z : ∀ p : DictEntry → Bool, Array.find? p ⟨es⟩ = es.find? p := fun p => List.find?_toArray p es
    rw [z]
    exact this
def rIxDC (K : PySem.W.Frag) : R2 := fun x y H Q => ∃ d kvs i v, x = .ref d ∧ y = .int i ∧ DcA K d kvs ∧ lkI kvs i = some v ∧ Q (.int v) H
theorem ix_dc {X : Cx} : IxR X (rIxDC X.K) := by
  intro value slice pins s σ H x y v u Q I rx ry h hs
  obtain ⟨d, kvs, i, v0, rfl, rfl, D, e, q⟩ := h
  cases rx
  obtain ⟨t, rfl⟩ := ry
  obtain ⟨f, hm, low, hf⟩ := D.map (prog := X.prog) (w := X.w) I.kIn
  have hf := hf i
  rw [e] at hf
  obtain ⟨tk, hf⟩ := hf
  refine tail_any hm.typeIs slot_dict_getitem.lookup ?_ hs
  exact wpAny_getItem_of (intKind_is X.prog X.w i t) hm hf ⟨.int v0, H, I.tok _, ⟨_, rfl⟩, q⟩
theorem ix_dcK {X : Cx} {K : PySem.W.Frag} (h : X.K = K) : IxR X (rIxDC K) := by
  subst h
  exact ix_dc
def rInDC (K : PySem.W.Frag) (b : Bool) : R2 := fun x y H Q => ∃ d kvs i, x = .int i ∧ y = .ref d ∧ DcA K d kvs ∧ Q (.bl ((lkI kvs i).isSome != b)) H
theorem op_inDC {X : Cx} : OpR X (compareOp .In) (rInDC X.K false) := by
  intro pins s σ H x y v u Q I rx ry h
  obtain ⟨d, kvs, i, rfl, rfl, D, q⟩ := h
  cases ry
  obtain ⟨t, rfl⟩ := rx
  obtain ⟨f, hm, low, hf⟩ := D.map (prog := X.prog) (w := X.w) I.kIn
  have hf := hf i
  refine wpAny_in_of (intKind_is X.prog X.w i t) low hm ?_
  rcases e : lkI kvs i with _ | v0
  · rw [e] at hf q
    rw [hf]
    exact ⟨.bl false, H, I.tok _, rfl, q⟩
  · rw [e] at hf q
    obtain ⟨tk, hf⟩ := hf
    rw [hf]
    exact ⟨.bl true, H, I.tok _, rfl, q⟩
theorem op_notInDC {X : Cx} : OpR X (compareOp .NotIn) (rInDC X.K true) := by
  intro pins s σ H x y v u Q I rx ry h
  obtain ⟨d, kvs, i, rfl, rfl, D, q⟩ := h
  cases ry
  obtain ⟨t, rfl⟩ := rx
  obtain ⟨f, hm, low, hf⟩ := D.map (prog := X.prog) (w := X.w) I.kIn
  have hf := hf i
  refine wpAny_notIn_of (intKind_is X.prog X.w i t) low hm ?_
  rcases e : lkI kvs i with _ | v0
  · rw [e] at hf q
    rw [hf]
    exact ⟨.bl true, H, I.tok _, rfl, q⟩
  · rw [e] at hf q
    obtain ⟨tk, hf⟩ := hf
    rw [hf]
    exact ⟨.bl false, H, I.tok _, rfl, q⟩
theorem rd_ixDC {K : PySem.W.Frag} {x y : V} {H : Hp} {Q : VK} : rIxDC K x y H Q = ∃ d kvs i v, x = .ref d ∧ y = .int i ∧ DcA K d kvs ∧ lkI kvs i = some v ∧ Q (.int v) H := rfl
theorem rd_inDC {K : PySem.W.Frag} {b : Bool} {x y : V} {H : Hp} {Q : VK} : rInDC K b x y H Q = ∃ d kvs i, x = .int i ∧ y = .ref d ∧ DcA K d kvs ∧ Q (.bl ((lkI kvs i).isSome != b)) H := rfl
theorem rd_cat {x y : V} {H : Hp} {Q : VK} : rCat x y H Q = ∃ l b xs zs, x = .ref l ∧ y = .ref b ∧ H l = some (.lst xs) ∧ H b = some (.lst zs) ∧ xs.length + zs.length ≤ sizeLine ∧ ∀ p, H p = none → Q (.ref p) (upd H p (.lst (xs ++ zs))) := rfl
end CB
/-! zip(reversed(list), list) (own work) -/
namespace CB
open PySem PySem.Spec PyProof.Rows L2
section
variable {prog : Program} {w : World} {A : Around} {E : Value → Shared → Prop} {sh : Shared}
theorem nextRv_item {r l : Addr} {j : Nat} {us : Array Value} {x : Value} {Q : Value → Shared → Prop} (hr : sh.heap.IsRevIter r l (j : Int)) (hl : sh.heap.IsList l us) (hx : us[j]? = some x)
    (k : ∀ g, g.IsRevIter r l ((j : Int) - 1) → Heap.SameBut r sh.heap g → Q x { sh with heap := g }) : wpAny (model prog w) A (Builtin.SmallTypes.nextOf (.ref r)) Q E sh := by
  obtain ⟨ob, eo, hc, hd⟩ := id hr
  obtain ⟨ol, el, _, nl, dl⟩ := hl
  unfold Builtin.SmallTypes.nextOf
  refine wpAny_bind (wpAny_callSpecial?_slot (name := Str.ofString "__next__") hr.typeIs F.slot_lri_next (wpAny_call_entry F.slot_lri_next hr.typeIs F.entry_lri_next ?_ (F.args_lri_next_1 _)))
  unfold Builtin.«list_reverseiterator.__next__»
  refine wpAny_bind (wpAny_of_eq (a := (Value.ref r, [])) rfl ?_)
  dsimp only
  refine wpAny_bind (wpAny_field eo hd (x := rawInt (j : Int)) rfl ?_)
  show wpAny _ _ (if (j : Int) < 0 then _ else _) _ _ sh
  rw [if_neg (show ¬ (j : Int) < 0 by omega)]
  show wpAny _ _ (field (.ref r) 0 >>= _) _ _ sh
  refine wpAny_bind (wpAny_field eo hd (x := .ref l) rfl ?_)
  show wpAny _ _ (seqItems? (.ref l) >>= _) _ _ sh
  refine wpAny_bind (wpAny_seqItems el dl ?_)
  simp only [Int.toNat_natCast, hx]
  refine wpAny_bind (wpAny_setField eo hd (by simp) ?_)
  first
  | refine wpAny_pure ⟨x, rfl, wpAny_pure (k _ ?_ (Heap.SameBut.update ..))⟩
  | refine wpAny_bind (wpAny_pure (wpAny_pure ⟨x, rfl, wpAny_pure (k _ ?_ (Heap.SameBut.update ..))⟩))
  refine ⟨_, Heap.get?_update_self _ eo (Obj.isFreed_of_fields (Obj.data_mapFields hd _)), (Obj.cls_mapFields ..).trans hc, ?_⟩
  rw [Obj.data_mapFields hd]
  simp
theorem nextRv_end {r l : Addr} {Q : Value → Shared → Prop} (hh : A.handled = none) (hr : sh.heap.IsRevIter r l (-1))
    (k : ∀ g e, Heap.ExtBut r sh.heap g → (∃ o, g.get? e = some o ∧ o.cls = .type "StopIteration") → E (.ref e) { sh with heap := g }) : wpAny (model prog w) A (Builtin.SmallTypes.nextOf (.ref r)) Q E sh := by
  obtain ⟨ob, eo, hc, hd⟩ := id hr
  unfold Builtin.SmallTypes.nextOf
  refine wpAny_bind (wpAny_callSpecial?_slot (name := Str.ofString "__next__") hr.typeIs F.slot_lri_next (wpAny_call_entry F.slot_lri_next hr.typeIs F.entry_lri_next ?_ (F.args_lri_next_1 _)))
  unfold Builtin.«list_reverseiterator.__next__»
  refine wpAny_bind (wpAny_of_eq (a := (Value.ref r, [])) rfl ?_)
  dsimp only
  refine wpAny_bind (wpAny_field eo hd (x := rawInt (-1)) rfl ?_)
  show wpAny _ _ (if (-1 : Int) < 0 then _ else _) _ _ sh
  rw [if_pos (show (-1 : Int) < 0 by decide)]
  refine wpAny_bind (wpAny_rule ?_)
  first
  | show wpAny _ _ (newExc (.type "StopIteration") [] >>= _) _ _ sh
  | (refine wpAny_bind ?_; show wpAny _ _ (newExc (.type "StopIteration") [] >>= _) _ _ sh)
  refine wpAny_bind ?_
  simp only [newExc, newTuple]
  refine wpAny_bind (wpAny_newObj_type ?_ (by size_fits))
  refine wpAny_bind (m := firstArgMember _ _) (wpAny_of_eq (a := Value.none) (by simp only [firstArgMember]; rfl) ?_)
  refine wpAny_newObj_type ?_ (by size_fits)
  simp only [raiseNew]
  refine wpAny_bind (wpAny_handled ?_)
  first | rw [show A.in1.handled = none from hh] | rw [hh]
  refine wpAny_bind (wpAny_pure (wpAny_throw ?_))
  exact k _ _ (((Heap.ExtBut.refl _ _).push _).push _) ⟨_, Heap.get?_push_size _ rfl, rfl⟩
end
/-- the iterator's own state, i items drawn -/
def RvAt (r l : Addr) (us : Array Value) (i : Nat) (h : Heap) : Prop := (i ≤ us.size ∧ h.IsRevIter r l ((us.size : Int) - 1 - (i : Int))) ∧ h.IsList l us
theorem drawsR {prog : Program} {w : World} {A : Around} (hh : A.handled = none) (r l : Addr) (ne : l ≠ r) (us : Array Value) : Draws prog w A r [r, l] us.size (fun i v => us[us.size - 1 - i]? = some v) (RvAt r l us) where
  live := fun i h st => by
    obtain ⟨⟨_, o, e, _⟩, _⟩ := st
    exact ⟨o, e⟩
  frame := fun i h h' st k => ⟨⟨st.1.1, st.1.2.at fun o e => k r (by simp) o e⟩, st.2.at fun o e => k l (by simp) o e⟩
  item := fun i sh Q E hi st k => by
    have e1 : (us.size : Int) - 1 - (i : Int) = ((us.size - 1 - i : Nat) : Int) := by omega
    have hr := st.1.2
    rw [e1] at hr
    have hx : us[us.size - 1 - i]? = some (us[us.size - 1 - i]'(by omega)) := Array.getElem?_eq_getElem (by omega)
    refine nextRv_item hr st.2 hx fun g hg sb => ?_
    have e2 : ((us.size - 1 - i : Nat) : Int) - 1 = (us.size : Int) - 1 - ((i + 1 : Nat) : Int) := by omega
    rw [e2] at hg
    exact k _ g sh.toks hx ⟨⟨hi, hg⟩, st.2.extBut sb.extBut ne⟩ sb
  done := fun sh Q E st k => by
    have e1 : (us.size : Int) - 1 - (us.size : Int) = -1 := by omega
    have hr := st.1.2
    rw [e1] at hr
    exact nextRv_end hh hr k
/-! the start of such a zip: the second one's iterator is new -/
abbrev zrT (h : Heap) (r : Addr) (o : Obj) : Heap := (h.push o).push { cls := .type "tuple", data := .seq #[.ref r, .ref h.objs.size] }
abbrev zrO (h : Heap) (r : Addr) (o : Obj) : Heap := (zrT h r o).push { cls := .type "tuple", data := .seq #[.none, .none] }
abbrev zrZ (h : Heap) (r : Addr) (o : Obj) : Heap := (zrO h r o).push { cls := .type "zip", data := .fields #[.none, .bool false, .bool false, .ref (h.push o).objs.size, .ref (zrT h r o).objs.size] }
theorem meets_zipR {v2 : Value} {o : Obj} {Hb : Heap → Prop} {r l : Addr} {c : Int} (Bg : Begins v2 o Hb) :
    Meets (Builtin.«zip.__new__» ⟨[.type "zip", .ref r, v2], []⟩) (fun _ R sh => (sh.heap.IsRevIter r l c ∧ Hb sh.heap) ∧ R (.ok (.ret (.ref (zrO sh.heap r o).objs.size))) { sh with heap := zrZ sh.heap r o }) :=
  .of_wp fun prog w A R sh h => by
    obtain ⟨hp, g, d, tk, os⟩ := sh
    obtain ⟨⟨h1, h2⟩, h⟩ := h
    have sz := sub_zip
    have q1 : ∀ {A1 : Around} {E1 : Value → Shared → Prop} {Q1 : Value → Shared → Prop}, Q1 (.ref r) ⟨hp, g, d, tk, os⟩ → wpAny (model prog w) A1 (pyIter (.ref r)) Q1 E1 ⟨hp, g, d, tk, os⟩ := fun q => wpAny_pyIter_revIter h1 q
    have q2 : ∀ {A1 : Around} {E1 : Value → Shared → Prop} {Q1 : Value → Shared → Prop}, Q1 (.ref hp.objs.size) ⟨hp.push o, g, d, tk, os⟩ → wpAny (model prog w) A1 (pyIter v2) Q1 E1 ⟨hp, g, d, tk, os⟩ := fun q => Bg.iter prog w _ _ ⟨hp, g, d, tk, os⟩ _ h2 q
    wp_walk using q1, q2
    exact ⟨_, rfl, h⟩
theorem zipR_begins {prog : Program} {w : World} {A : Around} {E : Value → Shared → Prop} {sh : Shared} {v2 : Value} {o : Obj} {Hb : Heap → Prop} {r l : Addr} {c : Int} {Q : Value → Shared → Prop} (Bg : Begins v2 o Hb) (h1 : sh.heap.IsRevIter r l c) (h2 : Hb sh.heap)
    (k : ∀ g, IsZip g (sh.heap.objs.size + 3) (sh.heap.objs.size + 1) (sh.heap.objs.size + 2) .none → IsTupOf2 g (sh.heap.objs.size + 1) (.ref r) (.ref sh.heap.objs.size) → IsTupOf2 g (sh.heap.objs.size + 2) .none .none → g.get? sh.heap.objs.size = some o →
      (∀ b ob, sh.heap.get? b = some ob → g.get? b = some ob) → Q (.ref (sh.heap.objs.size + 3)) { sh with heap := g }) :
    wpAny (model prog w) A (call (.type "zip") [.ref r, v2]) Q E sh := by
  refine callType_new F.called_zip (by decide) (F.typeCall_zip_2 _ _) (F.newCall_zip_2 _ _) (fun ob => F.args_object_init_3 ob _ _) F.entry_zip_new (meets_zipR Bg) ⟨⟨h1, h2⟩, ?_⟩
  have z1 : (sh.heap.push o).objs.size = sh.heap.objs.size + 1 := Heap.size_push ..
  have zT : (zrT sh.heap r o).objs.size = sh.heap.objs.size + 2 := by rw [Heap.size_push, z1]
  have zO : (zrO sh.heap r o).objs.size = sh.heap.objs.size + 3 := by rw [Heap.size_push, zT]
  have gZ : (zrZ sh.heap r o).get? (zrO sh.heap r o).objs.size = some { cls := .type "zip", data := .fields #[.none, .bool false, .bool false, .ref (sh.heap.push o).objs.size, .ref (zrT sh.heap r o).objs.size] } := Heap.get?_push_size _ rfl
  have gO : (zrZ sh.heap r o).get? (zrT sh.heap r o).objs.size = some { cls := .type "tuple", data := .seq #[.none, .none] } := Heap.get?_push_of_some _ (Heap.get?_push_size _ rfl)
  have gT : (zrZ sh.heap r o).get? (sh.heap.push o).objs.size = some { cls := .type "tuple", data := .seq #[.ref r, .ref sh.heap.objs.size] } := Heap.get?_push_of_some _ (Heap.get?_push_of_some _ (Heap.get?_push_size _ rfl))
  have g2 : (zrZ sh.heap r o).get? sh.heap.objs.size = some o := Heap.get?_push_of_some _ (Heap.get?_push_of_some _ (Heap.get?_push_of_some _ (Heap.get?_push_size _ Bg.free)))
  rw [zO, zT, z1] at gZ
  rw [zT] at gO
  rw [z1] at gT
  show _ ∧ _
  rw [zO]
  exact ⟨⟨_, gZ, rfl⟩, k _ gZ gT gO g2 fun b ob e => Heap.get?_push_of_some _ (Heap.get?_push_of_some _ (Heap.get?_push_of_some _ (Heap.get?_push_of_some _ e)))⟩
/-- the items of a, n of them, from the end, those of b from the start, in new pairs -/
def Itr2 (K : PySem.W.Frag) (a b : Addr) (n : Nat) : It where
  go := fun i H => ∃ (xs ys : List V) (x y : V), (SqL K H a xs ∧ xs.length = n ∧ i < n ∧ xs[n - 1 - i]? = some x) ∧ SqL K H b ys ∧ ys[i]? = some y
  yld := fun i H v H' => ∃ T x y, v = .ref T ∧ H T = none ∧ H' = upd H T (.tup [x, y]) ∧ (∀ xs, SqL K H a xs → xs[n - 1 - i]? = some x) ∧ (∀ ys, SqL K H b ys → ys[i]? = some y)
  stop := fun i H => ∃ xs ys : List V, (SqL K H a xs ∧ SqL K H b ys) ∧ xs.length = n ∧ i ≤ n ∧ i ≤ ys.length ∧ (i = n ∨ i = ys.length)
def ZpR (a b z TI TO i1 i2 : Addr) (n : Nat) (i : Nat) (h : Heap) : Prop :=
  IsZip h z TI TO .none ∧ IsTupOf2 h TI (.ref i1) (.ref i2) ∧ (∃ x y, IsTupOf2 h TO x y) ∧ (i ≤ n ∧ h.IsRevIter i1 a ((n : Int) - 1 - (i : Int))) ∧ h.IsListIter i2 b i
theorem revI_ob {h : Heap} {r l : Addr} {c : Int} (p : h.IsRevIter r l c) : ∃ o, h.get? r = some o ∧ ∀ v, o.data ≠ .cell v := by
  obtain ⟨o, e, _, d⟩ := p
  exact ⟨o, e, fun v q => by rw [d] at q; cases q⟩
theorem lstI_ob {h : Heap} {r l : Addr} {c : Nat} (p : h.IsListIter r l c) : ∃ o, h.get? r = some o ∧ ∀ v, o.data ≠ .cell v := ItB.ob (t := false) p
theorem turn_zipR {P : Program} {w : World} {K : PySem.W.Frag} {elts : List Expr} {kk : Nat} {tpos : Pos} {a b z TI TO i1 i2 : Addr} (n : Nat) (S : ZipSep2 z TI TO i1 i2 [i1, a] [i2, b]) (n1 : a ≠ i1) (n2 : b ≠ i2) :
    Turn P w K (.Tuple elts kk tpos) (Itr2 K a b n) [z, TI, TO, i1, i2] z (ZpR a b z TI TO i1 i2 n) where
  mem := List.mem_cons_self
  obj := fun i h st c hc => by
    obtain ⟨q0, q1, ⟨x, y, q2⟩, q3, q4⟩ := st
    exact fp5 (p := fun c => ∃ ob, h.get? c = some ob ∧ ∀ v, ob.data ≠ .cell v) hc ⟨_, q0, fun _ e => nomatch e⟩ ⟨_, q1, fun _ e => nomatch e⟩ ⟨_, q2, fun _ e => nomatch e⟩ (revI_ob q3.2) (lstI_ob q4)
  keep := fun i h h1 st k => by
    obtain ⟨q0, q1, ⟨x, y, q2⟩, q3, q4⟩ := st
    exact ⟨k z (by simp) _ q0, k TI (by simp) _ q1, ⟨x, y, k TO (by simp) _ q2⟩, ⟨q3.1, q3.2.at fun o e => k i1 (by simp) o e⟩, q4.at fun o e => k i2 (by simp) o e⟩
  item := by
    intro X hP hw hK hcalm i pins sh σ H E I hf st hgo
    subst hP hw hK
    obtain ⟨q0, q1, ⟨x0, y0, q2⟩, q3, q4⟩ := st
    obtain ⟨xs, ys, x, y, ⟨hxs, hln, hin, hx⟩, hys, hy⟩ := hgo
    obtain ⟨us, r1, p1, _⟩ := I.list hxs
    obtain ⟨vs, r2, p2, _⟩ := I.list hys
    obtain ⟨u, hu, ru⟩ := r1.get hx
    obtain ⟨v, hv, rv⟩ := r2.get hy
    have lz : z < sh.heap.objs.size := Heap.lt_size q0
    have us_n : us.toArray.size = n := by rw [List.size_toArray, ← r1.length, hln]
    have iv : i < vs.toArray.size := by
      rw [List.size_toArray]
      exact (List.getElem?_eq_some_iff.mp hv).1
    have st1 : RvAt i1 a us.toArray i sh.heap := ⟨by rw [us_n]; exact q3, p1.isList⟩
    refine wpAny_pyNext_zipD2_item S (drawsR (A := X.A.in1) (I.ok.hd hcalm) i1 a n1 us.toArray) (Draws.list (A := X.A.in1) (I.ok.hd hcalm) i2 b n2 vs.toArray) q0 q1 q2 st1 ⟨q4, p2.isList⟩ (by rw [us_n]; exact hin) iv fun u1 v1 h1 tk eu ev z1 T1 s1 s2 nT sz k => ?_
    have eu : u1 = u := by
      have e : us[n - 1 - i]? = some u1 := by rw [us_n] at eu; simpa using eu
      rw [hu] at e
      exact (Option.some.inj e).symm
    have ev : v1 = v := by
      have e : vs[i]? = some v1 := by simpa using ev
      rw [hv] at e
      exact (Option.some.inj e).symm
    subst eu ev
    refine ⟨_, rfl, wpAny_letOwnedTupleGo_zip (s := { sh with heap := h1, toks := tk }) z1 fun h2 z2 sb => ?_⟩
    have nT2 : h2.get? sh.heap.objs.size = some { cls := .type "tuple", data := .seq #[u1, v1] } := (sb.2 _ (Nat.ne_of_gt lz)).trans nT
    have new : ObjOk X.prog X.w (upd H sh.heap.objs.size (.tup [x, y])) h2 sh.heap.objs.size (.tup [x, y]) :=
      ⟨by show 2 ≤ sizeLine; decide, [u1, v1], .cons ru (.cons rv .nil), ⟨_, nT2, rfl, _, rfl⟩⟩
    have kk : ∀ c o, c ∉ [z, TI, TO, i1, i2] → sh.heap.get? c = some o → h2.get? c = some o := fun c o hc e =>
      (sb.2 c fun q => hc (by simp [q])).trans (k c o (fun q => hc (by simp [q])) (fun q => hc (by simp [q])) (fun q => hc (by simp [q])) (fun q => hc (by simp [q])) e)
    have I2 : Inv X pins σ (upd H sh.heap.objs.size (.tup [x, y])) { sh with heap := h2, toks := tk } := I.turnedNew (ch := [z, TI, TO, i1, i2]) kk hf (Nat.le_refl _) new
    have old : ∀ c o, sh.heap.get? c = some o → c ≠ sh.heap.objs.size := fun c o e => Nat.ne_of_lt (Heap.lt_size e)
    have s11 := s1.1
    rw [us_n] at s11
    refine ⟨.ref sh.heap.objs.size, _, I2, rfl, ⟨_, x, y, rfl, I.hok.fresh (Nat.le_refl _), rfl, fun l hl => by rw [I.list_inj hl hxs]; exact hx, fun l hl => by rw [I.list_inj hl hys]; exact hy⟩, ⟨z2, ?_, ⟨u1, v1, ?_⟩, ⟨s11.1, ?_⟩, ?_⟩, fun c hc => ?_⟩
    · exact (sb.2 _ S.TIz).trans (k _ _ S.TIz S.TITO S.TIi1 S.TIi2 q1)
    · exact (sb.2 _ S.TOz).trans T1
    · exact s11.2.at fun o e => (sb.2 i1 S.zi1.symm).trans e
    · exact s2.1.at fun o e => (sb.2 i2 S.zi2.symm).trans e
    · have ne : c ≠ sh.heap.objs.size := fp5 (p := fun c => c ≠ sh.heap.objs.size) hc (old _ _ q0) (old _ _ q1) (old _ _ q2) (by obtain ⟨o, e, _⟩ := q3.2; exact old _ _ e) (by obtain ⟨o, e, _⟩ := q4; exact old _ _ e)
      rw [upd_ne ne]
      exact (hf c hc).1
  done := by
    intro X hP hw hK hcalm i pins sh σ H E I hf st hstop
    subst hP hw hK
    obtain ⟨q0, q1, ⟨x0, y0, q2⟩, q3, q4⟩ := st
    obtain ⟨xs, ys, ⟨hxs, hys⟩, hln, l1, l2, he⟩ := hstop
    obtain ⟨us, r1, p1, _⟩ := I.list hxs
    obtain ⟨vs, r2, p2, _⟩ := I.list hys
    have us_n : us.toArray.size = n := by rw [List.size_toArray, ← r1.length, hln]
    have vs_n : vs.toArray.size = ys.length := by rw [List.size_toArray, ← r2.length]
    have st1 : RvAt i1 a us.toArray i sh.heap := ⟨by rw [us_n]; exact q3, p1.isList⟩
    refine wpAny_pyNext_zipD2_end S (drawsR (A := X.A.in1) (I.ok.hd hcalm) i1 a n1 us.toArray) (Draws.list (A := X.A.in1) (I.ok.hd hcalm) i2 b n2 vs.toArray) q0 q1 q2 st1 ⟨q4, p2.isList⟩ (by omega) (by omega) (by omega) fun h1 tk k => ?_
    exact ⟨rfl, I.turnedL (ch := [z, TI, TO, i1, i2]) (fun c o hc e => k c o (fun q => hc (by simp [q])) (fun q => hc (by simp [q])) (fun q => hc (by simp [q])) (fun q => hc (by simp [q])) e) hf⟩
  self := fun A i sh Q E st h => wpAny_pyIter_zip st.1 h
/-- zip(reversed(e), e2), both lists -/
def iZipR (K : PySem.W.Frag) (te te2 : TE) : TI := fun σ H R => te σ H fun v H1 => ∃ a xs, v = .ref a ∧ SqL K H1 a xs ∧ te2 σ H1 fun v2 H2 => ∃ b ys, v2 = .ref b ∧ SqL K H2 a xs ∧ SqL K H2 b ys ∧ R (Itr2 K a b xs.length) H2
theorem pi_zipR {X : Cx} {e e2 : Expr} {te te2 : TE} {p p2 pos pos2 tpos : Pos} {elts : List Expr} {kk : Nat} (hg : Gl X "zip") (hm : X.mg "zip" = none) (hg2 : Gl X "reversed") (hm2 : X.mg "reversed" = none) (he : PE X e te) (he2 : PE X e2 te2)
    (hs : starEach [Expr.Call (.Name "reversed" p2) [e] [] pos2, e2] X.env = (false, eval (Expr.Call (.Name "reversed" p2) [e] [] pos2) X.env) :: starEach [e2] X.env := by rfl) (hs2 : starEach [e2] X.env = (false, eval e2 X.env) :: starEach [] X.env := by rfl)
    (hpl : (backTo pos (starEach [e2] X.env)).any (·.1) = false := by rfl) (hs3 : starEach [e] X.env = (false, eval e X.env) :: starEach [] X.env := by rfl) :
    PI X (.Tuple elts kk tpos) (.Call (.Name "zip" p) [.Call (.Name "reversed" p2) [e] [] pos2, e2] [] pos) (iZipR X.K te te2) := by
  refine ⟨fun pins sh σ H R I h => ?_⟩
  refine Call_ (ld_blt I hg hm PyProof.Rows.boot_zip (PyProof.Rows.callWith_type1 (PyProof.Rows.args_cons (Call_ (ld_blt I hg2 hm2 PyProof.Rows.boot_reversed (PyProof.Rows.callWith_type1 (PyProof.Rows.args_cons (thn (he.run pins sh σ H _ I h) fun u s1 ⟨v, H1, I1, rr, q⟩ => PyProof.Rows.args_nil ?_) hs3) hs3 rfl))) hs) hs hpl))
  obtain ⟨a, xs, rfl, hx, q⟩ := q
  obtain rfl : u = Value.ref a := rr
  obtain ⟨us, r1, p1, _⟩ := I1.list hx
  refine call_reversed_list p1.isList ?_
  have F1 := I1.fpOk (b := s1.heap.objs.size) (Nat.le_refl _) (I1.hok.fresh (Nat.le_refl _))
  have I2 : Inv X pins σ H1 { s1 with heap := s1.heap.push (revObj a ((us.toArray.size : Int) - 1)) } := I1.kept (t' := s1.toks) (fun b u e => Heap.get?_push_of_some _ e)
  have I3 : Inv X ((s1.heap.objs.size, revObj a ((us.toArray.size : Int) - 1)) :: pins) σ H1 { s1 with heap := s1.heap.push (revObj a ((us.toArray.size : Int) - 1)) } := I2.pins_of (fun p hp => by
    rcases List.mem_cons.mp hp with rfl | hp
    · exact ⟨Heap.get?_push_size _ rfl, F1.1, F1.2.1, F1.2.2.1, fun v e => nomatch e⟩
    · exact I2.pin p (List.mem_append_right _ hp))
  refine PyProof.Rows.args_cons (thn (he2.run _ _ σ H1 _ I3 q) fun u2 s2 ⟨v2, H2, I4, rr2, q2⟩ => PyProof.Rows.args_nil ?_) hs2
  obtain ⟨b, ys, rfl, hx2, hy, q3⟩ := q2
  obtain rfl : u2 = Value.ref b := rr2
  have P0 := I4.pin (s1.heap.objs.size, revObj a ((us.toArray.size : Int) - 1)) (List.mem_append_right _ List.mem_cons_self)
  have I5 : Inv X pins σ H2 s2 := I4.pins_of fun p hp => I4.pin p (List.mem_append_right _ (List.mem_cons_of_mem _ hp))
  obtain ⟨vs, r2, p2, _⟩ := I5.list hy
  obtain ⟨us2, _, p3, _⟩ := I5.list hx2
  have FR : FpOk X pins H2 s1.heap.objs.size := ⟨P0.2.1, F1.2⟩
  have lr : @LT.lt Nat _ s1.heap.objs.size s2.heap.objs.size := Heap.lt_size P0.1
  have la : @LT.lt Nat _ a s1.heap.objs.size := HsB.lt (t := false) p1.isList
  have lb : @LT.lt Nat _ b s2.heap.objs.size := HsB.lt (t := false) p2.isList
  have us_n : us.toArray.size = xs.length := by rw [List.size_toArray, r1.length]
  refine zipR_begins (begins_list b vs.toArray) (c := (us.toArray.size : Int) - 1) (l := a) ⟨_, P0.1, rfl, rfl⟩ p2.isList fun g z0 z1 z2 g1 k => wpAny_pyIter_zip z0 ?_
  have I6 : Inv X pins σ H2 { s2 with heap := g } := I5.kept (t' := s2.toks) k
  generalize s1.heap.objs.size = r at *
  generalize hN : s2.heap.objs.size = N at *
  have nb : @Ne Nat b r := fun e => by
    subst e
    obtain ⟨o, eo, co, _⟩ := p2.isList
    have eo2 := P0.1
    rw [show (b, revObj a ((us.toArray.size : Int) - 1)).1 = b from rfl, eo] at eo2
    rw [Option.some.inj eo2] at co
    exact absurd (show "list_reverseiterator" = "list" from Value.type.inj co) (by decide)
  have S : ZipSep2 (N + 3) (N + 1) (N + 2) r N [r, a] [N, b] := by
    constructor <;> first | (refine PySem.W.neN ?_; omega) | exact List.mem_cons_self | (refine nm2 ?_ ?_ <;> refine PySem.W.neN ?_ <;> omega)
  refine ⟨N + 3, _, _, _, H2, rfl, I6, turn_zipR xs.length S (Nat.ne_of_lt la) (Nat.ne_of_lt lb), ⟨z0, z1, ⟨_, _, z2⟩, ⟨Nat.zero_le _, ?_⟩, ⟨_, g1, rfl, rfl⟩⟩, fun c hc => ?_, q3⟩
  · exact ⟨_, k _ _ P0.1, rfl, by rw [us_n]; show Data.fields #[.ref a, rawInt ((xs.length : Int) - 1)] = Data.fields #[.ref a, rawInt ((xs.length : Int) - 1 - ((0 : Nat) : Int))]; rw [show (xs.length : Int) - 1 - ((0 : Nat) : Int) = (xs.length : Int) - 1 by omega]⟩
  · have big : ∀ c, N ≤ c → FpOk X pins H2 c := fun c le => I5.fpOk (by rw [hN]; exact le) (I5.hok.fresh (by rw [hN]; exact le))
    exact fp5 (p := fun c => FpOk X pins H2 c) hc (big _ (Nat.le_add_right _ _)) (big _ (Nat.le_add_right _ _)) (big _ (Nat.le_add_right _ _)) FR (big _ (Nat.le_refl _))
def LcZR (K : PySem.W.Frag) (a b : Addr) (n : Nat) := LcJ (Itr2 K a b n)
section
variable {K : PySem.W.Frag} {a b : Addr} {xs ys : List V} {g : TG} {σ : L2.St} {H : Hp} {te2 te3 : TE} {tt : TT} {te : TE} {vs : List Nat} {Q : VK}
theorem rd_lcZR : tLc (iZipR K te2 te3) g tt te vs σ H Q = te2 σ H fun v H1 => ∃ a xs, v = .ref a ∧ SqL K H1 a xs ∧ te3 σ H1 fun v2 H2 => ∃ b ys, v2 = .ref b ∧ SqL K H2 a xs ∧ SqL K H2 b ys ∧ LcZR K a b xs.length g tt te vs σ H2 Q := rfl
/-- the items are told, the first ones from the end -/
theorem LcZR.p {n : Nat} (hn : xs.length = n) (hn2 : ys.length = n) (y : Nat → Option V) (hm : n ≤ 10000000) (hx : ∀ H1, Same H H1 → SqL K H1 a xs ∧ SqL K H1 b ys)
    (hs : ∀ (i : Nat) (x x' : V), i < n → xs[n - 1 - i]? = some x → ys[i]? = some x' → ∀ H1 T, Same H H1 → H1 T = some (.tup [x, x']) → ∀ (M : VK) (S : Hp → Prop), (∀ v H2, y i = some v → Same H1 H2 → M v H2) → (∀ H2, y i = none → Same H1 H2 → S H2) →
      g (.ref T) (wipe σ vs) H1 fun σ2 H2 => wipe σ2 vs = wipe σ vs ∧ tt σ2 H2 fun b H3 => if b = true then te σ2 H3 M else S H3)
    (hd : ∀ D H', H D = none → Same H H' → H' D = some (.lst ((List.range n).filterMap y)) → Q (.ref D) H') : LcZR K a b n g tt te vs σ H Q := by
  intro D hD
  refine ⟨fun i m H1 => m = n - i ∧ i ≤ n ∧ ∃ zs, pureI H n y i zs H1 ∧ H1 D = some (.lst zs), ⟨_, rfl, Nat.zero_le _, [], ⟨same_upd hD, rfl, Nat.zero_le _⟩, upd_same⟩, ?_⟩
  rintro i m H1 ⟨rfl, hin, zs, p, hz1⟩
  obtain ⟨qx, qy⟩ := hx H1 p.1
  rcases Nat.lt_or_ge i n with c | c
  · have hxi : n - 1 - i < xs.length := by omega
    have hyi : i < ys.length := by omega
    refine .inr ⟨⟨xs, ys, _, _, ⟨qx, hn, c, List.getElem?_eq_getElem hxi⟩, qy, List.getElem?_eq_getElem hyi⟩, fun H' => ∃ zs, pureI H n y (i + 1) zs H' ∧ H' D = some (.lst zs), fun H' p' => ⟨n - (i + 1), by omega, rfl, c, p'⟩, fun v H' z => ?_⟩
    obtain ⟨T, x, x', rfl, hT, rfl, f1, f2⟩ := z
    have sT := same_upd (o := HO.tup [x, x']) hT
    refine hs i x x' c (f1 xs qx) (f2 ys qy) _ T (p.1.trans sT) upd_same (fun y H4 => ∃ acc, H4 D = some (.lst acc) ∧ acc.length < sizeLine ∧ ∃ zs, pureI H n _ (i + 1) zs (upd H4 D (.lst (acc ++ [y]))) ∧ (upd H4 D (.lst (acc ++ [y]))) D = some (.lst zs)) _ (fun v H2 e s2 => ?_) (fun H2 e s2 => ?_)
    · have hz2 := s2 _ _ (sT _ _ hz1)
      refine ⟨zs, hz2, pureI.z hm i zs H1 p, zs ++ [v], pureI.ind (i + 1) (zs ++ [v]) H2 D zs _ ⟨(p.1.trans sT).trans s2, ?_, by omega⟩ hD hz2, upd_same⟩
      rw [List.range_succ, List.filterMap_append, List.filterMap_cons, e, ← p.2.1]
      rfl
    · refine ⟨zs, ⟨(p.1.trans sT).trans s2, ?_, by omega⟩, s2 _ _ (sT _ _ hz1)⟩
      rw [List.range_succ, List.filterMap_append, List.filterMap_cons, e, List.filterMap_nil, List.append_nil, ← p.2.1]
  · have e : i = n := by omega
    subst e
    exact .inl ⟨⟨xs, ys, ⟨qx, qy⟩, hn, Nat.le_refl _, by omega, .inl rfl⟩, hd D H1 hD p.1 (by rw [← p.2.1]; exact hz1)⟩
theorem LcZR.w {n : Nat} (hn : xs.length = n) (hn2 : ys.length = n) (Pw : Nat → Addr → List V → Hp → Prop) (h0 : ∀ D, H D = none → Pw 0 D [] (upd H D (.lst []))) (hl : ∀ D i zs H1, i ≤ n → Pw i D zs H1 → SqL K H1 a xs ∧ SqL K H1 b ys)
    (hs : ∀ (D : Addr) (i : Nat) (x x' : V) (zs : List V) (H1 : Hp) (T : Addr), i < n → xs[n - 1 - i]? = some x → ys[i]? = some x' → Pw i D zs H1 → H1 T = none → ∀ N : Hp → Prop, (∀ zs' H', Pw (i + 1) D zs' H' → N H') →
      g (.ref T) (wipe σ vs) (upd H1 T (.tup [x, x'])) fun σ2 H2 => wipe σ2 vs = wipe σ vs ∧ tt σ2 H2 fun b H3 => if b = true then te σ2 H3 fun y H4 => ∃ acc, H4 D = some (.lst acc) ∧ acc.length < sizeLine ∧ N (upd H4 D (.lst (acc ++ [y]))) else N H3)
    (hd : ∀ D zs H', H D = none → Pw n D zs H' → Q (.ref D) H') : LcZR K a b n g tt te vs σ H Q := by
  intro D hD
  refine ⟨fun i m H1 => m = n - i ∧ i ≤ n ∧ ∃ zs, Pw i D zs H1, ⟨_, rfl, Nat.zero_le _, [], h0 D hD⟩, ?_⟩
  rintro i m H1 ⟨rfl, hin, zs, p⟩
  obtain ⟨qx, qy⟩ := hl D i zs H1 hin p
  rcases Nat.lt_or_ge i n with c | c
  · have hxi : n - 1 - i < xs.length := by omega
    have hyi : i < ys.length := by omega
    refine .inr ⟨⟨xs, ys, _, _, ⟨qx, hn, c, List.getElem?_eq_getElem hxi⟩, qy, List.getElem?_eq_getElem hyi⟩, fun H' => ∃ zs', Pw (i + 1) D zs' H', fun H' p' => ⟨n - (i + 1), by omega, rfl, c, p'⟩, fun v H' z => ?_⟩
    obtain ⟨T, x, x', rfl, hT, rfl, f1, f2⟩ := z
    exact hs D i x x' zs H1 T c (f1 xs qx) (f2 ys qy) p hT _ fun zs' H' p' => ⟨zs', p'⟩
  · have e : i = n := by omega
    subst e
    exact .inl ⟨⟨xs, ys, ⟨qx, qy⟩, hn, Nat.le_refl _, by omega, .inl rfl⟩, hd D zs H1 hD p⟩
end
theorem rd_revR1 {ta : TE} {g : TG} {tb : TS} {D : Ends} {σ : L2.St} {H : Hp} : tFor (iRevR (tRg1 ta)) g tb D σ H = ta σ H fun x H1 => ∃ n : Int, x = .int n ∧ -(2 ^ 62) ≤ (0 : Int) ∧ (0 : Int) < 2 ^ 62 ∧ -(2 ^ 62) ≤ n ∧ n < 2 ^ 62 ∧ ForC (0 + (((n - 0).toNat : Nat) : Int) - 1) (-1) (n - 0).toNat g tb D σ H1 := rfl
theorem sl_tupAK {X : Cx} {K : PySem.W.Frag} (h : X.K = K) : SlR X (rSlA K) := by
  subst h
  exact sl_tupA
end CB
/-! enumerate of a list -/
namespace CB
open PySem PySem.Spec PyProof.Rows L2
def IteL (K : PySem.W.Frag) (a : Addr) : It :=
  ⟨fun i H => ∃ (xs : List V) (x : V), SqL K H a xs ∧ xs[i]? = some x, fun i H v H1 => ∃ T x, v = .ref T ∧ H T = none ∧ H1 = upd H T (.tup [.int (i : Nat), x]) ∧ ∀ xs, SqL K H a xs → xs[i]? = some x, fun i H => ∃ xs : List V, SqL K H a xs ∧ xs.length = i⟩
theorem turn_enumL {P : Program} {w : World} {K : PySem.W.Frag} {elts : List Expr} {kk : Nat} {tpos : Pos} (a e it : Addr) :
    Turn P w K (.Tuple elts kk tpos) (IteL K a) [e, it] e (fun i h => (∃ old, IsEnum h e it ((i : Nat) : Int) old) ∧ h.IsListIter it a i ∧ e ≠ it ∧ e ≠ a ∧ a ≠ it) where
  mem := List.mem_cons_self
  obj := fun i h st b hb => by
    obtain ⟨⟨old, en⟩, ⟨o, ho, _, hd⟩, _⟩ := st
    rcases (by simpa using hb : b = e ∨ b = it) with rfl | rfl
    · exact ⟨_, en, fun v q => nomatch q⟩
    · refine ⟨o, ho, fun v q => ?_⟩
      rw [hd] at q
      cases q
  keep := fun i h h1 st k => by
    obtain ⟨⟨old, en⟩, hi, ne⟩ := st
    exact ⟨⟨old, k e List.mem_cons_self _ en⟩, hi.at fun o q => k it (List.mem_cons_of_mem _ List.mem_cons_self) o q, ne⟩
  item := by
    intro X hP hw hK hc i pins s σ H E I hf st hg
    subst hP hw hK
    obtain ⟨⟨old, en⟩, hit, ne, nea, nai⟩ := st
    obtain ⟨xs, x, hq, hx⟩ := hg
    obtain ⟨its, rv, tp, _⟩ := I.list hq
    obtain ⟨u, hu, ru⟩ := rv.get hx
    have lte : e < s.heap.objs.size := Heap.lt_size en
    have lti : it < s.heap.objs.size := by
      obtain ⟨_, q, _⟩ := hit
      exact Heap.lt_size q
    have ilt : i < its.toArray.size := by
      rw [List.size_toArray]
      exact (List.getElem?_eq_some_iff.mp hu).1
    refine wpAny_pyNext_enum_itemD (Draws.list (A := X.A.in1) (I.ok.hd hc) it a nai its.toArray) en ⟨hit, show s.heap.IsList a its.toArray from tp.isList⟩ ilt ne (by simp [ne, nea]) fun x1 h1 tk hx1 ho st1 hT sz hk => ?_
    have ex1 : x1 = u := by
      have z : its[i]? = some x1 := by simpa using hx1
      rw [hu] at z
      cases z
      rfl
    subst ex1
    refine ⟨_, rfl, wpAny_letOwnedTupleGo_enum (s := { s with heap := h1, toks := tk + 1 }) ho fun h2 en2 sb => ?_⟩
    have hT2 : h2.get? s.heap.objs.size = some { cls := .type "tuple", data := .seq #[.int i tk, x1] } := (sb.2 _ (Nat.ne_of_gt lte)).trans hT
    have fresh : ObjOk X.prog X.w (upd H s.heap.objs.size (.tup [.int (i : Nat), x])) h2 s.heap.objs.size (.tup [.int (i : Nat), x]) :=
      ⟨by show 2 ≤ sizeLine; decide, [.int i tk, x1], .cons ⟨_, rfl⟩ (.cons ru .nil), ⟨_, hT2, rfl, _, rfl⟩⟩
    have I2 : Inv X pins σ (upd H s.heap.objs.size (.tup [.int (i : Nat), x])) { s with heap := h2, toks := tk + 1 } :=
      I.turnedNew (ch := [e, it]) (fun b ob hb q => (sb.2 b (fun z => hb (by simp [z]))).trans (hk b ob (fun z => hb (by simp [z])) (fun z => hb (by simp [z])) q)) hf (Nat.le_refl _) fresh
    refine ⟨.ref s.heap.objs.size, _, I2, rfl, ⟨_, x, rfl, I.hok.fresh (Nat.le_refl _), rfl, fun ys hy => by rw [I.list_inj hy hq]; exact hx⟩, ⟨⟨x1, ?_⟩, st1.1.at fun o q => (sb.2 it (Ne.symm ne)).trans q, ne, nea, nai⟩, fun b hb => ?_⟩
    · rw [show ((i + 1 : Nat) : Int) = (i : Int) + 1 by omega]
      exact en2
    · have lt : b < s.heap.objs.size := by
        rcases (by simpa using hb : b = e ∨ b = it) with rfl | rfl
        · exact lte
        · exact lti
      rw [upd_ne (Nat.ne_of_lt lt)]
      exact (hf b hb).1
  done := by
    intro X hP hw hK hc i pins s σ H E I hf st hg
    subst hP hw hK
    obtain ⟨⟨old, en⟩, hit, ne, nea, nai⟩ := st
    obtain ⟨xs, hq, hx⟩ := hg
    obtain ⟨its, rv, tp, _⟩ := I.list hq
    obtain ⟨g0, g1, g2, g3, g4, g5⟩ := hf it (List.mem_cons_of_mem _ List.mem_cons_self)
    have sz : its.toArray.size = i := by
      have := rv.length
      rw [List.size_toArray]
      omega
    subst sz
    exact wpAny_pyNext_enum_endD (Draws.list (A := X.A.in1) (I.ok.hd hc) it a nai its.toArray) en ⟨hit, show s.heap.IsList a its.toArray from tp.isList⟩ fun h1 eb => ⟨rfl, I.turned (t' := s.toks) (fun b o hb q => eb b o hb q) g0 g1 g3 g4 g5⟩
  self := fun A i s Q E st h => let ⟨⟨_, en⟩, _⟩ := st; wpAny_pyIter_enum en h
def iEnumL (K : PySem.W.Frag) (ta : TA) : TI := fun σ H R => ta σ H fun vs H1 => ∃ a xs, vs = [.ref a] ∧ SqL K H1 a xs ∧ R (IteL K a) H1
theorem pi_enumL {X : Cx} {e : Expr} {ta : TA} {p pos tpos : Pos} {elts : List Expr} {kk : Nat} (hg : Gl X "enumerate") (hm : X.mg "enumerate" = none) (ha : PA X [e] ta) (hs : starEach [e] X.env = [(false, eval e X.env)] := by rfl) :
    PI X (.Tuple elts kk tpos) (.Call (.Name "enumerate" p) [e] [] pos) (iEnumL X.K ta) := by
  refine ⟨fun pins s σ H R I h => ?_⟩
  refine Call_ (ld_blt I hg hm boot_enumerate (PyProof.Rows.callWith_type1 (thn (ha.run pos pins s σ H _ I h) fun us s1 ⟨vs, H1, I1, r1, a, xs, ex, hq, q⟩ => ?_) hs rfl))
  subst ex
  rw [Vals.ref1 r1]
  obtain ⟨its, rv, tp, _⟩ := I1.list hq
  have tp' : s1.heap.IsList a its.toArray := tp.isList
  have lta : a < s1.heap.objs.size := by
    obtain ⟨_, z, _⟩ := tp'
    exact Heap.lt_size z
  refine enum1_at (begins_list a its.toArray) tp' fun h1 en hi hk => wpAny_pyIter_enum en ?_
  have I2 : Inv X pins σ H1 { s1 with heap := h1 } := I1.kept (t' := s1.toks) hk
  refine ⟨s1.heap.objs.size + 1, [s1.heap.objs.size + 1, s1.heap.objs.size], _, _, H1, rfl, I2, turn_enumL a (s1.heap.objs.size + 1) s1.heap.objs.size, ⟨⟨.none, en⟩, ⟨_, hi, rfl, rfl⟩, Nat.succ_ne_self _, Nat.ne_of_gt (Nat.lt_succ_of_lt lta), Nat.ne_of_lt lta⟩, fun b hb => ?_, q⟩
  have le : s1.heap.objs.size ≤ b := by
    rcases (by simpa using hb : b = s1.heap.objs.size + 1 ∨ b = s1.heap.objs.size) with rfl | rfl
    · exact Nat.le_succ _
    · exact Nat.le_refl _
  exact I1.fpOk le (I1.hok.fresh le)
def ForEL (K : PySem.W.Frag) (a : Addr) := ForJ (IteL K a)
section
variable {K : PySem.W.Frag} {a : Addr} {xs : List V} {g : TG} {tb : TS} {D : Ends} {σ : L2.St} {H : Hp} {ta : TA} {tt : TT} {te : TE} {vs : List Nat} {Q : VK}
theorem rd_forEL : tFor (iEnumL K ta) g tb D σ H = ta σ H fun us H1 => ∃ a xs, us = [.ref a] ∧ SqL K H1 a xs ∧ ForEL K a g tb D σ H1 := rfl
theorem ForEL.w (Pw : Nat → L2.St → Hp → Prop) (h0 : Pw 0 σ H) (hl : ∀ i σ H, i ≤ xs.length → Pw i σ H → SqL K H a xs)
    (hs : ∀ (i : Nat) (x : V) (T : Addr) σ H, xs[i]? = some x → Pw i σ H → H T = none → ∀ N : L2.St → Hp → Prop, (∀ σ' H', Pw (i + 1) σ' H' → N σ' H') → g (.ref T) σ (upd H T (.tup [.int (i : Nat), x])) fun σ2 H2 => tb { D with nx := N, ct := N, bk := D.nx } σ2 H2)
    (hd : ∀ σ H, Pw xs.length σ H → D.nx σ H) : ForEL K a g tb D σ H := by
  refine ⟨fun i m σ H => m = xs.length - i ∧ i ≤ xs.length ∧ Pw i σ H, ⟨_, rfl, Nat.zero_le _, h0⟩, ?_⟩
  rintro i m σ H ⟨rfl, hi, p⟩
  have hq := hl i σ H hi p
  rcases Nat.lt_or_ge i xs.length with c | c
  · have hx : xs[i]? = some xs[i] := List.getElem?_eq_getElem c
    refine .inr ⟨⟨xs, _, hq, hx⟩, Pw (i + 1), fun σ' H' p' => ⟨xs.length - (i + 1), by omega, rfl, c, p'⟩, fun v H' y => ?_⟩
    obtain ⟨T, x, rfl, hT, rfl, f⟩ := y
    exact hs i x T σ H (f xs hq) p hT _ fun _ _ h => h
  · have e : i = xs.length := by omega
    subst e
    exact .inl ⟨⟨xs, hq, rfl⟩, hd σ H p⟩
end
/-! ### a comprehension within a comprehension -/
theorem rel_fc {env : Env} : ∀ {names : List (Str × NameKind)} {x : Str}, names.lookup x = some .cell ∨ names.lookup x = some .free →
    (names.map fun (n, k) => if (k == NameKind.free && env.scope.kind == .function && env.kindOf n == some .cell) then (n, NameKind.cell) else (n, k)).lookup x = some .cell ∨
    (names.map fun (n, k) => if (k == NameKind.free && env.scope.kind == .function && env.kindOf n == some .cell) then (n, NameKind.cell) else (n, k)).lookup x = some .free
  | [], _, h => by simp at h
  | (n, k) :: r, x, h => by
    have ih := @rel_fc env r x
    show List.lookup x ((if (k == NameKind.free && env.scope.kind == .function && env.kindOf n == some .cell) = true then (n, NameKind.cell) else (n, k)) :: _) = _ ∨ List.lookup x ((if (k == NameKind.free && env.scope.kind == .function && env.kindOf n == some .cell) = true then (n, NameKind.cell) else (n, k)) :: _) = _
    cases hx : x == n with
    | true =>
      simp only [List.lookup_cons, hx] at h
      by_cases hc : (k == NameKind.free && env.scope.kind == .function && env.kindOf n == some .cell) = true
      · rw [if_pos hc]
        simp [List.lookup_cons, hx]
      · rw [if_neg hc]
        simp only [List.lookup_cons, hx]
        exact h
    | false =>
      simp only [List.lookup_cons, hx] at h
      by_cases hc : (k == NameKind.free && env.scope.kind == .function && env.kindOf n == some .cell) = true
      · rw [if_pos hc]; simp only [List.lookup_cons, hx]; exact ih h
      · rw [if_neg hc]; simp only [List.lookup_cons, hx]; exact ih h
theorem blkOk_in {X : Cx} {s : Shared} {H : Hp} {sc0 scope : Scope} {cl : List (Str × Addr)} {C : Addr} {E0 : Env} {fp : List Addr} {own : List (Str × Nat)} {N : List Str} (hN : X.N = N) (h : blkC N sc0 scope own = true) :
    BlkOk (X.blk s H sc0 (compEnvC sc0 cl C E0) fp).N (X.blk s H sc0 (compEnvC sc0 cl C E0) fp).env.scope scope own := by
  have o := blkOk_by h
  refine ⟨o.kind, o.uniq, fun p hp => ?_, fun y hy e => rel_fc (o.free y hy e), fun y hy e => ?_⟩
  · show X.N[p.2]? = _
    rw [hN]
    exact o.ix p hp
  · show _ ∨ y.1 ∉ X.N
    rw [hN]
    exact o.own y hy e
theorem cr_sumK {X : Cx} {K : PySem.W.Frag} (h : X.K = K) (hc : X.calm = true) : CallR X (.builtin "sum") (rSum K) := by
  subst h
  exact cr_sum hc
theorem cr_tupOfK {X : Cx} {K : PySem.W.Frag} (h : X.K = K) : CallR X (.type "tuple") (rTupOf K) := by
  subst h
  exact cr_tupOf
theorem cr_lenK {X : Cx} {K : PySem.W.Frag} (h : X.K = K) : CallR X (.builtin "len") (rLenS K) := by
  subst h
  exact cr_lenS
end CB
/-! ### t[::-1] of a tuple -/
namespace HT
open PySem PyProof.Rows
section
variable {prog : Program} {w : World} {A : Around} {E : Value → Shared → Prop} {s : Shared}
theorem adjust_rev (n : Nat) : Builtin.Slice.sliceAdjust none none (-1) (n : Int) = ((n : Int) - 1, -1) := by
  unfold Builtin.Slice.sliceAdjust
  have h1 : (-1 : Int) < 0 := by omega
  simp only [h1, if_true]
theorem places_rev (n : Nat) : Builtin.Slice.slicePlaces ((n : Int) - 1) (-1) (-1) = n := by
  unfold Builtin.Slice.slicePlaces
  have h1 : ¬ (-1 : Int) > 0 := by omega
  simp only [h1, if_false]
  by_cases h : n = 0
  · subst h; rfl
  · rw [if_pos (show (n : Int) - 1 > -1 by omega)]
    show ((((n : Int) - 1 - -1 - 1) / 1 + 1) : Int).toNat = n
    rw [Int.ediv_one]
    omega
theorem sliceApplied_rev {sl : Addr} {vs : Value} {n : Nat} {Q : Int × Int × Nat → Shared → Prop} (hs : s.heap.IsSliceOf sl .none .none vs) (ps : IsPart vs (some (-1)))
    (h : Q ((n : Int) - 1, -1, n) s) : wpAny (model prog w) A (Builtin.Slice.sliceApplied (.ref sl) (pure (n : Int))) Q E s := by
  obtain ⟨os, hos, hcs, hds⟩ := id hs
  unfold Builtin.Slice.sliceApplied Builtin.Slice.sliceFields
  refine wpAny_bind (wpAny_bind (wpAny_field hos hds (x := .none) rfl (wpAny_bind (wpAny_field hos hds (x := .none) rfl (wpAny_bind (wpAny_field hos hds (x := vs) rfl (wpAny_pure ?_)))))))
  refine wpAny_bind (slicePart_ ps ?_)
  show wpAny _ _ (if ((-1 : Int) == 0) = true then _ else _) _ _ s
  rw [if_neg (by decide)]
  refine wpAny_bind (slicePart_ .none (wpAny_bind (slicePart_ .none (wpAny_bind (wpAny_pure ?_)))))
  show wpAny _ _ (match Builtin.Slice.sliceAdjust none none (-1) (n : Int) with | (lo, hi) => pure (lo, (-1 : Int), Builtin.Slice.slicePlaces lo hi (-1))) _ _ s
  rw [adjust_rev n]
  show wpAny _ _ (pure ((n : Int) - 1, (-1 : Int), Builtin.Slice.slicePlaces ((n : Int) - 1) (-1) (-1))) _ _ s
  rw [places_rev]
  exact wpAny_pure h
theorem pick_rev (xs : Array Value) : ((List.range xs.size).filterMap fun (m : Nat) => xs[(((xs.size : Int) - 1) + (m : Int) * (-1)).toNat]?).toArray = xs.toList.reverse.toArray := by
  have e : ((List.range xs.size).filterMap fun (m : Nat) => xs[(((xs.size : Int) - 1) + (m : Int) * (-1)).toNat]?) = ((List.range xs.size).map fun k => xs.size - 1 - k).filterMap (xs[·]?) := by
    rw [List.filterMap_map]
    congr 1
    funext m
    show xs[(((xs.size : Int) - 1) + (m : Int) * (-1)).toNat]? = xs[xs.size - 1 - m]?
    congr 1
    omega
  rw [e, PySem.W.krv_range, List.filterMap_reverse, PySem.W.krv_all]
theorem getItem_tuple_rev {t sl : Addr} {items : Array Value} {vs : Value} {Q : Value → Shared → Prop} (ht : IsTup s.heap t items) (hs : s.heap.IsSliceOf sl .none .none vs) (ps : IsPart vs (some (-1)))
    (h : Q (.ref s.heap.objs.size) { s with heap := s.heap.push { cls := .type "tuple", data := .seq items.toList.reverse.toArray } })
    (hsz : items.size ≤ sizeLine) : wpAny (model prog w) A (getItem (.ref t) (.ref sl)) Q E s := by
  have htake : sizeOk (.seq items.toList.reverse.toArray) := by
    show items.toList.reverse.toArray.size ≤ sizeLine
    rw [List.size_toArray, List.length_reverse, Array.length_toList]
    exact hsz
  obtain ⟨os, hos, hcs, hds⟩ := id hs
  have hTs : s.TypeIs (.ref sl) "slice" := ⟨os, hos, hcs⟩
  unfold getItem
  try with_reducible refine wpAny_holding ?_
  first | refine wpAny_bind (wpAny_pure ?_) | skip
  refine wpAny_bind (wpAny_sequenceKey ht.typeIs (by decide) ?_)
  refine wpAny_bind (wpAny_callSpecial?_slot (name := Str.ofString "__getitem__") ht.typeIs PyProof.Rows.slot_tuple_getitem
    (wpAny_call_entry PyProof.Rows.slot_tuple_getitem ht.typeIs entry_tuple_getitem ?_ (args_tuple_getitem _ _)))
  show wpAny _ _ (Builtin.Tuple.tupleItemsOf (.ref t) >>= _) _ _ s
  refine wpAny_bind (tupleItemsOf_ ht ?_)
  refine wpAny_bind (wpAny_typeOf hTs ?_)
  rw [if_pos (by decide)]
  refine wpAny_bind (sliceApplied_rev hs ps ?_)
  have hno : ¬ (((items.size : Int) - 1 == 0 && (-1 : Int) == 1 && items.size == items.size) = true) := by
    intro q
    rw [Bool.and_eq_true, Bool.and_eq_true] at q
    exact absurd q.1.2 (by decide)
  show wpAny _ _ (if ((items.size : Int) - 1 == 0 && (-1 : Int) == 1 && items.size == items.size) = true then _ else _) _ _ s
  rw [if_neg hno, pick_rev]
  first
    | exact wpAny_bind (m := Builtin.Tuple.tupleExact _) (wpAny_newObj_type (wpAny_pure ⟨_, rfl, wpAny_pure h⟩) htake)
    | exact wpAny_bind (m := Builtin.Tuple.tupleExact _) (wpAny_newObj_type (wpAny_bind (wpAny_pure (wpAny_pure ⟨_, rfl, wpAny_pure h⟩))) htake)
    | exact wpAny_bind (wpAny_bind (m := Builtin.Tuple.tupleExact _) (wpAny_newObj_type (wpAny_pure (wpAny_pure ⟨_, rfl, wpAny_pure h⟩)) htake))
    | exact wpAny_bind (wpAny_bind (m := Builtin.Tuple.tupleExact _) (wpAny_newObj_type (wpAny_pure ⟨_, rfl, wpAny_pure h⟩) htake))
end
end HT
namespace CB
open PySem PySem.Spec PyProof.Rows L2
section
variable {X : Cx}
def tRevT (K : PySem.W.Frag) (te : TE) : TE := fun σ H Q => te σ H fun x H1 => ∃ a xs, x = .ref a ∧ SqT K H1 a xs ∧ ∀ p, H1 p = none → Q (.ref p) (upd H1 p (.tup xs.reverse))
theorem pe_revT {e : Expr} {te : TE} {k : Nat} {p1 p2 p3 pos : Pos} (he : PE X e te) : PE X (.Subscript e (.Slice none none (some (.UnaryOp .USub (.Constant (.int 1) k p1) p2)) p3) pos) (tRevT X.K te) := by
  refine ⟨fun pins s σ H Q I h => ?_⟩
  refine Subscript_ (thn (he.run pins s σ H _ I h) fun v s1 ⟨x, H1, I1, r1, q1⟩ => ?_)
  obtain ⟨a, xs, ex, hx, q⟩ := q1
  subst ex
  cases r1
  have hst : PO X (some (.UnaryOp .USub (.Constant (.int 1) k p1) p2)) (tPart (tUn (rU fun i => .int (-i)) (tC (.int 1)))) := po_some (pe_un un_neg pe_int)
  refine wpAny_Slice (thn (po_none.run pins s1 σ H1 (fun o H2 => o = none ∧ H2 = H1) I1 ⟨rfl, rfl⟩) fun vl s2 ⟨l, H2, I2, pl, el, e2⟩ => ?_)
  subst el e2
  refine thn (po_none.run pins s2 σ H2 (fun o H3 => o = none ∧ H3 = H2) I2 ⟨rfl, rfl⟩) fun vu s3 ⟨u, H3, I3, pu, eu, e3⟩ => ?_
  subst eu e3
  refine thn (hst.run pins s3 σ H3 (fun o H4 => o = some (-1) ∧ H4 = H3) I3 ⟨1, rfl, -1, rfl, rfl, rfl⟩) fun vs s4 ⟨o, H4, I4, ps, eo, e4⟩ => ?_
  subst eo e4
  cases pl
  cases pu
  have I5 : Inv X pins σ H4 { s4 with heap := s4.heap.push { cls := .type "slice", data := .fields #[.none, .none, vs] } } := I4.kept (t' := s4.toks) fun b ob q => Heap.get?_push_of_some _ q
  obtain ⟨its, r, ht, hz⟩ := I5.tuple hx
  have hlen := r.length
  show wpAny (model X.prog X.w) X.A (subscriptTail e (.Slice none none (some (.UnaryOp .USub (.Constant (.int 1) k p1) p2)) p3) (.ref a) (.ref s4.heap.objs.size)) (EP X pins σ Q) X.xe { s4 with heap := s4.heap.push { cls := .type "slice", data := .fields #[.none, .none, vs] } }
  refine tail_any (ops := [.ref a, .ref s4.heap.objs.size]) ht.typeIs PyProof.Rows.slot_tuple_getitem.lookup ?_ (by with_unfolding_all rfl)
  refine HT.getItem_tuple_rev ht (Heap.IsSliceOf.new _ .none .none vs) ps ?_ (by rw [List.size_toArray]; omega)
  refine ⟨.ref _, _, I5.laid (t' := s4.toks) (o := .tup xs.reverse) (fun b ob q => Heap.get?_push_of_some _ q) (Nat.le_refl _) ?_, rfl, q _ (I5.hok.fresh (Nat.le_refl _))⟩
  exact ⟨by rw [List.length_reverse]; exact hz, _, r.reverse, IsTup.new _ _⟩
end
section
variable {K : PySem.W.Frag} {a : Addr} {xs : List V} {g : TG} {tb : TS} {D : Ends} {σ : L2.St} {H : Hp} {te : TE} {ta : TA} {Q : VK}
theorem rd_revT : tRevT K te σ H Q = te σ H fun x H1 => ∃ a xs, x = .ref a ∧ SqT K H1 a xs ∧ ∀ p, H1 p = none → Q (.ref p) (upd H1 p (.tup xs.reverse)) := rfl
/-! ### a loop over reversed(a list) -/
def ForRv (K : PySem.W.Frag) (a : Addr) (n : Nat) := ForJ (Itv K a n)
def ForRvT (K : PySem.W.Frag) (a : Addr) (n : Nat) := ForJ (RT.ItvT K a n)
theorem rd_forRv : tFor (RT.iRevA K te) g tb D σ H = te σ H fun v H1 => ∃ (a : Addr) (xs : List V), v = .ref a ∧ ((SqL K H1 a xs ∧ ForRv K a xs.length g tb D σ H1) ∨ (SqT K H1 a xs ∧ ForRvT K a xs.length g tb D σ H1)) := rfl
theorem ForRv.w {n : Nat} (hn : xs.length = n) (Pw : Nat → L2.St → Hp → Prop) (h0 : Pw 0 σ H) (hl : ∀ i σ H, Pw i σ H → SqL K H a xs)
    (hs : ∀ i x σ H, i < xs.length → xs[xs.length - 1 - i]? = some x → Pw i σ H → ∀ N : L2.St → Hp → Prop, (∀ σ' H', Pw (i + 1) σ' H' → N σ' H') → g x σ H fun σ2 H2 => tb { D with nx := N, ct := N, bk := D.nx } σ2 H2) (hd : ∀ σ H, Pw xs.length σ H → D.nx σ H) : ForRv K a n g tb D σ H := by
  subst hn
  exact RT.for_Itv Pw h0 hl (fun i x σ H h1 h2 p => hs i x σ H h1 h2 p _ fun _ _ h => h) hd
theorem ForRvT.w {n : Nat} (hn : xs.length = n) (Pw : Nat → L2.St → Hp → Prop) (h0 : Pw 0 σ H) (hl : ∀ i σ H, Pw i σ H → SqT K H a xs)
    (hs : ∀ i x σ H, i < xs.length → xs[xs.length - 1 - i]? = some x → Pw i σ H → ∀ N : L2.St → Hp → Prop, (∀ σ' H', Pw (i + 1) σ' H' → N σ' H') → g x σ H fun σ2 H2 => tb { D with nx := N, ct := N, bk := D.nx } σ2 H2) (hd : ∀ σ H, Pw xs.length σ H → D.nx σ H) : ForRvT K a n g tb D σ H := by
  subst hn
  exact RT.for_ItvT Pw h0 hl (fun i x σ H h1 h2 p => hs i x σ H h1 h2 p _ fun _ _ h => h) hd
end
/-! ### list(xs) -/
def rListOf (K : PySem.W.Frag) : List V → Hp → VK → Prop := fun xs H Q => ∃ p ys, xs = [.ref p] ∧ (SqL K H p ys ∨ SqT K H p ys) ∧ ∀ l, H l = none → Q (.ref l) (upd H l (.lst ys))
theorem cr_listOfK {X : Cx} {K : PySem.W.Frag} (h : X.K = K) : CallR X (.type "list") (rListOf K) := by
  subst h
  exact call_list_of
theorem rd_listOf {K : PySem.W.Frag} {xs : List V} {H : Hp} {Q : VK} : rListOf K xs H Q = ∃ p ys, xs = [.ref p] ∧ (SqL K H p ys ∨ SqT K H p ys) ∧ ∀ l, H l = none → Q (.ref l) (upd H l (.lst ys)) := rfl
/-! ### xs.insert(i, y) -/
def rInsert : V → List V → Hp → VK → Prop := fun x vs H Q => ∃ (l : Addr) (xs : List V) (i : Int) (y : V), x = .ref l ∧ vs = [.int i, y] ∧ H l = some (.lst xs) ∧ xs.length < sizeLine ∧ 0 ≤ i ∧ i < 2 ^ 63 ∧ Q .non (upd H l (.lst (xs.take i.toNat ++ [y] ++ xs.drop i.toNat)))
theorem mt_ins {X : Cx} : MtR X "list.insert" rInsert := L2.mt_insert
theorem rd_ins {K : PySem.W.Frag} {to : TE} {t : TA} {σ : L2.St} {H : Hp} {Q : VK} : tBM K "list" rInsert to t σ H Q = to σ H fun x H1 => tyV K "list" x H1 ∧ t σ H1 fun vs H2 => ∃ (l : Addr) (xs : List V) (i : Int) (y : V), x = .ref l ∧ vs = [.int i, y] ∧ H2 l = some (.lst xs) ∧ xs.length < sizeLine ∧ 0 ≤ i ∧ i < 2 ^ 63 ∧ Q .non (upd H2 l (.lst (xs.take i.toNat ++ [y] ++ xs.drop i.toNat))) := rfl
/-! ### i in xs, xs.index(i), of ints -/
theorem eqV_int {i j : Int} : eqV (V.int i) (V.int j) = decide (i = j) := by
  by_cases h : i = j
  · subst h; simp [eqV]
  · rw [decide_eq_false h]
    simp [eqV, h]
theorem flat_ints (ns : List Int) : (ns.map V.int).all flatV = true := by
  refine List.all_eq_true.mpr fun x hx => ?_
  obtain ⟨n, _, rfl⟩ := List.mem_map.mp hx
  rfl
theorem in_ints (i : Int) (ns : List Int) : inV (V.int i) (ns.map V.int) = decide (i ∈ ns) := by
  unfold inV
  rw [List.any_map]
  by_cases h : i ∈ ns
  · rw [decide_eq_true h]
    refine List.any_eq_true.mpr ⟨i, h, ?_⟩
    show eqV (V.int i) (V.int i) = true
    rw [eqV_int, decide_eq_true rfl]
  · rw [decide_eq_false h]
    refine List.any_eq_false.mpr fun x hx => ?_
    show ¬ eqV (V.int x) (V.int i) = true
    rw [eqV_int]
    intro e
    have := of_decide_eq_true e
    subst this
    exact h hx
def rInI (K : PySem.W.Frag) (neg : Bool) : R2 := fun x y H Q => ∃ (p : Addr) (i : Int) (ns : List Int), x = .int i ∧ y = .ref p ∧ (SqL K H p (ns.map V.int) ∨ SqT K H p (ns.map V.int)) ∧ Q (.bl (if neg then !decide (i ∈ ns) else decide (i ∈ ns))) H
theorem op_inI {X : Cx} : OpR X (compareOp .In) (rInI X.K false) := by
  intro pins s σ H x y v u Q I rx ry h
  obtain ⟨p, i, ns, rfl, rfl, hp, q⟩ := h
  exact op_in_seq pins s σ H _ _ v u Q I rx ry ⟨p, _, rfl, hp, rfl, flat_ints ns, by rw [in_ints]; exact q⟩
theorem op_notInI {X : Cx} : OpR X (compareOp .NotIn) (rInI X.K true) := by
  intro pins s σ H x y v u Q I rx ry h
  obtain ⟨p, i, ns, rfl, rfl, hp, q⟩ := h
  exact op_notIn_seq pins s σ H _ _ v u Q I rx ry ⟨p, _, rfl, hp, rfl, flat_ints ns, by rw [in_ints]; exact q⟩
theorem rd_inI {K : PySem.W.Frag} {neg : Bool} {x y : V} {H : Hp} {Q : VK} : rInI K neg x y H Q = ∃ (p : Addr) (i : Int) (ns : List Int), x = .int i ∧ y = .ref p ∧ (SqL K H p (ns.map V.int) ∨ SqT K H p (ns.map V.int)) ∧ Q (.bl (if neg then !decide (i ∈ ns) else decide (i ∈ ns))) H := rfl
def rIdxI (K : PySem.W.Frag) : V → List V → Hp → VK → Prop := fun x vs H Q => ∃ (a : Addr) (ns : List Int) (y : Int) (j : Nat), x = .ref a ∧ vs = [.int y] ∧ SqL K H a (ns.map V.int) ∧ ns[j]? = some y ∧ (∀ m, m < j → ns[m]? ≠ some y) ∧ Q (.int (j : Nat)) H
theorem mt_idxI {X : Cx} : MtR X "list.index" (rIdxI X.K) := by
  intro pins s σ H x vs v us Q I rx rv h
  obtain ⟨a, ns, y, j, rfl, rfl, hp, hj, hm, q⟩ := h
  refine mt_index pins s σ H _ _ v us Q I rx rv ⟨a, _, _, j, .int y, rfl, rfl, hp, rfl, flat_ints ns, by rw [List.getElem?_map, hj]; rfl, by rw [eqV_int, decide_eq_true rfl], fun m z hm' hz => ?_, q⟩
  rw [List.getElem?_map] at hz
  obtain ⟨n, hn, rfl⟩ := Option.map_eq_some_iff.mp hz
  rw [eqV_int, decide_eq_false (fun e => hm m hm' (by rw [hn, e]))]
theorem rd_idxI {K : PySem.W.Frag} {to : TE} {t : TA} {σ : L2.St} {H : Hp} {Q : VK} : tBM K "list" (rIdxI K) to t σ H Q = to σ H fun x H1 => tyV K "list" x H1 ∧ t σ H1 fun vs H2 => ∃ (a : Addr) (ns : List Int) (y : Int) (j : Nat), x = .ref a ∧ vs = [.int y] ∧ SqL K H2 a (ns.map V.int) ∧ ns[j]? = some y ∧ (∀ m, m < j → ns[m]? ≠ some y) ∧ Q (.int (j : Nat)) H2 := rfl
theorem cr_isiK {X : Cx} {K : PySem.W.Frag} (h : X.K = K) : CallR X (.builtin "isinstance") (rIsi K) := by
  subst h
  exact call_isi
end CB
namespace CB
open PySem PySem.Spec PyProof.Rows L2
def rRepS : R2 := fun x y H Q => ∃ (z : Str) (k : Nat), x = .str z ∧ y = .int k ∧ z.length ≤ 100 ∧ k ≤ 100 ∧ ∀ z', Q (.str z') H
theorem op_repS {X : Cx} : OpR X (binaryOp .Mult) rRepS := by
  intro pins s σ H x y v u Q I rx ry h
  obtain ⟨z, k, rfl, rfl, hz, hk, q⟩ := h
  obtain ⟨t, rfl⟩ := rx
  obtain ⟨t', rfl⟩ := ry
  have hlk : z.length * k ≤ 10000 := Nat.mul_le_mul hz hk
  refine PySem.P.mul_str ?_ (fun h1 _ => ?_) (fun h1 _ => ?_) ?_
  · rw [decide_eq_false (by omega), decide_eq_false (by omega)]; rfl
  · have : (100 : Int) ≤ (2 ^ 63 - 1) / (k : Int) := by
      refine (Int.le_ediv_iff_mul_le (by omega)).mpr ?_
      omega
    omega
  · show decide (z.length * (k : Int).toNat > sizeLine) = false
    rw [Int.toNat_natCast]
    refine decide_eq_false ?_
    have := PySem.sizeLine_eq
    omega
  · have hl : PySem.Builtin.Str.tooLong (z.length * (k : Int).toNat) = false := by
      show decide (z.length * (k : Int).toNat > sizeLine) = false
      rw [Int.toNat_natCast]
      refine decide_eq_false ?_
      have := PySem.sizeLine_eq
      omega
    split
    · exact ⟨by decide, .str Str.empty, H, I.tok _, ⟨_, rfl⟩, q _⟩
    · split
      · exact ⟨.str z, H, I, ⟨_, rfl⟩, q _⟩
      · exact ⟨PySem.fits_reps hl, .str _, H, I.tok _, ⟨_, rfl⟩, q _⟩
end CB
namespace CB
open PySem PySem.Spec PyProof.Rows L2
/-! ### a list's [:0:-1] -/
theorem pick_tail (l : List Value) : slicePick l.toArray none (some 0) (some (-1)) = l.tail.reverse.toArray := by
  unfold slicePick
  congr 1
  cases l with
  | nil => rfl
  | cons v l =>
    have eb : sliceBounds none (some 0) (some (-1)) (v :: l).toArray.size = (((l.length : Nat) : Int), 0, -1) := by
      unfold sliceBounds
      have hs : ((v :: l).toArray.size : Int) = (l.length : Int) + 1 := by simp
      simp only [Option.getD_some]
      rw [hs]
      simp
      omega
    rw [eb]
    show List.filterMap (fun x => (v :: l).toArray[x]?) (sliceRange (l.length : Int) 0 (-1)) = l.reverse
    have er : sliceRange (l.length : Int) 0 (-1) = (List.range l.length).map fun k => l.length - k := by
      unfold sliceRange
      simp only [show ¬ ((-1 : Int) > 0) by decide, if_false]
      have ec : (if (l.length : Int) > 0 then ((l.length : Int) - 0 - -1 - 1) / - -1 else 0).toNat = l.length := by
        split <;> simp <;> omega
      rw [ec]
      refine List.map_congr_left fun k hk => ?_
      have := List.mem_range.mp hk
      omega
    rw [er, List.filterMap_map]
    refine List.ext_getElem? fun i => ?_
    have key : ∀ n, n ≤ l.length → List.filterMap ((fun x => (v :: l).toArray[x]?) ∘ fun k => l.length - k) (List.range n) = (l.reverse).take n := fun n hn => by
      induction n with
      | zero => simp
      | succ n ih =>
        rw [List.range_succ, List.filterMap_append, ih (by omega), List.take_add_one]
        congr 1
        have h1 : l.length - n = (l.length - 1 - n) + 1 := by omega
        have h2 : l.length - 1 - n < l.length := by omega
        simp only [Function.comp, List.filterMap_cons, List.filterMap_nil, List.getElem?_toArray]
        rw [h1, List.getElem?_cons_succ, List.getElem?_reverse (by omega), List.getElem?_eq_getElem h2]
        rfl
    rw [key l.length (Nat.le_refl _), List.take_of_length_le (by simp)]
section
variable {X : Cx}
def tTailR (K : PySem.W.Frag) (te : TE) : TE := fun σ H Q => te σ H fun x H1 => ∃ a xs, x = .ref a ∧ SqL K H1 a xs ∧ ∀ p, H1 p = none → Q (.ref p) (upd H1 p (.lst xs.tail.reverse))
theorem pe_tailR {e : Expr} {te : TE} {k k0 : Nat} {p0 p1 p2 p3 pos : Pos} (he : PE X e te) : PE X (.Subscript e (.Slice none (some (.Constant (.int 0) k0 p0)) (some (.UnaryOp .USub (.Constant (.int 1) k p1) p2)) p3) pos) (tTailR X.K te) := by
  refine ⟨fun pins s σ H Q I h => ?_⟩
  refine Subscript_ (thn (he.run pins s σ H _ I h) fun v s1 ⟨x, H1, I1, r1, q1⟩ => ?_)
  obtain ⟨a, xs, ex, hx, q⟩ := q1
  subst ex
  cases r1
  have hst : PO X (some (.UnaryOp .USub (.Constant (.int 1) k p1) p2)) (tPart (tUn (rU fun i => .int (-i)) (tC (.int 1)))) := po_some (pe_un un_neg pe_int)
  have hup : PO X (some (.Constant (.int 0) k0 p0)) (tPart (tC (.int 0))) := po_some pe_int
  refine wpAny_Slice (thn (po_none.run pins s1 σ H1 (fun o H2 => o = none ∧ H2 = H1) I1 ⟨rfl, rfl⟩) fun vl s2 ⟨l, H2, I2, pl, el, e2⟩ => ?_)
  subst el e2
  refine thn (hup.run pins s2 σ H2 (fun o H3 => o = some 0 ∧ H3 = H2) I2 ⟨0, rfl, rfl, rfl⟩) fun vu s3 ⟨u, H3, I3, pu, eu, e3⟩ => ?_
  subst eu e3
  refine thn (hst.run pins s3 σ H3 (fun o H4 => o = some (-1) ∧ H4 = H3) I3 ⟨1, rfl, -1, rfl, rfl, rfl⟩) fun vs s4 ⟨o, H4, I4, ps, eo, e4⟩ => ?_
  subst eo e4
  have I5 : Inv X pins σ H4 { s4 with heap := s4.heap.push { cls := .type "slice", data := .fields #[vl, vu, vs] } } := I4.kept (t' := s4.toks) fun b ob q => Heap.get?_push_of_some _ q
  obtain ⟨its, r, ht, hz⟩ := I5.list hx
  have hlen := r.length
  have hl : Heap.IsList (s4.heap.push { cls := .type "slice", data := .fields #[vl, vu, vs] }) a its.toArray := by
    obtain ⟨o, n, h1, h2, _, h4⟩ := ht
    exact ⟨o, h1, h2, n, h4⟩
  show wpAny (model X.prog X.w) X.A (subscriptTail e (.Slice none (some (.Constant (.int 0) k0 p0)) (some (.UnaryOp .USub (.Constant (.int 1) k p1) p2)) p3) (.ref a) (.ref s4.heap.objs.size)) (EP X pins σ Q) X.xe { s4 with heap := s4.heap.push { cls := .type "slice", data := .fields #[vl, vu, vs] } }
  refine tail_any (ops := [.ref a, .ref s4.heap.objs.size]) hl.typeIs PySem.slot_list_getitem.lookup ?_ (by with_unfolding_all rfl)
  refine wpAny_getItem_list_slice hl (Heap.IsSliceOf.new _ vl vu vs) pl pu ps (by decide) ?_ (by rw [List.size_toArray]; omega)
  rw [pick_tail]
  refine ⟨.ref _, _, I5.laid (t' := s4.toks) (o := .lst xs.tail.reverse) (fun b ob q => Heap.get?_push_of_some _ q) (Nat.le_refl _) ?_, rfl, q _ (I5.hok.fresh (Nat.le_refl _))⟩
  have rt : Vals xs.tail its.tail := by
    cases r with
    | nil => exact .nil
    | cons _ b => exact b
  refine ⟨?_, _, _, rt.reverse, Heap.get?_push_size _ rfl⟩
  rw [List.length_reverse, List.length_tail]
  omega
end
theorem pi_listK {X : Cx} {K : PySem.W.Frag} {tg l : Expr} {tl : TE} (h : X.K = K) (p : PE X l tl) : PI X tg l (iList K tl) := by
  subst h
  exact pi_list p
section
variable {K : PySem.W.Frag} {te : TE} {σ : L2.St} {H : Hp} {Q : VK}
theorem rd_tailR : tTailR K te σ H Q = te σ H fun x H1 => ∃ a xs, x = .ref a ∧ SqL K H1 a xs ∧ ∀ p, H1 p = none → Q (.ref p) (upd H1 p (.lst xs.tail.reverse)) := rfl
end
/-! ### comprehensions with two for over lists -/
def LcIn (J1 : It) (D : Addr) (g1 : TG) (tt1 : TT) (te : TE) (vs1 : List Nat) (σ2 : L2.St) (H4 : Hp) (Nx : Hp → Prop) : Prop := ∃ W1 : Nat → Nat → Hp → Prop, (∃ m, W1 0 m H4) ∧ ∀ j k H, W1 j k H → (J1.stop j H ∧ Nx H) ∨ (J1.go j H ∧ ∃ Nx1 : Hp → Prop, (∀ H', Nx1 H' → ∃ k', k' < k ∧ W1 (j + 1) k' H') ∧ ∀ x H', J1.yld j H x H' →
  g1 x (wipe σ2 vs1) H' fun σ3 H5 => wipe σ3 vs1 = wipe σ2 vs1 ∧ tt1 σ3 H5 fun b H6 => if b = true then te σ3 H6 fun y H7 => ∃ acc, H7 D = some (.lst acc) ∧ acc.length < sizeLine ∧ Nx1 (upd H7 D (.lst (acc ++ [y]))) else Nx1 H6)
def Lc2J (J : It) (g : TG) (tt : TT) (wi1 : TI) (g1 : TG) (tt1 : TT) (te : TE) (vs vs1 : List Nat) (σ : L2.St) (H1 : Hp) (Q : VK) : Prop := ∀ D, H1 D = none → ∃ W : Nat → Nat → Hp → Prop, (∃ m, W 0 m (upd H1 D (.lst []))) ∧ ∀ i m H, W i m H →
  (J.stop i H ∧ Q (.ref D) H) ∨ (J.go i H ∧ ∃ Nx : Hp → Prop, (∀ H', Nx H' → ∃ m', m' < m ∧ W (i + 1) m' H') ∧ ∀ x H', J.yld i H x H' → g x (wipe σ vs) H' fun σ2 H2 => wipe σ2 vs = wipe σ vs ∧ tt σ2 H2 fun b H3 =>
    if b = true then wi1 σ2 H3 fun J1 H4 => LcIn J1 D g1 tt1 te vs1 σ2 H4 Nx else Nx H3)
section
variable {K : PySem.W.Frag} {a b : Addr} {xs ys : List V} {D : Addr} {g g1 : TG} {tt tt1 : TT} {te tl tl1 : TE} {wi1 : TI} {vs vs1 : List Nat} {σ : L2.St} {H : Hp} {Q : VK} {Nx : Hp → Prop}
theorem rd_lc2 : tLc2 (iList K tl) g tt wi1 g1 tt1 te vs vs1 σ H Q = tl σ H fun x H1 => ∃ a, x = .ref a ∧ (∃ xs, SqL K H1 a xs) ∧ Lc2J (Itl K a) g tt wi1 g1 tt1 te vs vs1 σ H1 Q := rfl
theorem rd_inL {R : It → Hp → Prop} : iList K tl σ H R = tl σ H fun x H1 => ∃ a, x = .ref a ∧ (∃ xs, SqL K H1 a xs) ∧ R (Itl K a) H1 := rfl
theorem Lc2J.w (Pw : Nat → Addr → Hp → Prop) (h0 : ∀ D, H D = none → Pw 0 D (upd H D (.lst []))) (hl : ∀ D i H, i ≤ xs.length → Pw i D H → SqL K H a xs)
    (hs : ∀ D i x H, xs[i]? = some x → Pw i D H → ∀ N : Hp → Prop, (∀ H', Pw (i + 1) D H' → N H') → g x (wipe σ vs) H fun σ2 H2 => wipe σ2 vs = wipe σ vs ∧ tt σ2 H2 fun b H3 =>
      if b = true then wi1 σ2 H3 fun J1 H4 => LcIn J1 D g1 tt1 te vs1 σ2 H4 N else N H3) (hd : ∀ D H', H D = none → Pw xs.length D H' → Q (.ref D) H') : Lc2J (Itl K a) g tt wi1 g1 tt1 te vs vs1 σ H Q := by
  intro D hD
  refine ⟨fun i m H => m = xs.length - i ∧ i ≤ xs.length ∧ Pw i D H, ⟨_, rfl, Nat.zero_le _, h0 D hD⟩, ?_⟩
  rintro i m H ⟨rfl, hi, p⟩
  have hq := hl D i H hi p
  rcases Nat.lt_or_ge i xs.length with c | c
  · have hx : xs[i]? = some xs[i] := List.getElem?_eq_getElem c
    refine .inr ⟨⟨xs, _, hq, hx⟩, Pw (i + 1) D, fun H' p' => ⟨xs.length - (i + 1), by omega, rfl, c, p'⟩, fun x H' y => ?_⟩
    obtain ⟨rfl, f⟩ := y
    exact hs D i x H' (f xs hq) p _ fun _ h => h
  · have e : i = xs.length := by omega
    subst e
    exact .inl ⟨⟨xs, hq, Nat.le_refl _⟩, hd D H hD p⟩
theorem LcIn.w (Pw : Nat → Hp → Prop) (h0 : Pw 0 H) (hl : ∀ j H, j ≤ ys.length → Pw j H → SqL K H b ys)
    (hs : ∀ j y H, ys[j]? = some y → Pw j H → ∀ N : Hp → Prop, (∀ H', Pw (j + 1) H' → N H') → g1 y (wipe σ vs1) H fun σ3 H5 => wipe σ3 vs1 = wipe σ vs1 ∧ tt1 σ3 H5 fun b H6 => if b = true then te σ3 H6 fun y H7 => ∃ acc, H7 D = some (.lst acc) ∧ acc.length < sizeLine ∧ N (upd H7 D (.lst (acc ++ [y]))) else N H6)
    (hd : ∀ H, Pw ys.length H → Nx H) : LcIn (Itl K b) D g1 tt1 te vs1 σ H Nx := by
  refine ⟨fun j k H => k = ys.length - j ∧ j ≤ ys.length ∧ Pw j H, ⟨_, rfl, Nat.zero_le _, h0⟩, ?_⟩
  rintro j k H ⟨rfl, hj, p⟩
  have hq := hl j H hj p
  rcases Nat.lt_or_ge j ys.length with c | c
  · have hx : ys[j]? = some ys[j] := List.getElem?_eq_getElem c
    refine .inr ⟨⟨ys, _, hq, hx⟩, Pw (j + 1), fun H' p' => ⟨ys.length - (j + 1), by omega, rfl, c, p'⟩, fun x H' y => ?_⟩
    obtain ⟨rfl, f⟩ := y
    exact hs j x H' (f ys hq) p _ fun _ h => h
  · have e : j = ys.length := by omega
    subst e
    exact .inl ⟨⟨ys, hq, Nat.le_refl _⟩, hd H p⟩
end
end CB
namespace CB
open PySem PySem.Spec PyProof.Rows L2
theorem rd_sortedI {K : PySem.W.Frag} {vs : List V} {H : Hp} {Q : VK} : rSortedI K vs H Q = ∃ (a : Addr) (ns : List Int), vs = [V.ref a] ∧ SqL K H a (ns.map V.int) ∧
  ∀ (ns' : List Int) (p : Addr), ns'.Perm ns → ns'.Pairwise (· ≤ ·) → H p = none → Q (.ref p) (upd H p (.lst (ns'.map V.int))) := rfl
/-! ### a comprehension over reversed(a list) -/
def LcRv (K : PySem.W.Frag) (a : Addr) (n : Nat) := LcJ (Itv K a n)
def LcRvT (K : PySem.W.Frag) (a : Addr) (n : Nat) := LcJ (RT.ItvT K a n)
section
variable {K : PySem.W.Frag} {a : Addr} {xs : List V} {g : TG} {tt : TT} {te tl : TE} {vs : List Nat} {σ : L2.St} {H : Hp} {Q : VK}
theorem rd_lcRv : tLc (RT.iRevA K tl) g tt te vs σ H Q = tl σ H fun v H1 => ∃ (a : Addr) (xs : List V), v = .ref a ∧ ((SqL K H1 a xs ∧ LcRv K a xs.length g tt te vs σ H1 Q) ∨ (SqT K H1 a xs ∧ LcRvT K a xs.length g tt te vs σ H1 Q)) := rfl
theorem LcRv.w {n : Nat} (hn : xs.length = n) (Pw : Nat → Addr → List V → Hp → Prop) (h0 : ∀ D, H D = none → Pw 0 D [] (upd H D (.lst []))) (hl : ∀ D i ys H, i ≤ xs.length → Pw i D ys H → SqL K H a xs)
    (hs : ∀ D i x ys H, i < xs.length → xs[xs.length - 1 - i]? = some x → Pw i D ys H → ∀ N : Hp → Prop, (∀ ys' H', Pw (i + 1) D ys' H' → N H') → g x (wipe σ vs) H fun σ2 H2 => wipe σ2 vs = wipe σ vs ∧ tt σ2 H2 fun b H3 =>
      if b = true then te σ2 H3 fun y H4 => ∃ acc, H4 D = some (.lst acc) ∧ acc.length < sizeLine ∧ N (upd H4 D (.lst (acc ++ [y]))) else N H3) (hd : ∀ D ys H', H D = none → Pw xs.length D ys H' → Q (.ref D) H') : LcRv K a n g tt te vs σ H Q := by
  subst hn
  intro D hD
  refine ⟨fun i m H => m = xs.length - i ∧ i ≤ xs.length ∧ ∃ ys, Pw i D ys H, ⟨_, rfl, Nat.zero_le _, [], h0 D hD⟩, ?_⟩
  rintro i m H ⟨rfl, hi, ys, p⟩
  by_cases hlt : i < xs.length
  · have hj : xs.length - 1 - i < xs.length := by omega
    have hx : xs[xs.length - 1 - i]? = some xs[xs.length - 1 - i] := List.getElem?_eq_getElem hj
    refine .inr ⟨⟨hlt, xs, _, hl D i ys H hi p, hx⟩, fun H' => ∃ ys, Pw (i + 1) D ys H', fun H' ⟨ys', p'⟩ => ⟨xs.length - (i + 1), by omega, rfl, hlt, ys', p'⟩, fun v H' y => ?_⟩
    obtain ⟨e, hy⟩ := y
    subst e
    exact hs D i v ys _ hlt (hy xs (hl D i ys _ hi p)) p _ fun ys' H' h => ⟨ys', h⟩
  · have e : i = xs.length := by omega
    subst e
    exact .inl ⟨Nat.le_refl _, hd D ys H hD p⟩
end
end CB
namespace L68
open PySem PySem.Spec PyProof.Rows L2 CB
def top (i : Nat) : Stmt := PySem.Challenge.pw_classledger_k68_whole_class_sides.main.body.getD i (.Pass ⟨0, 0, 0, 0⟩)
structure Bl (mg : Str → Option Value) : Prop where
  abs : mg "abs" = none
  int : mg "int" = none
  bool : mg "bool" = none
  str : mg "str" = none
  tuple : mg "tuple" = none
  list : mg "list" = none
  max : mg "max" = none
  min : mg "min" = none
  sum : mg "sum" = none
  range : mg "range" = none
  sorted : mg "sorted" = none
  isinstance : mg "isinstance" = none
  len : mg "len" = none
  reversed : mg "reversed" = none
  gcd : mg "gcd" = some (.builtin "math.gcd")
  isqrt : mg "isqrt" = some (.builtin "math.isqrt")
  c_BATCH : ∃ t, mg "BATCH" = some (.int 128 t)
  c_BOUND : ∃ t, mg "BOUND" = some (.int 3317044064679887385961981 t)
  c_GREATEST_WEIGHT : ∃ t, mg "GREATEST_WEIGHT" = some (.int 100 t)
  c_HALVED_BITS : ∃ t, mg "HALVED_BITS" = some (.int 32 t)
  c_LARGEST_INDEX : ∃ t, mg "LARGEST_INDEX" = some (.int 20000 t)
  c_LARGEST_definite : ∃ t, mg "LARGEST_definite" = some (.int 1000000 t)
  c_LARGEST_primes : ∃ t, mg "LARGEST_primes" = some (.int 100000000000000000000 t)
  c_LEAST_WEIGHT : ∃ t, mg "LEAST_WEIGHT" = some (.int 2 t)
  c_MOST_DIVISORS : ∃ t, mg "MOST_DIVISORS" = some (.int 10000 t)
  c_TRIED_TO : ∃ t, mg "TRIED_TO" = some (.int 1000 t)
local macro_rules | `(tactic| walk_at "rd") => `(tactic| simp (maxSteps := 2000000) only [CB.rd_var, CB.rd_C, CB.rd_op, CB.rd_un, CB.rd_I, CB.rd_I0, CB.rd_U, CB.rd_Eq, CB.rd_Ne, CB.rd_test, CB.rd_B, CB.rd_and, CB.rd_or, CB.rd_not, CB.rd_andV, CB.rd_orV, CB.rd_notV, CB.rd_if, CB.rd_chain, CB.rd_chain3,
  CB.rd_next, CB.rd_seq, CB.rd_drop, CB.rd_ret, CB.rd_retN, CB.rd_break, CB.rd_cont, CB.rd_ifS, CB.rd_asg, CB.rd_name, CB.rd_gsub, CB.rd_gtup, CB.rd_gcons, CB.rd_gnil, CB.rd_par, CB.rd_aug, CB.rd_ipI, CB.rd_nil, CB.rd_cons, CB.rd_tup, CB.rd_lst, CB.rd_CB, CB.rd_call, CB.rd_callS, CB.rd_ixL, CB.rd_ixT, CB.rd_setL, CB.rd_putS, CB.rd_forZ, CB.rd_lcZ, CB.rd_forE, CB.rd_forEL, CB.rd_lcE, CB.rd_isqrt, CB.rd_sum, CB.rd_append, CB.rd_forL, CB.rd_forT, CB.rd_forR1, CB.rd_forR2, CB.rd_forR3, CB.rd_lcL, CB.rd_lcT, CB.rd_lcR1, CB.rd_lcR2, CB.rd_yes, CB.rd_sl, CB.rd_noPart, CB.rd_part, CB.rd_slL, CB.rd_wipe0, CB.rd_rep, CB.rd_tupOf, CB.rd_lenS, CB.rd_gcd, CB.rd_wipe1, CB.rd_sorted3, CB.rd_any, CB.rd_all, CB.rd_ext, CB.rd_glst, CB.rd_sortedM, CB.rd_minD, CB.rd_indexD, CB.rd_pop, CB.rd_dnew, CB.rd_dget, CB.rd_dget2, CB.rd_dput, CB.rd_dm, CB.rd_anyI, CB.rd_ixDC, CB.rd_inDC, CB.rd_cat, CB.rd_lcZR, CB.rd_revR1, CB.rd_max2, CB.rd_forRv, CB.rd_ins, CB.rd_revT, CB.rd_tailR, CB.rd_lc2, CB.rd_inL, CB.rd_listOf, CB.rd_inI, CB.rd_idxI,
  L2.start, List.map_cons, List.map_nil, List.length_cons, List.length_nil, Nat.reduceAdd, Nat.reduceSub, List.replicate_succ, List.replicate_zero,
  V.int.injEq, V.ref.injEq, V.bl.injEq, V.str.injEq, Option.some.injEq, List.cons.injEq, exists_and_left, exists_eq_left', exists_eq_left, reduceCtorEq, false_and, and_false, or_false, false_or, exists_false, exists_const, and_assoc, true_and, and_true,
  CB.scal_int, CB.scal_str, CB.dec_ii, CB.ite_dec, CB.ite_ndec, List.getElem?_cons_zero, List.getElem?_cons_succ, List.set_cons_zero, List.set_cons_succ, List.append_nil, List.cons_append, List.nil_append, if_true, if_false, Bool.false_eq_true, Bool.not_true, Bool.not_false, CB.K_nox, CB.K_cxOf, eq_self])
local macro_rules | `(tactic| walk_at "rs") => `(tactic| simp (maxSteps := 2000000) only [CB.rd_var, CB.rd_C, CB.rd_op, CB.rd_un, CB.rd_I, CB.rd_I0, CB.rd_U, CB.rd_Eq, CB.rd_Ne, CB.rd_test, CB.rd_B, CB.rd_and, CB.rd_or, CB.rd_not, CB.rd_andV, CB.rd_orV, CB.rd_notV, CB.rd_if, CB.rd_chain, CB.rd_chain3,
  CB.rd_next, CB.rd_drop, CB.rd_ret, CB.rd_retN, CB.rd_break, CB.rd_cont, CB.rd_ifS, CB.rd_asg, CB.rd_name, CB.rd_gsub, CB.rd_gtup, CB.rd_gcons, CB.rd_gnil, CB.rd_par, CB.rd_aug, CB.rd_ipI, CB.rd_nil, CB.rd_cons, CB.rd_tup, CB.rd_lst, CB.rd_CB, CB.rd_call, CB.rd_callS, CB.rd_ixL, CB.rd_ixT, CB.rd_setL, CB.rd_putS, CB.rd_forZ, CB.rd_lcZ, CB.rd_forE, CB.rd_forEL, CB.rd_lcE, CB.rd_isqrt, CB.rd_sum, CB.rd_append, CB.rd_forL, CB.rd_forT, CB.rd_forR1, CB.rd_forR2, CB.rd_forR3, CB.rd_lcL, CB.rd_lcT, CB.rd_lcR1, CB.rd_lcR2, CB.rd_yes, CB.rd_sl, CB.rd_noPart, CB.rd_part, CB.rd_slL, CB.rd_wipe0, CB.rd_rep, CB.rd_tupOf, CB.rd_lenS, CB.rd_gcd, CB.rd_wipe1, CB.rd_sorted3, CB.rd_any, CB.rd_all, CB.rd_ext, CB.rd_glst, CB.rd_sortedM, CB.rd_minD, CB.rd_indexD, CB.rd_pop, CB.rd_dnew, CB.rd_dget, CB.rd_dget2, CB.rd_dput, CB.rd_dm, CB.rd_anyI, CB.rd_ixDC, CB.rd_inDC, CB.rd_cat, CB.rd_lcZR, CB.rd_revR1, CB.rd_max2, CB.rd_forRv, CB.rd_ins, CB.rd_revT, CB.rd_tailR, CB.rd_lc2, CB.rd_inL, CB.rd_listOf, CB.rd_inI, CB.rd_idxI,
  L2.start, List.map_cons, List.map_nil, List.length_cons, List.length_nil, Nat.reduceAdd, Nat.reduceSub, List.replicate_succ, List.replicate_zero,
  V.int.injEq, V.ref.injEq, V.bl.injEq, V.str.injEq, Option.some.injEq, List.cons.injEq, exists_and_left, exists_eq_left', exists_eq_left, reduceCtorEq, false_and, and_false, or_false, false_or, exists_false, exists_const, and_assoc, true_and, and_true,
  CB.scal_int, CB.scal_str, CB.dec_ii, CB.ite_dec, CB.ite_ndec, List.getElem?_cons_zero, List.getElem?_cons_succ, List.set_cons_zero, List.set_cons_succ, List.append_nil, List.cons_append, List.nil_append, if_true, if_false, Bool.false_eq_true, Bool.not_true, Bool.not_false, CB.K_nox, CB.K_cxOf, eq_self])

local macro_rules | `(tactic| walk_at "nx") => `(tactic| (show tSeq _ _ _ _ _; rw [CB.rd_seq]; walk_at "rs"))


section
variable {P : Program} {w : World} {K : PySem.W.Frag} {mg : Str → Option Value} {base : Heap}
/-! ### the draws -/
abbrev s__law_take : Stmt := top 54
theorem sc__law_take : FnScope ["state", "m", "value"] ["state", "m"] (defScope s__law_take) := ⟨rfl, rfl, rfl, by decide +kernel, rfl, by decide +kernel, by decide +kernel⟩

def spTake : Sp := fun vs H Q _ => ∃ (a : Addr) (x y m : Int), vs = [.ref a, .int m] ∧ H a = some (.lst [.int x, .int y]) ∧ 0 < m ∧ m.natAbs.log2 < 9000 ∧
  ∀ v x' y' : Int, 0 ≤ v → v < m → Q (.int v) (upd H a (.lst [.int x', .int y']))
theorem cal_take (D : Dn K mg "_law_take" s__law_take ["state", "m"]) (B : Bl mg) : Cal P w K mg base "_law_take" 1 ["state", "m"] spTake := by
  refine D.cal sc__law_take (fun vs H Q E h => ?_) (fun f cdv A outer s H vs Q E hr h => ?_)
  · obtain ⟨a, x, y, m, rfl, _⟩ := h
    rfl
  · obtain ⟨a, x, y, m, rfl, ha, hm, hz, q⟩ := h
    refine ⟨_, (pss_cons (ps_if (pt_cmpR op_gt (pe_ix ix_list (pv 0) pe_int (fun _ _ => rfl)) pe_int (nomark _)) (pss_cons (ps_set (i := 2) sc__law_take.nd rfl (Or.inl rfl) (pe_op op_mod (pe_callTy call_int1 rfl B.int boot_int (pa_cons (pe_ix ix_list (pv 0) pe_int (fun _ _ => rfl)) pa_nil)) (pv 1)))
  (pss_cons (ps_asg (pe_op op_fdivW (pe_ix ix_list (pv 0) pe_int (fun _ _ => rfl)) (pv 1)) (pg_sub (pv 0) pe_int set_list))
  (pss_one (ps_ret (pv 2))))) pss_nil)
  (pss_cons (ps_asg (pe_op op_mod (pe_callTy call_int1 rfl B.int boot_int (pa_cons (pe_op op_add (pe_op op_mulI (pe_ix ix_list (pv 0) pe_int (fun _ _ => rfl)) pe_int) pe_int) pa_nil)) pe_int) (pg_sub (pv 0) pe_int set_list))
  (pss_one (ps_ret (pe_op op_mod (pe_callTy call_int1 rfl B.int boot_int (pa_cons (pe_op op_fdivW (pe_ix ix_list (pv 0) pe_int (fun _ _ => rfl)) pe_int) pa_nil)) (pv 1)))))), ?_⟩
    walk_at "rd"
    refine ⟨_, SqL.of ha, _, rfl, _, rfl, ite2 (fun h => ?_) (fun h => ?_)⟩
    · refine ⟨_, SqL.of ha, _, rfl, .inl ⟨_, rfl, hm, _, SqL.of ha, _, rfl, _, rfl, ⟨hm, hz⟩, _, ha, _, rfl, ?_⟩⟩
      exact q _ _ _ (Int.emod_nonneg _ (by omega)) (Int.emod_lt_of_pos _ hm)
    · refine ⟨_, SqL.of ha, _, rfl, _, rfl, mulR (by decide), by decide, _, ha, _, rfl, _, SqL.of upd_same, _, rfl, _, rfl, ⟨by decide, by decide +kernel⟩, hm, ?_⟩
      exact q _ _ _ (Int.emod_nonneg _ (by omega)) (Int.emod_lt_of_pos _ hm)
abbrev s__law_state : Stmt := top 53
theorem sc__law_state : FnScope ["script", "seed", "total", "cell"] ["script"] (defScope s__law_state) := ⟨rfl, rfl, rfl, by decide +kernel, rfl, by decide +kernel, by decide +kernel⟩

def spState (K : PySem.W.Frag) : Sp := fun vs H Q _ => ∃ (a : Addr) (ns : List Int), vs = [.ref a] ∧ SqL K H a (ns.map V.int) ∧ ns.length ≤ 63 ∧
  ∀ (p : Addr) (x y : Int) (H' : Hp), Same H H' → H p = none → H' p = some (.lst [.int x, .int y]) → Q (.ref p) H'
theorem cutV63 {ns : List Int} (h : ns.length ≤ 63) : cutV (ns.map V.int) none (some 63) = ns.map V.int := by
  unfold cutV
  rw [HT.sIx_none, show HT.sIx (ns.map V.int).length (ns.map V.int).length (some 63) = min 63 (ns.map V.int).length from HT.sIx_nat _ _ 63, List.length_map, List.drop_zero]
  rw [show min 63 ns.length - 0 = (ns.map V.int).length by rw [List.length_map]; omega, List.take_length]
theorem cal_state (D : Dn K mg "_law_state" s__law_state ["script"]) (B : Bl mg) : Cal P w K mg base "_law_state" 1 ["script"] (spState K) := by
  refine D.cal sc__law_state (fun vs H Q E h => ?_) (fun f cdv A outer s H vs Q E hr h => ?_)
  · obtain ⟨a, ns, rfl, _⟩ := h
    rfl
  · obtain ⟨a, ns, rfl, hS, hl, q⟩ := h
    refine ⟨_, (pss_cons (ps_set (i := 1) sc__law_state.nd rfl (Or.inl rfl) pe_int)
  (pss_cons (ps_set (i := 2) sc__law_state.nd rfl (Or.inl rfl) pe_int)
  (pss_cons (ps_for PassesOwn.never rfl (pi_list (pe_slice sl_list (pv 0) po_none (po_some pe_int))) (pg_name (i := 3) sc__law_state.nd rfl (Or.inl rfl)) (pss_cons (ps_set (i := 1) sc__law_state.nd rfl (Or.inl rfl) (pe_op op_add (pe_op op_mulI (pv 1) pe_int) (pe_callB call_abs rfl B.abs (by decide +kernel) (pa_cons (pv 3) pa_nil))))
  (pss_one (ps_set (i := 2) sc__law_state.nd rfl (Or.inl rfl) (pe_op op_mod (pe_callTy call_int1 rfl B.int boot_int (pa_cons (pe_op op_add (pe_op op_mulI (pv 2) pe_int) (pv 3)) pa_nil)) pe_int)))))
  (pss_one (ps_ret (pe_lst (pa_cons (pv 1) (pa_cons (pv 2) pa_nil)))))))), ?_⟩
    walk_at "rd"
    refine ⟨_, hS, fun c nc => ?_⟩
    rw [cutV63 hl]
    have hc : SqL K (upd H c (.lst (ns.map V.int))) c (ns.map V.int) := SqL.of upd_same
    refine ⟨⟨_, hc⟩, ForL.mk (xs := ns.map V.int) (fun _ σ H' => ∃ x y z, σ = [some (.ref a), some (.int x), some (.int y), z] ∧ H' = upd H c (.lst (ns.map V.int))) ⟨_, _, _, rfl, rfl⟩ ?_ ?_ ?_⟩
    · rintro i σ H' _ ⟨x, y, z, rfl, rfl⟩
      exact hc
    · rintro i v σ H' hv ⟨x, y, z, rfl, rfl⟩
      rw [List.getElem?_map] at hv
      obtain ⟨n, _, rfl⟩ := Option.map_eq_some_iff.mp hv
      walk_at "rd"
      exact ⟨mulR (by decide), mulR (by decide), by decide, _, rfl⟩
    · rintro σ H' ⟨x, y, z, rfl, rfl⟩
      walk_at "rd"
      refine ⟨by decide, fun p np => q p x y _ ((same_upd nc).trans (same_upd np)) ((same_upd nc).free np) upd_same⟩
/-! ### kinds of values -/
def kinds : List String := ["int", "bool", "NoneType", "str", "tuple", "list"]
theorem kit_k {T c : String} (hT : T ∈ kinds) (hc : c ∈ ["int", "bool", "str", "tuple"]) : kitB T c = some (T == c || (T == "bool" && c == "int")) := by
  unfold kinds at hT
  simp only [List.mem_cons, List.not_mem_nil, or_false] at hT hc
  rcases hT with rfl | rfl | rfl | rfl | rfl | rfl <;> rcases hc with rfl | rfl | rfl | rfl <;> decide +kernel
end

section
variable {P : Program} {w : World} {K : PySem.W.Frag} {mg : Str → Option Value} {base : Heap} {CM CR : Addr}
/-! ### values of any kind, told by the heap -/
/-- tuples are kept, and all lists but the one at st -/
def Kp (st : Addr) (H H' : Hp) : Prop := (∀ b us, H b = some (.tup us) → H' b = some (.tup us)) ∧ ∀ b us, b ≠ st → H b = some (.lst us) → H' b = some (.lst us)
/-- all but the list at st is kept -/
def But (st : Addr) (H H' : Hp) : Prop := ∀ b o, b ≠ st → H b = some o → H' b = some o
theorem But.refl {st : Addr} {H : Hp} : But st H H := fun _ _ _ e => e
theorem But.trans {st : Addr} {H H1 H2 : Hp} (a : But st H H1) (b : But st H1 H2) : But st H H2 := fun c o n e => b c o n (a c o n e)
theorem But.same {st : Addr} {H H1 H2 : Hp} (a : But st H H1) (b : Same H1 H2) : But st H H2 := fun c o n e => b c o (a c o n e)
theorem But.of {st : Addr} {H H1 : Hp} (b : Same H H1) : But st H H1 := fun c o n e => b c o e
theorem But.upd {st : Addr} {H H1 : Hp} {o : HO} (a : But st H H1) : But st H (upd H1 st o) := fun c o n e => by
  rw [upd_ne n]
  exact a c o n e
theorem Kp.refl {st : Addr} {H : Hp} : Kp st H H := ⟨fun _ _ e => e, fun _ _ _ e => e⟩
theorem Kp.of {st : Addr} {H H' : Hp} (s : Same H H') : Kp st H H' := ⟨fun _ _ e => s _ _ e, fun _ _ _ e => s _ _ e⟩
theorem But.kp {st : Addr} {H H' : Hp} {l : List V} (s : But st H H') (hs : H st = some (.lst l)) : Kp st H H' := ⟨fun _ _ e => s _ _ (ne_of e hs (by intro z; cases z)) e, fun _ _ n e => s _ _ n e⟩
theorem Kp.trans {st : Addr} {H H1 H2 : Hp} (a : Kp st H H1) (b : Kp st H1 H2) : Kp st H H2 := ⟨fun _ _ e => b.1 _ _ (a.1 _ _ e), fun _ _ n e => b.2 _ _ n (a.2 _ _ n e)⟩
def kdV : V → String
  | .bl _ => "bool"
  | .non => "NoneType"
  | .str _ => "str"
  | _ => "int"
def flV : V → Bool
  | .int _ => true
  | .bl _ => true
  | .non => true
  | .str _ => true
  | _ => false
/-- v is of the kind T -/
def KdH (st : Addr) (H : Hp) (v : V) (T : String) : Prop := (flV v = true ∧ T = kdV v) ∨ ∃ p, v = .ref p ∧ ((p ≠ st ∧ T = "list" ∧ ∃ l, H p = some (.lst l)) ∨ (T = "tuple" ∧ ∃ l, H p = some (.tup l)))
theorem KdH.ty {st : Addr} {H : Hp} {v : V} {T : String} (h : KdH st H v T) : TyX K H v (.type T) ∧ T ∈ kinds := by
  rcases h with ⟨hf, rfl⟩ | ⟨p, rfl, ⟨_, rfl, l, e⟩ | ⟨rfl, l, e⟩⟩
  · cases v with
    | int n => exact ⟨.base (.int _), by show "int" ∈ kinds; decide⟩
    | bl b => exact ⟨.base (.bl _), by show "bool" ∈ kinds; decide⟩
    | non => exact ⟨.base .non, by show "NoneType" ∈ kinds; decide⟩
    | str s => exact ⟨.base (.str _), by show "str" ∈ kinds; decide⟩
    | _ => cases hf
  · exact ⟨.base (.lst e), by decide⟩
  · exact ⟨.base (.tup e), by decide⟩
theorem KdH.kp {st : Addr} {H H' : Hp} {v : V} {T : String} (s : Kp st H H') (h : KdH st H v T) : KdH st H' v T := by
  rcases h with h | ⟨p, rfl, ⟨n, rfl, l, e⟩ | ⟨rfl, l, e⟩⟩
  · exact .inl h
  · exact .inr ⟨p, rfl, .inl ⟨n, rfl, l, s.2 _ _ n e⟩⟩
  · exact .inr ⟨p, rfl, .inr ⟨rfl, l, s.1 _ _ e⟩⟩
def ItsH (st : Addr) (H : Hp) (xs : List V) (ts : List String) : Prop := ts.length = xs.length ∧ ∀ (i : Nat) (x : V) (t : String), xs[i]? = some x → ts[i]? = some t → KdH st H x t
theorem ItsH.kp {st : Addr} {H H' : Hp} {xs : List V} {ts : List String} (s : Kp st H H') (h : ItsH st H xs ts) : ItsH st H' xs ts := ⟨h.1, fun i x t hx ht => (h.2 i x t hx ht).kp s⟩
theorem itsH_flat {st : Addr} {H : Hp} {xs : List V} (h : xs.all flV = true) : ItsH st H xs (xs.map kdV) := by
  refine ⟨List.length_map _, fun i x t hx ht => ?_⟩
  rw [List.getElem?_map, hx] at ht
  cases ht
  exact .inl ⟨List.all_eq_true.mp h x (List.mem_of_getElem? hx), rfl⟩
theorem itsH_one {st : Addr} {H : Hp} {p : Addr} {xs : List V} (h : H p = some (.tup xs)) : ItsH st H [V.ref p] ["tuple"] := by
  refine ⟨rfl, fun i x t hx ht => ?_⟩
  match i, hx, ht with
  | 0, hx, ht =>
    cases hx
    cases ht
    exact .inr ⟨p, rfl, .inr ⟨rfl, _, h⟩⟩
  | n + 1, hx, ht => simp at hx
/-- no row of n integers -/
def BadH (n : Nat) (st : Addr) (H : Hp) (v : V) : Prop := (∃ T, KdH st H v T ∧ (T == "tuple") = false) ∨ ∃ (p : Addr) (xs : List V) (ts : List String), v = .ref p ∧ H p = some (.tup xs) ∧ ItsH st H xs ts ∧ xs.length < 1000 ∧ (xs.length ≠ n ∨ ts.all (· == "int") = false)
theorem BadH.kp {n : Nat} {st : Addr} {H H' : Hp} {v : V} (s : Kp st H H') (h : BadH n st H v) : BadH n st H' v := by
  rcases h with ⟨T, h, e⟩ | ⟨p, xs, ts, rfl, hp, hI, hl, hb⟩
  · exact .inl ⟨T, h.kp s, e⟩
  · exact .inr ⟨p, xs, ts, rfl, s.1 _ _ hp, hI.kp s, hl, hb⟩
end

/-! ### whole roots -/
def isq (n : Int) : Int := ((Float64.isqrt n.toNat : Nat) : Int)
theorem isq_nn (n : Int) : 0 ≤ isq n := Int.natCast_nonneg _
theorem isq_le {n : Int} (h : 0 ≤ n) : isq n * isq n ≤ n := by
  have a := (isqrt_spec n.toNat).1
  have b : ((Float64.isqrt n.toNat * Float64.isqrt n.toNat : Nat) : Int) ≤ ((n.toNat : Nat) : Int) := Int.ofNat_le.mpr a
  rw [Int.natCast_mul] at b
  unfold isq
  omega
theorem isq_lt {n : Int} (h : 0 ≤ n) : n < (isq n + 1) * (isq n + 1) := by
  have a := (isqrt_spec n.toNat).2
  have b : ((n.toNat : Nat) : Int) < (((Float64.isqrt n.toNat + 1) * (Float64.isqrt n.toNat + 1) : Nat) : Int) := Int.ofNat_lt.mpr a
  rw [Int.natCast_mul, Int.natCast_add] at b
  unfold isq
  have e : ((1 : Nat) : Int) = 1 := rfl
  rw [e] at b
  omega
theorem sq_lt {r s : Int} (hr : 0 ≤ r) (h : r * r < (s + 1) * (s + 1)) (hs : 0 ≤ s) : r ≤ s := by
  rcases Int.lt_or_le s r with q | q
  · have a : (s + 1) * (s + 1) ≤ r * r := Int.mul_le_mul (by omega) (by omega) (by omega) hr
    omega
  · exact q
theorem isq_uniq {n r : Int} (hr : 0 ≤ r) (h1 : r * r ≤ n) (h2 : n < (r + 1) * (r + 1)) : isq n = r := by
  have hn : 0 ≤ n := Int.le_trans (Int.mul_nonneg hr hr) h1
  have a := sq_lt hr (Int.lt_of_le_of_lt h1 (isq_lt hn)) (isq_nn n)
  have b := sq_lt (isq_nn n) (Int.lt_of_le_of_lt (isq_le hn) h2) hr
  omega
theorem isq_iff {n a : Int} (hn : 0 ≤ n) (ha : 0 ≤ a) : a * a ≤ n ↔ a ≤ isq n := by
  refine ⟨fun h => sq_lt ha (Int.lt_of_le_of_lt h (isq_lt hn)) (isq_nn n), fun h => ?_⟩
  exact Int.le_trans (Int.mul_le_mul h h ha (isq_nn n)) (isq_le hn)
theorem isq_self {n : Int} (h0 : 0 ≤ n) (h : n < 2) : isq n = n := by
  have e : n = 0 ∨ n = 1 := by omega
  rcases e with rfl | rfl
  · exact isq_uniq (by omega) (by omega) (by omega)
  · exact isq_uniq (by omega) (by omega) (by omega)
theorem isq_bd {n c : Int} (hn : 0 ≤ n) (hc : 0 ≤ c) (h : n < (c + 1) * (c + 1)) : isq n ≤ c := sq_lt (isq_nn n) (Int.lt_of_le_of_lt (isq_le hn) h) hc
/-- a bound that omega doesn't read -/
def BIG : Int := 2 ^ 3000
theorem BIG_pos : 1000000000000 < BIG := by decide +kernel
theorem BIG_big : BIG < 2 ^ 13000 := by decide +kernel
theorem bigAbs {i : Int} (h1 : -(16 * BIG) < i) (h2 : i < 16 * BIG) : i.natAbs < 2 ^ 3004 := by
  have e : (16 * BIG : Int) = ((2 ^ 3004 : Nat) : Int) := by decide +kernel
  rw [e] at h1 h2
  omega
theorem mulBig {i j : Int} (h1 : -(16 * BIG) < i) (h2 : i < 16 * BIG) (h3 : -(16 * BIG) < j) (h4 : j < 16 * BIG) : IntMulOk i j :=
  (wide_mul (bigAbs h1 h2) (bigAbs h3 h4) (by decide) (by decide) (by decide)).ok
theorem low_le {a n : Int} (h0 : 0 ≤ a) (h : a * a ≤ n) : a ≤ n := by
  rcases Int.lt_or_le 0 a with q | q
  · have := Int.mul_le_mul (show 1 ≤ a by omega) (Int.le_refl a) h0 h0
    omega
  · have e : a = 0 := by omega
    rw [e] at h
    omega
theorem small_size {n : Nat} (h : n ≤ 10000000) : n < sizeLine := by rw [PySem.sizeLine_eq]; omega
theorem iabs (i : Int) : (if i < 0 then -i else i) = (i.natAbs : Int) := by
  split <;> omega

section
variable {P : Program} {w : World} {K : PySem.W.Frag} {mg : Str → Option Value} {base : Heap}
abbrev s_is_integer : Stmt := top 7
theorem sc_is_integer : FnScope ["value"] ["value"] (defScope s_is_integer) := ⟨rfl, rfl, rfl, by decide +kernel, rfl, by decide +kernel, by decide +kernel⟩

def spInt (K : PySem.W.Frag) : Sp := fun vs H Q _ => ∃ (v : V) (T : String), vs = [v] ∧ TyX K H v (.type T) ∧ T ∈ kinds ∧ Q (.bl (T == "int")) H
theorem cal_is_integer (D : Dn K mg "is_integer" s_is_integer ["value"]) (B : Bl mg) : Cal P w K mg base "is_integer" 1 ["value"] (spInt K) := by
  refine D.cal sc_is_integer (fun vs H Q E h => ?_) (fun f cdv A outer s H vs Q E hr h => ?_)
  · obtain ⟨v, T, rfl, _⟩ := h
    rfl
  · obtain ⟨v, T, rfl, ty, hT, q⟩ := h
    refine ⟨_, (pss_one (ps_ret (pe_and (pe_callB call_isi rfl B.isinstance (by decide +kernel) (pa_cons (pv 0) (pa_cons (pe_bltn (v := .ty "int") rfl B.int boot_int rfl) pa_nil))) (pe_one (pe_not (pe_callB call_isi rfl B.isinstance (by decide +kernel) (pa_cons (pv 0) (pa_cons (pe_bltn (v := .ty "bool") rfl B.bool boot_bool rfl) pa_nil)))))))), ?_⟩
    walk_at "rd"
    refine isi_mk ty (kit_k hT (by simp)) ⟨_, rfl, ite2 (fun h => ?_) (fun h => ?_)⟩
    · refine isi_mk ty (kit_k hT (by simp)) ⟨_, rfl, ?_⟩
      rw [show (!(T == "bool" || (T == "bool" && "bool" == "int"))) = (T == "int") from ?_]
      · exact q
      · unfold kinds at hT
        simp only [List.mem_cons, List.not_mem_nil, or_false] at hT
        rcases hT with rfl | rfl | rfl | rfl | rfl | rfl <;> revert h <;> decide +kernel
    · rw [show false = (T == "int") from ?_]
      · exact q
      · unfold kinds at hT
        simp only [List.mem_cons, List.not_mem_nil, or_false] at hT
        rcases hT with rfl | rfl | rfl | rfl | rfl | rfl <;> revert h <;> decide +kernel
end

/-! ### the sum of class numbers over t, checked to n = 20000 by packed series (40 bits a place) -/
def Yb : Nat := 2 ^ 40
def NN : Nat := 20001
def pk (f : Nat → Nat) : Nat → Nat
  | 0 => 0
  | n + 1 => pk f n + f n * Yb ^ n
theorem Yb_pos (n : Nat) : 0 < Yb ^ n := Nat.pow_pos (by decide)
theorem pk_cong {f g : Nat → Nat} : ∀ {n : Nat}, (∀ i, i < n → f i = g i) → pk f n = pk g n
  | 0, _ => rfl
  | n + 1, h => by
    show pk f n + f n * Yb ^ n = pk g n + g n * Yb ^ n
    rw [pk_cong fun i hi => h i (by omega), h n (by omega)]
theorem pk_zero : ∀ n : Nat, pk (fun _ => 0) n = 0
  | 0 => rfl
  | n + 1 => by
    show pk (fun _ => 0) n + 0 * Yb ^ n = 0
    rw [pk_zero n, Nat.zero_mul]
theorem pk_add {f g : Nat → Nat} : ∀ n : Nat, pk (fun i => f i + g i) n = pk f n + pk g n
  | 0 => rfl
  | n + 1 => by
    show pk (fun i => f i + g i) n + (f n + g n) * Yb ^ n = (pk f n + f n * Yb ^ n) + (pk g n + g n * Yb ^ n)
    rw [pk_add n, Nat.add_mul]
    omega
theorem pk_lt {f : Nat → Nat} : ∀ {n : Nat}, (∀ i, i < n → f i < Yb) → pk f n < Yb ^ n
  | 0, _ => Nat.one_pos
  | n + 1, h => by
    have a := pk_lt (n := n) fun i hi => h i (by omega)
    have b : f n * Yb ^ n ≤ (Yb - 1) * Yb ^ n := Nat.mul_le_mul_right _ (by have := h n (by omega); omega)
    rw [Nat.sub_mul, Nat.one_mul] at b
    have c : Yb ^ n ≤ Yb * Yb ^ n := Nat.le_mul_of_pos_left _ (by decide)
    show pk f n + f n * Yb ^ n < Yb ^ (n + 1)
    rw [Nat.pow_succ, Nat.mul_comm (Yb ^ n) Yb]
    omega
theorem pk_inj {f g : Nat → Nat} : ∀ {n : Nat}, (∀ i, i < n → f i < Yb) → (∀ i, i < n → g i < Yb) → pk f n = pk g n → ∀ i, i < n → f i = g i
  | 0, _, _, _ => fun i hi => absurd hi (Nat.not_lt_zero i)
  | n + 1, hf, hg, e => by
    have a := pk_lt (n := n) fun i hi => hf i (by omega)
    have b := pk_lt (n := n) fun i hi => hg i (by omega)
    have e : pk f n + f n * Yb ^ n = pk g n + g n * Yb ^ n := e
    have d : f n = g n := by
      have h1 : (pk f n + f n * Yb ^ n) / Yb ^ n = f n := by
        rw [Nat.add_mul_div_right _ _ (Yb_pos n), Nat.div_eq_of_lt a, Nat.zero_add]
      have h2 : (pk g n + g n * Yb ^ n) / Yb ^ n = g n := by
        rw [Nat.add_mul_div_right _ _ (Yb_pos n), Nat.div_eq_of_lt b, Nat.zero_add]
      rw [← h1, ← h2, e]
    rw [d] at e
    have ih := pk_inj (n := n) (fun i hi => hf i (by omega)) (fun i hi => hg i (by omega)) (by omega)
    intro i hi
    rcases Nat.lt_or_ge i n with c | c
    · exact ih i c
    · rw [show i = n by omega]; exact d
/-- w at the places s, s + d, s + 2d, .. -/
def prog (w s d : Nat) : Nat → Nat := fun n => if s ≤ n ∧ (n - s) % d = 0 then w else 0
def gs (w s d : Nat) : Nat → Nat
  | 0 => 0
  | K + 1 => gs w s d K + w * Yb ^ (s + K * d)
def kk (s d n : Nat) : Nat := (n + d - 1 - s) / d
theorem kk_next {s d n : Nat} (hd : 0 < d) : kk s d (n + 1) = kk s d n + if s ≤ n ∧ (n - s) % d = 0 then 1 else 0 := by
  unfold kk
  by_cases h : s ≤ n
  · obtain ⟨m, rfl⟩ : ∃ m, n = s + m := ⟨n - s, by omega⟩
    rw [show s + m + 1 + d - 1 - s = m + d by omega, show s + m + d - 1 - s = m + (d - 1) by omega, Nat.add_div_right _ hd, Nat.add_sub_cancel_left]
    have e := Nat.div_add_mod m d
    have r := Nat.mod_lt m hd
    generalize m / d = q at *
    generalize m % d = z at *
    subst e
    by_cases c : z = 0
    · rw [if_pos ⟨h, c⟩, c, show d * q + 0 + (d - 1) = d * q + (d - 1) by omega, Nat.mul_add_div hd, Nat.div_eq_of_lt (by omega)]
    · rw [if_neg (fun y => c y.2), show d * q + z + (d - 1) = d * (q + 1) + (z - 1) by rw [Nat.mul_succ]; omega, Nat.mul_add_div hd, Nat.div_eq_of_lt (by omega)]
  · rw [if_neg (fun y => h y.1), Nat.div_eq_of_lt (by omega), Nat.div_eq_of_lt (by omega)]
theorem kk_at {s d n : Nat} (hd : 0 < d) (h : s ≤ n ∧ (n - s) % d = 0) : s + kk s d n * d = n := by
  unfold kk
  obtain ⟨m, rfl⟩ : ∃ m, n = s + m := ⟨n - s, by omega⟩
  have h2 := h.2
  rw [Nat.add_sub_cancel_left] at h2
  rw [show s + m + d - 1 - s = m + (d - 1) by omega]
  obtain ⟨q, rfl⟩ := Nat.dvd_of_mod_eq_zero h2
  rw [Nat.mul_add_div hd, Nat.div_eq_of_lt (by omega), Nat.add_zero, Nat.mul_comm q d]
theorem pk_gs {w s d : Nat} (hd : 0 < d) : ∀ n : Nat, pk (prog w s d) n = gs w s d (kk s d n)
  | 0 => by
    unfold kk
    rw [Nat.div_eq_of_lt (by omega)]
    rfl
  | n + 1 => by
    show pk (prog w s d) n + prog w s d n * Yb ^ n = _
    rw [pk_gs hd n, kk_next hd]
    unfold prog
    split
    · rename_i h
      show _ = gs w s d (kk s d n) + w * Yb ^ (s + kk s d n * d)
      rw [kk_at hd h]
    · rw [Nat.zero_mul]; rfl
theorem gs_mul {w s d : Nat} : ∀ K : Nat, gs w s d K * (Yb ^ d - 1) + w * Yb ^ s = w * Yb ^ (s + K * d)
  | 0 => by rw [Nat.zero_mul, Nat.add_zero]; show 0 * _ + _ = _; rw [Nat.zero_mul, Nat.zero_add]
  | K + 1 => by
    show (gs w s d K + w * Yb ^ (s + K * d)) * (Yb ^ d - 1) + w * Yb ^ s = _
    have ih := gs_mul (w := w) (s := s) (d := d) K
    rw [Nat.add_mul, show gs w s d K * (Yb ^ d - 1) + w * Yb ^ (s + K * d) * (Yb ^ d - 1) + w * Yb ^ s = (gs w s d K * (Yb ^ d - 1) + w * Yb ^ s) + w * Yb ^ (s + K * d) * (Yb ^ d - 1) by omega, ih, Nat.succ_mul, ← Nat.add_assoc, Nat.pow_add Yb (s + K * d) d]
    have h := Yb_pos d
    generalize Yb ^ d = z at *
    generalize Yb ^ (s + K * d) = u
    rw [Nat.mul_sub, Nat.mul_one, ← Nat.mul_assoc]
    have : w * u ≤ w * u * z := Nat.le_mul_of_pos_right _ h
    omega
def pgv (w s d : Nat) : Nat := if s < NN then w * (Yb ^ (s + kk s d NN * d) - Yb ^ s) / (Yb ^ d - 1) else 0
theorem pk_prog {w s d : Nat} (hd : 0 < d) : pk (prog w s d) NN = pgv w s d := by
  rw [pk_gs hd]
  unfold pgv
  by_cases c : s < NN
  rotate_left
  · rw [if_neg c]
    unfold kk
    rw [Nat.div_eq_of_lt (by omega)]
    rfl
  rw [if_pos c]
  have h := gs_mul (w := w) (s := s) (d := d) (kk s d NN)
  have p : 0 < Yb ^ d - 1 := by
    have : Yb ^ 1 ≤ Yb ^ d := Nat.pow_le_pow_right (by decide) hd
    have : Yb ^ 1 = 2 ^ 40 := rfl
    omega
  rw [Nat.mul_sub, ← h, Nat.add_sub_cancel, Nat.mul_div_cancel _ p]
/-- w at the place s -/
def sgl (w s : Nat) : Nat → Nat := fun n => if n = s then w else 0
def sgv (w s : Nat) : Nat := if s < NN then w * Yb ^ s else 0
theorem pk_sgl' {w s : Nat} : ∀ n : Nat, pk (sgl w s) n = if s < n then w * Yb ^ s else 0
  | 0 => rfl
  | n + 1 => by
    show pk (sgl w s) n + sgl w s n * Yb ^ n = _
    rw [pk_sgl' n]
    unfold sgl
    rcases Nat.lt_trichotomy s n with h | h | h
    · rw [if_pos h, if_neg (by omega), if_pos (by omega)]; omega
    · subst h
      rw [if_neg (Nat.lt_irrefl _), if_pos rfl, if_pos (by omega)]; omega
    · rw [if_neg (by omega), if_neg (by omega), if_neg (by omega)]; omega
theorem pk_sgl {w s : Nat} : pk (sgl w s) NN = sgv w s := pk_sgl' NN
/-- f, moved by e places -/
def shf (e : Nat) (f : Nat → Nat) : Nat → Nat := fun n => if e ≤ n then f (n - e) else 0
def shv (e P : Nat) : Nat := if e ≤ NN then Yb ^ e * (P % Yb ^ (NN - e)) else 0
theorem pk_shf_lo {e : Nat} {f : Nat → Nat} : ∀ n : Nat, n ≤ e → pk (shf e f) n = 0
  | 0, _ => rfl
  | n + 1, h => by
    show pk (shf e f) n + shf e f n * Yb ^ n = 0
    rw [pk_shf_lo n (by omega)]
    unfold shf
    rw [if_neg (by omega), Nat.zero_mul]
theorem pk_shf_hi {e : Nat} {f : Nat → Nat} : ∀ m : Nat, pk (shf e f) (e + m) = Yb ^ e * pk f m
  | 0 => by rw [Nat.add_zero, pk_shf_lo e (Nat.le_refl _)]; rfl
  | m + 1 => by
    show pk (shf e f) (e + m) + shf e f (e + m) * Yb ^ (e + m) = Yb ^ e * (pk f m + f m * Yb ^ m)
    rw [pk_shf_hi m]
    unfold shf
    rw [if_pos (by omega), Nat.add_sub_cancel_left, Nat.pow_add, Nat.mul_add]
    congr 1
    rw [Nat.mul_left_comm]
theorem pk_mod {f : Nat → Nat} {m : Nat} (h : ∀ i, i < m → f i < Yb) : ∀ k : Nat, pk f (m + k) % Yb ^ m = pk f m
  | 0 => Nat.mod_eq_of_lt (pk_lt h)
  | k + 1 => by
    show (pk f (m + k) + f (m + k) * Yb ^ (m + k)) % Yb ^ m = _
    rw [Nat.pow_add, ← Nat.mul_assoc, Nat.mul_comm (f (m + k)), Nat.mul_assoc, Nat.add_mul_mod_self_left]
    exact pk_mod h k
theorem pk_shf {e : Nat} {f : Nat → Nat} (h : ∀ i, i < NN → f i < Yb) : pk (shf e f) NN = shv e (pk f NN) := by
  unfold shv
  split
  · rename_i c
    obtain ⟨m, hm⟩ : ∃ m, NN = e + m := ⟨NN - e, by omega⟩
    rw [show NN - e = m by omega]
    have := pk_mod (f := f) (m := m) (fun i hi => h i (by omega)) e
    rw [show m + e = NN by omega] at this
    rw [this, hm, pk_shf_hi]
  · exact pk_shf_lo NN (by omega)
/-- a sum over 2^m numbers from lo on -/
def sumR (F : Nat → Nat) : Nat → Nat → Nat
  | 0, lo => F lo
  | m + 1, lo => sumR F m lo + sumR F m (lo + 2 ^ m)
theorem sumR_pk {F : Nat → Nat → Nat} {n : Nat} : ∀ (m lo : Nat), pk (fun i => sumR (fun j => F j i) m lo) n = sumR (fun j => pk (F j) n) m lo
  | 0, _ => rfl
  | m + 1, lo => by
    show pk (fun i => sumR (fun j => F j i) m lo + sumR (fun j => F j i) m (lo + 2 ^ m)) n = _
    rw [pk_add, sumR_pk m lo, sumR_pk m]
    rfl
theorem sumR_cong {F G : Nat → Nat} : ∀ (m lo : Nat), (∀ j, F j = G j) → sumR F m lo = sumR G m lo := fun m lo h => by rw [show F = G from funext h]
theorem sumR_le {F : Nat → Nat} {b : Nat} : ∀ (m lo : Nat), (∀ j, lo ≤ j → j < lo + 2 ^ m → F j ≤ b) → sumR F m lo ≤ 2 ^ m * b
  | 0, lo, h => by rw [Nat.pow_zero, Nat.one_mul]; exact h lo (Nat.le_refl _) (by omega)
  | m + 1, lo, h => by
    have e : 2 ^ (m + 1) = 2 ^ m + 2 ^ m := by rw [Nat.pow_succ]; omega
    have h1 := sumR_le (F := F) (b := b) m lo fun j a c => h j a (by omega)
    have h2 := sumR_le (F := F) (b := b) m (lo + 2 ^ m) fun j a c => h j (by omega) (by omega)
    show sumR F m lo + sumR F m (lo + 2 ^ m) ≤ _
    rw [e, Nat.add_mul]
    omega
theorem sumR_add {F G : Nat → Nat} : ∀ (m lo : Nat), sumR (fun j => F j + G j) m lo = sumR F m lo + sumR G m lo
  | 0, _ => rfl
  | m + 1, lo => by
    show sumR (fun j => F j + G j) m lo + sumR (fun j => F j + G j) m (lo + 2 ^ m) = (sumR F m lo + sumR F m (lo + 2 ^ m)) + (sumR G m lo + sumR G m (lo + 2 ^ m))
    rw [sumR_add m lo, sumR_add m]
    omega
theorem sumR_mul {F : Nat → Nat} (c : Nat) : ∀ (m lo : Nat), sumR (fun j => c * F j) m lo = c * sumR F m lo
  | 0, _ => rfl
  | m + 1, lo => by
    show sumR (fun j => c * F j) m lo + sumR (fun j => c * F j) m (lo + 2 ^ m) = c * (sumR F m lo + sumR F m (lo + 2 ^ m))
    rw [sumR_mul c m lo, sumR_mul c m, Nat.mul_add]
theorem kk_ge {s d n : Nat} (hd : 0 < d) (h : s < n) : n ≤ s + kk s d n * d := by
  unfold kk
  have e := Nat.div_add_mod (n + d - 1 - s) d
  have r := Nat.mod_lt (n + d - 1 - s) hd
  rw [Nat.mul_comm]
  omega
theorem Yd_pos {d : Nat} (hd : 0 < d) : 0 < Yb ^ d - 1 := by
  have : Yb ^ 1 ≤ Yb ^ d := Nat.pow_le_pow_right (by decide) hd
  have : Yb ^ 1 = 2 ^ 40 := rfl
  omega
def tw (w e : Nat) : Nat := if w = 0 then 0 else w * Yb ^ e
theorem tw_eq (w e : Nat) : tw w e = w * Yb ^ e := by
  unfold tw
  split
  · rename_i h; rw [h, Nat.zero_mul]
  · rfl
/-- progressions of one step together -/
def grp (N d base m : Nat) (w s : Nat → Nat) : Nat := (Yb ^ N * sumR (fun β => tw (w β) (s β + kk (s β) d N * d - N)) m 0 - Yb ^ base * sumR (fun β => tw (w β) (s β - base)) m 0) / (Yb ^ d - 1)
theorem pk_grp {w s : Nat → Nat} {N d base : Nat} (hd : 0 < d) (hb : ∀ β, w β ≠ 0 → base ≤ s β ∧ s β < N) (m : Nat) : sumR (fun β => pk (prog (w β) (s β) d) N) m 0 = grp N d base m w s := by
  have one : ∀ β, (Yb ^ d - 1) * pk (prog (w β) (s β) d) N + Yb ^ base * (w β * Yb ^ (s β - base)) = Yb ^ N * (w β * Yb ^ (s β + kk (s β) d N * d - N)) := fun β => by
    have h := gs_mul (w := w β) (s := s β) (d := d) (kk (s β) d N)
    rw [← pk_gs hd, Nat.mul_comm] at h
    by_cases c : w β = 0
    · rw [c] at h ⊢
      simp only [Nat.zero_mul, Nat.mul_zero, Nat.add_zero] at h ⊢
      exact h
    · obtain ⟨h1, h2⟩ := hb β c
      have h3 := kk_ge hd h2
      rw [Nat.mul_left_comm, ← Nat.pow_add, show base + (s β - base) = s β by omega, Nat.mul_left_comm (Yb ^ N), ← Nat.pow_add, show N + (s β + kk (s β) d N * d - N) = s β + kk (s β) d N * d by omega]
      exact h
  have all := congrArg (fun F => sumR F m 0) (funext one)
  have all : sumR (fun β => (Yb ^ d - 1) * pk (prog (w β) (s β) d) N + Yb ^ base * (w β * Yb ^ (s β - base))) m 0 = sumR (fun β => Yb ^ N * (w β * Yb ^ (s β + kk (s β) d N * d - N))) m 0 := all
  rw [sumR_add, sumR_mul, sumR_mul, sumR_mul] at all
  unfold grp
  simp only [tw_eq]
  rw [← all, Nat.add_sub_cancel, Nat.mul_div_cancel_left _ (Yd_pos hd)]
def grs (base m : Nat) (w s : Nat → Nat) : Nat := Yb ^ base * sumR (fun β => tw (w β) (s β - base)) m 0
theorem pk_grs {w s : Nat → Nat} {N base : Nat} (hb : ∀ β, w β ≠ 0 → base ≤ s β ∧ s β < N) (m : Nat) : sumR (fun β => pk (sgl (w β) (s β)) N) m 0 = grs base m w s := by
  unfold grs
  simp only [tw_eq]
  rw [← sumR_mul]
  refine sumR_cong _ _ fun β => ?_
  rw [pk_sgl']
  by_cases c : w β = 0
  · rw [c]; simp
  · obtain ⟨h1, h2⟩ := hb β c
    rw [if_pos h2, Nat.mul_left_comm, ← Nat.pow_add, show base + (s β - base) = s β by omega]
/-- weights that grow -/
def aprog (w c s d : Nat) : Nat → Nat := fun n => if s ≤ n ∧ (n - s) % d = 0 then w + c * ((n - s) / d) else 0
def ags (w c s d : Nat) : Nat → Nat
  | 0 => 0
  | K + 1 => ags w c s d K + (w + c * K) * Yb ^ (s + K * d)
theorem pk_ags {w c s d : Nat} (hd : 0 < d) : ∀ n : Nat, pk (aprog w c s d) n = ags w c s d (kk s d n)
  | 0 => by
    unfold kk
    rw [Nat.div_eq_of_lt (by omega)]
    rfl
  | n + 1 => by
    show pk (aprog w c s d) n + aprog w c s d n * Yb ^ n = _
    rw [pk_ags hd n, kk_next hd]
    unfold aprog
    split
    · rename_i h
      show _ = ags w c s d (kk s d n) + (w + c * kk s d n) * Yb ^ (s + kk s d n * d)
      have e := kk_at hd h
      have q : (n - s) / d = kk s d n := by
        rw [show n - s = kk s d n * d by omega, Nat.mul_div_cancel _ hd]
      rw [e, q]
    · rw [Nat.zero_mul]; rfl
theorem ags_mul {w c s d : Nat} : ∀ K : Nat, ags w c s d (K + 1) * (Yb ^ d - 1) + (w * Yb ^ s + gs c (s + d) d K) = (w + c * K) * Yb ^ (s + (K + 1) * d)
  | 0 => by
    show (0 + (w + c * 0) * Yb ^ (s + 0 * d)) * (Yb ^ d - 1) + (w * Yb ^ s + 0) = _
    rw [Nat.zero_add, Nat.mul_zero, Nat.add_zero, Nat.zero_mul, Nat.add_zero, Nat.add_zero, Nat.one_mul, Nat.pow_add, Nat.mul_sub, Nat.mul_one, ← Nat.mul_assoc]
    have : w * Yb ^ s ≤ w * Yb ^ s * Yb ^ d := Nat.le_mul_of_pos_right _ (Yb_pos d)
    omega
  | K + 1 => by
    have ih := ags_mul (w := w) (c := c) (s := s) (d := d) K
    show (ags w c s d (K + 1) + (w + c * (K + 1)) * Yb ^ (s + (K + 1) * d)) * (Yb ^ d - 1) + (w * Yb ^ s + (gs c (s + d) d K + c * Yb ^ (s + d + K * d))) = _
    rw [show s + d + K * d = s + (K + 1) * d by rw [Nat.succ_mul]; omega, show s + (K + 1 + 1) * d = s + (K + 1) * d + d by rw [Nat.succ_mul (K + 1)]; omega, Nat.pow_add Yb (s + (K + 1) * d) d, Nat.add_mul]
    have h := Yb_pos d
    generalize Yb ^ d = z at *
    generalize Yb ^ (s + (K + 1) * d) = u at *
    generalize ags w c s d (K + 1) * (z - 1) = A at *
    generalize gs c (s + d) d K = B at *
    generalize w * Yb ^ s = C at *
    rw [Nat.mul_sub, Nat.mul_one, ← Nat.mul_assoc]
    have e : (w + c * (K + 1)) * u = (w + c * K) * u + c * u := by
      rw [Nat.mul_succ, ← Nat.add_assoc, Nat.add_mul]
    have : (w + c * (K + 1)) * u ≤ (w + c * (K + 1)) * u * z := Nat.le_mul_of_pos_right _ h
    omega
def agv (N w c s d : Nat) : Nat := if s < N then ((w + c * (kk s d N - 1)) * Yb ^ (s + kk s d N * d) - (w * Yb ^ s + c * (Yb ^ (s + d + (kk s d N - 1) * d) - Yb ^ (s + d)) / (Yb ^ d - 1))) / (Yb ^ d - 1) else 0
theorem gs_val {w s d : Nat} (hd : 0 < d) (K : Nat) : w * (Yb ^ (s + K * d) - Yb ^ s) / (Yb ^ d - 1) = gs w s d K := by
  rw [Nat.mul_sub, ← gs_mul, Nat.add_sub_cancel, Nat.mul_div_cancel _ (Yd_pos hd)]
theorem pk_aprog {N w c s d : Nat} (hd : 0 < d) : pk (aprog w c s d) N = agv N w c s d := by
  rw [pk_ags hd]
  unfold agv
  by_cases h : s < N
  · rw [if_pos h, gs_val hd]
    obtain ⟨K, hK⟩ : ∃ K, kk s d N = K + 1 := by
      have := kk_ge hd h
      match e : kk s d N, this with
      | 0, t => rw [Nat.zero_mul] at t; omega
      | K + 1, _ => exact ⟨K, rfl⟩
    rw [hK, Nat.add_sub_cancel, ← ags_mul, Nat.add_sub_cancel, Nat.mul_div_cancel _ (Yd_pos hd)]
  · rw [if_neg h]
    unfold kk
    rw [Nat.div_eq_of_lt (by omega)]
    rfl
/-- weights of the forms (a, b, c): b even (twice β) or odd, a < c or a = c -/
def bsA (a β : Nat) : Nat := if β = 0 ∨ 2 * β = a then 12 else 24
def eqA (a β : Nat) : Nat := if β = 0 then 6 else if 2 * β = a then 4 else 12
def bsB (a β : Nat) : Nat := if 2 * β + 1 = a then 12 else 24
def eqB (a β : Nat) : Nat := if 2 * β + 1 = a then 4 else 12
def wA (a β : Nat) : Nat := if 2 * β ≤ a ∧ a * (a + 1) - β * β < NN then bsA a β else 0
def eA (a β : Nat) : Nat := if 2 * β ≤ a ∧ a * a - β * β < NN then eqA a β else 0
def wB (a β : Nat) : Nat := if 2 * β + 1 ≤ a ∧ a * (a + 1) - (β * β + β + 1) < NN then bsB a β else 0
def eB (a β : Nat) : Nat := if 2 * β + 1 ≤ a ∧ a * a - (β * β + β + 1) < NN then eqB a β else 0
def aA (a n : Nat) : Nat := sumR (fun β => prog (wA a β) (a * (a + 1) - β * β) a n) 7 0 + sumR (fun β => sgl (eA a β) (a * a - β * β) n) 7 0
def aB (a n : Nat) : Nat := sumR (fun β => prog (wB a β) (a * (a + 1) - (β * β + β + 1)) a n) 7 0 + sumR (fun β => sgl (eB a β) (a * a - (β * β + β + 1)) n) 7 0
def vA (a h : Nat) : Nat := grp NN a (a * (a + 1) - h * h) 7 (wA a) (fun β => a * (a + 1) - β * β) + grs (a * a - h * h) 7 (eA a) (fun β => a * a - β * β)
def vB (a h : Nat) : Nat := grp NN a (a * (a + 1) - (h * h + h + 1)) 7 (wB a) (fun β => a * (a + 1) - (β * β + β + 1)) + grs (a * a - (h * h + h + 1)) 7 (eB a) (fun β => a * a - (β * β + β + 1))
theorem sq_mono {x y : Nat} (h : x ≤ y) : x * x ≤ y * y := Nat.mul_le_mul h h
theorem pk_aA (a : Nat) (ha : 0 < a) : pk (aA a) NN = vA a (a / 2) := by
  unfold vA
  rw [← pk_grp ha ?_ 7, ← pk_grs ?_ 7, ← sumR_pk, ← sumR_pk, ← pk_add]
  · exact pk_cong fun i _ => rfl
  · intro β hw
    unfold eA at hw
    split at hw
    · rename_i h
      exact ⟨Nat.sub_le_sub_left (sq_mono (by omega)) _, h.2⟩
    · exact absurd rfl hw
  · intro β hw
    unfold wA at hw
    split at hw
    · rename_i h
      exact ⟨Nat.sub_le_sub_left (sq_mono (by omega)) _, h.2⟩
    · exact absurd rfl hw
theorem pk_aB (a : Nat) (ha : 0 < a) : pk (aB a) NN = vB a ((a - 1) / 2) := by
  unfold vB
  have mono : ∀ β, 2 * β + 1 ≤ a → β * β + β + 1 ≤ (a - 1) / 2 * ((a - 1) / 2) + (a - 1) / 2 + 1 := fun β h => by
    have := sq_mono (show β ≤ (a - 1) / 2 by omega)
    omega
  rw [← pk_grp ha ?_ 7, ← pk_grs ?_ 7, ← sumR_pk, ← sumR_pk, ← pk_add]
  · exact pk_cong fun i _ => rfl
  · intro β hw
    unfold eB at hw
    split at hw
    · rename_i h
      exact ⟨Nat.sub_le_sub_left (mono β h.1) _, h.2⟩
    · exact absurd rfl hw
  · intro β hw
    unfold wB at hw
    split at hw
    · rename_i h
      exact ⟨Nat.sub_le_sub_left (mono β h.1) _, h.2⟩
    · exact absurd rfl hw
/-- twelve times the class numbers at 4n and at 4n + 3 -/
def tA (n : Nat) : Nat := sumR (fun j => aA (j + 1) n) 8 0
def tB (n : Nat) : Nat := sumR (fun j => aB (j + 1) n) 8 0
def PA : Nat := sumR (fun j => vA (j + 1) ((j + 1) / 2)) 8 0
def PB : Nat := sumR (fun j => vB (j + 1) ((j + 1 - 1) / 2)) 8 0
theorem sum_one {f : Nat → Nat → Nat} {u : Nat → Nat} {n : Nat} (m lo : Nat) (h1 : ∀ j, pk (f j) n = u j) : pk (fun i => sumR (fun j => f j i) m lo) n = sumR (fun j => u j) m lo := by
  rw [sumR_pk]
  exact sumR_cong _ _ h1
theorem pk_tA : pk tA NN = PA := sum_one 8 0 fun j => pk_aA (j + 1) (Nat.succ_pos j)
theorem pk_tB : pk tB NN = PB := sum_one 8 0 fun j => pk_aB (j + 1) (Nat.succ_pos j)
theorem prog_le {w s d n : Nat} : prog w s d n ≤ w := by unfold prog; split <;> omega
theorem sgl_le {w s n : Nat} : sgl w s n ≤ w := by unfold sgl; split <;> omega
theorem tA_le (n : Nat) : tA n ≤ 2 ^ 8 * (2 ^ 7 * 24 + 2 ^ 7 * 24) := sumR_le _ _ fun j _ _ => Nat.add_le_add (sumR_le _ _ fun β _ _ => Nat.le_trans prog_le (by unfold wA bsA; split; split <;> omega; omega)) (sumR_le _ _ fun β _ _ => Nat.le_trans sgl_le (by unfold eA eqA; split; split; omega; split <;> omega; omega))
theorem tB_le (n : Nat) : tB n ≤ 2 ^ 8 * (2 ^ 7 * 24 + 2 ^ 7 * 24) := sumR_le _ _ fun j _ _ => Nat.add_le_add (sumR_le _ _ fun β _ _ => Nat.le_trans prog_le (by unfold wB bsB; split; split <;> omega; omega)) (sumR_le _ _ fun β _ _ => Nat.le_trans sgl_le (by unfold eB eqB; split; split <;> omega; omega))
def tF (n : Nat) : Nat := sumR (fun j => shf ((j + 1) * (j + 1)) tA n) 8 0
def tG (n : Nat) : Nat := sumR (fun u => shf (u * u + u + 1) tB n) 8 0
/-- the sum over t, twelve times the class number at 4n - t^2 -/
def tL (n : Nat) : Nat := tA n + (tF n + tF n) + (tG n + tG n)
/-- 24 e for each n = d e with d < e, and 12 d + 2 for n = d^2 -/
def tR (n : Nat) : Nat := sumR (fun j => aprog (24 * (j + 2)) 24 ((j + 1) * (j + 2)) (j + 1) n) 8 0 + sumR (fun j => sgl (12 * (j + 1) + 2) ((j + 1) * (j + 1)) n) 8 0
def numL (a f g : Nat) : Nat := a + (f + f) + (g + g)
def numF (a : Nat) : Nat := sumR (fun j => shv ((j + 1) * (j + 1)) a) 8 0
def numG (b : Nat) : Nat := sumR (fun u => shv (u * u + u + 1) b) 8 0
def numR : Nat := sumR (fun j => agv NN (24 * (j + 2)) 24 ((j + 1) * (j + 2)) (j + 1)) 8 0 + sumR (fun j => sgv (12 * (j + 1) + 2) ((j + 1) * (j + 1))) 8 0
theorem le_lt {a b : Nat} (h : a ≤ b) (hb : b < Yb) : a < Yb := Nat.lt_of_le_of_lt h hb
theorem sum_shf {f : Nat → Nat} (h : ∀ i, i < NN → f i < Yb) (e : Nat → Nat) (m lo : Nat) : pk (fun n => sumR (fun j => shf (e j) f n) m lo) NN = sumR (fun j => shv (e j) (pk f NN)) m lo := by
  rw [sumR_pk]
  exact sumR_cong _ _ fun j => pk_shf h
theorem pk_five {a f g : Nat → Nat} (n : Nat) : pk (fun i => a i + (f i + f i) + (g i + g i)) n = pk a n + (pk f n + pk f n) + (pk g n + pk g n) := by
  rw [pk_add, pk_add, pk_add, pk_add]
theorem tA_lt : ∀ i, i < NN → tA i < Yb := fun i _ => le_lt (tA_le i) (by decide)
theorem tB_lt : ∀ i, i < NN → tB i < Yb := fun i _ => le_lt (tB_le i) (by decide)
theorem pk_tF : pk tF NN = numF (pk tA NN) := sum_shf tA_lt (fun j => (j + 1) * (j + 1)) 8 0
theorem pk_tG : pk tG NN = numG (pk tB NN) := sum_shf tB_lt (fun u => u * u + u + 1) 8 0
theorem pk_tL (n : Nat) : pk tL n = numL (pk tA n) (pk tF n) (pk tG n) := pk_five n
theorem pk_tR : pk tR NN = numR := by
  have h1 : pk (fun n => sumR (fun j => aprog (24 * (j + 2)) 24 ((j + 1) * (j + 2)) (j + 1) n) 8 0) NN = sumR (fun j => agv NN (24 * (j + 2)) 24 ((j + 1) * (j + 2)) (j + 1)) 8 0 := sum_one 8 0 fun j => pk_aprog (Nat.succ_pos j)
  have h2 : pk (fun n => sumR (fun j => sgl (12 * (j + 1) + 2) ((j + 1) * (j + 1)) n) 8 0) NN = sumR (fun j => sgv (12 * (j + 1) + 2) ((j + 1) * (j + 1))) 8 0 := sum_one 8 0 fun j => pk_sgl
  unfold numR
  rw [← h1, ← h2, ← pk_add]
  exact pk_cong fun i _ => rfl
def withN (n : Nat) (k : Nat → Bool) : Bool := Nat.rec (motive := fun _ => Bool) (k 0) (fun m _ => k (m + 1)) n
theorem withN_eq (n : Nat) (k : Nat → Bool) : withN n k = k n := by cases n <;> rfl
def chk : Bool := withN PA fun a => withN PB fun b => withN (numF a) fun f => withN (numG b) fun g => Nat.beq (numL a f g) numR

theorem chk_ok : chk = true := by decide +kernel
theorem chk_num {a b : Nat} {F : Nat → Nat} {G : Nat → Nat} {r : Nat} (h : (withN a fun a => withN b fun b => withN (F a) fun f => withN (G b) fun g => Nat.beq (numL a f g) r) = true) : numL a (F a) (G b) = r := by
  rw [withN_eq, withN_eq, withN_eq, withN_eq] at h
  exact Nat.eq_of_beq_eq_true h
theorem nums : numL PA (numF PA) (numG PB) = numR := chk_num chk_ok
theorem pk_L : pk tL NN = numR := by
  rw [pk_tL, pk_tF, pk_tG, pk_tA, pk_tB]
  exact nums
theorem shf_le {e b n : Nat} {f : Nat → Nat} (h : ∀ i, f i ≤ b) : shf e f n ≤ b := by
  unfold shf
  split
  · exact h _
  · omega
theorem tL_lt (n : Nat) : tL n < Yb := by
  have hF : tF n ≤ 2 ^ 8 * (2 ^ 8 * (2 ^ 7 * 24 + 2 ^ 7 * 24)) := sumR_le _ _ fun j _ _ => shf_le tA_le
  have hG : tG n ≤ 2 ^ 8 * (2 ^ 8 * (2 ^ 7 * 24 + 2 ^ 7 * 24)) := sumR_le _ _ fun j _ _ => shf_le tB_le
  have hA := tA_le n
  refine le_lt (show tL n ≤ 2 ^ 8 * (2 ^ 7 * 24 + 2 ^ 7 * 24) + (2 ^ 8 * (2 ^ 8 * (2 ^ 7 * 24 + 2 ^ 7 * 24)) + 2 ^ 8 * (2 ^ 8 * (2 ^ 7 * 24 + 2 ^ 7 * 24))) + (2 ^ 8 * (2 ^ 8 * (2 ^ 7 * 24 + 2 ^ 7 * 24)) + 2 ^ 8 * (2 ^ 8 * (2 ^ 7 * 24 + 2 ^ 7 * 24))) from ?_) (by decide)
  exact Nat.add_le_add (Nat.add_le_add hA (Nat.add_le_add hF hF)) (Nat.add_le_add hG hG)
theorem tR_lt (n : Nat) (h : n < 20001) : tR n < Yb := by
  have h1 : sumR (fun j => aprog (24 * (j + 2)) 24 ((j + 1) * (j + 2)) (j + 1) n) 8 0 ≤ 2 ^ 8 * 600000 := sumR_le _ _ fun j _ hj => by
    have hj : j < 256 := by omega
    unfold aprog
    split
    · have := Nat.div_le_self (n - (j + 1) * (j + 2)) (j + 1)
      generalize (n - (j + 1) * (j + 2)) / (j + 1) = q at *
      omega
    · omega
  have h2 : sumR (fun j => sgl (12 * (j + 1) + 2) ((j + 1) * (j + 1)) n) 8 0 ≤ 2 ^ 8 * 5000 := sumR_le _ _ fun j _ hj => Nat.le_trans sgl_le (by omega)
  exact le_lt (Nat.add_le_add h1 h2) (by decide)
/-- the sum of the class numbers, for each n below 20001 -/
theorem rel : ∀ n, n < 20001 → tL n = tR n := by
  have h : pk tL NN = pk tR NN := by rw [pk_L, pk_tR]
  exact pk_inj (n := NN) (fun i _ => tL_lt i) (fun i hi => tR_lt i hi) h

/-! ### divisors in pairs -/
def sg (f : Nat → Nat) : Nat → Nat
  | 0 => 0
  | n + 1 => sg f n + f n
theorem sg_cong {f g : Nat → Nat} : ∀ {n : Nat}, (∀ i, i < n → f i = g i) → sg f n = sg g n
  | 0, _ => rfl
  | n + 1, h => by
    show sg f n + f n = sg g n + g n
    rw [sg_cong fun i hi => h i (by omega), h n (by omega)]
theorem sg_add {f g : Nat → Nat} : ∀ n : Nat, sg (fun i => f i + g i) n = sg f n + sg g n
  | 0 => rfl
  | n + 1 => by
    show sg (fun i => f i + g i) n + (f n + g n) = (sg f n + f n) + (sg g n + g n)
    rw [sg_add n]; omega
theorem sg_zero : ∀ n : Nat, sg (fun _ => 0) n = 0
  | 0 => rfl
  | n + 1 => by show sg (fun _ => 0) n + 0 = 0; rw [sg_zero n]
theorem sg_mul {f : Nat → Nat} (c : Nat) : ∀ n : Nat, sg (fun i => c * f i) n = c * sg f n
  | 0 => rfl
  | n + 1 => by
    show sg (fun i => c * f i) n + c * f n = c * (sg f n + f n)
    rw [sg_mul c n, Nat.mul_add]
theorem sg_comm {f : Nat → Nat → Nat} (m : Nat) : ∀ n : Nat, sg (fun i => sg (fun j => f i j) m) n = sg (fun j => sg (fun i => f i j) n) m
  | 0 => (sg_zero m).symm
  | n + 1 => by
    show sg (fun i => sg (fun j => f i j) m) n + sg (fun j => f n j) m = sg (fun j => sg (fun i => f i j) n + f n j) m
    rw [sg_comm m n, sg_add]
theorem sg_ext {f : Nat → Nat} {a : Nat} (h : ∀ i, a ≤ i → f i = 0) : ∀ k : Nat, sg f (a + k) = sg f a
  | 0 => rfl
  | k + 1 => by
    show sg f (a + k) + f (a + k) = _
    rw [sg_ext h k, h _ (by omega), Nat.add_zero]
theorem sg_one {f : Nat → Nat} {n p : Nat} (hp : p < n) (h : ∀ i, i < n → i ≠ p → f i = 0) : sg f n = f p := by
  induction n with
  | zero => omega
  | succ n ih =>
    show sg f n + f n = _
    by_cases c : p = n
    · subst c
      rw [sg_cong (g := fun _ => 0) fun i hi => h i (by omega) (by omega), sg_zero, Nat.zero_add]
    · rw [ih (by omega) fun i hi ne => h i (by omega) ne, h n (by omega) (fun z => c z.symm), Nat.add_zero]
theorem sumR_sg {F : Nat → Nat} : ∀ (m lo : Nat), sumR F m lo = sg (fun i => F (lo + i)) (2 ^ m)
  | 0, lo => by show F lo = 0 + F (lo + 0); rw [Nat.zero_add, Nat.add_zero]
  | m + 1, lo => by
    show sumR F m lo + sumR F m (lo + 2 ^ m) = _
    rw [sumR_sg m lo, sumR_sg m, Nat.pow_succ, Nat.mul_two]
    have key : ∀ (f : Nat → Nat) (a b : Nat), sg f (a + b) = sg f a + sg (fun i => f (a + i)) b := fun f a b => by
      induction b with
      | zero => rfl
      | succ b ih =>
        show sg f (a + b) + f (a + b) = sg f a + (sg (fun i => f (a + i)) b + f (a + b))
        rw [ih]; omega
    rw [key]
    congr 1
    exact sg_cong fun i _ => by rw [Nat.add_assoc]
/-- over the pairs c e = n -/
def DD (F : Nat → Nat → Nat) (n : Nat) : Nat := sg (fun c => sg (fun e => if (c + 1) * (e + 1) = n then F (c + 1) (e + 1) else 0) n) n
/-- over the divisors -/
def Dv (f : Nat → Nat) (n : Nat) : Nat := sg (fun c => if n % (c + 1) = 0 then f (c + 1) else 0) n
theorem DD_in {F : Nat → Nat → Nat} {n c : Nat} (hn : 0 < n) : sg (fun e => if (c + 1) * (e + 1) = n then F (c + 1) (e + 1) else 0) n = if n % (c + 1) = 0 then F (c + 1) (n / (c + 1)) else 0 := by
  split
  · rename_i h
    obtain ⟨q, rfl⟩ := Nat.dvd_of_mod_eq_zero h
    have hq : 0 < q := Nat.pos_of_mul_pos_left hn
    have e : (c + 1) * q / (c + 1) = q := Nat.mul_div_cancel_left _ (Nat.succ_pos c)
    have le : q ≤ (c + 1) * q := Nat.le_mul_of_pos_left _ (Nat.succ_pos c)
    rw [sg_one (p := q - 1) (by omega) fun i hi ne => if_neg fun z => ne (by
      have := Nat.eq_of_mul_eq_mul_left (Nat.succ_pos c) z
      omega), show q - 1 + 1 = q by omega, if_pos rfl, e]
  · rename_i h
    rw [sg_cong (g := fun _ => 0) fun i _ => if_neg fun z => h (by rw [← z, Nat.mul_mod_right]), sg_zero]
theorem DD_Dv {F : Nat → Nat → Nat} {n : Nat} (hn : 0 < n) : DD F n = Dv (fun c => F c (n / c)) n := sg_cong fun c _ => DD_in hn
theorem DD_flip {F : Nat → Nat → Nat} {n : Nat} : DD F n = DD (fun c e => F e c) n := by
  unfold DD
  rw [sg_comm]
  refine sg_cong fun c _ => sg_cong fun e _ => ?_
  rw [Nat.mul_comm]
theorem DD_add {F G : Nat → Nat → Nat} {n : Nat} : DD (fun c e => F c e + G c e) n = DD F n + DD G n := by
  unfold DD
  rw [← sg_add]
  refine sg_cong fun c _ => ?_
  rw [← sg_add]
  refine sg_cong fun e _ => ?_
  split <;> rfl
theorem DD_cong {F G : Nat → Nat → Nat} {n : Nat} (h : ∀ c e, c * e = n → F c e = G c e) : DD F n = DD G n := sg_cong fun c _ => sg_cong fun e _ => by
  split
  · rename_i z; exact h _ _ z
  · rfl
/-- for each pair -/
theorem pairs {n : Nat} (hn : 0 < n) : 24 * Dv (fun c => c) n = DD (fun c e => if c < e then 24 * e else 0) n + DD (fun c e => if c = e then 12 * c else 0) n + 12 * Dv (fun c => min c (n / c)) n := by
  have e1 : 24 * Dv (fun c => c) n = DD (fun c _ => 12 * c) n + DD (fun c _ => 12 * c) n := by
    rw [← DD_add, DD_Dv hn]
    unfold Dv
    rw [← sg_mul]
    refine sg_cong fun c _ => ?_
    show 24 * (if n % (c + 1) = 0 then c + 1 else 0) = if n % (c + 1) = 0 then 12 * (c + 1) + 12 * (c + 1) else 0
    split <;> omega
  have e2 : 12 * Dv (fun c => min c (n / c)) n = DD (fun c e => 12 * min c e) n := by
    rw [DD_Dv hn]
    unfold Dv
    rw [← sg_mul]
    refine sg_cong fun c _ => ?_
    show 12 * (if n % (c + 1) = 0 then min (c + 1) (n / (c + 1)) else 0) = if n % (c + 1) = 0 then 12 * min (c + 1) (n / (c + 1)) else 0
    split <;> rfl
  have e3 : DD (fun c _ => 12 * c) n = DD (fun _ e => 12 * e) n := DD_flip
  have e4 : DD (fun c e => if c < e then 12 * e else 0) n = DD (fun c e => if e < c then 12 * c else 0) n := DD_flip
  have e5 : DD (fun c e => if c < e then 24 * e else 0) n = DD (fun c e => if c < e then 12 * e else 0) n + DD (fun c e => if e < c then 12 * c else 0) n := by
    rw [← e4, ← DD_add]
    refine DD_cong fun c e _ => ?_
    split <;> omega
  rw [e1, e2]
  rw [show DD (fun c _ => 12 * c) n + DD (fun c _ => 12 * c) n = DD (fun c _ => 12 * c) n + DD (fun _ e => 12 * e) n by rw [← e3], ← DD_add, e5, ← DD_add, ← DD_add, ← DD_add]
  refine DD_cong fun c e _ => ?_
  rcases Nat.lt_trichotomy c e with h | h | h
  · rw [if_pos h, if_neg (by omega), if_neg (by omega), Nat.min_eq_left (by omega)]; omega
  · subst h
    rw [if_neg (by omega), if_pos rfl, Nat.min_self]; omega
  · rw [if_neg (by omega), if_pos h, if_neg (by omega), Nat.min_eq_right (by omega)]; omega
/-- the squares among the n -/
def sq2 (n : Nat) : Nat := sg (fun j => if (j + 1) * (j + 1) = n then 2 else 0) n
theorem sg_cut {f : Nat → Nat} {n : Nat} (h1 : ∀ i, 256 ≤ i → f i = 0) (h2 : ∀ i, n ≤ i → f i = 0) : sg f 256 = sg f n := by
  rw [← sg_ext h1 n, ← sg_ext h2 256, Nat.add_comm]
theorem sq_gt {n i : Nat} (hn : n < 20001) (hi : 256 ≤ i) : n < (i + 1) * (i + 1) := by
  have := Nat.mul_le_mul (show 257 ≤ i + 1 by omega) (show 257 ≤ i + 1 by omega)
  omega
theorem tR_eq {n : Nat} (h0 : 0 < n) (hn : n < 20001) : tR n = DD (fun c e => if c < e then 24 * e else 0) n + (DD (fun c e => if c = e then 12 * c else 0) n + sq2 n) := by
  unfold tR
  rw [sumR_sg, sumR_sg]
  show sg _ 256 + sg _ 256 = _
  have a1 : ∀ j, aprog (24 * (0 + j + 2)) 24 ((0 + j + 1) * (0 + j + 2)) (0 + j + 1) n = if n % (j + 1) = 0 then (if j + 1 < n / (j + 1) then 24 * (n / (j + 1)) else 0) else 0 := fun j => by
    rw [Nat.zero_add]
    unfold aprog
    by_cases c : n % (j + 1) = 0
    · rw [if_pos c]
      obtain ⟨q, rfl⟩ := Nat.dvd_of_mod_eq_zero c
      rw [Nat.mul_div_cancel_left _ (Nat.succ_pos j)]
      by_cases d : j + 1 < q
      · obtain ⟨r, rfl⟩ : ∃ r, q = j + 2 + r := ⟨q - (j + 2), by omega⟩
        rw [Nat.mul_add (j + 1) (j + 2) r, Nat.add_sub_cancel_left, Nat.mul_mod_right, Nat.mul_div_cancel_left _ (Nat.succ_pos j), if_pos ⟨by omega, rfl⟩, if_pos d]
        omega
      · rw [if_neg d, if_neg]
        rintro ⟨h, _⟩
        have := Nat.le_of_mul_le_mul_left h (Nat.succ_pos j)
        omega
    · rw [if_neg c, if_neg]
      rintro ⟨h1, h2⟩
      obtain ⟨q, hq⟩ := Nat.dvd_of_mod_eq_zero h2
      apply c
      rw [show n = (j + 1) * (j + 2 + q) by rw [Nat.mul_add]; omega, Nat.mul_mod_right]
  have a2 : ∀ j, sgl (12 * (0 + j + 1) + 2) ((0 + j + 1) * (0 + j + 1)) n = (if (j + 1) * (j + 1) = n then 12 * (j + 1) else 0) + if (j + 1) * (j + 1) = n then 2 else 0 := fun j => by
    rw [Nat.zero_add]
    unfold sgl
    by_cases c : (j + 1) * (j + 1) = n
    · rw [if_pos c.symm, if_pos c, if_pos c]
    · rw [if_neg (fun z => c z.symm), if_neg c, if_neg c]
  have out : ∀ j, 256 ≤ j ∨ n ≤ j → n < (j + 1) * (j + 1) := fun j h => by
    rcases h with h | h
    · exact sq_gt hn h
    · have : j + 1 ≤ (j + 1) * (j + 1) := Nat.le_mul_of_pos_left _ (Nat.succ_pos j)
      omega
  have z1 : ∀ j, 256 ≤ j ∨ n ≤ j → aprog (24 * (0 + j + 2)) 24 ((0 + j + 1) * (0 + j + 2)) (0 + j + 1) n = 0 := fun j h => by
    rw [a1]
    split
    · rw [if_neg]
      intro z
      have o := out j h
      have := Nat.div_lt_of_lt_mul o
      omega
    · rfl
  have z2 : ∀ j, 256 ≤ j ∨ n ≤ j → sgl (12 * (0 + j + 1) + 2) ((0 + j + 1) * (0 + j + 1)) n = 0 := fun j h => by
    have o := out j h
    rw [a2, if_neg (by omega), if_neg (by omega)]
  rw [sg_cut (fun j h => z1 j (.inl h)) (fun j h => z1 j (.inr h)), sg_cut (fun j h => z2 j (.inl h)) (fun j h => z2 j (.inr h)), sg_cong fun j _ => a1 j, sg_cong fun j _ => a2 j, sg_add, DD_Dv h0]
  congr 1
  congr 1
  unfold DD
  refine sg_cong fun c hc => ?_
  by_cases z : (c + 1) * (c + 1) = n
  · rw [if_pos z, sg_one (p := c) hc fun i hi ne => ?_, if_pos z]
    · exact (if_pos rfl).symm
    · split
      · exact if_neg (show ¬ c + 1 = i + 1 by omega)
      · rfl
  · rw [if_neg z, sg_cong (g := fun _ => 0) fun i _ => ?_, sg_zero]
    split
    · rename_i y
      exact if_neg (show ¬ c + 1 = i + 1 from fun x => z (by rw [← y, ← x]))
    · rfl
/-- the relation of Kronecker and Hurwitz, to 20000 -/
theorem kronecker {n : Nat} (h0 : 0 < n) (hn : n < 20001) : tL n + 12 * Dv (fun c => min c (n / c)) n = 24 * Dv (fun c => c) n + sq2 n := by
  rw [rel n hn, tR_eq h0 hn, pairs h0]
  omega

/-! ### the law's table of class numbers -/
def item (a b c : Nat) : Nat := if a = b ∧ b = c then 4 else if b = 0 ∧ a = c then 6 else if 0 < b ∧ b < a ∧ a < c then 24 else 12
/-- what the forms (a, b, *) give to the place m -/
def itm (a b m : Nat) : Nat := if (m + b * b) % (4 * a) = 0 ∧ a ≤ (m + b * b) / (4 * a) then item a b ((m + b * b) / (4 * a)) else 0
theorem cellE {a b u n m w e : Nat} (ha : 0 < a) (hn : n < NN) (hm : m + b * b = 4 * (n + u)) (hu : u ≤ a * a) (hw : ∀ q, a < q → a * (a + 1) - u < NN → w = item a b q) (he : a * a - u < NN → e = item a b a) :
    prog w (a * (a + 1) - u) a n + sgl e (a * a - u) n = itm a b m := by
  unfold itm prog sgl
  rw [hm, Nat.mul_mod_mul_left]
  have e1 : a * (a + 1) = a * a + a := Nat.mul_succ a a
  by_cases d : (n + u) % a = 0
  · obtain ⟨q, hq⟩ := Nat.dvd_of_mod_eq_zero d
    rw [d, hq, show 4 * (a * q) = 4 * a * q by rw [Nat.mul_assoc], Nat.mul_div_cancel_left _ (show 0 < 4 * a by omega)]
    rcases Nat.lt_trichotomy q a with h | h | h
    · have : a * (q + 1) ≤ a * a := Nat.mul_le_mul_left a h
      rw [Nat.mul_succ] at this
      rw [if_neg (fun z => by omega), if_neg (fun z => by omega), if_neg (fun z => by omega)]
    · subst h
      rw [if_neg (fun z => by omega), if_pos (by omega), if_pos ⟨rfl, Nat.le_refl _⟩, he (by omega), Nat.zero_add]
    · obtain ⟨k, rfl⟩ : ∃ k, q = a + 1 + k := ⟨q - (a + 1), by omega⟩
      rw [Nat.mul_add] at hq
      rw [if_pos ⟨by omega, by rw [show n - (a * (a + 1) - u) = a * k by omega, Nat.mul_mod_right]⟩, if_neg (by omega), if_pos ⟨rfl, by omega⟩, hw (a + 1 + k) (by omega) (by omega), Nat.add_zero]
  · rw [if_neg, if_neg, if_neg]
    · rintro ⟨h, _⟩
      omega
    · intro h
      apply d
      rw [show n + u = a * a by omega, Nat.mul_mod_right]
    · rintro ⟨h1, h2⟩
      obtain ⟨k, hk⟩ := Nat.dvd_of_mod_eq_zero h2
      apply d
      rw [show n + u = a * (a + 1 + k) by rw [Nat.mul_add]; omega, Nat.mul_mod_right]
theorem sgl_0 {s n : Nat} : sgl 0 s n = 0 := by unfold sgl; split <;> rfl
theorem prog_0 {s d n : Nat} : prog 0 s d n = 0 := by unfold prog; split <;> rfl
theorem cellA {a β n : Nat} (ha : 0 < a) (hn : n < NN) : prog (wA a β) (a * (a + 1) - β * β) a n + sgl (eA a β) (a * a - β * β) n = if 2 * β ≤ a then itm a (2 * β) (4 * n) else 0 := by
  split
  · rename_i h
    refine cellE ha hn ?_ (sq_mono (by omega)) (fun q hq l => ?_) (fun l => ?_)
    · rw [show 2 * β * (2 * β) = 4 * (β * β) by rw [Nat.mul_mul_mul_comm], Nat.mul_add]
    · unfold wA bsA item
      have n1 : ¬(a = 2 * β ∧ 2 * β = q) := by omega
      have n2 : ¬(2 * β = 0 ∧ a = q) := by omega
      rw [if_pos ⟨h, l⟩, if_neg n1, if_neg n2]
      by_cases c : β = 0 ∨ 2 * β = a
      · have n3 : ¬(0 < 2 * β ∧ 2 * β < a ∧ a < q) := by omega
        rw [if_pos c, if_neg n3]
      · have n3 : 0 < 2 * β ∧ 2 * β < a ∧ a < q := by omega
        rw [if_neg c, if_pos n3]
    · unfold eA eqA item
      rw [if_pos ⟨h, l⟩]
      by_cases c : β = 0
      · have n1 : ¬(a = 2 * β ∧ 2 * β = a) := by omega
        have n2 : 2 * β = 0 ∧ a = a := by omega
        rw [if_pos c, if_neg n1, if_pos n2]
      · rw [if_neg c]
        have n2 : ¬(2 * β = 0 ∧ a = a) := by omega
        have n3 : ¬(0 < 2 * β ∧ 2 * β < a ∧ a < a) := by omega
        by_cases c2 : 2 * β = a
        · have n1 : a = 2 * β ∧ 2 * β = a := by omega
          rw [if_pos c2, if_pos n1]
        · have n1 : ¬(a = 2 * β ∧ 2 * β = a) := by omega
          rw [if_neg c2, if_neg n1, if_neg n2, if_neg n3]
  · rename_i h
    unfold wA eA
    rw [if_neg (fun z => h z.1), if_neg (fun z => h z.1), prog_0, sgl_0]
theorem cellB {a β n : Nat} (ha : 0 < a) (hn : n < NN) : prog (wB a β) (a * (a + 1) - (β * β + β + 1)) a n + sgl (eB a β) (a * a - (β * β + β + 1)) n = if 2 * β + 1 ≤ a then itm a (2 * β + 1) (4 * n + 3) else 0 := by
  have e4 : (2 * β + 1) * (2 * β + 1) = 4 * (β * β) + 4 * β + 1 := by
    rw [Nat.mul_add, Nat.add_mul, Nat.mul_mul_mul_comm]
    omega
  split
  · rename_i h
    have hu : β * β + β + 1 ≤ a * a := by
      have := sq_mono h
      omega
    refine cellE ha hn ?_ hu (fun q hq l => ?_) (fun l => ?_)
    · omega
    · unfold wB bsB item
      have n1 : ¬(a = 2 * β + 1 ∧ 2 * β + 1 = q) := by omega
      have n2 : ¬(2 * β + 1 = 0 ∧ a = q) := by omega
      rw [if_pos ⟨h, l⟩, if_neg n1, if_neg n2]
      by_cases c : 2 * β + 1 = a
      · have n3 : ¬(0 < 2 * β + 1 ∧ 2 * β + 1 < a ∧ a < q) := by omega
        rw [if_pos c, if_neg n3]
      · have n3 : 0 < 2 * β + 1 ∧ 2 * β + 1 < a ∧ a < q := by omega
        rw [if_neg c, if_pos n3]
    · unfold eB eqB item
      rw [if_pos ⟨h, l⟩]
      have n2 : ¬(2 * β + 1 = 0 ∧ a = a) := by omega
      have n3 : ¬(0 < 2 * β + 1 ∧ 2 * β + 1 < a ∧ a < a) := by omega
      by_cases c : 2 * β + 1 = a
      · have n1 : a = 2 * β + 1 ∧ 2 * β + 1 = a := by omega
        rw [if_pos c, if_pos n1]
      · have n1 : ¬(a = 2 * β + 1 ∧ 2 * β + 1 = a) := by omega
        rw [if_neg c, if_neg n1, if_neg n2, if_neg n3]
  · rename_i h
    unfold wB eB
    rw [if_neg (fun z => h z.1), if_neg (fun z => h z.1), prog_0, sgl_0]
/-- what the forms with this a give -/
def rowC (a m : Nat) : Nat := sg (fun b => itm a b m) (a + 1)
/-- the table at m, from the a to R -/
def cl (R m : Nat) : Nat := sg (fun j => rowC (j + 1) m) R
theorem itm_far {a b m : Nat} (hb : b ≤ a) (h : m < 3 * (a * a)) : itm a b m = 0 := by
  unfold itm
  rw [if_neg]
  rintro ⟨h1, h2⟩
  rcases Nat.eq_zero_or_pos a with z | z
  · subst z; omega
  have h3 := (Nat.le_div_iff_mul_le (show 0 < 4 * a by omega)).mp h2
  have h4 := sq_mono hb
  have h5 : a * (4 * a) = 4 * (a * a) := Nat.mul_left_comm _ _ _
  omega
theorem rowC_far {a m : Nat} (h : m < 3 * (a * a)) : rowC a m = 0 := by
  unfold rowC
  rw [sg_cong (g := fun _ => 0) fun b hb => itm_far (by omega) h, sg_zero]
/-- by parity -/
theorem sg_par {g : Nat → Nat} : ∀ n : Nat, sg g (2 * n) = sg (fun β => g (2 * β)) n + sg (fun β => g (2 * β + 1)) n
  | 0 => rfl
  | n + 1 => by
    show sg g (2 * n) + g (2 * n) + g (2 * n + 1) = (sg (fun β => g (2 * β)) n + g (2 * n)) + (sg (fun β => g (2 * β + 1)) n + g (2 * n + 1))
    rw [sg_par n]; omega
theorem row_par {a m : Nat} {g : Nat → Nat} (hg : ∀ b, g b = if b ≤ a then itm a b m else 0) : rowC a m = sg (fun β => g (2 * β)) (a + 1) + sg (fun β => g (2 * β + 1)) (a + 1) := by
  rw [← sg_par, show 2 * (a + 1) = a + 1 + (a + 1) by omega, sg_ext (fun i hi => by rw [hg, if_neg (by omega)])]
  exact sg_cong fun b hb => by rw [hg, if_pos (by omega)]
theorem odd_even {a β n : Nat} : itm a (2 * β + 1) (4 * n) = 0 := by
  unfold itm
  rw [if_neg]
  rintro ⟨h, _⟩
  obtain ⟨k, hk⟩ := Nat.dvd_of_mod_eq_zero h
  have e4 : (2 * β + 1) * (2 * β + 1) = 4 * (β * β) + 4 * β + 1 := by
    rw [Nat.mul_add, Nat.add_mul, Nat.mul_mul_mul_comm]
    omega
  rw [Nat.mul_assoc] at hk
  omega
theorem even_odd {a β n : Nat} : itm a (2 * β) (4 * n + 3) = 0 := by
  unfold itm
  rw [if_neg]
  rintro ⟨h, _⟩
  obtain ⟨k, hk⟩ := Nat.dvd_of_mod_eq_zero h
  have e4 : 2 * β * (2 * β) = 4 * (β * β) := Nat.mul_mul_mul_comm _ _ _ _
  rw [e4, Nat.mul_assoc 4 a k] at hk
  omega
theorem sg_both {f : Nat → Nat} {a b : Nat} (h1 : ∀ i, a ≤ i → f i = 0) (h2 : ∀ i, b ≤ i → f i = 0) : sg f a = sg f b := by
  rw [← sg_ext h1 b, ← sg_ext h2 a, Nat.add_comm]
theorem far_or {a m : Nat} (h : m < 80007) : m < 3 * (a * a) ∨ a < 164 := by
  rcases Nat.lt_or_ge a 164 with c | c
  · exact .inr c
  · have := sq_mono c
    omega
theorem aA_row {a n : Nat} (ha : 0 < a) (hn : n < NN) : aA a n = rowC a (4 * n) := by
  have hn' : n < 20001 := hn
  unfold aA
  rw [← sumR_add, sumR_cong (G := fun β => if 2 * β ≤ a then itm a (2 * β) (4 * n) else 0) 7 0 fun β => cellA ha hn, sumR_sg, row_par (g := fun b => if b ≤ a then itm a b (4 * n) else 0) fun b => rfl]
  rw [sg_cong (f := fun β => if 2 * β + 1 ≤ a then itm a (2 * β + 1) (4 * n) else 0) (g := fun _ => 0) (n := a + 1) fun β _ => by
    rw [odd_even]
    split <;> rfl, sg_zero, Nat.add_zero]
  show sg _ 128 = _
  rw [sg_cong (g := fun β => if 2 * β ≤ a then itm a (2 * β) (4 * n) else 0) fun β _ => by rw [Nat.zero_add]]
  rcases far_or (a := a) (show 4 * n < 80007 by omega) with c | c
  · have z : (fun β => if 2 * β ≤ a then itm a (2 * β) (4 * n) else 0) = fun _ => 0 := funext fun β => by
      split
      · rename_i h; exact itm_far h c
      · rfl
    rw [z, sg_zero, sg_zero]
  · exact sg_both (fun i hi => if_neg (by omega)) fun i hi => if_neg (by omega)
theorem aB_row {a n : Nat} (ha : 0 < a) (hn : n < NN) : aB a n = rowC a (4 * n + 3) := by
  have hn' : n < 20001 := hn
  unfold aB
  rw [← sumR_add, sumR_cong (G := fun β => if 2 * β + 1 ≤ a then itm a (2 * β + 1) (4 * n + 3) else 0) 7 0 fun β => cellB ha hn, sumR_sg, row_par (g := fun b => if b ≤ a then itm a b (4 * n + 3) else 0) fun b => rfl]
  rw [sg_cong (f := fun β => if 2 * β ≤ a then itm a (2 * β) (4 * n + 3) else 0) (g := fun _ => 0) (n := a + 1) fun β _ => by
    rw [even_odd]
    split <;> rfl, sg_zero, Nat.zero_add]
  show sg _ 128 = _
  rw [sg_cong (g := fun β => if 2 * β + 1 ≤ a then itm a (2 * β + 1) (4 * n + 3) else 0) fun β _ => by rw [Nat.zero_add]]
  rcases far_or (a := a) (show 4 * n + 3 < 80007 by omega) with c | c
  · have z : (fun β => if 2 * β + 1 ≤ a then itm a (2 * β + 1) (4 * n + 3) else 0) = fun _ => 0 := funext fun β => by
      split
      · rename_i h; exact itm_far h c
      · rfl
    rw [z, sg_zero, sg_zero]
  · exact sg_both (fun i hi => if_neg (by omega)) fun i hi => if_neg (by omega)
theorem tA_cl {n : Nat} (hn : n < NN) : tA n = cl 256 (4 * n) := by
  unfold tA cl
  rw [sumR_sg]
  exact sg_cong fun j _ => by rw [Nat.zero_add, aA_row (Nat.succ_pos j) hn]
theorem tB_cl {n : Nat} (hn : n < NN) : tB n = cl 256 (4 * n + 3) := by
  unfold tB cl
  rw [sumR_sg]
  exact sg_cong fun j _ => by rw [Nat.zero_add, aB_row (Nat.succ_pos j) hn]
/-- more a give no more -/
theorem cl_any {R S m : Nat} (hR : m < 3 * ((R + 1) * (R + 1))) (hS : m < 3 * ((S + 1) * (S + 1))) : cl R m = cl S m := by
  unfold cl
  refine sg_both (fun i hi => rowC_far ?_) fun i hi => rowC_far ?_
  · have := sq_mono (show R + 1 ≤ i + 1 by omega)
    omega
  · have := sq_mono (show S + 1 ≤ i + 1 by omega)
    omega

/-! ### the sum over t -/
theorem sg_head {f : Nat → Nat} : ∀ n : Nat, sg f (n + 1) = f 0 + sg (fun i => f (i + 1)) n
  | 0 => by show 0 + f 0 = f 0 + 0; omega
  | n + 1 => by
    show sg f (n + 1) + f (n + 1) = f 0 + (sg (fun i => f (i + 1)) n + f (n + 1))
    rw [sg_head n]; omega
def termT (n t : Nat) : Nat := if t * t ≤ 4 * n then (if t = 0 then 1 else 2) * cl 256 (4 * n - t * t) else 0
theorem termT_far {n T t : Nat} (hT : 4 * n < T * T) (h : T ≤ t) : termT n t = 0 := if_neg (by have := sq_mono h; omega)
theorem termT_even {n s : Nat} (hn : n < NN) : termT n (2 * (s + 1)) = if (s + 1) * (s + 1) ≤ n then 2 * tA (n - (s + 1) * (s + 1)) else 0 := by
  unfold termT
  have e : 2 * (s + 1) * (2 * (s + 1)) = 4 * ((s + 1) * (s + 1)) := Nat.mul_mul_mul_comm _ _ _ _
  rw [e]
  generalize (s + 1) * (s + 1) = z
  by_cases c : z ≤ n
  · rw [if_pos (by omega), if_neg (by omega), if_pos c, tA_cl (by omega), Nat.mul_sub]
  · rw [if_neg (by omega), if_neg c]
theorem termT_odd {n u : Nat} (hn : n < NN) : termT n (2 * u + 1) = if u * u + u + 1 ≤ n then 2 * tB (n - (u * u + u + 1)) else 0 := by
  unfold termT
  have e : (2 * u + 1) * (2 * u + 1) = 4 * (u * u) + 4 * u + 1 := by
    rw [Nat.mul_add, Nat.add_mul, Nat.mul_mul_mul_comm]
    omega
  rw [e]
  generalize u * u = z
  by_cases c : z + u + 1 ≤ n
  · rw [if_pos (by omega), if_neg (by omega), if_pos c, tB_cl (by omega), show 4 * n - (4 * z + 4 * u + 1) = 4 * (n - (z + u + 1)) + 3 by omega]
  · rw [if_neg (by omega), if_neg c]
theorem sumT {n T : Nat} (hn : n < 20001) (hT : 4 * n < T * T) : sg (termT n) T = tL n := by
  have hN : n < NN := hn
  have h514 : 4 * n < 514 * 514 := by omega
  rw [sg_both (f := termT n) (a := T) (b := 514) (fun i hi => termT_far hT hi) (fun i hi => termT_far h514 hi), show 514 = 2 * 257 from rfl, sg_par, sg_head]
  have e0 : termT n (2 * 0) = tA n := by
    unfold termT
    rw [if_pos (by omega), if_pos (by omega), Nat.one_mul, tA_cl hN]
    rfl
  have e1 : sg (fun i => termT n (2 * (i + 1))) 256 = tF n + tF n := by
    unfold tF
    rw [sumR_sg, ← sg_add]
    refine sg_cong fun i _ => ?_
    rw [termT_even hN]
    show _ = shf ((0 + i + 1) * (0 + i + 1)) tA n + shf ((0 + i + 1) * (0 + i + 1)) tA n
    rw [Nat.zero_add]
    unfold shf
    by_cases c : (i + 1) * (i + 1) ≤ n
    · rw [if_pos c, if_pos c]; omega
    · rw [if_neg c, if_neg c]
  have e2 : sg (fun u => termT n (2 * u + 1)) 257 = tG n + tG n := by
    unfold tG
    rw [sumR_sg, ← sg_add, show 257 = 256 + 1 from rfl]
    show sg (fun u => termT n (2 * u + 1)) 256 + termT n (2 * 256 + 1) = sg _ 256
    rw [termT_far (T := 513) (show 4 * n < 513 * 513 by omega) (by omega), Nat.add_zero]
    refine sg_cong fun u _ => ?_
    rw [termT_odd hN]
    show _ = shf ((0 + u) * (0 + u) + (0 + u) + 1) tB n + shf ((0 + u) * (0 + u) + (0 + u) + 1) tB n
    rw [Nat.zero_add]
    unfold shf
    by_cases c : u * u + u + 1 ≤ n
    · rw [if_pos c, if_pos c]; omega
    · rw [if_neg c, if_neg c]
  rw [e0, e1, e2]
  rfl
/-- the law's side of weight 2: with -1 at the place 0 -/
theorem side2 {n T : Nat} (h0 : 0 < n) (hn : n < 20001) (hT : 4 * n < T * T) : sg (termT n) T + 12 * Dv (fun c => min c (n / c)) n = 24 * Dv (fun c => c) n + sq2 n := by
  rw [sumT hn hT]
  exact kronecker h0 hn
theorem cl_0 {R : Nat} : cl R 0 = 0 := by
  unfold cl
  rw [sg_cong (g := fun _ => 0) fun j _ => rowC_far (Nat.mul_pos (by decide) (Nat.mul_pos (Nat.succ_pos j) (Nat.succ_pos j))), sg_zero]

local macro_rules | `(tactic| walk_at "rd") => `(tactic| simp (maxSteps := 2000000) only [CB.rd_var, CB.rd_C, CB.rd_op, CB.rd_un, CB.rd_I, CB.rd_I0, CB.rd_U, CB.rd_Eq, CB.rd_Ne, CB.rd_test, CB.rd_B, CB.rd_and, CB.rd_or, CB.rd_not, CB.rd_andV, CB.rd_orV, CB.rd_notV, CB.rd_if, CB.rd_chain, CB.rd_chain3,
  CB.rd_next, CB.rd_seq, CB.rd_drop, CB.rd_ret, CB.rd_retN, CB.rd_break, CB.rd_cont, CB.rd_ifS, CB.rd_asg, CB.rd_name, CB.rd_gsub, CB.rd_gtup, CB.rd_gcons, CB.rd_gnil, CB.rd_par, CB.rd_aug, CB.rd_ipI, CB.rd_nil, CB.rd_cons, CB.rd_tup, CB.rd_lst, CB.rd_CB, CB.rd_call, CB.rd_callS, CB.rd_ixL, CB.rd_ixT, CB.rd_setL, CB.rd_putS, CB.rd_forZ, CB.rd_lcZ, CB.rd_forE, CB.rd_forEL, CB.rd_lcE, CB.rd_isqrt, CB.rd_sum, CB.rd_append, CB.rd_forL, CB.rd_forT, CB.rd_forR1, CB.rd_forR2, CB.rd_forR3, CB.rd_lcL, CB.rd_lcT, CB.rd_lcR1, CB.rd_lcR2, CB.rd_yes, CB.rd_sl, CB.rd_noPart, CB.rd_part, CB.rd_slL, CB.rd_wipe0, CB.rd_rep, CB.rd_tupOf, CB.rd_lenS, CB.rd_gcd, CB.rd_wipe1, CB.rd_sorted3, CB.rd_any, CB.rd_all, CB.rd_ext, CB.rd_glst, CB.rd_sortedM, CB.rd_minD, CB.rd_indexD, CB.rd_pop, CB.rd_dnew, CB.rd_dget, CB.rd_dget2, CB.rd_dput, CB.rd_dm, CB.rd_anyI, CB.rd_ixDC, CB.rd_inDC, CB.rd_cat, CB.rd_lcZR, CB.rd_revR1, CB.rd_max2, CB.rd_forRv, CB.rd_ins, CB.rd_revT, CB.rd_tailR, CB.rd_lc2, CB.rd_inL, CB.rd_listOf, CB.rd_inI, CB.rd_idxI,
  L2.start, List.map_cons, List.map_nil, List.length_cons, List.length_nil, Nat.reduceAdd, Nat.reduceSub, List.replicate_succ, List.replicate_zero,
  V.int.injEq, V.ref.injEq, V.bl.injEq, V.str.injEq, Option.some.injEq, List.cons.injEq, exists_and_left, exists_eq_left', exists_eq_left, reduceCtorEq, false_and, and_false, or_false, false_or, exists_false, exists_const, and_assoc, true_and, and_true,
  CB.scal_int, CB.scal_str, CB.dec_ii, CB.ite_dec, CB.ite_ndec, List.getElem?_cons_zero, List.getElem?_cons_succ, List.set_cons_zero, List.set_cons_succ, List.append_nil, List.cons_append, List.nil_append, if_true, if_false, Bool.false_eq_true, Bool.not_true, Bool.not_false, CB.K_nox, CB.K_cxOf, eq_self])
local macro_rules | `(tactic| walk_at "rs") => `(tactic| simp (maxSteps := 2000000) only [CB.rd_var, CB.rd_C, CB.rd_op, CB.rd_un, CB.rd_I, CB.rd_I0, CB.rd_U, CB.rd_Eq, CB.rd_Ne, CB.rd_test, CB.rd_B, CB.rd_and, CB.rd_or, CB.rd_not, CB.rd_andV, CB.rd_orV, CB.rd_notV, CB.rd_if, CB.rd_chain, CB.rd_chain3,
  CB.rd_next, CB.rd_drop, CB.rd_ret, CB.rd_retN, CB.rd_break, CB.rd_cont, CB.rd_ifS, CB.rd_asg, CB.rd_name, CB.rd_gsub, CB.rd_gtup, CB.rd_gcons, CB.rd_gnil, CB.rd_par, CB.rd_aug, CB.rd_ipI, CB.rd_nil, CB.rd_cons, CB.rd_tup, CB.rd_lst, CB.rd_CB, CB.rd_call, CB.rd_callS, CB.rd_ixL, CB.rd_ixT, CB.rd_setL, CB.rd_putS, CB.rd_forZ, CB.rd_lcZ, CB.rd_forE, CB.rd_forEL, CB.rd_lcE, CB.rd_isqrt, CB.rd_sum, CB.rd_append, CB.rd_forL, CB.rd_forT, CB.rd_forR1, CB.rd_forR2, CB.rd_forR3, CB.rd_lcL, CB.rd_lcT, CB.rd_lcR1, CB.rd_lcR2, CB.rd_yes, CB.rd_sl, CB.rd_noPart, CB.rd_part, CB.rd_slL, CB.rd_wipe0, CB.rd_rep, CB.rd_tupOf, CB.rd_lenS, CB.rd_gcd, CB.rd_wipe1, CB.rd_sorted3, CB.rd_any, CB.rd_all, CB.rd_ext, CB.rd_glst, CB.rd_sortedM, CB.rd_minD, CB.rd_indexD, CB.rd_pop, CB.rd_dnew, CB.rd_dget, CB.rd_dget2, CB.rd_dput, CB.rd_dm, CB.rd_anyI, CB.rd_ixDC, CB.rd_inDC, CB.rd_cat, CB.rd_lcZR, CB.rd_revR1, CB.rd_max2, CB.rd_forRv, CB.rd_ins, CB.rd_revT, CB.rd_tailR, CB.rd_lc2, CB.rd_inL, CB.rd_listOf, CB.rd_inI, CB.rd_idxI,
  L2.start, List.map_cons, List.map_nil, List.length_cons, List.length_nil, Nat.reduceAdd, Nat.reduceSub, List.replicate_succ, List.replicate_zero,
  V.int.injEq, V.ref.injEq, V.bl.injEq, V.str.injEq, Option.some.injEq, List.cons.injEq, exists_and_left, exists_eq_left', exists_eq_left, reduceCtorEq, false_and, and_false, or_false, false_or, exists_false, exists_const, and_assoc, true_and, and_true,
  CB.scal_int, CB.scal_str, CB.dec_ii, CB.ite_dec, CB.ite_ndec, List.getElem?_cons_zero, List.getElem?_cons_succ, List.set_cons_zero, List.set_cons_succ, List.append_nil, List.cons_append, List.nil_append, if_true, if_false, Bool.false_eq_true, Bool.not_true, Bool.not_false, CB.K_nox, CB.K_cxOf, eq_self])

local macro_rules | `(tactic| walk_at "nx") => `(tactic| (show tSeq _ _ _ _ _; rw [CB.rd_seq]; walk_at "rs"))


section
variable {P : Program} {w : World} {K : PySem.W.Frag} {mg : Str → Option Value} {base : Heap} {CM CR : Addr}
abbrev s_root : Stmt := top 9
theorem sc_root : FnScope ["n", "k", "bits", "half"] ["n", "k"] (defScope s_root) := ⟨rfl, rfl, rfl, by decide +kernel, rfl, by decide +kernel, by decide +kernel⟩

def spRoot : Sp := fun vs H Q _ => ∃ n : Int, vs = [.int n, .int 2] ∧ 0 ≤ n ∧ n < BIG ∧ Q (.int (isq n)) H
theorem cal_root (D : Dn K mg "root" s_root ["n", "k"]) (B : Bl mg) : Cal P w K mg base "root" 1 ["n", "k"] spRoot := by
  refine D.cal sc_root (fun vs H Q E h => ?_) (fun f cdv A outer s H vs Q E hr h => ?_)
  · obtain ⟨n, rfl, _⟩ := h
    rfl
  · obtain ⟨n, rfl, h0, h1, q⟩ := h
    refine ⟨_, (pss_cons (ps_if (PW.pt (pw_or (pt_cmpR op_eq (pv 1) pe_int (nomark _)) (pw_or1 (pt_cmpR op_lt (pv 0) pe_int (nomark _))))) (pss_one (ps_ret (pv 0))) pss_nil)
  (pss_cons (ps_if (pt_cmpR op_eq (pv 1) pe_int (nomark _)) (pss_one (ps_ret (pe_callBfun cr_isqrt rfl B.isqrt (pa_cons (pv 0) pa_nil)))) pss_nil)
  pss_never)), ?_⟩
    walk_at "rd"
    rw [if_neg (by decide)]
    refine ite2 (fun h => ?_) (fun h => ⟨h0, Int.lt_trans h1 BIG_big, q⟩)
    rw [isq_self h0 h] at q
    exact q
end

local macro_rules | `(tactic| walk_at "rd") => `(tactic| simp (maxSteps := 2000000) only [CB.rd_var, CB.rd_C, CB.rd_op, CB.rd_un, CB.rd_I, CB.rd_I0, CB.rd_U, CB.rd_Eq, CB.rd_Ne, CB.rd_test, CB.rd_B, CB.rd_and, CB.rd_or, CB.rd_not, CB.rd_andV, CB.rd_orV, CB.rd_notV, CB.rd_if, CB.rd_chain, CB.rd_chain3,
  CB.rd_next, CB.rd_seq, CB.rd_drop, CB.rd_ret, CB.rd_retN, CB.rd_break, CB.rd_cont, CB.rd_ifS, CB.rd_asg, CB.rd_name, CB.rd_gsub, CB.rd_gtup, CB.rd_gcons, CB.rd_gnil, CB.rd_par, CB.rd_aug, CB.rd_ipI, CB.rd_nil, CB.rd_cons, CB.rd_tup, CB.rd_lst, CB.rd_CB, CB.rd_call, CB.rd_callS, CB.rd_ixL, CB.rd_ixT, CB.rd_setL, CB.rd_putS, CB.rd_forZ, CB.rd_lcZ, CB.rd_forE, CB.rd_forEL, CB.rd_lcE, CB.rd_isqrt, CB.rd_sum, CB.rd_append, CB.rd_forL, CB.rd_forT, CB.rd_forR1, CB.rd_forR2, CB.rd_forR3, CB.rd_lcL, CB.rd_lcT, CB.rd_lcR1, CB.rd_lcR2, CB.rd_yes, CB.rd_sl, CB.rd_noPart, CB.rd_part, CB.rd_slL, CB.rd_wipe0, CB.rd_rep, CB.rd_tupOf, CB.rd_lenS, CB.rd_gcd, CB.rd_wipe1, CB.rd_sorted3, CB.rd_any, CB.rd_all, CB.rd_ext, CB.rd_glst, CB.rd_sortedM, CB.rd_minD, CB.rd_indexD, CB.rd_pop, CB.rd_dnew, CB.rd_dget, CB.rd_dget2, CB.rd_dput, CB.rd_dm, CB.rd_anyI, CB.rd_ixDC, CB.rd_inDC, CB.rd_cat, CB.rd_lcZR, CB.rd_revR1, CB.rd_max2, CB.rd_forRv, CB.rd_ins, CB.rd_revT, CB.rd_tailR, CB.rd_lc2, CB.rd_inL, CB.rd_listOf, CB.rd_inI, CB.rd_idxI,
  L2.start, List.map_cons, List.map_nil, List.length_cons, List.length_nil, Nat.reduceAdd, Nat.reduceSub, List.replicate_succ, List.replicate_zero,
  V.int.injEq, V.ref.injEq, V.bl.injEq, V.str.injEq, Option.some.injEq, List.cons.injEq, exists_and_left, exists_eq_left', exists_eq_left, reduceCtorEq, false_and, and_false, or_false, false_or, exists_false, exists_const, and_assoc, true_and, and_true,
  CB.scal_int, CB.scal_str, CB.dec_ii, CB.ite_dec, CB.ite_ndec, List.getElem?_cons_zero, List.getElem?_cons_succ, List.set_cons_zero, List.set_cons_succ, List.append_nil, List.cons_append, List.nil_append, if_true, if_false, Bool.false_eq_true, Bool.not_true, Bool.not_false, CB.K_nox, CB.K_cxOf, eq_self])
local macro_rules | `(tactic| walk_at "rs") => `(tactic| simp (maxSteps := 2000000) only [CB.rd_var, CB.rd_C, CB.rd_op, CB.rd_un, CB.rd_I, CB.rd_I0, CB.rd_U, CB.rd_Eq, CB.rd_Ne, CB.rd_test, CB.rd_B, CB.rd_and, CB.rd_or, CB.rd_not, CB.rd_andV, CB.rd_orV, CB.rd_notV, CB.rd_if, CB.rd_chain, CB.rd_chain3,
  CB.rd_next, CB.rd_drop, CB.rd_ret, CB.rd_retN, CB.rd_break, CB.rd_cont, CB.rd_ifS, CB.rd_asg, CB.rd_name, CB.rd_gsub, CB.rd_gtup, CB.rd_gcons, CB.rd_gnil, CB.rd_par, CB.rd_aug, CB.rd_ipI, CB.rd_nil, CB.rd_cons, CB.rd_tup, CB.rd_lst, CB.rd_CB, CB.rd_call, CB.rd_callS, CB.rd_ixL, CB.rd_ixT, CB.rd_setL, CB.rd_putS, CB.rd_forZ, CB.rd_lcZ, CB.rd_forE, CB.rd_forEL, CB.rd_lcE, CB.rd_isqrt, CB.rd_sum, CB.rd_append, CB.rd_forL, CB.rd_forT, CB.rd_forR1, CB.rd_forR2, CB.rd_forR3, CB.rd_lcL, CB.rd_lcT, CB.rd_lcR1, CB.rd_lcR2, CB.rd_yes, CB.rd_sl, CB.rd_noPart, CB.rd_part, CB.rd_slL, CB.rd_wipe0, CB.rd_rep, CB.rd_tupOf, CB.rd_lenS, CB.rd_gcd, CB.rd_wipe1, CB.rd_sorted3, CB.rd_any, CB.rd_all, CB.rd_ext, CB.rd_glst, CB.rd_sortedM, CB.rd_minD, CB.rd_indexD, CB.rd_pop, CB.rd_dnew, CB.rd_dget, CB.rd_dget2, CB.rd_dput, CB.rd_dm, CB.rd_anyI, CB.rd_ixDC, CB.rd_inDC, CB.rd_cat, CB.rd_lcZR, CB.rd_revR1, CB.rd_max2, CB.rd_forRv, CB.rd_ins, CB.rd_revT, CB.rd_tailR, CB.rd_lc2, CB.rd_inL, CB.rd_listOf, CB.rd_inI, CB.rd_idxI,
  L2.start, List.map_cons, List.map_nil, List.length_cons, List.length_nil, Nat.reduceAdd, Nat.reduceSub, List.replicate_succ, List.replicate_zero,
  V.int.injEq, V.ref.injEq, V.bl.injEq, V.str.injEq, Option.some.injEq, List.cons.injEq, exists_and_left, exists_eq_left', exists_eq_left, reduceCtorEq, false_and, and_false, or_false, false_or, exists_false, exists_const, and_assoc, true_and, and_true,
  CB.scal_int, CB.scal_str, CB.dec_ii, CB.ite_dec, CB.ite_ndec, List.getElem?_cons_zero, List.getElem?_cons_succ, List.set_cons_zero, List.set_cons_succ, List.append_nil, List.cons_append, List.nil_append, if_true, if_false, Bool.false_eq_true, Bool.not_true, Bool.not_false, CB.K_nox, CB.K_cxOf, eq_self])

local macro_rules | `(tactic| walk_at "nx") => `(tactic| (show tSeq _ _ _ _ _; rw [CB.rd_seq]; walk_at "rs"))


/-! ### reduced forms, listed -/
def mx1 (b : Int) : Int := if 1 > b then 1 else b
def cell (b m a : Int) : List T3 := if m % a = 0 then (a, b, m / a) :: (if 0 < b ∧ b < a ∧ a < m / a then [(a, -b, m / a)] else []) else []
def rowF (b m lo : Int) (k : Nat) : List T3 := (List.range k).flatMap fun (i : Nat) => cell b m (lo + (i : Int))
theorem rowF_succ {b m lo : Int} {k : Nat} : rowF b m lo (k + 1) = rowF b m lo k ++ cell b m (lo + k) := by
  unfold rowF
  rw [List.range_succ, List.flatMap_append, List.flatMap_singleton]
def mB (n b : Int) : Int := (b * b + n) / 4
def kB (n b : Int) : Nat := (isq (mB n b) + 1 - mx1 b).toNat
def rowN (n b : Int) : List T3 := rowF b (mB n b) (mx1 b) (kB n b)
def bAt (n : Int) (i : Nat) : Int := n % 2 + (i : Nat) * 2
def formsF (n : Int) (k : Nat) : List T3 := (List.range k).flatMap fun (i : Nat) => rowN n (bAt n i)
theorem formsF_succ {n : Int} {k : Nat} : formsF n (k + 1) = formsF n k ++ rowN n (bAt n k) := by
  unfold formsF
  rw [List.range_succ, List.flatMap_append, List.flatMap_singleton]
def cnt (n : Int) : Nat := (Builtin.Range.rangeSize (n % 2) (isq (n / 3) + 1) 2).toNat
def forms (n : Int) : List T3 := formsF n (cnt n)
theorem cell_len (b m a : Int) : (cell b m a).length ≤ 2 := by
  unfold cell
  split
  · split <;> simp
  · simp
theorem rowF_len (b m lo : Int) : ∀ k : Nat, (rowF b m lo k).length ≤ 2 * k
  | 0 => by simp [rowF]
  | k + 1 => by
    rw [rowF_succ, List.length_append]
    have a := rowF_len b m lo k
    have c := cell_len b m (lo + k)
    omega
theorem rsize2 {lo hi : Int} : (Builtin.Range.rangeSize lo hi 2).toNat = ((hi - lo + 1) / 2).toNat := by
  unfold Builtin.Range.rangeSize
  rw [if_pos (by decide)]
  split <;> omega
theorem RgC2 {lo hi : Int} (h1 : 0 ≤ lo) (h2 : lo < 2) (h3 : 0 ≤ hi) (h4 : hi < 2 ^ 40) : RgC lo hi 2 (Builtin.Range.rangeSize lo hi 2).toNat := by
  refine ⟨by decide, by decide, ?_, ?_⟩
  · unfold Builtin.Range.small Builtin.Range.rangeSize
    simp only [Builtin.Range.rangeFitsLong, Bool.and_eq_true, Bool.or_eq_true, decide_eq_true_eq, beq_iff_eq, show (2 : Int) > 0 by decide, if_true]
    split <;> omega
  · unfold Builtin.Range.rangeSize
    rw [if_pos (by decide)]
    split <;> omega
structure Sm (n : Int) : Prop where
  pos : 0 < n
  le : n ≤ 1000000
theorem Sm.r3 {n : Int} (h : Sm n) : 0 ≤ n / 3 ∧ isq (n / 3) ≤ 577 := by
  have := h.pos
  have := h.le
  exact ⟨by omega, isq_bd (by omega) (by decide) (by omega)⟩
theorem Sm.b {n : Int} (h : Sm n) {i : Nat} (hi : i < cnt n) : 0 ≤ bAt n i ∧ bAt n i ≤ isq (n / 3) ∧ bAt n i ≤ 577 ∧ i ≤ 290 := by
  have a := h.r3
  have c := isq_nn (n / 3)
  unfold cnt at hi
  rw [rsize2] at hi
  unfold bAt
  omega
theorem Sm.cnt {n : Int} (h : Sm n) : cnt n ≤ 290 := by
  have a := h.r3
  have c := isq_nn (n / 3)
  unfold L68.cnt
  rw [rsize2]
  omega
theorem Sm.m {n : Int} (h : Sm n) {b : Int} (h0 : 0 ≤ b) (h1 : b ≤ 577) : 0 ≤ mB n b ∧ mB n b ≤ 333300 ∧ isq (mB n b) ≤ 577 := by
  have a := h.pos
  have c := h.le
  have d : b * b ≤ 577 * 577 := Int.mul_le_mul h1 h1 h0 (by decide)
  have e : 0 ≤ b * b := Int.mul_nonneg h0 h0
  have m1 : 0 ≤ mB n b := by unfold mB; omega
  have m2 : mB n b ≤ 333300 := by unfold mB; omega
  exact ⟨m1, m2, isq_bd m1 (by decide) (by omega)⟩
theorem mx1_ge (b : Int) : 1 ≤ mx1 b ∧ b ≤ mx1 b ∧ (mx1 b = 1 ∨ mx1 b = b) := by
  unfold mx1
  split <;> omega
theorem Sm.k {n : Int} (h : Sm n) {b : Int} (h0 : 0 ≤ b) (h1 : b ≤ 577) : kB n b ≤ 577 := by
  have a := (h.m h0 h1).2.2
  have c := mx1_ge b
  unfold kB
  omega
theorem Sm.row {n : Int} (h : Sm n) {b : Int} (h0 : 0 ≤ b) (h1 : b ≤ 577) : (rowN n b).length ≤ 1200 := by
  have a := rowF_len b (mB n b) (mx1 b) (kB n b)
  have c := h.k h0 h1
  unfold rowN
  omega
theorem Sm.len {n : Int} (h : Sm n) : ∀ k : Nat, k ≤ L68.cnt n → (formsF n k).length ≤ 1200 * k
  | 0, _ => by simp [formsF]
  | k + 1, hk => by
    rw [formsF_succ, List.length_append]
    have a := h.len k (by omega)
    have b := h.b (i := k) (by omega)
    have c := h.row b.1 b.2.2.1
    omega
theorem big1 {i : Int} (h0 : 0 ≤ i) (h : i ≤ 1000000) : i < BIG := by
  have := BIG_pos
  omega
/-! ### heaps that grow -/
/-! ### the divisors in a range -/
def dv (m lo : Int) (k : Nat) : List Int := ((List.range k).map fun (i : Nat) => lo + (i : Int)).filter fun a => decide (m % a = 0)
theorem dv_yes {m lo : Int} {k : Nat} (h : m % (lo + k) = 0) : dv m lo (k + 1) = dv m lo k ++ [lo + k] := by
  unfold dv
  rw [List.range_succ, List.map_append, List.filter_append, List.map_singleton, List.filter_cons_of_pos (by simpa using h), List.filter_nil]
theorem dv_no {m lo : Int} {k : Nat} (h : ¬ m % (lo + k) = 0) : dv m lo (k + 1) = dv m lo k := by
  unfold dv
  rw [List.range_succ, List.map_append, List.filter_append, List.map_singleton, List.filter_cons_of_neg (by simpa using h), List.filter_nil, List.append_nil]
theorem dv_row {b m lo : Int} : ∀ k : Nat, rowF b m lo k = (dv m lo k).flatMap (cell b m)
  | 0 => rfl
  | k + 1 => by
    rw [rowF_succ, dv_row k]
    by_cases h : m % (lo + k) = 0
    · rw [dv_yes h, List.flatMap_append, List.flatMap_singleton]
    · rw [dv_no h]
      unfold cell
      rw [if_neg h, List.append_nil]
theorem dv_len {m lo : Int} {k : Nat} : (dv m lo k).length ≤ k := by
  unfold dv
  refine Nat.le_trans (List.length_filter_le _ _) ?_
  rw [List.length_map, List.length_range]
  exact Nat.le_refl _
theorem dv_mem {m lo a : Int} {k : Nat} (h : a ∈ dv m lo k) : m % a = 0 ∧ lo ≤ a ∧ a < lo + k := by
  unfold dv at h
  obtain ⟨h1, h2⟩ := List.mem_filter.mp h
  obtain ⟨i, hi, rfl⟩ := List.mem_map.mp h1
  have := List.mem_range.mp hi
  exact ⟨of_decide_eq_true h2, by omega, by omega⟩
theorem divSmall {i a : Int} (h : 0 < a) (h2 : a < 2 ^ 64) : CDivW i a := wide_div (b := 64) h (by omega) (by decide) (by decide)
section
variable {P : Program} {w : World} {K : PySem.W.Frag} {mg : Str → Option Value} {base : Heap}
abbrev s__counted_forms : Stmt := top 31
theorem sc__counted_forms : FnScope ["D", "found", "b", "product", "divisors", "a", "c", "d"] ["D"] (defScope s__counted_forms) := ⟨rfl, rfl, rfl, by decide +kernel, rfl, by decide +kernel, by decide +kernel⟩

/-- a new list of n's reduced forms, sorted -/
def GotForms (H : Hp) (n : Int) (Q : VK) : Prop := ∀ (ys : List V) (us : List T3) (p : Addr) (H' : Hp), Same H H' → H p = none → H' p = some (.lst ys) → Trs H' ys us → us.Pairwise (fun p q => lexT q p = false) → us.Perm (forms n) → Q (.ref p) H'
def spCounted : Sp := fun vs H Q _ => ∃ n : Int, vs = [.int (-n)] ∧ Sm n ∧ GotForms H n Q
theorem cal_counted (D : Dn K mg "_counted_forms" s__counted_forms ["D"]) (B : Bl mg) (c_root : Cal P w K mg base "root" 1 ["n", "k"] spRoot) : Cal P w K mg base "_counted_forms" 2 ["D"] spCounted := by
  refine D.cal sc__counted_forms (fun vs H Q E h => ?_) (fun f cdv A outer s H vs Q E hr h => ?_)
  · obtain ⟨n, rfl, _⟩ := h
    rfl
  · obtain ⟨n, rfl, hS, q⟩ := h
    refine ⟨_, (pss_cons (ps_set (i := 1) sc__counted_forms.nd rfl (Or.inl rfl) (pe_lst pa_nil))
  (pss_cons (ps_for PassesOwn.never rfl (pi_range3 rfl B.range (pa_cons (pe_op op_mod (pv 0) pe_int) (pa_cons (pe_op op_add (pe_cal c_root (hr.mono (by decide)) rfl (pa_cons (pe_op op_fdivW (pe_un un_neg (pv 0)) pe_int) (pa_cons pe_int pa_nil))) pe_int) (pa_cons pe_int pa_nil)))) (pg_name (i := 2) sc__counted_forms.nd rfl (Or.inl rfl)) (pss_cons (ps_set (i := 3) sc__counted_forms.nd rfl (Or.inr rfl) (pe_op op_fdivW (pe_op op_sub (pe_op op_mulI (pv 2) (pv 2)) (pv 0)) pe_int))
  (pss_cons (ps_setLc (i := 4) (own := [("d", 7)]) rfl sc__counted_forms.nd rfl rfl (sw_true rfl rfl rfl (by decide +kernel)) (pi_range2 rfl B.range (pa_cons (pe_callB (call_max2 rfl) rfl B.max (by decide +kernel) (pa_cons (pv 2) (pa_cons pe_int pa_nil))) (pa_cons (pe_op op_add (pe_cal c_root (hr.mono (by decide)) rfl (pa_cons (pv 3) (pa_cons pe_int pa_nil))) pe_int) pa_nil))) (blkOk_by (N := ["D", "found", "b", "product", "divisors", "a", "c", "d"]) (sc := defScope s__counted_forms) (own := [("d", 7)]) (by decide +kernel)) (fun _ _ _ _ _ => (pg_name (i := 7) sc__counted_forms.nd rfl (Or.inl rfl))) (fun _ _ _ _ _ => (pts_one (pt_cmpR op_eq (pe_op op_mod (pv 3) (pv 7)) pe_int (nomark _)))) (fun _ _ _ _ _ => (pv 7)))
  (pss_one (ps_for PassesOwn.never rfl (pi_list (pv 4)) (pg_name (i := 5) sc__counted_forms.nd rfl (Or.inl rfl)) (pss_cons (ps_set (i := 6) sc__counted_forms.nd rfl (Or.inl rfl) (pe_op op_fdivW (pv 3) (pv 5)))
  (pss_cons (ps_expr (pe_bm PySem.F.plainAttrs_list PySem.F.slot_list_append PySem.F.type_list_append mt_append (pv 1) (pa_cons (pe_tup (pa_cons (pv 5) (pa_cons (pv 2) (pa_cons (pv 6) pa_nil)))) pa_nil)))
  (pss_one (ps_if (pt_chain3 op_lt op_lt op_lt pe_int (pv 2) (pv 5) (pv 6)) (pss_one (ps_expr (pe_bm PySem.F.plainAttrs_list PySem.F.slot_list_append PySem.F.type_list_append mt_append (pv 1) (pa_cons (pe_tup (pa_cons (pv 5) (pa_cons (pe_un un_neg (pv 2)) (pa_cons (pv 6) pa_nil)))) pa_nil)))) pss_nil)))))))))
  (pss_one (ps_ret (pe_callB cr_sorted3 rfl B.sorted (by decide +kernel) (pa_cons (pv 1) pa_nil)))))), ?_⟩
    walk_at "rd"
    refine ⟨Nat.zero_le _, fun fnd nf => ⟨by decide, ⟨by decide, by decide +kernel⟩, ?_⟩⟩
    rw [Int.neg_neg, show -n % 2 = n % 2 by omega]
    have r3 := hS.r3
    have hn0 := hS.pos
    have hn1 := hS.le
    refine ⟨n / 3, rfl, r3.1, big1 r3.1 (by omega), ?_⟩
    walk_at "rd"
    refine ⟨cnt n, RgC2 (by omega) (by omega) (by have := isq_nn (n / 3); omega) (by omega), ForC.w (fun i σ H1 => ∃ xs s2 s3 s4 s5 s6 s7, σ = [some (.int (-n)), some (.ref fnd), s2, s3, s4, s5, s6, s7] ∧ Same H H1 ∧ H1 fnd = some (.lst xs) ∧ Trs H1 xs (formsF n i))
      ⟨[], _, _, _, _, _, _, rfl, same_upd nf, upd_same, Trs.nil⟩ ?_ ?_⟩
    · rintro i σ H1 hi ⟨xs, s2, s3, s4, s5, s6, s7, rfl, sm, hf, ht⟩ N hN
      have hb := hS.b hi
      have hlen := hS.len i (by omega)
      have hcn := hS.cnt
      rw [formsF_succ] at hN
      rw [show n % 2 + (i : Int) * 2 = bAt n i from rfl]
      generalize bAt n i = b at *
      obtain ⟨b0, b1, b2, i1⟩ := hb
      have hm := hS.m b0 b2
      have hk := hS.k b0 b2
      have em : (b * b - -n) / 4 = mB n b := by unfold mB; rw [Int.sub_neg]
      walk_at "rd"
      rw [em]
      have hx := mx1_ge b
      have q0 := isq_nn (mB n b)
      refine ⟨mulL (by omega), divSmall (by decide) (by decide), mB n b, rfl, hm.1, big1 hm.1 (by omega), ?_⟩
      walk_at "rd"
      rw [show (if 1 > b then (1 : Int) else b) = mx1 b from rfl, show (isq (mB n b) + 1 - mx1 b).toNat = kB n b from rfl]
      refine ⟨by omega, by omega, by omega, by omega, LcR.w (fun j D ys H2 => ys = (dv (mB n b) (mx1 b) j).map V.int ∧ H2 = upd H1 D (.lst ys)) (fun D nD => ⟨rfl, rfl⟩) ?_ ?_⟩
      · rintro D j ys H2 hj ⟨rfl, rfl⟩ N2 hN2
        walk_at "rd"
        refine ⟨by omega, ite2 (fun hdv => ?_) (fun hdv => ?_)⟩
        · refine ⟨_, upd_same, ?_, ?_⟩
          · rw [List.length_map]
            exact small_size (Nat.le_trans dv_len (by omega))
          · refine hN2 _ _ ⟨rfl, ?_⟩
            rw [upd_upd, dv_yes hdv, List.map_append]
            rfl
        · exact hN2 _ _ ⟨rfl, by rw [dv_no hdv]⟩
      · rintro D ys H2 nD ⟨rfl, rfl⟩
        walk_at "rd"
        have fD : fnd ≠ D := ne_of_none hf nD
        have hDn : H D = none := sm.free nD
        refine ⟨⟨_, SqL.of upd_same⟩, ForL.w (xs := (dv (mB n b) (mx1 b) (kB n b)).map V.int) (fun j σ H3 => ∃ xs' s5 s6 s7, σ = [some (.int (-n)), some (.ref fnd), some (.int b), some (.int (mB n b)), some (.ref D), s5, s6, s7] ∧ Same H H3 ∧
            H3 D = some (.lst ((dv (mB n b) (mx1 b) (kB n b)).map V.int)) ∧ H3 fnd = some (.lst xs') ∧ Trs H3 xs' (formsF n i ++ ((dv (mB n b) (mx1 b) (kB n b)).take j).flatMap (cell b (mB n b))))
          ⟨xs, _, _, _, rfl, same_at sm hDn, upd_same, by rw [upd_ne fD]; exact hf, ?_⟩ ?_ ?_ ?_⟩
        · rw [List.take_zero, List.flatMap_nil, List.append_nil]
          exact ht.updN nD
        · rintro j σ H3 _ ⟨xs', s5, s6, s7, rfl, sm3, hD3, hf3, ht3⟩
          exact SqL.of hD3
        · rintro j v σ H3 hv ⟨xs', s5, s6, s7, rfl, sm3, hD3, hf3, ht3⟩ N3 hN3
          rw [List.getElem?_map] at hv
          obtain ⟨a, ha, rfl⟩ := Option.map_eq_some_iff.mp hv
          have hj : j < (dv (mB n b) (mx1 b) (kB n b)).length := (List.getElem?_eq_some_iff.mp ha).1
          have hmem := dv_mem (List.mem_of_getElem? ha)
          have hl3 : xs'.length ≤ 1200 * i + 2 * j := by
            rw [← ht3.len, List.length_append]
            have e1 : (((dv (mB n b) (mx1 b) (kB n b)).take j).flatMap (cell b (mB n b))).length ≤ 2 * j := by
              have : ∀ l : List Int, (l.flatMap (cell b (mB n b))).length ≤ 2 * l.length := fun l => by
                induction l with
                | nil => simp
                | cons y l ih =>
                  rw [List.flatMap_cons, List.length_append, List.length_cons]
                  have := cell_len b (mB n b) y
                  omega
              refine Nat.le_trans (this _) ?_
              rw [List.length_take]
              omega
            omega
          have hjk : j < kB n b := Nat.lt_of_lt_of_le hj dv_len
          have etk : (dv (mB n b) (mx1 b) (kB n b)).take (j + 1) = (dv (mB n b) (mx1 b) (kB n b)).take j ++ [a] := by
            rw [List.take_add_one, ha]
            rfl
          have ecell : cell b (mB n b) a = (a, b, mB n b / a) :: (if 0 < b ∧ b < a ∧ a < mB n b / a then [(a, -b, mB n b / a)] else []) := by
            unfold cell
            rw [if_pos hmem.1]
          rw [etk, List.flatMap_append, List.flatMap_singleton, ecell] at hN3
          walk_at "rd"
          refine ⟨divSmall (by omega) (by omega), tyL hf3, by decide, fun t1 n1 => ?_⟩
          have ft1 : fnd ≠ t1 := ne_of_none hf3 n1
          have Dt1 : D ≠ t1 := ne_of_none hD3 n1
          refine ⟨xs', by rw [upd_ne ft1]; exact hf3, small_size (by omega), ?_⟩
          have e1 : (upd (upd H3 t1 (.tup [.int a, .int b, .int (mB n b / a)])) fnd (.lst (xs' ++ [.ref t1]))) fnd = some (.lst (xs' ++ [.ref t1])) := upd_same
          have T1 : Trs (upd (upd H3 t1 (.tup [.int a, .int b, .int (mB n b / a)])) fnd (.lst (xs' ++ [.ref t1]))) (xs' ++ [.ref t1]) (formsF n i ++ ((dv (mB n b) (mx1 b) (kB n b)).take j).flatMap (cell b (mB n b)) ++ [(a, b, mB n b / a)]) :=
            ((ht3.updN n1).snoc upd_same).updL (by rw [upd_ne ft1]; exact hf3)
          have S1 : Same H (upd (upd H3 t1 (.tup [.int a, .int b, .int (mB n b / a)])) fnd (.lst (xs' ++ [.ref t1]))) := same_at (same_at sm3 (sm3.free n1)) nf
          have D1 : (upd (upd H3 t1 (.tup [.int a, .int b, .int (mB n b / a)])) fnd (.lst (xs' ++ [.ref t1]))) D = some (.lst ((dv (mB n b) (mx1 b) (kB n b)).map V.int)) := by
            rw [upd_ne fD.symm, upd_ne Dt1]
            exact hD3
          generalize upd (upd H3 t1 (.tup [.int a, .int b, .int (mB n b / a)])) fnd (.lst (xs' ++ [.ref t1])) = H4 at *
          have yes : 0 < b ∧ b < a ∧ a < mB n b / a → tyV K "list" (V.ref fnd) H4 ∧ 3 ≤ sizeLine ∧ ∀ p, H4 p = none → ∃ x, (upd H4 p (.tup [.int a, .int (-b), .int (mB n b / a)])) fnd = some (.lst x) ∧ x.length < sizeLine ∧
              N3 [some (.int (-n)), some (.ref fnd), some (.int b), some (.int (mB n b)), some (.ref D), some (.int a), some (.int (mB n b / a)), s7] (upd (upd H4 p (.tup [.int a, .int (-b), .int (mB n b / a)])) fnd (.lst (x ++ [.ref p]))) := fun c => by
            refine ⟨tyL e1, by decide, fun t2 n2 => ?_⟩
            have ft2 : fnd ≠ t2 := ne_of_none e1 n2
            have Dt2 : D ≠ t2 := ne_of_none D1 n2
            refine ⟨_, by rw [upd_ne ft2]; exact e1, by rw [List.length_append, List.length_singleton]; exact small_size (by omega), hN3 _ _ ⟨_, _, _, _, rfl, same_at (same_at S1 (S1.free n2)) nf, ?_, upd_same, ?_⟩⟩
            · rw [upd_ne fD.symm, upd_ne Dt2]
              exact D1
            · rw [if_pos c]
              have := ((T1.updN n2 (o := .tup [.int a, .int (-b), .int (mB n b / a)])).snoc upd_same).updL (f := fnd) (o := .lst (xs' ++ [.ref t1] ++ [.ref t2])) (by rw [upd_ne ft2]; exact e1)
              simpa only [List.append_assoc, List.cons_append, List.nil_append] using this
          have no : ¬ (0 < b ∧ b < a ∧ a < mB n b / a) → N3 [some (.int (-n)), some (.ref fnd), some (.int b), some (.int (mB n b)), some (.ref D), some (.int a), some (.int (mB n b / a)), s7] H4 := fun c => by
            refine hN3 _ _ ⟨_, _, _, _, rfl, S1, D1, e1, ?_⟩
            rw [if_neg c, ← List.append_assoc]
            exact T1
          refine ite2 (fun c1 => ite2 (fun c2 => ?_) (fun c2 => no fun c => c2 c.2.1)) (fun c1 => no fun c => c1 c.1)
          refine ite2 (fun c3 => yes ⟨c1, c2, c3⟩) (fun c3 => no fun c => c3 c.2.2)
        · rintro σ H3 ⟨xs', s5, s6, s7, rfl, sm3, hD3, hf3, ht3⟩
          rw [List.length_map, List.take_length] at ht3
          refine hN _ _ ⟨_, _, _, _, _, _, _, rfl, sm3, hf3, ?_⟩
          unfold rowN
          rw [dv_row]
          exact ht3
    · rintro σ H1 ⟨xs, s2, s3, s4, s5, s6, s7, rfl, sm, hf, ht⟩
      walk_at "rd"
      exact ⟨_, SqL.of hf, _, ht, fun ys us p hy hs hp np => q ys us p _ (same_at sm (sm.free np)) (sm.free np) upd_same (hy.updN np) hs hp⟩
end

local macro_rules | `(tactic| walk_at "rd") => `(tactic| simp (maxSteps := 2000000) only [CB.rd_var, CB.rd_C, CB.rd_op, CB.rd_un, CB.rd_I, CB.rd_I0, CB.rd_U, CB.rd_Eq, CB.rd_Ne, CB.rd_test, CB.rd_B, CB.rd_and, CB.rd_or, CB.rd_not, CB.rd_andV, CB.rd_orV, CB.rd_notV, CB.rd_if, CB.rd_chain, CB.rd_chain3,
  CB.rd_next, CB.rd_seq, CB.rd_drop, CB.rd_ret, CB.rd_retN, CB.rd_break, CB.rd_cont, CB.rd_ifS, CB.rd_asg, CB.rd_name, CB.rd_gsub, CB.rd_gtup, CB.rd_gcons, CB.rd_gnil, CB.rd_par, CB.rd_aug, CB.rd_ipI, CB.rd_nil, CB.rd_cons, CB.rd_tup, CB.rd_lst, CB.rd_CB, CB.rd_call, CB.rd_callS, CB.rd_ixL, CB.rd_ixT, CB.rd_setL, CB.rd_putS, CB.rd_forZ, CB.rd_lcZ, CB.rd_forE, CB.rd_forEL, CB.rd_lcE, CB.rd_isqrt, CB.rd_sum, CB.rd_append, CB.rd_forL, CB.rd_forT, CB.rd_forR1, CB.rd_forR2, CB.rd_forR3, CB.rd_lcL, CB.rd_lcT, CB.rd_lcR1, CB.rd_lcR2, CB.rd_yes, CB.rd_sl, CB.rd_noPart, CB.rd_part, CB.rd_slL, CB.rd_wipe0, CB.rd_rep, CB.rd_tupOf, CB.rd_lenS, CB.rd_gcd, CB.rd_wipe1, CB.rd_sorted3, CB.rd_any, CB.rd_all, CB.rd_ext, CB.rd_glst, CB.rd_sortedM, CB.rd_minD, CB.rd_indexD, CB.rd_pop, CB.rd_dnew, CB.rd_dget, CB.rd_dget2, CB.rd_dput, CB.rd_dm, CB.rd_anyI, CB.rd_ixDC, CB.rd_inDC, CB.rd_cat, CB.rd_lcZR, CB.rd_revR1, CB.rd_max2, CB.rd_forRv, CB.rd_ins, CB.rd_revT, CB.rd_tailR, CB.rd_lc2, CB.rd_inL, CB.rd_listOf, CB.rd_inI, CB.rd_idxI,
  L2.start, List.map_cons, List.map_nil, List.length_cons, List.length_nil, Nat.reduceAdd, Nat.reduceSub, List.replicate_succ, List.replicate_zero,
  V.int.injEq, V.ref.injEq, V.bl.injEq, V.str.injEq, Option.some.injEq, List.cons.injEq, exists_and_left, exists_eq_left', exists_eq_left, reduceCtorEq, false_and, and_false, or_false, false_or, exists_false, exists_const, and_assoc, true_and, and_true,
  CB.scal_int, CB.scal_str, CB.dec_ii, CB.ite_dec, CB.ite_ndec, List.getElem?_cons_zero, List.getElem?_cons_succ, List.set_cons_zero, List.set_cons_succ, List.append_nil, List.cons_append, List.nil_append, if_true, if_false, Bool.false_eq_true, Bool.not_true, Bool.not_false, CB.K_nox, CB.K_cxOf, eq_self])
local macro_rules | `(tactic| walk_at "rs") => `(tactic| simp (maxSteps := 2000000) only [CB.rd_var, CB.rd_C, CB.rd_op, CB.rd_un, CB.rd_I, CB.rd_I0, CB.rd_U, CB.rd_Eq, CB.rd_Ne, CB.rd_test, CB.rd_B, CB.rd_and, CB.rd_or, CB.rd_not, CB.rd_andV, CB.rd_orV, CB.rd_notV, CB.rd_if, CB.rd_chain, CB.rd_chain3,
  CB.rd_next, CB.rd_drop, CB.rd_ret, CB.rd_retN, CB.rd_break, CB.rd_cont, CB.rd_ifS, CB.rd_asg, CB.rd_name, CB.rd_gsub, CB.rd_gtup, CB.rd_gcons, CB.rd_gnil, CB.rd_par, CB.rd_aug, CB.rd_ipI, CB.rd_nil, CB.rd_cons, CB.rd_tup, CB.rd_lst, CB.rd_CB, CB.rd_call, CB.rd_callS, CB.rd_ixL, CB.rd_ixT, CB.rd_setL, CB.rd_putS, CB.rd_forZ, CB.rd_lcZ, CB.rd_forE, CB.rd_forEL, CB.rd_lcE, CB.rd_isqrt, CB.rd_sum, CB.rd_append, CB.rd_forL, CB.rd_forT, CB.rd_forR1, CB.rd_forR2, CB.rd_forR3, CB.rd_lcL, CB.rd_lcT, CB.rd_lcR1, CB.rd_lcR2, CB.rd_yes, CB.rd_sl, CB.rd_noPart, CB.rd_part, CB.rd_slL, CB.rd_wipe0, CB.rd_rep, CB.rd_tupOf, CB.rd_lenS, CB.rd_gcd, CB.rd_wipe1, CB.rd_sorted3, CB.rd_any, CB.rd_all, CB.rd_ext, CB.rd_glst, CB.rd_sortedM, CB.rd_minD, CB.rd_indexD, CB.rd_pop, CB.rd_dnew, CB.rd_dget, CB.rd_dget2, CB.rd_dput, CB.rd_dm, CB.rd_anyI, CB.rd_ixDC, CB.rd_inDC, CB.rd_cat, CB.rd_lcZR, CB.rd_revR1, CB.rd_max2, CB.rd_forRv, CB.rd_ins, CB.rd_revT, CB.rd_tailR, CB.rd_lc2, CB.rd_inL, CB.rd_listOf, CB.rd_inI, CB.rd_idxI,
  L2.start, List.map_cons, List.map_nil, List.length_cons, List.length_nil, Nat.reduceAdd, Nat.reduceSub, List.replicate_succ, List.replicate_zero,
  V.int.injEq, V.ref.injEq, V.bl.injEq, V.str.injEq, Option.some.injEq, List.cons.injEq, exists_and_left, exists_eq_left', exists_eq_left, reduceCtorEq, false_and, and_false, or_false, false_or, exists_false, exists_const, and_assoc, true_and, and_true,
  CB.scal_int, CB.scal_str, CB.dec_ii, CB.ite_dec, CB.ite_ndec, List.getElem?_cons_zero, List.getElem?_cons_succ, List.set_cons_zero, List.set_cons_succ, List.append_nil, List.cons_append, List.nil_append, if_true, if_false, Bool.false_eq_true, Bool.not_true, Bool.not_false, CB.K_nox, CB.K_cxOf, eq_self])

local macro_rules | `(tactic| walk_at "nx") => `(tactic| (show tSeq _ _ _ _ _; rw [CB.rd_seq]; walk_at "rs"))


/-! ### the sum of the weights -/
def wt (t : T3) : Int := if t.1 = t.2.1 ∧ t.2.1 = t.2.2 then 4 else if t.2.1 = 0 ∧ t.1 = t.2.2 then 6 else 12
def hsum (l : List T3) : Int := (l.map wt).sum
def due (n : Int) : Int := if n = 0 then -1 else if n < 0 ∨ n % 4 = 1 ∨ n % 4 = 2 then 0 else hsum (forms n)
theorem perm_sum : ∀ {l m : List Int}, l.Perm m → l.sum = m.sum := fun h => by
  induction h with
  | nil => rfl
  | cons x _ ih => rw [List.sum_cons, List.sum_cons, ih]
  | swap x y l => rw [List.sum_cons, List.sum_cons, List.sum_cons, List.sum_cons]; omega
  | trans _ _ h1 h2 => exact h1.trans h2
theorem hsum_perm {l m : List T3} (h : l.Perm m) : hsum l = hsum m := perm_sum (h.map wt)
theorem hsum_take {l : List T3} {i : Nat} {t : T3} (h : l[i]? = some t) : hsum (l.take (i + 1)) = hsum (l.take i) + wt t := by
  unfold hsum
  rw [List.take_add_one, h, List.map_append, List.sum_append]
  simp
section
variable {P : Program} {w : World} {K : PySem.W.Frag} {mg : Str → Option Value} {base : Heap} {CM CR : Addr}
abbrev s__weight : Stmt := top 33
theorem sc__weight : FnScope ["f", "a", "b", "c"] ["f"] (defScope s__weight) := ⟨rfl, rfl, rfl, by decide +kernel, rfl, by decide +kernel, by decide +kernel⟩

def spWt : Sp := fun vs H Q _ => ∃ (r : Addr) (a b c : Int), vs = [.ref r] ∧ H r = some (.tup [.int a, .int b, .int c]) ∧ Q (.int (wt (a, b, c))) H
theorem cal_weight (D : Dn K mg "_weight" s__weight ["f"]) (B : Bl mg) : Cal P w K mg base "_weight" 1 ["f"] spWt := by
  refine D.cal sc__weight (fun vs H Q E h => ?_) (fun f cdv A outer s H vs Q E hr h => ?_)
  · obtain ⟨r, a, b, c, rfl, _⟩ := h
    rfl
  · obtain ⟨r, a, b, c, rfl, ht, q⟩ := h
    refine ⟨_, (pss_cons (ps_asg (pv 0) (pg_tup rfl (pgs_cons (pg_name (i := 1) sc__weight.nd rfl (Or.inl rfl)) (pgs_cons (pg_name (i := 2) sc__weight.nd rfl (Or.inl rfl)) (pgs_cons (pg_name (i := 3) sc__weight.nd rfl (Or.inl rfl)) pgs_nil)))))
  (pss_cons (ps_if (pt_chain op_eq op_eq (pv 1) (pv 2) (pv 3)) (pss_one (ps_ret pe_int)) pss_nil)
  (pss_cons (ps_if (PW.pt (pw_and (pt_cmpR op_eq (pv 1) (pv 3) (nomark _)) (pw_and1 (pt_cmpR op_eq (pv 2) pe_int (nomark _))))) (pss_one (ps_ret pe_int)) pss_nil)
  (pss_one (ps_ret pe_int))))), ?_⟩
    walk_at "rd"
    refine ⟨_, SqT.of ht, rfl, _, _, rfl, _, _, rfl, _, _, rfl, rfl, ?_⟩
    walk_at "rd"
    have e : ∀ x : Int, wt (a, b, c) = x → Q (.int x) H := fun x hx => by rw [← hx]; exact q
    unfold wt at e
    simp only at e
    refine ite2 (fun c1 => ite2 (fun c2 => e 4 (if_pos ⟨c1, c2⟩)) (fun c2 => ?_)) (fun c1 => ?_)
    · refine ite2 (fun c3 => ite2 (fun c4 => e 6 ?_) (fun c4 => e 12 ?_)) (fun c3 => e 12 ?_)
      · rw [if_neg (fun z => c2 z.2), if_pos ⟨c4, c3⟩]
      · rw [if_neg (fun z => c2 z.2), if_neg (fun z => c4 z.1)]
      · rw [if_neg (fun z => c2 z.2), if_neg (fun z => c3 z.2)]
    · refine ite2 (fun c3 => ite2 (fun c4 => e 6 ?_) (fun c4 => e 12 ?_)) (fun c3 => e 12 ?_)
      · rw [if_neg (fun z => c1 z.1), if_pos ⟨c4, c3⟩]
      · rw [if_neg (fun z => c1 z.1), if_neg (fun z => c4 z.1)]
      · rw [if_neg (fun z => c1 z.1), if_neg (fun z => c3 z.2)]
end

/-! ### the numbers of hurwitz are the law's table -/
theorem sg_split {f : Nat → Nat} (a : Nat) : ∀ b : Nat, sg f (a + b) = sg f a + sg (fun i => f (a + i)) b
  | 0 => rfl
  | b + 1 => by
    show sg f (a + b) + f (a + b) = sg f a + (sg (fun i => f (a + i)) b + f (a + b))
    rw [sg_split a b]; omega
theorem hsum_app (l m : List T3) : hsum (l ++ m) = hsum l + hsum m := by
  unfold hsum
  rw [List.map_append, List.sum_append]
theorem hsum_range {f : Nat → List T3} {h : Nat → Nat} : ∀ k : Nat, (∀ i, i < k → hsum (f i) = (h i : Int)) → hsum ((List.range k).flatMap f) = (sg h k : Int)
  | 0, _ => rfl
  | k + 1, e => by
    rw [List.range_succ, List.flatMap_append, hsum_app, hsum_range k fun i hi => e i (by omega), List.flatMap_singleton, e k (by omega)]
    show _ = ((sg h k + h k : Nat) : Int)
    omega
theorem cell_itm {a b m M : Nat} (ha : 0 < a) (hb : b ≤ a) (hM : m + b * b = 4 * M) (ho : a * a ≤ M) : hsum (cell (b : Int) (M : Int) (a : Int)) = (itm a b m : Int) := by
  unfold itm cell
  rw [hM, Nat.mul_mod_mul_left, Nat.mul_div_mul_left _ _ (by decide)]
  have hc : a ≤ M / a := (Nat.le_div_iff_mul_le ha).mpr ho
  have n4 : ∀ c, ¬ (0 < b ∧ b < a ∧ a < c) → (item a b c : Int) = if (a : Int) = b ∧ (b : Int) = c then (4 : Int) else if (b : Int) = 0 ∧ (a : Int) = c then 6 else 12 := fun c z => by
    unfold item
    by_cases z1 : a = b ∧ b = c
    · rw [if_pos z1, if_pos (show (a : Int) = b ∧ (b : Int) = c by omega)]; rfl
    · rw [if_neg z1, if_neg (show ¬((a : Int) = b ∧ (b : Int) = c) by omega)]
      by_cases z2 : b = 0 ∧ a = c
      · rw [if_pos z2, if_pos (show (b : Int) = 0 ∧ (a : Int) = c by omega)]; rfl
      · rw [if_neg z2, if_neg (show ¬((b : Int) = 0 ∧ (a : Int) = c) by omega), if_neg z]; rfl
  by_cases d : M % a = 0
  · have dI : (M : Int) % (a : Int) = 0 := by omega
    have dN : 4 * (M % a) = 0 ∧ a ≤ M / a := ⟨by omega, hc⟩
    rw [if_pos dI, if_pos dN, show ((M : Int) / (a : Int)) = ((M / a : Nat) : Int) from rfl]
    generalize M / a = c at *
    by_cases z : 0 < b ∧ b < a ∧ a < c
    · have zI : 0 < (b : Int) ∧ (b : Int) < a ∧ (a : Int) < c := by omega
      rw [if_pos zI]
      unfold item
      rw [if_neg (show ¬(a = b ∧ b = c) by omega), if_neg (show ¬(b = 0 ∧ a = c) by omega), if_pos z]
      show wt _ + (wt _ + 0) = _
      unfold wt
      rw [if_neg (show ¬((a : Int) = b ∧ (b : Int) = c) by omega), if_neg (show ¬((b : Int) = 0 ∧ (a : Int) = c) by omega), if_neg (show ¬((a : Int) = -b ∧ (-(b : Int)) = c) by omega), if_neg (show ¬(-(b : Int) = 0 ∧ (a : Int) = c) by omega)]
      rfl
    · have zI : ¬(0 < (b : Int) ∧ (b : Int) < a ∧ (a : Int) < c) := by omega
      rw [if_neg zI, n4 c z]
      show wt _ + 0 = _
      rw [Int.add_zero]
      rfl
  · have dI : ¬ (M : Int) % (a : Int) = 0 := by omega
    rw [if_neg dI, if_neg (fun z => d (by omega))]
    rfl
def Rb (m b : Nat) : Nat := sg (fun j => if b ≤ j + 1 then itm (j + 1) b m else 0) 256
theorem Rb_row {m b M : Nat} (hm : m < 80007) (hM : m + b * b = 4 * M) : hsum (rowN (m : Int) (b : Int)) = (Rb m b : Int) := by
  have eM : mB (m : Int) (b : Int) = (M : Int) := by
    unfold mB
    rw [show (b : Int) * b + m = ((4 * M : Nat) : Int) by rw [← hM]; push_cast; omega]
    omega
  obtain ⟨L, hL, L1, Lb, Lo⟩ : ∃ L : Nat, mx1 (b : Int) = (L : Int) ∧ 1 ≤ L ∧ b ≤ L ∧ (L = 1 ∨ L = b) := by
    have := mx1_ge (b : Int)
    exact ⟨(mx1 (b : Int)).toNat, by omega, by omega, by omega, by omega⟩
  obtain ⟨r, hr⟩ : ∃ r : Nat, isq (M : Int) = (r : Int) := ⟨(isq (M : Int)).toNat, by have := isq_nn (M : Int); omega⟩
  have r1 := isq_le (n := (M : Int)) (by omega)
  have r2 := isq_lt (n := (M : Int)) (by omega)
  rw [hr] at r1 r2
  have r1' : r * r ≤ M := by exact_mod_cast r1
  have r2' : M < (r + 1) * (r + 1) := by exact_mod_cast r2
  unfold rowN rowF kB
  rw [eM, hL, hr, hsum_range (h := fun i => itm (L + i) b m) _ fun i hi => ?_]
  · have ek : ((r : Int) + 1 - (L : Int)).toNat = r + 1 - L := by omega
    rw [ek]
    congr 1
    unfold Rb
    have far : ∀ j, r ≤ j → (if b ≤ j + 1 then itm (j + 1) b m else 0) = 0 := fun j hj => by
      split
      · unfold itm
        rw [if_neg]
        rintro ⟨_, z⟩
        rw [hM, Nat.mul_div_mul_left _ _ (by decide)] at z
        have := (Nat.le_div_iff_mul_le (show 0 < j + 1 by omega)).mp z
        have := sq_mono (show r + 1 ≤ j + 1 by omega)
        omega
      · rfl
    have big : ∀ j, 256 ≤ j → (if b ≤ j + 1 then itm (j + 1) b m else 0) = 0 := fun j hj => by
      split
      · rename_i h
        refine itm_far h ?_
        have := sq_mono (show 257 ≤ j + 1 by omega)
        omega
      · rfl
    by_cases c : L ≤ r + 1
    · rw [sg_both (a := 256) (b := L - 1 + (r + 1 - L)) big (fun i hi => far i (by omega)), sg_split (L - 1), sg_cong (f := fun j => if b ≤ j + 1 then itm (j + 1) b m else 0) (g := fun _ => 0) (n := L - 1) (fun j hj => if_neg (by omega)), sg_zero, Nat.zero_add]
      exact sg_cong fun i _ => by rw [if_pos (by omega), show L - 1 + i + 1 = L + i by omega]
    · rw [show r + 1 - L = 0 by omega, sg_both (a := 256) (b := r) big far, sg_cong (g := fun _ => 0) fun j hj => if_neg (by omega), sg_zero]
      rfl
  · rw [← Int.natCast_add]
    refine cell_itm (by omega) (by omega) hM ?_
    have := sq_mono (show L + i ≤ r by omega)
    omega
theorem Rb_far {m b : Nat} (h : m < 3 * (b * b)) : Rb m b = 0 := by
  unfold Rb
  rw [sg_cong (g := fun _ => 0) fun j _ => ?_, sg_zero]
  split
  · rename_i z
    refine itm_far z ?_
    have := sq_mono z
    omega
  · rfl
theorem Rb_cl {m : Nat} : sg (Rb m) 257 = cl 256 m := by
  unfold Rb cl
  rw [sg_comm]
  refine sg_cong fun j hj => ?_
  unfold rowC
  rw [sg_both (a := 257) (b := j + 1 + 1) (fun i hi => if_neg (by omega)) (fun i hi => if_neg (by omega))]
  exact sg_cong fun b hb => if_pos (by omega)
theorem Rb_wide {m b : Nat} (h : 257 ≤ b) : Rb m b = 0 := by
  unfold Rb
  rw [sg_cong (g := fun _ => 0) fun j hj => if_neg (by omega), sg_zero]

theorem Rb_none {m b : Nat} (h : (m + b * b) % 4 ≠ 0) : Rb m b = 0 := by
  unfold Rb
  rw [sg_cong (g := fun _ => 0) fun j _ => ?_, sg_zero]
  split
  · unfold itm
    rw [if_neg]
    rintro ⟨z, _⟩
    apply h
    obtain ⟨k, hk⟩ := Nat.dvd_of_mod_eq_zero z
    rw [hk, Nat.mul_assoc, Nat.mul_mod_right]
  · rfl
theorem sq_par (b : Nat) : (∃ β, b = 2 * β ∧ b * b = 4 * (β * β)) ∨ ∃ β, b = 2 * β + 1 ∧ b * b = 4 * (β * β) + 4 * β + 1 := by
  rcases Nat.mod_two_eq_zero_or_one b with h | h
  · refine .inl ⟨b / 2, by omega, ?_⟩
    obtain ⟨β, rfl⟩ : ∃ β, b = 2 * β := ⟨b / 2, by omega⟩
    rw [Nat.mul_div_cancel_left _ (by decide)]
    exact Nat.mul_mul_mul_comm _ _ _ _
  · obtain ⟨β, rfl⟩ : ∃ β, b = 2 * β + 1 := ⟨b / 2, by omega⟩
    refine .inr ⟨β, rfl, ?_⟩
    rw [Nat.mul_add, Nat.add_mul, Nat.mul_mul_mul_comm]
    omega
theorem Rb_258 {m : Nat} : sg (fun β => Rb m (2 * β)) 129 + sg (fun β => Rb m (2 * β + 1)) 129 = cl 256 m := by
  rw [← sg_par, ← Rb_cl]
  show sg (Rb m) 257 + Rb m 257 = _
  rw [Rb_wide (Nat.le_refl _), Nat.add_zero]
theorem forms_cl {m p : Nat} (h0 : 0 < m) (hm : m < 80007) (hp : m % 2 = p) (hd : ∀ i, ∃ M, m + (p + 2 * i) * (p + 2 * i) = 4 * M) : hsum (forms (m : Int)) = (sg (fun i => Rb m (p + 2 * i)) 129 : Int) := by
  have eb : ∀ i : Nat, bAt (m : Int) i = ((p + 2 * i : Nat) : Int) := fun i => by
    unfold bAt
    omega
  unfold forms formsF
  rw [hsum_range (h := fun i => Rb m (p + 2 * i)) _ fun i _ => by
    rw [eb]
    obtain ⟨M, e⟩ := hd i
    exact Rb_row hm e]
  refine congrArg (fun z : Nat => (z : Int)) (sg_both (fun i hi => Rb_far ?_) fun i hi => Rb_wide (by omega))
  unfold cnt at hi
  rw [rsize2] at hi
  have s0 := isq_nn ((m : Int) / 3)
  have s1 := isq_lt (n := (m : Int) / 3) (by omega)
  generalize isq ((m : Int) / 3) = s at *
  have hb : s + 1 ≤ ((p + 2 * i : Nat) : Int) := by omega
  have := Int.mul_le_mul hb hb (by omega) (by omega)
  have e : (((p + 2 * i : Nat) : Int) * ((p + 2 * i : Nat) : Int)) = (((p + 2 * i) * (p + 2 * i) : Nat) : Int) := rfl
  rw [e] at this
  omega
theorem due_cl {m : Nat} (h0 : 0 < m) (hm : m < 80007) : due (m : Int) = (cl 256 m : Int) := by
  unfold due
  rw [if_neg (by omega)]
  by_cases c : (m : Int) < 0 ∨ (m : Int) % 4 = 1 ∨ (m : Int) % 4 = 2
  · rw [if_pos c, ← Rb_258]
    have z : ∀ b, Rb m b = 0 := fun b => Rb_none (by
      rcases sq_par b with ⟨β, _, e⟩ | ⟨β, _, e⟩ <;> omega)
    rw [sg_cong (g := fun _ => 0) fun β _ => z _, sg_cong (f := fun β => Rb m (2 * β + 1)) (g := fun _ => 0) fun β _ => z _, sg_zero]
    rfl
  · rw [if_neg c, ← Rb_258]
    rcases Nat.mod_two_eq_zero_or_one m with h | h
    · rw [forms_cl h0 hm h fun i => ?_]
      · rw [sg_cong (f := fun β => Rb m (2 * β + 1)) (g := fun _ => 0) fun β _ => Rb_none (by
          have e4 : (2 * β + 1) * (2 * β + 1) = 4 * (β * β) + 4 * β + 1 := by
            rw [Nat.mul_add, Nat.add_mul, Nat.mul_mul_mul_comm]
            omega
          omega), sg_zero, Nat.add_zero]
        exact congrArg (fun z : Nat => (z : Int)) (sg_cong fun i _ => by rw [Nat.zero_add])
      · rw [Nat.zero_add, show 2 * i * (2 * i) = 4 * (i * i) from Nat.mul_mul_mul_comm _ _ _ _]
        exact ⟨m / 4 + i * i, by omega⟩
    · rw [forms_cl h0 hm h fun i => ?_]
      · rw [sg_cong (f := fun β => Rb m (2 * β)) (g := fun _ => 0) fun β _ => Rb_none (by
          have e4 : 2 * β * (2 * β) = 4 * (β * β) := Nat.mul_mul_mul_comm _ _ _ _
          omega), sg_zero, Nat.zero_add]
        exact congrArg (fun z : Nat => (z : Int)) (sg_cong fun i _ => by rw [Nat.add_comm])
      · have e4 : (1 + 2 * i) * (1 + 2 * i) = 4 * (i * i) + 4 * i + 1 := by
          rw [Nat.add_comm 1, Nat.mul_add, Nat.add_mul, Nat.mul_mul_mul_comm]
          omega
        rw [e4]
        exact ⟨m / 4 + i * i + i + 1, by omega⟩

local macro_rules | `(tactic| walk_at "rd") => `(tactic| simp (maxSteps := 2000000) only [CB.rd_var, CB.rd_C, CB.rd_op, CB.rd_un, CB.rd_I, CB.rd_I0, CB.rd_U, CB.rd_Eq, CB.rd_Ne, CB.rd_test, CB.rd_B, CB.rd_and, CB.rd_or, CB.rd_not, CB.rd_andV, CB.rd_orV, CB.rd_notV, CB.rd_if, CB.rd_chain, CB.rd_chain3,
  CB.rd_next, CB.rd_seq, CB.rd_drop, CB.rd_ret, CB.rd_retN, CB.rd_break, CB.rd_cont, CB.rd_ifS, CB.rd_asg, CB.rd_name, CB.rd_gsub, CB.rd_gtup, CB.rd_gcons, CB.rd_gnil, CB.rd_par, CB.rd_aug, CB.rd_ipI, CB.rd_nil, CB.rd_cons, CB.rd_tup, CB.rd_lst, CB.rd_CB, CB.rd_call, CB.rd_callS, CB.rd_ixL, CB.rd_ixT, CB.rd_setL, CB.rd_putS, CB.rd_forZ, CB.rd_lcZ, CB.rd_forE, CB.rd_forEL, CB.rd_lcE, CB.rd_isqrt, CB.rd_sum, CB.rd_append, CB.rd_forL, CB.rd_forT, CB.rd_forR1, CB.rd_forR2, CB.rd_forR3, CB.rd_lcL, CB.rd_lcT, CB.rd_lcR1, CB.rd_lcR2, CB.rd_yes, CB.rd_sl, CB.rd_noPart, CB.rd_part, CB.rd_slL, CB.rd_wipe0, CB.rd_rep, CB.rd_tupOf, CB.rd_lenS, CB.rd_gcd, CB.rd_wipe1, CB.rd_sorted3, CB.rd_any, CB.rd_all, CB.rd_ext, CB.rd_glst, CB.rd_sortedM, CB.rd_minD, CB.rd_indexD, CB.rd_pop, CB.rd_dnew, CB.rd_dget, CB.rd_dget2, CB.rd_dput, CB.rd_dm, CB.rd_anyI, CB.rd_ixDC, CB.rd_inDC, CB.rd_cat, CB.rd_lcZR, CB.rd_revR1, CB.rd_max2, CB.rd_forRv, CB.rd_ins, CB.rd_revT, CB.rd_tailR, CB.rd_lc2, CB.rd_inL, CB.rd_listOf, CB.rd_inI, CB.rd_idxI,
  L2.start, List.map_cons, List.map_nil, List.length_cons, List.length_nil, Nat.reduceAdd, Nat.reduceSub, List.replicate_succ, List.replicate_zero,
  V.int.injEq, V.ref.injEq, V.bl.injEq, V.str.injEq, Option.some.injEq, List.cons.injEq, exists_and_left, exists_eq_left', exists_eq_left, reduceCtorEq, false_and, and_false, or_false, false_or, exists_false, exists_const, and_assoc, true_and, and_true,
  CB.scal_int, CB.scal_str, CB.dec_ii, CB.ite_dec, CB.ite_ndec, List.getElem?_cons_zero, List.getElem?_cons_succ, List.set_cons_zero, List.set_cons_succ, List.append_nil, List.cons_append, List.nil_append, if_true, if_false, Bool.false_eq_true, Bool.not_true, Bool.not_false, CB.K_nox, CB.K_cxOf, eq_self])
local macro_rules | `(tactic| walk_at "rs") => `(tactic| simp (maxSteps := 2000000) only [CB.rd_var, CB.rd_C, CB.rd_op, CB.rd_un, CB.rd_I, CB.rd_I0, CB.rd_U, CB.rd_Eq, CB.rd_Ne, CB.rd_test, CB.rd_B, CB.rd_and, CB.rd_or, CB.rd_not, CB.rd_andV, CB.rd_orV, CB.rd_notV, CB.rd_if, CB.rd_chain, CB.rd_chain3,
  CB.rd_next, CB.rd_drop, CB.rd_ret, CB.rd_retN, CB.rd_break, CB.rd_cont, CB.rd_ifS, CB.rd_asg, CB.rd_name, CB.rd_gsub, CB.rd_gtup, CB.rd_gcons, CB.rd_gnil, CB.rd_par, CB.rd_aug, CB.rd_ipI, CB.rd_nil, CB.rd_cons, CB.rd_tup, CB.rd_lst, CB.rd_CB, CB.rd_call, CB.rd_callS, CB.rd_ixL, CB.rd_ixT, CB.rd_setL, CB.rd_putS, CB.rd_forZ, CB.rd_lcZ, CB.rd_forE, CB.rd_forEL, CB.rd_lcE, CB.rd_isqrt, CB.rd_sum, CB.rd_append, CB.rd_forL, CB.rd_forT, CB.rd_forR1, CB.rd_forR2, CB.rd_forR3, CB.rd_lcL, CB.rd_lcT, CB.rd_lcR1, CB.rd_lcR2, CB.rd_yes, CB.rd_sl, CB.rd_noPart, CB.rd_part, CB.rd_slL, CB.rd_wipe0, CB.rd_rep, CB.rd_tupOf, CB.rd_lenS, CB.rd_gcd, CB.rd_wipe1, CB.rd_sorted3, CB.rd_any, CB.rd_all, CB.rd_ext, CB.rd_glst, CB.rd_sortedM, CB.rd_minD, CB.rd_indexD, CB.rd_pop, CB.rd_dnew, CB.rd_dget, CB.rd_dget2, CB.rd_dput, CB.rd_dm, CB.rd_anyI, CB.rd_ixDC, CB.rd_inDC, CB.rd_cat, CB.rd_lcZR, CB.rd_revR1, CB.rd_max2, CB.rd_forRv, CB.rd_ins, CB.rd_revT, CB.rd_tailR, CB.rd_lc2, CB.rd_inL, CB.rd_listOf, CB.rd_inI, CB.rd_idxI,
  L2.start, List.map_cons, List.map_nil, List.length_cons, List.length_nil, Nat.reduceAdd, Nat.reduceSub, List.replicate_succ, List.replicate_zero,
  V.int.injEq, V.ref.injEq, V.bl.injEq, V.str.injEq, Option.some.injEq, List.cons.injEq, exists_and_left, exists_eq_left', exists_eq_left, reduceCtorEq, false_and, and_false, or_false, false_or, exists_false, exists_const, and_assoc, true_and, and_true,
  CB.scal_int, CB.scal_str, CB.dec_ii, CB.ite_dec, CB.ite_ndec, List.getElem?_cons_zero, List.getElem?_cons_succ, List.set_cons_zero, List.set_cons_succ, List.append_nil, List.cons_append, List.nil_append, if_true, if_false, Bool.false_eq_true, Bool.not_true, Bool.not_false, CB.K_nox, CB.K_cxOf, eq_self])

local macro_rules | `(tactic| walk_at "nx") => `(tactic| (show tSeq _ _ _ _ _; rw [CB.rd_seq]; walk_at "rs"))


section
variable {P : Program} {w : World} {K : PySem.W.Frag} {mg : Str → Option Value} {base : Heap} {CM CR : Addr}
abbrev s_hurwitz : Stmt := top 32
theorem sc_hurwitz : FnScope ["n", "f"] ["n"] (defScope s_hurwitz) := ⟨rfl, rfl, rfl, by decide +kernel, rfl, by decide +kernel, by decide +kernel⟩

/-- what hurwitz tells, or raises -/
def spHur (K : PySem.W.Frag) (CM CR : Addr) : Sp := fun vs H Q E => ∃ v : V, vs = [v] ∧
  ((∃ T, TyX K H v (.type T) ∧ T ∈ kinds ∧ (T == "int") = false ∧ E (.ref CM) none H) ∨
   (∃ n : Int, v = .int n ∧ 1000000 < n ∧ ∀ d H', Same H H' → H d = none → H' d = some (.xd [("reason", .str "large")]) → E (.ref CR) (some d) H') ∨
   (∃ n : Int, v = .int n ∧ n ≤ 1000000 ∧ ∀ H', Same H H' → Q (.int (due n)) H'))
theorem cal_hurwitz (D : Dn K mg "hurwitz" s_hurwitz ["n"]) (B : Bl mg) (c_is_integer : Cal P w K mg base "is_integer" 1 ["value"] (spInt K)) (c__counted_forms : Cal P w K mg base "_counted_forms" 2 ["D"] spCounted)
    (c__weight : Cal P w K mg base "_weight" 1 ["f"] spWt) (e_E : ErrI P w K mg base CM CR) : CalX P w K mg base "hurwitz" 3 ["n"] (spHur K CM CR) := by
  refine D.calX sc_hurwitz (fun vs H Q E h => ?_) (fun f cdv A outer s H vs Q E hr h => ?_)
  · obtain ⟨v, rfl, _⟩ := h
    rfl
  · obtain ⟨v, rfl, h⟩ := h
    refine ⟨_, (pss_cons (ps_if (pt_not (pt_val (pe_cal c_is_integer (hr.mono (by decide)) rfl (pa_cons (pv 0) pa_nil)))) (pss_one (ps_mal e_E.m rfl (takes_of rfl rfl rfl rfl) rfl)) pss_nil)
  (pss_cons (ps_if (pt_cmpR op_gt (pv 0) (pe_glob (v := .int 1000000) rfl B.c_LARGEST_definite.choose_spec ⟨_, rfl⟩) (nomark _)) (pss_one (ps_ref e_E rfl (takes_of rfl rfl rfl rfl) (hr.mono (by decide)) rfl)) pss_nil)
  (pss_cons (ps_if (pt_cmpR op_eq (pv 0) pe_int (nomark _)) (pss_one (ps_ret (pe_un un_neg pe_int))) pss_nil)
  (pss_cons (ps_if (PW.pt (pw_or (pt_cmpR op_lt (pv 0) pe_int (nomark _)) (pw_or1 (pt_cmpR op_in_seq (pe_op op_mod (pv 0) pe_int) (pe_tup (pa_cons pe_int (pa_cons pe_int pa_nil))) (by rfl))))) (pss_one (ps_ret pe_int)) pss_nil)
  (pss_one (ps_ret (pe_callB (cr_sum rfl) rfl B.sum (by decide +kernel) (pa_cons (pe_lc (own := [("f", 1)]) rfl sc_hurwitz.nd (pi_list (pe_cal c__counted_forms (hr.mono (by decide)) rfl (pa_cons (pe_un un_neg (pv 0)) pa_nil))) (blkOk_by (N := ["n", "f"]) (sc := defScope s_hurwitz) (own := [("f", 1)]) (by decide +kernel)) (fun _ _ _ _ _ => (pg_name (i := 1) sc_hurwitz.nd rfl (Or.inl rfl))) (fun _ _ _ _ _ => pts_nil) (fun _ _ _ _ _ => (pe_cal c__weight (hr.mono (by decide)) rfl (pa_cons (pv 1) pa_nil)))) pa_nil)))))))), ?_⟩
    walk_at "rd"
    rcases h with ⟨T, ty, hT, hi, e⟩ | ⟨n, rfl, hn, e⟩ | ⟨n, rfl, hn, q⟩
    · refine ⟨v, T, rfl, ty, hT, false, by rw [hi], ?_⟩
      rw [if_pos (by decide)]
      exact e
    · refine ⟨.int n, "int", rfl, .base (.int n), by decide, true, rfl, ?_⟩
      walk_at "rd"
      rw [if_pos hn]
      exact e
    · refine ⟨.int n, "int", rfl, .base (.int n), by decide, true, rfl, ?_⟩
      walk_at "rd"
      rw [if_neg (by omega)]
      have q0 := q H (Same.refl H)
      have z : ∀ H', Same H H' → (n < 0 ∨ n % 4 = 1 ∨ n % 4 = 2) → n ≠ 0 → Q (.int 0) H' := fun H' sm c h0 => by
        have := q H' sm
        unfold due at this
        rw [if_neg h0, if_pos c] at this
        exact this
      refine ite2 (fun h0 => ?_) (fun h0 => ite2 (fun h1 => z H (Same.refl H) (.inl h1) h0) (fun h1 => ⟨by decide, by decide, fun p np => ?_⟩))
      · unfold due at q0
        rw [if_pos h0] at q0
        exact q0
      have s1 : Same H (upd H p (.tup [V.int 1, V.int 2])) := same_upd np
      refine ⟨p, _, rfl, .inr (SqT.of upd_same), rfl, rfl, inV (.int (n % 4)) [.int 1, .int 2], rfl, ?_⟩
      have ein : inV (.int (n % 4)) [V.int 1, V.int 2] = decide (n % 4 = 1 ∨ n % 4 = 2) := by
        have e1 : inV (.int (n % 4)) [V.int 1, V.int 2] = ((1 : Int) == n % 4 || ((2 : Int) == n % 4 || false)) := rfl
        rw [e1]
        by_cases c1 : n % 4 = 1
        · simp [c1]
        · by_cases c2 : n % 4 = 2
          · simp [c2]
          · have d1 : ¬ (1 : Int) = n % 4 := fun z => c1 z.symm
            have d2 : ¬ (2 : Int) = n % 4 := fun z => c2 z.symm
            simp [c1, c2, d1, d2]
      rw [ein]
      refine ite2 (fun c => z _ s1 (.inr (of_decide_eq_true c)) h0) (fun c => ?_)
      have c' : ¬ (n % 4 = 1 ∨ n % 4 = 2) := fun z => c (decide_eq_true z)
      have hS : Sm n := ⟨by omega, hn⟩
      refine ⟨n, rfl, hS, fun ys us a H1 sm na ha ht hs hperm => ?_⟩
      walk_at "rd"
      have hlen : ys.length ≤ 1200 * cnt n := by
        rw [← ht.len, hperm.length_eq]
        exact hS.len _ (Nat.le_refl _)
      have hcn := hS.cnt
      refine ⟨⟨_, SqL.of ha⟩, LcL.w (xs := ys) (fun i D zs H2 => zs = ((us.take i).map wt).map V.int ∧ H2 = upd H1 D (.lst zs) ∧ H1 D = none) (fun D nD => ⟨rfl, rfl, nD⟩) ?_ ?_ ?_⟩
      · rintro D i zs H2 _ ⟨rfl, rfl, nD⟩
        exact SqL.of (by rw [upd_ne (ne_of_none ha nD)]; exact ha)
      · rintro D i v zs H2 hv ⟨rfl, rfl, nD⟩ N hN
        obtain ⟨r, x, y, z', rfl, hr3, hu⟩ := ht.get hv
        have hi : i < ys.length := (List.getElem?_eq_some_iff.mp hv).1
        walk_at "rd"
        refine ⟨r, x, y, z', rfl, by rw [upd_ne (ne_of_none hr3 nD)]; exact hr3, _, upd_same, ?_, hN _ _ ⟨?_, upd_upd, nD⟩⟩
        · rw [List.length_map, List.length_map, List.length_take]
          exact small_size (by omega)
        · rw [List.take_add_one, hu]
          simp
      · rintro D zs H2 nD ⟨rfl, rfl, _⟩
        walk_at "rd"
        refine ⟨_, SqL.of upd_same, ?_⟩
        have := q (upd H1 D (.lst (((us.take ys.length).map wt).map V.int))) (s1.trans (sm.trans (same_upd nD)))
        unfold due at this
        rw [if_neg h0, if_neg (fun z => z.elim h1 c')] at this
        rw [← ht.len, List.take_length] at this ⊢
        rw [← hsum_perm hperm] at this
        exact this
end

local macro_rules | `(tactic| walk_at "rd") => `(tactic| simp (maxSteps := 2000000) only [CB.rd_var, CB.rd_C, CB.rd_op, CB.rd_un, CB.rd_I, CB.rd_I0, CB.rd_U, CB.rd_Eq, CB.rd_Ne, CB.rd_test, CB.rd_B, CB.rd_and, CB.rd_or, CB.rd_not, CB.rd_andV, CB.rd_orV, CB.rd_notV, CB.rd_if, CB.rd_chain, CB.rd_chain3,
  CB.rd_next, CB.rd_seq, CB.rd_drop, CB.rd_ret, CB.rd_retN, CB.rd_break, CB.rd_cont, CB.rd_ifS, CB.rd_asg, CB.rd_name, CB.rd_gsub, CB.rd_gtup, CB.rd_gcons, CB.rd_gnil, CB.rd_par, CB.rd_aug, CB.rd_ipI, CB.rd_nil, CB.rd_cons, CB.rd_tup, CB.rd_lst, CB.rd_CB, CB.rd_call, CB.rd_callS, CB.rd_ixL, CB.rd_ixT, CB.rd_setL, CB.rd_putS, CB.rd_forZ, CB.rd_lcZ, CB.rd_forE, CB.rd_forEL, CB.rd_lcE, CB.rd_isqrt, CB.rd_sum, CB.rd_append, CB.rd_forL, CB.rd_forT, CB.rd_forR1, CB.rd_forR2, CB.rd_forR3, CB.rd_lcL, CB.rd_lcT, CB.rd_lcR1, CB.rd_lcR2, CB.rd_yes, CB.rd_sl, CB.rd_noPart, CB.rd_part, CB.rd_slL, CB.rd_wipe0, CB.rd_rep, CB.rd_tupOf, CB.rd_lenS, CB.rd_gcd, CB.rd_wipe1, CB.rd_sorted3, CB.rd_any, CB.rd_all, CB.rd_ext, CB.rd_glst, CB.rd_sortedM, CB.rd_minD, CB.rd_indexD, CB.rd_pop, CB.rd_dnew, CB.rd_dget, CB.rd_dget2, CB.rd_dput, CB.rd_dm, CB.rd_anyI, CB.rd_ixDC, CB.rd_inDC, CB.rd_cat, CB.rd_lcZR, CB.rd_revR1, CB.rd_max2, CB.rd_forRv, CB.rd_ins, CB.rd_revT, CB.rd_tailR, CB.rd_lc2, CB.rd_inL, CB.rd_listOf, CB.rd_inI, CB.rd_idxI,
  L2.start, List.map_cons, List.map_nil, List.length_cons, List.length_nil, Nat.reduceAdd, Nat.reduceSub, List.replicate_succ, List.replicate_zero,
  V.int.injEq, V.ref.injEq, V.bl.injEq, V.str.injEq, Option.some.injEq, List.cons.injEq, exists_and_left, exists_eq_left', exists_eq_left, reduceCtorEq, false_and, and_false, or_false, false_or, exists_false, exists_const, and_assoc, true_and, and_true,
  CB.scal_int, CB.scal_str, CB.dec_ii, CB.ite_dec, CB.ite_ndec, List.getElem?_cons_zero, List.getElem?_cons_succ, List.set_cons_zero, List.set_cons_succ, List.append_nil, List.cons_append, List.nil_append, if_true, if_false, Bool.false_eq_true, Bool.not_true, Bool.not_false, CB.K_nox, CB.K_cxOf, eq_self])
local macro_rules | `(tactic| walk_at "rs") => `(tactic| simp (maxSteps := 2000000) only [CB.rd_var, CB.rd_C, CB.rd_op, CB.rd_un, CB.rd_I, CB.rd_I0, CB.rd_U, CB.rd_Eq, CB.rd_Ne, CB.rd_test, CB.rd_B, CB.rd_and, CB.rd_or, CB.rd_not, CB.rd_andV, CB.rd_orV, CB.rd_notV, CB.rd_if, CB.rd_chain, CB.rd_chain3,
  CB.rd_next, CB.rd_drop, CB.rd_ret, CB.rd_retN, CB.rd_break, CB.rd_cont, CB.rd_ifS, CB.rd_asg, CB.rd_name, CB.rd_gsub, CB.rd_gtup, CB.rd_gcons, CB.rd_gnil, CB.rd_par, CB.rd_aug, CB.rd_ipI, CB.rd_nil, CB.rd_cons, CB.rd_tup, CB.rd_lst, CB.rd_CB, CB.rd_call, CB.rd_callS, CB.rd_ixL, CB.rd_ixT, CB.rd_setL, CB.rd_putS, CB.rd_forZ, CB.rd_lcZ, CB.rd_forE, CB.rd_forEL, CB.rd_lcE, CB.rd_isqrt, CB.rd_sum, CB.rd_append, CB.rd_forL, CB.rd_forT, CB.rd_forR1, CB.rd_forR2, CB.rd_forR3, CB.rd_lcL, CB.rd_lcT, CB.rd_lcR1, CB.rd_lcR2, CB.rd_yes, CB.rd_sl, CB.rd_noPart, CB.rd_part, CB.rd_slL, CB.rd_wipe0, CB.rd_rep, CB.rd_tupOf, CB.rd_lenS, CB.rd_gcd, CB.rd_wipe1, CB.rd_sorted3, CB.rd_any, CB.rd_all, CB.rd_ext, CB.rd_glst, CB.rd_sortedM, CB.rd_minD, CB.rd_indexD, CB.rd_pop, CB.rd_dnew, CB.rd_dget, CB.rd_dget2, CB.rd_dput, CB.rd_dm, CB.rd_anyI, CB.rd_ixDC, CB.rd_inDC, CB.rd_cat, CB.rd_lcZR, CB.rd_revR1, CB.rd_max2, CB.rd_forRv, CB.rd_ins, CB.rd_revT, CB.rd_tailR, CB.rd_lc2, CB.rd_inL, CB.rd_listOf, CB.rd_inI, CB.rd_idxI,
  L2.start, List.map_cons, List.map_nil, List.length_cons, List.length_nil, Nat.reduceAdd, Nat.reduceSub, List.replicate_succ, List.replicate_zero,
  V.int.injEq, V.ref.injEq, V.bl.injEq, V.str.injEq, Option.some.injEq, List.cons.injEq, exists_and_left, exists_eq_left', exists_eq_left, reduceCtorEq, false_and, and_false, or_false, false_or, exists_false, exists_const, and_assoc, true_and, and_true,
  CB.scal_int, CB.scal_str, CB.dec_ii, CB.ite_dec, CB.ite_ndec, List.getElem?_cons_zero, List.getElem?_cons_succ, List.set_cons_zero, List.set_cons_succ, List.append_nil, List.cons_append, List.nil_append, if_true, if_false, Bool.false_eq_true, Bool.not_true, Bool.not_false, CB.K_nox, CB.K_cxOf, eq_self])

local macro_rules | `(tactic| walk_at "nx") => `(tactic| (show tSeq _ _ _ _ _; rw [CB.rd_seq]; walk_at "rs"))


/-! ### primes, rough numbers, squares in a number -/
def Rough (m : Nat) : Prop := ∀ e, 2 ≤ e → e ≤ 1000 → ¬ e ∣ m
def Prm (p : Nat) : Prop := 2 ≤ p ∧ ∀ e, 2 ≤ e → e < p → ¬ e ∣ p
def Smo (n : Nat) : Prop := ∀ m, m ∣ n → Rough m → m ≤ 1000000
def SqF (n : Nat) : Prop := ∀ q, 2 ≤ q → ¬ q * q ∣ n
theorem Prm.gcd {p a : Nat} (h : Prm p) : Nat.gcd p a = 1 ∨ p ∣ a := by
  have d := Nat.gcd_dvd_left p a
  have l := Nat.le_of_dvd (by have := h.1; omega) d
  rcases Nat.lt_or_ge (Nat.gcd p a) 2 with c | c
  · have : 0 < Nat.gcd p a := Nat.gcd_pos_of_pos_left _ (by have := h.1; omega)
    left; omega
  · rcases Nat.lt_or_ge (Nat.gcd p a) p with c2 | c2
    · exact absurd d (h.2 _ c c2)
    · right
      have e : Nat.gcd p a = p := by omega
      rw [← e]
      exact Nat.gcd_dvd_right p a
theorem Prm.euc {p a b : Nat} (h : Prm p) (d : p ∣ a * b) : p ∣ a ∨ p ∣ b := by
  rcases h.gcd (a := a) with g | g
  · exact .inr (Nat.Coprime.dvd_of_dvd_mul_left g d)
  · exact .inl g
theorem Prm.eq_of_dvd {p q : Nat} (h : Prm p) (h' : Prm q) (d : p ∣ q) : p = q := by
  have l := Nat.le_of_dvd (by have := h'.1; omega) d
  rcases Nat.lt_or_ge p q with c | c
  · exact absurd d (h'.2 p h.1 c)
  · omega
theorem ex_prm {n : Nat} (h : 2 ≤ n) : ∃ p, Prm p ∧ p ∣ n := by
  induction n using Nat.strongRecOn with
  | ind n ih =>
    rcases Classical.em (∃ e, 2 ≤ e ∧ e < n ∧ e ∣ n) with ⟨e, e2, en, ed⟩ | c
    · obtain ⟨p, hp, pd⟩ := ih e en e2
      exact ⟨p, hp, Nat.dvd_trans pd ed⟩
    · exact ⟨n, ⟨h, fun e e2 en ed => c ⟨e, e2, en, ed⟩⟩, Nat.dvd_refl n⟩
theorem rough_dvd {m n : Nat} (h : Rough n) (d : m ∣ n) : Rough m := fun e e2 e3 z => h e e2 e3 (Nat.dvd_trans z d)
theorem rough_mul {m n c : Nat} (h : Rough m) (c1 : 1 ≤ c) (c2 : c ≤ 1000) (d : m ∣ n * c) : m ∣ n := by
  have g : Nat.Coprime m c := by
    have dg := Nat.gcd_dvd_left m c
    have dc := Nat.le_of_dvd (by omega) (Nat.gcd_dvd_right m c)
    have : 0 < Nat.gcd m c := Nat.gcd_pos_of_pos_right _ (by omega)
    rcases Nat.lt_or_ge (Nat.gcd m c) 2 with z | z
    · show Nat.gcd m c = 1
      omega
    · exact absurd dg (h _ z (by omega))
  exact Nat.Coprime.dvd_of_dvd_mul_right g d
/-- a number without small divisors is a prime -/
theorem prm_of {n : Nat} (h : 2 ≤ n) (hd : ∀ e, 2 ≤ e → e * e ≤ n → ¬ e ∣ n) : Prm n := by
  refine ⟨h, fun e e2 en ed => ?_⟩
  obtain ⟨c, rfl⟩ := ed
  have c1 : 2 ≤ c := by
    rcases Nat.lt_or_ge c 2 with z | z
    · have : c = 0 ∨ c = 1 := by omega
      rcases this with rfl | rfl <;> omega
    · exact z
  rcases Nat.le_total e c with l | l
  · exact hd e e2 (Nat.mul_le_mul_left e l) (Nat.dvd_mul_right e c)
  · exact hd c c1 (Nat.mul_le_mul_right c l) (Nat.dvd_mul_left c e)
/-- what least_divisor tells, up to 1000 -/
def LD (n r : Nat) : Prop := (2 ≤ r ∧ r ∣ n ∧ ∀ e, 2 ≤ e → e < r → ¬ e ∣ n) ∨ (r = n ∧ ∀ e, 2 ≤ e → e ≤ 1000 → e * e ≤ n → ¬ e ∣ n)
theorem LD.prm {n r : Nat} (h : LD n r) (hr : r ≤ 1000) (hn : 1 < n) : Prm r ∧ r ∣ n ∧ ∀ e, 2 ≤ e → e ∣ n → r ≤ e := by
  rcases h with ⟨r2, rd, hm⟩ | ⟨rfl, hm⟩
  · exact ⟨⟨r2, fun e e2 er z => hm e e2 er (Nat.dvd_trans z rd)⟩, rd, fun e e2 z => by
      rcases Nat.lt_or_ge e r with c | c
      · exact absurd z (hm e e2 c)
      · exact c⟩
  · have p := prm_of (n := r) hn fun e e2 ee z => hm e e2 (by
      have : e * 1 ≤ e * e := Nat.mul_le_mul_left e (by omega)
      omega) ee z
    refine ⟨p, Nat.dvd_refl r, fun e e2 z => ?_⟩
    rcases Nat.lt_or_ge e r with c | c
    · exact absurd z (p.2 e e2 c)
    · exact c
theorem LD.rest {n r : Nat} (h : LD n r) (hr : 1000 < r) (hn : 0 < n) (hs : ∀ m, m ∣ n → Rough m → m ≤ 1000000) : Prm n ∧ n ≤ 1000000 := by
  have hle : n ≤ 1000000 := by
    rcases Nat.lt_or_ge 1000000 n with z | z
    · refine hs n (Nat.dvd_refl n) fun e e2 e3 d => ?_
      rcases h with ⟨r2, rd, hm⟩ | ⟨rfl, hm⟩
      · exact hm e e2 (by omega) d
      · exact hm e e2 e3 (by
          have := Nat.mul_le_mul e3 e3
          omega) d
    · exact z
  refine ⟨?_, hle⟩
  rcases h with ⟨r2, rd, hm⟩ | ⟨rfl, hm⟩
  · obtain ⟨c, rfl⟩ := rd
    have hc : c = 1 := by
      rcases Nat.lt_or_ge c 2 with z | z
      · have : c ≠ 0 := fun e => by subst e; simp at hn
        omega
      · rcases Nat.lt_or_ge c r with y | y
        · exact absurd (Nat.dvd_mul_left c r) (hm c z y)
        · have := Nat.mul_le_mul (show 1001 ≤ r by omega) (show 1001 ≤ c by omega)
          omega
    subst hc
    rw [Nat.mul_one] at *
    exact ⟨r2, fun e e2 er z => hm e e2 er z⟩
  · exact prm_of (by omega) fun e e2 ee z => hm e e2 (by
      rcases Nat.lt_or_ge 1000 e with y | y
      · have := Nat.mul_le_mul (show 1001 ≤ e by omega) (show 1001 ≤ e by omega)
        omega
      · exact y) ee z
theorem LD.of_prm {n r : Nat} (h : LD n r) (hp : Prm n) : r = n := by
  rcases h with ⟨r2, rd, hm⟩ | ⟨rfl, _⟩
  · have l := Nat.le_of_dvd (by have := hp.1; omega) rd
    rcases Nat.lt_or_ge r n with c | c
    · exact absurd rd (hp.2 r r2 c)
    · omega
  · rfl
/-! ### products -/
def prodL : List Nat → Nat
  | [] => 1
  | p :: ps => p * prodL ps
theorem prodL_app : ∀ a b : List Nat, prodL (a ++ b) = prodL a * prodL b
  | [], b => by show prodL b = 1 * prodL b; omega
  | p :: a, b => by
    show p * prodL (a ++ b) = p * prodL a * prodL b
    rw [prodL_app a b, Nat.mul_assoc]
theorem prodL_pos : ∀ {ps : List Nat}, (∀ p ∈ ps, 2 ≤ p) → 2 ^ ps.length ≤ prodL ps
  | [], _ => by decide
  | p :: ps, h => by
    show 2 ^ (ps.length + 1) ≤ p * prodL ps
    have := prodL_pos (ps := ps) fun q hq => h q (List.mem_cons_of_mem _ hq)
    have h2 := h p List.mem_cons_self
    have := Nat.mul_le_mul h2 this
    rw [Nat.pow_succ]
    omega
/-- counts of primes: pairs -/
def prodC (f : Nat → Nat) : List (Nat × Nat) → Nat
  | [] => 1
  | q :: l => q.1 ^ f q.2 * prodC f l
theorem prodC_app (f : Nat → Nat) : ∀ a b : List (Nat × Nat), prodC f (a ++ b) = prodC f a * prodC f b
  | [], b => by show prodC f b = 1 * prodC f b; omega
  | q :: a, b => by
    show q.1 ^ f q.2 * prodC f (a ++ b) = q.1 ^ f q.2 * prodC f a * prodC f b
    rw [prodC_app f a b, Nat.mul_assoc]
theorem prodC_split (l : List (Nat × Nat)) : prodC (fun c => c) l = prodC (fun c => c / 2) l * prodC (fun c => c / 2) l * prodC (fun c => c % 2) l := by
  induction l with
  | nil => rfl
  | cons q l ih =>
    show q.1 ^ q.2 * prodC (fun c => c) l = q.1 ^ (q.2 / 2) * prodC (fun c => c / 2) l * (q.1 ^ (q.2 / 2) * prodC (fun c => c / 2) l) * (q.1 ^ (q.2 % 2) * prodC (fun c => c % 2) l)
    have e : q.1 ^ q.2 = q.1 ^ (q.2 / 2) * q.1 ^ (q.2 / 2) * q.1 ^ (q.2 % 2) := by
      rw [← Nat.pow_add, ← Nat.pow_add]
      congr 1
      omega
    rw [ih, e]
    grind
theorem prm_prodC {p : Nat} (hp : Prm p) : ∀ {l : List (Nat × Nat)}, (∀ q ∈ l, Prm q.1) → p ∣ prodC (fun c => c % 2) l → ∃ q ∈ l, q.1 = p
  | [], _, d => by
    have : p ∣ 1 := d
    have := Nat.le_of_dvd (by decide) this
    have := hp.1
    omega
  | q :: l, h, d => by
    have d : p ∣ q.1 ^ (q.2 % 2) * prodC (fun c => c % 2) l := d
    rcases hp.euc d with z | z
    · have c : q.2 % 2 = 0 ∨ q.2 % 2 = 1 := by omega
      rcases c with c | c
      · rw [c, Nat.pow_zero] at z
        have := Nat.le_of_dvd (by decide) z
        have := hp.1
        omega
      · rw [c, Nat.pow_one] at z
        exact ⟨q, List.mem_cons_self, (hp.eq_of_dvd (h q List.mem_cons_self) z).symm⟩
    · obtain ⟨r, hr, e⟩ := prm_prodC hp (fun q hq => h q (List.mem_cons_of_mem _ hq)) z
      exact ⟨r, List.mem_cons_of_mem _ hr, e⟩
theorem sqF_one : SqF 1 := fun q q2 d => by
  have := Nat.le_of_dvd (by decide) d
  have := Nat.mul_le_mul q2 q2
  omega
theorem sqF_mul {p m : Nat} (hp : Prm p) (hm : SqF m) (hd : ¬ p ∣ m) : SqF (p * m) := by
  intro q q2 d
  obtain ⟨r, hr, rq⟩ := ex_prm q2
  have d : r * r ∣ p * m := Nat.dvd_trans (Nat.mul_dvd_mul rq rq) d
  rcases hr.gcd (a := p) with g | g
  · have c : Nat.Coprime (r * r) p := Nat.Coprime.mul_left g g
    exact hm r hr.1 (Nat.Coprime.dvd_of_dvd_mul_left c d)
  · have e := hr.eq_of_dvd hp g
    subst e
    exact hd (Nat.dvd_of_mul_dvd_mul_left (by have := hr.1; omega) d)
theorem sqF_prodC : ∀ {l : List (Nat × Nat)}, (∀ q ∈ l, Prm q.1) → l.Pairwise (fun x y => x.1 < y.1) → SqF (prodC (fun c => c % 2) l)
  | [], _, _ => sqF_one
  | q :: l, h, hs => by
    obtain ⟨h1, h2⟩ := List.pairwise_cons.mp hs
    have ih := sqF_prodC (fun x hx => h x (List.mem_cons_of_mem _ hx)) h2
    show SqF (q.1 ^ (q.2 % 2) * prodC (fun c => c % 2) l)
    have c : q.2 % 2 = 0 ∨ q.2 % 2 = 1 := by omega
    rcases c with c | c
    · rw [c, Nat.pow_zero, Nat.one_mul]
      exact ih
    · rw [c, Nat.pow_one]
      refine sqF_mul (h q List.mem_cons_self) ih fun d => ?_
      obtain ⟨r, hr, e⟩ := prm_prodC (h q List.mem_cons_self) (fun x hx => h x (List.mem_cons_of_mem _ hx)) d
      have := h1 r hr
      omega
/-! ### fundamental discriminants -/
def Fund (d : Int) : Prop := d % 4 < 2 ∧ d ≠ 0 ∧ ∀ j : Nat, 2 ≤ j → ((j * j : Nat) : Int) ∣ d → ¬ d / ((j * j : Nat) : Int) % 4 < 2
theorem sqd {j : Nat} {d : Int} (h : ((j * j : Nat) : Int) ∣ d) : j * j ∣ d.natAbs := by
  have := Int.natAbs_dvd_natAbs.mpr h
  exact this
theorem fund_one {d : Int} (h : SqF d.natAbs) (h4 : d % 4 < 2) : Fund d :=
  ⟨h4, fun z => by subst z; exact h 2 (by decide) (by decide), fun j j2 jd => absurd (sqd jd) (h j j2)⟩
theorem fund_four {d : Int} (h : SqF d.natAbs) (h4 : 2 ≤ d % 4) : Fund (4 * d) := by
  refine ⟨by omega, fun z => by
    have : d = 0 := by omega
    subst this
    exact h 2 (by decide) (by decide), fun j j2 jd q => ?_⟩
  have nd := sqd jd
  rw [Int.natAbs_mul] at nd
  have nd : j * j ∣ 4 * d.natAbs := nd
  rcases Nat.mod_two_eq_zero_or_one j with c | c
  · obtain ⟨i, rfl⟩ : ∃ i, j = 2 * i := ⟨j / 2, by omega⟩
    have e : 2 * i * (2 * i) = 4 * (i * i) := by grind
    rw [e] at nd q
    have nd := Nat.dvd_of_mul_dvd_mul_left (by decide) nd
    rcases Nat.lt_or_ge i 2 with z | z
    · have : i = 1 := by omega
      subst this
      have e2 : 4 * d / ((4 * (1 * 1) : Nat) : Int) = d := by
        show 4 * d / 4 = d
        omega
      rw [e2] at q
      omega
    · exact h i z nd
  · have g : Nat.Coprime j 4 := by
      have g2 : Nat.Coprime j 2 := by
        show Nat.gcd j 2 = 1
        rw [Nat.gcd_comm, Nat.gcd_rec, c]
        rfl
      exact Nat.Coprime.mul_right (k := j) (m := 2) (n := 2) g2 g2
    exact h j j2 (Nat.Coprime.dvd_of_dvd_mul_left (Nat.Coprime.mul_left g g) nd)
theorem sq_mod4 (b : Nat) : (b % 2 = 0 ∧ (b * b) % 4 = 0) ∨ (b % 2 = 1 ∧ (b * b) % 4 = 1) := by
  rcases Nat.mod_two_eq_zero_or_one b with c | c
  · left
    obtain ⟨i, rfl⟩ : ∃ i, b = 2 * i := ⟨b / 2, by omega⟩
    have e : 2 * i * (2 * i) = 4 * (i * i) := by grind
    omega
  · right
    obtain ⟨i, rfl⟩ : ∃ i, b = 2 * i + 1 := ⟨b / 2, by omega⟩
    have e : (2 * i + 1) * (2 * i + 1) = 4 * (i * i + i) + 1 := by grind
    omega
/-- d e with e odd: the same modulo 4 -/
theorem odd_mod4 {e : Int} {b : Nat} (h : b % 2 = 1) : (e * ((b * b : Nat) : Int)) % 4 = e % 4 := by
  rcases sq_mod4 b with ⟨z, _⟩ | ⟨_, z⟩
  · omega
  · obtain ⟨t, ht⟩ : ∃ t : Nat, b * b = 4 * t + 1 := ⟨b * b / 4, by omega⟩
    rw [ht]
    have : e * ((4 * t + 1 : Nat) : Int) = 4 * (e * t) + e := by
      push_cast
      grind
    rw [this]
    omega
theorem fund_uniq {d1 d2 : Int} {k1 k2 : Nat} (h1 : Fund d1) (h2 : Fund d2) (p1 : 0 < k1) (p2 : 0 < k2) (e : d1 * ((k1 * k1 : Nat) : Int) = d2 * ((k2 * k2 : Nat) : Int)) : k1 = k2 ∧ d1 = d2 := by
  obtain ⟨g, hg⟩ : ∃ g, g = Nat.gcd k1 k2 := ⟨_, rfl⟩
  have g0 : 0 < g := by rw [hg]; exact Nat.gcd_pos_of_pos_left _ p1
  obtain ⟨a, ha⟩ := Nat.gcd_dvd_left k1 k2
  obtain ⟨b, hb⟩ := Nat.gcd_dvd_right k1 k2
  rw [← hg] at ha hb
  have co : Nat.Coprime a b := by
    have := Nat.gcd_mul_left g a b
    rw [← ha, ← hb, ← hg] at this
    have : g * 1 = g * Nat.gcd a b := by omega
    exact (Nat.eq_of_mul_eq_mul_left g0 this).symm
  have a0 : 0 < a := by
    rcases Nat.eq_zero_or_pos a with z | z
    · subst z; omega
    · exact z
  have b0 : 0 < b := by
    rcases Nat.eq_zero_or_pos b with z | z
    · subst z; omega
    · exact z
  have e2 : d1 * ((a * a : Nat) : Int) = d2 * ((b * b : Nat) : Int) := by
    have gg : ((g * g : Nat) : Int) ≠ 0 := by
      have := Nat.mul_pos g0 g0
      omega
    refine Int.eq_of_mul_eq_mul_left gg ?_
    rw [ha, hb] at e
    push_cast at *
    grind
  have cab : Nat.Coprime (b * b) (a * a) := (Nat.Coprime.mul_left (Nat.Coprime.mul_right co.symm co.symm) (Nat.Coprime.mul_right co.symm co.symm))
  have bd : b * b ∣ d1.natAbs := by
    have z : ((b * b : Nat) : Int) ∣ d1 * ((a * a : Nat) : Int) := ⟨d2, by rw [e2, Int.mul_comm]⟩
    have z := Int.natAbs_dvd_natAbs.mpr z
    rw [Int.natAbs_mul] at z
    exact Nat.Coprime.dvd_of_dvd_mul_right cab z
  obtain ⟨t, ht⟩ : ((b * b : Nat) : Int) ∣ d1 := Int.natAbs_dvd_natAbs.mp bd
  have bb : ((b * b : Nat) : Int) ≠ 0 := by
    have := Nat.mul_pos b0 b0
    omega
  have ht2 : d2 = ((a * a : Nat) : Int) * t := by
    refine Int.eq_of_mul_eq_mul_left bb ?_
    rw [Int.mul_comm, ← e2, ht]
    grind
  have aa : ((a * a : Nat) : Int) ≠ 0 := by
    have := Nat.mul_pos a0 a0
    omega
  have q1 : 2 ≤ b → 2 ≤ t % 4 := fun z => by
    have := h1.2.2 b z ⟨t, ht⟩
    rw [ht, Int.mul_ediv_cancel_left _ bb] at this
    omega
  have q2 : 2 ≤ a → 2 ≤ t % 4 := fun z => by
    have := h2.2.2 a z ⟨t, ht2⟩
    rw [ht2, Int.mul_ediv_cancel_left _ aa] at this
    omega
  have f1 := h1.1
  have f2 := h2.1
  have both : a = 1 ∧ b = 1 := by
    rcases Classical.em (2 ≤ t % 4) with c | c
    · have ob : b % 2 = 0 := by
        rcases Nat.mod_two_eq_zero_or_one b with z | z
        · exact z
        · have := odd_mod4 (e := t) z
          rw [ht, Int.mul_comm] at f1
          omega
      have oa : a % 2 = 0 := by
        rcases Nat.mod_two_eq_zero_or_one a with z | z
        · exact z
        · have := odd_mod4 (e := t) z
          rw [ht2, Int.mul_comm] at f2
          omega
      have : 2 ∣ Nat.gcd a b := Nat.dvd_gcd (by omega) (by omega)
      rw [co] at this
      omega
    · have nb : ¬ 2 ≤ b := fun z => c (q1 z)
      have na : ¬ 2 ≤ a := fun z => c (q2 z)
      omega
  obtain ⟨rfl, rfl⟩ := both
  refine ⟨by omega, ?_⟩
  rw [ht, ht2]
/-- the split of a discriminant: f the product of the halves of the exponents -/
theorem split_fund {D : Int} {l : List (Nat × Nat)} (hD : D % 4 < 2) (h0 : D ≠ 0) (hl : ∀ q ∈ l, Prm q.1) (hs : l.Pairwise (fun x y => x.1 < y.1)) (e : prodC (fun c => c) l = D.natAbs) :
    let f := prodC (fun c => c / 2) l
    0 < f ∧ ((f * f : Nat) : Int) * (D / ((f * f : Nat) : Int)) = D ∧ (D / ((f * f : Nat) : Int) % 4 < 2 → Fund (D / ((f * f : Nat) : Int))) ∧
    (¬ D / ((f * f : Nat) : Int) % 4 < 2 → f % 2 = 0 ∧ 0 < f / 2 ∧ (((f / 2) * (f / 2) : Nat) : Int) * (D / (((f / 2) * (f / 2) : Nat) : Int)) = D ∧ Fund (D / (((f / 2) * (f / 2) : Nat) : Int))) := by
  intro f
  have sq := sqF_prodC hl hs
  have sp := prodC_split l
  rw [e] at sp
  generalize hm : prodC (fun c => c % 2) l = m at *
  have sp : D.natAbs = f * f * m := sp
  have fpos : 0 < f := by
    rcases Nat.eq_zero_or_pos f with z | z
    · rw [z] at sp
      omega
    · exact z
  have ff : 0 < f * f := Nat.mul_pos fpos fpos
  have ffi : ((f * f : Nat) : Int) ≠ 0 := by omega
  obtain ⟨t, ht⟩ : ((f * f : Nat) : Int) ∣ D := Int.natAbs_dvd_natAbs.mp (by
    show f * f ∣ D.natAbs
    exact ⟨m, sp⟩)
  have hq : D / ((f * f : Nat) : Int) = t := by rw [ht, Int.mul_ediv_cancel_left _ ffi]
  have tm : t.natAbs = m := by
    have := congrArg Int.natAbs ht
    rw [Int.natAbs_mul, sp] at this
    exact (Nat.eq_of_mul_eq_mul_left ff this).symm
  rw [← tm] at sq
  rw [hq]
  refine ⟨fpos, ht.symm, fun c => fund_one sq c, fun c => ?_⟩
  have ev : f % 2 = 0 := by
    rcases Nat.mod_two_eq_zero_or_one f with z | z
    · exact z
    · have := odd_mod4 (e := t) z
      rw [ht, Int.mul_comm] at hD
      omega
  obtain ⟨i, hi⟩ : ∃ i, f = 2 * i := ⟨f / 2, by omega⟩
  have ip : 0 < i := by omega
  have hi2 : f / 2 = i := by omega
  rw [hi2]
  have ii : ((i * i : Nat) : Int) ≠ 0 := by
    have := Nat.mul_pos ip ip
    omega
  have hD4 : D = ((i * i : Nat) : Int) * (4 * t) := by
    rw [ht, hi]
    push_cast
    grind
  have hq4 : D / ((i * i : Nat) : Int) = 4 * t := by rw [hD4, Int.mul_ediv_cancel_left _ ii]
  rw [hq4]
  exact ⟨ev, ip, hD4.symm, fund_four sq (by omega)⟩
/-- a fundamental discriminant other than 1 times a square is no square -/
theorem fund_nsq {d : Int} {k : Nat} (h : Fund d) (h1 : d ≠ 1) (hk : 0 < k) {r : Nat} (e : ((r * r : Nat) : Int) = d * ((k * k : Nat) : Int)) : False := by
  have f1 : Fund 1 := fund_one (by show SqF 1; exact sqF_one) (by decide)
  have r0 : 0 < r := by
    rcases Nat.eq_zero_or_pos r with z | z
    · subst z
      have := Nat.mul_pos hk hk
      have z : d * ((k * k : Nat) : Int) = 0 := by rw [← e]; rfl
      rcases Int.mul_eq_zero.mp z with y | y
      · exact absurd y h.2.1
      · omega
    · exact z
  exact h1 (fund_uniq f1 h r0 hk (by rw [Int.one_mul]; exact e)).2.symm

section
variable {P : Program} {w : World} {K : PySem.W.Frag} {mg : Str → Option Value} {base : Heap} {CM CR : Addr}
/-! ### powers, least divisors -/
abbrev s_raised : Stmt := top 8
theorem sc_raised : FnScope ["b", "e", "result"] ["b", "e"] (defScope s_raised) := ⟨rfl, rfl, rfl, by decide +kernel, rfl, by decide +kernel, by decide +kernel⟩

def spRaised : Sp := fun vs H Q _ => ∃ (b e : Nat), vs = [.int b, .int e] ∧ 0 < b ∧ b ^ e < 2 ^ 1000 ∧ Q (.int ((b ^ e : Nat) : Int)) H
theorem nz {n : Nat} : ((n : Int) != 0) = decide (n ≠ 0) := by
  by_cases h : n = 0
  · subst h; rfl
  · rw [decide_eq_true h]
    have : (n : Int) ≠ 0 := by omega
    simp [h]
theorem log1000 {n : Nat} (h : n < 2 ^ 1000) : (n : Int).natAbs < 2 ^ 1000 := h
theorem mulN {a b : Nat} (h : a < 2 ^ 1000) (h' : b < 2 ^ 1000) : IntMulOk (a : Int) (b : Int) := (wide_mul (a := 1000) (b := 1000) (log1000 h) (log1000 h') (by decide) (by decide) (by decide)).ok
theorem pow_step {b e : Nat} : b ^ e = (if e % 2 = 1 then b else 1) * (b * b) ^ (e / 2) := by
  have h : (b * b) ^ (e / 2) = b ^ (2 * (e / 2)) := by rw [Nat.pow_mul, Nat.pow_two]
  rw [h]
  split
  · rw [← Nat.pow_succ']
    congr 1; omega
  · rw [Nat.one_mul]
    congr 1; omega
theorem cal_raised (D : Dn K mg "raised" s_raised ["b", "e"]) (B : Bl mg) : Cal P w K mg base "raised" 1 ["b", "e"] spRaised := by
  refine D.cal sc_raised (fun vs H Q E h => ?_) (fun f cdv A outer s H vs Q E hr h => ?_)
  · obtain ⟨b, e, rfl, _⟩ := h
    rfl
  · obtain ⟨b, e, rfl, b0, hz, q⟩ := h
    refine ⟨_, (pss_cons (ps_set (i := 2) sc_raised.nd rfl (Or.inl rfl) pe_int)
  (pss_cons (ps_while PassesOwn.never (pt_truth (pv 1) (by intro _; rfl)) (pss_cons (ps_if (pt_truth (pe_op op_and (pv 1) pe_int) (by intro _; rfl)) (pss_one (ps_aug (i := 2) sc_raised.nd rfl (Or.inl rfl) (pv 0) iop_mulI)) pss_nil)
  (pss_cons (ps_aug (i := 1) sc_raised.nd rfl (Or.inl rfl) pe_int iop_shr)
  (pss_one (ps_if (pt_truth (pv 1) (by intro _; rfl)) (pss_one (ps_aug (i := 0) sc_raised.nd rfl (Or.inl rfl) (pv 0) iop_mulI)) pss_nil)))))
  (pss_one (ps_ret (pv 2))))), ?_⟩
    rw [CB.rd_seq]
    walk_at "rs"
    show tSeq _ _ _ _ _
    rw [CB.rd_seq]
    refine while_w (fun σ H' => ∃ b' e' r : Nat, σ = [some (.int b'), some (.int e'), some (.int r)] ∧ H' = H ∧ 0 < b' ∧ 0 < r ∧ r * b' ^ e' = b ^ e)
      (fun σ _ => match σ with | [_, some (.int e'), _] => e'.toNat | _ => 0) ⟨b, e, 1, rfl, rfl, b0, by omega, Nat.one_mul _⟩ ?_
    rintro σ H' ⟨b', e', r, rfl, rfl, p1, p2, inv⟩ N hN
    refine ⟨decide (e' ≠ 0), fun Q' q' => ?_, fun hb => ?_, fun hb => ?_⟩
    · walk_at "rd"
      refine ⟨_, rfl, ?_⟩
      rw [nz]
      exact q'
    · have he : e' ≠ 0 := of_decide_eq_true hb
      have hp : 0 < b' ^ e' := Nat.pow_pos p1
      have hr2 : r < 2 ^ 1000 := Nat.lt_of_le_of_lt (by rw [← inv]; exact Nat.le_mul_of_pos_right r hp) hz
      have hb2 : b' < 2 ^ 1000 := Nat.lt_of_le_of_lt (by
        rw [← inv]
        exact Nat.le_trans (Nat.le_self_pow he b') (Nat.le_mul_of_pos_left _ p2)) hz
      have fin : ∀ r1 : Nat, 0 < r1 → r1 * (b' * b') ^ (e' / 2) = b ^ e → ∀ b1 : Nat, (e' / 2 = 0 ∨ b1 = b' * b') → (0 < b1) → N [some (V.int b1), some (V.int ((e' / 2 : Nat) : Int)), some (V.int r1)] H' := fun r1 h1 h2 b1 h3 h4 => by
        refine hN _ _ ⟨b1, e' / 2, r1, rfl, rfl, h4, h1, ?_⟩ (by show ((e' / 2 : Nat) : Int).toNat < (e' : Int).toNat; omega)
        rcases h3 with h3 | rfl
        · rw [h3, Nat.pow_zero] at h2 ⊢
          exact h2
        · exact h2
      have fin2 : ∀ r1 : Nat, 0 < r1 → r1 * (b' * b') ^ (e' / 2) = b ^ e → ∃ k, TruV K (V.int ((e' : Int) / 2 ^ Int.toNat 1)) H' k ∧ if k = true then IntMulOk (b' : Int) (b' : Int) ∧ N [some (V.int ((b' : Int) * b')), some (V.int ((e' : Int) / 2 ^ Int.toNat 1)), some (V.int (r1 : Int))] H' else N [some (V.int (b' : Int)), some (V.int ((e' : Int) / 2 ^ Int.toNat 1)), some (V.int (r1 : Int))] H' := fun r1 h1 h2 => by
        have e2 : (e' : Int) / 2 ^ Int.toNat 1 = ((e' / 2 : Nat) : Int) := by
          show (e' : Int) / 2 = _
          omega
        rw [e2]
        refine ⟨_, rfl, ?_⟩
        rw [nz]
        by_cases c : e' / 2 = 0
        · rw [decide_eq_false (fun z => z c), if_neg (by decide)]
          exact fin r1 h1 h2 b' (.inl c) p1
        · rw [decide_eq_true c, if_pos rfl]
          refine ⟨mulN hb2 hb2, ?_⟩
          rw [← Int.natCast_mul]
          exact fin r1 h1 h2 (b' * b') (.inr rfl) (Nat.mul_pos p1 p1)
      rw [pow_step] at inv
      walk_at "rd"
      refine ⟨_, rfl, ?_⟩
      rw [PyProof.Rows.bitAnd_m1]
      have e2 : ((e' : Int) % 2 != 0) = decide (e' % 2 ≠ 0) := by
        have : (e' : Int) % 2 = ((e' % 2 : Nat) : Int) := by omega
        rw [this, nz]
      rw [e2]
      by_cases c : e' % 2 = 0
      · rw [decide_eq_false (fun z => z c), if_neg (by decide)]
        rw [if_neg (by omega), Nat.one_mul] at inv
        exact ⟨by decide, fin2 r p2 inv⟩
      · rw [decide_eq_true c, if_pos rfl]
        rw [if_pos (by omega), ← Nat.mul_assoc] at inv
        refine ⟨mulN hr2 hb2, by decide, ?_⟩
        rw [← Int.natCast_mul]
        exact fin2 (r * b') (Nat.mul_pos p2 p1) inv
    · have he : e' = 0 := by
        have := of_decide_eq_false hb
        omega
      subst he
      rw [Nat.pow_zero, Nat.mul_one] at inv
      walk_at "rd"
      rw [inv]
      exact q
end

local macro_rules | `(tactic| walk_at "rd") => `(tactic| simp (maxSteps := 2000000) only [CB.rd_var, CB.rd_C, CB.rd_op, CB.rd_un, CB.rd_I, CB.rd_I0, CB.rd_U, CB.rd_Eq, CB.rd_Ne, CB.rd_test, CB.rd_B, CB.rd_and, CB.rd_or, CB.rd_not, CB.rd_andV, CB.rd_orV, CB.rd_notV, CB.rd_if, CB.rd_chain, CB.rd_chain3,
  CB.rd_next, CB.rd_seq, CB.rd_drop, CB.rd_ret, CB.rd_retN, CB.rd_break, CB.rd_cont, CB.rd_ifS, CB.rd_asg, CB.rd_name, CB.rd_gsub, CB.rd_gtup, CB.rd_gcons, CB.rd_gnil, CB.rd_par, CB.rd_aug, CB.rd_ipI, CB.rd_nil, CB.rd_cons, CB.rd_tup, CB.rd_lst, CB.rd_CB, CB.rd_call, CB.rd_callS, CB.rd_ixL, CB.rd_ixT, CB.rd_setL, CB.rd_putS, CB.rd_forZ, CB.rd_lcZ, CB.rd_forE, CB.rd_forEL, CB.rd_lcE, CB.rd_isqrt, CB.rd_sum, CB.rd_append, CB.rd_forL, CB.rd_forT, CB.rd_forR1, CB.rd_forR2, CB.rd_forR3, CB.rd_lcL, CB.rd_lcT, CB.rd_lcR1, CB.rd_lcR2, CB.rd_yes, CB.rd_sl, CB.rd_noPart, CB.rd_part, CB.rd_slL, CB.rd_wipe0, CB.rd_rep, CB.rd_tupOf, CB.rd_lenS, CB.rd_gcd, CB.rd_wipe1, CB.rd_sorted3, CB.rd_any, CB.rd_all, CB.rd_ext, CB.rd_glst, CB.rd_sortedM, CB.rd_minD, CB.rd_indexD, CB.rd_pop, CB.rd_dnew, CB.rd_dget, CB.rd_dget2, CB.rd_dput, CB.rd_dm, CB.rd_anyI, CB.rd_ixDC, CB.rd_inDC, CB.rd_cat, CB.rd_lcZR, CB.rd_revR1, CB.rd_max2, CB.rd_forRv, CB.rd_ins, CB.rd_revT, CB.rd_tailR, CB.rd_lc2, CB.rd_inL, CB.rd_listOf, CB.rd_inI, CB.rd_idxI,
  L2.start, List.map_cons, List.map_nil, List.length_cons, List.length_nil, Nat.reduceAdd, Nat.reduceSub, List.replicate_succ, List.replicate_zero,
  V.int.injEq, V.ref.injEq, V.bl.injEq, V.str.injEq, Option.some.injEq, List.cons.injEq, exists_and_left, exists_eq_left', exists_eq_left, reduceCtorEq, false_and, and_false, or_false, false_or, exists_false, exists_const, and_assoc, true_and, and_true,
  CB.scal_int, CB.scal_str, CB.dec_ii, CB.ite_dec, CB.ite_ndec, List.getElem?_cons_zero, List.getElem?_cons_succ, List.set_cons_zero, List.set_cons_succ, List.append_nil, List.cons_append, List.nil_append, if_true, if_false, Bool.false_eq_true, Bool.not_true, Bool.not_false, CB.K_nox, CB.K_cxOf, eq_self])
local macro_rules | `(tactic| walk_at "rs") => `(tactic| simp (maxSteps := 2000000) only [CB.rd_var, CB.rd_C, CB.rd_op, CB.rd_un, CB.rd_I, CB.rd_I0, CB.rd_U, CB.rd_Eq, CB.rd_Ne, CB.rd_test, CB.rd_B, CB.rd_and, CB.rd_or, CB.rd_not, CB.rd_andV, CB.rd_orV, CB.rd_notV, CB.rd_if, CB.rd_chain, CB.rd_chain3,
  CB.rd_next, CB.rd_drop, CB.rd_ret, CB.rd_retN, CB.rd_break, CB.rd_cont, CB.rd_ifS, CB.rd_asg, CB.rd_name, CB.rd_gsub, CB.rd_gtup, CB.rd_gcons, CB.rd_gnil, CB.rd_par, CB.rd_aug, CB.rd_ipI, CB.rd_nil, CB.rd_cons, CB.rd_tup, CB.rd_lst, CB.rd_CB, CB.rd_call, CB.rd_callS, CB.rd_ixL, CB.rd_ixT, CB.rd_setL, CB.rd_putS, CB.rd_forZ, CB.rd_lcZ, CB.rd_forE, CB.rd_forEL, CB.rd_lcE, CB.rd_isqrt, CB.rd_sum, CB.rd_append, CB.rd_forL, CB.rd_forT, CB.rd_forR1, CB.rd_forR2, CB.rd_forR3, CB.rd_lcL, CB.rd_lcT, CB.rd_lcR1, CB.rd_lcR2, CB.rd_yes, CB.rd_sl, CB.rd_noPart, CB.rd_part, CB.rd_slL, CB.rd_wipe0, CB.rd_rep, CB.rd_tupOf, CB.rd_lenS, CB.rd_gcd, CB.rd_wipe1, CB.rd_sorted3, CB.rd_any, CB.rd_all, CB.rd_ext, CB.rd_glst, CB.rd_sortedM, CB.rd_minD, CB.rd_indexD, CB.rd_pop, CB.rd_dnew, CB.rd_dget, CB.rd_dget2, CB.rd_dput, CB.rd_dm, CB.rd_anyI, CB.rd_ixDC, CB.rd_inDC, CB.rd_cat, CB.rd_lcZR, CB.rd_revR1, CB.rd_max2, CB.rd_forRv, CB.rd_ins, CB.rd_revT, CB.rd_tailR, CB.rd_lc2, CB.rd_inL, CB.rd_listOf, CB.rd_inI, CB.rd_idxI,
  L2.start, List.map_cons, List.map_nil, List.length_cons, List.length_nil, Nat.reduceAdd, Nat.reduceSub, List.replicate_succ, List.replicate_zero,
  V.int.injEq, V.ref.injEq, V.bl.injEq, V.str.injEq, Option.some.injEq, List.cons.injEq, exists_and_left, exists_eq_left', exists_eq_left, reduceCtorEq, false_and, and_false, or_false, false_or, exists_false, exists_const, and_assoc, true_and, and_true,
  CB.scal_int, CB.scal_str, CB.dec_ii, CB.ite_dec, CB.ite_ndec, List.getElem?_cons_zero, List.getElem?_cons_succ, List.set_cons_zero, List.set_cons_succ, List.append_nil, List.cons_append, List.nil_append, if_true, if_false, Bool.false_eq_true, Bool.not_true, Bool.not_false, CB.K_nox, CB.K_cxOf, eq_self])

local macro_rules | `(tactic| walk_at "nx") => `(tactic| (show tSeq _ _ _ _ _; rw [CB.rd_seq]; walk_at "rs"))


section
variable {P : Program} {w : World} {K : PySem.W.Frag} {mg : Str → Option Value} {base : Heap} {CM CR : Addr}
theorem dvdI {n d : Nat} : ((n : Int) % (d : Int) = 0) ↔ d ∣ n := by
  rw [Nat.dvd_iff_mod_eq_zero]
  have : (n : Int) % (d : Int) = ((n % d : Nat) : Int) := (Int.natCast_emod n d).symm
  omega
abbrev s_least_divisor : Stmt := top 21
theorem sc_least_divisor : FnScope ["n", "most", "d"] ["n", "most"] (defScope s_least_divisor) := ⟨rfl, rfl, rfl, by decide +kernel, rfl, by decide +kernel, by decide +kernel⟩

def spLeast : Sp := fun vs H Q _ => ∃ n : Nat, vs = [.int n, .int 1000] ∧ 0 < n ∧ (n : Int) < BIG ∧ ∀ (r : Nat) (H' : Hp), LD n r → Same H H' → Q (.int r) H'
/-- six further numbers -/
theorem six {n d : Nat} (h6 : d % 6 = 5) (h : ∀ e, 2 ≤ e → e < d → ¬ e ∣ n) (h0 : ¬ d ∣ n) (h2 : ¬ (d + 2) ∣ n) : ∀ e, 2 ≤ e → e < d + 6 → ¬ e ∣ n := by
  intro e e2 ed z
  rcases Nat.lt_or_ge e d with c | c
  · exact h e e2 c z
  · have two : ¬ 2 ∣ n := h 2 (by decide) (by omega)
    have three : ¬ 3 ∣ n := h 3 (by decide) (by omega)
    have cs : e = d ∨ e = d + 1 ∨ e = d + 2 ∨ e = d + 3 ∨ e = d + 4 ∨ e = d + 5 := by omega
    rcases cs with rfl | rfl | rfl | rfl | rfl | rfl
    · exact h0 z
    · exact two (Nat.dvd_trans (by omega) z)
    · exact h2 z
    · exact two (Nat.dvd_trans (by omega) z)
    · exact three (Nat.dvd_trans (by omega) z)
    · exact two (Nat.dvd_trans (by omega) z)
theorem five {n d : Nat} (h6 : d % 6 = 5) (h : ∀ e, 2 ≤ e → e < d → ¬ e ∣ n) (h0 : ¬ d ∣ n) : ∀ e, 2 ≤ e → e < d + 2 → ¬ e ∣ n := by
  intro e e2 ed z
  rcases Nat.lt_or_ge e d with c | c
  · exact h e e2 c z
  · have two : ¬ 2 ∣ n := h 2 (by decide) (by omega)
    have cs : e = d ∨ e = d + 1 := by omega
    rcases cs with rfl | rfl
    · exact h0 z
    · exact two (Nat.dvd_trans (by omega) z)
theorem cal_least (D : Dn K mg "least_divisor" s_least_divisor ["n", "most"]) (B : Bl mg) : Cal P w K mg base "least_divisor" 1 ["n", "most"] spLeast := by
  refine D.cal sc_least_divisor (fun vs H Q E h => ?_) (fun f cdv A outer s H vs Q E hr h => ?_)
  · obtain ⟨n, rfl, _⟩ := h
    rfl
  · obtain ⟨n, rfl, n0, nb, q⟩ := h
    refine ⟨_, (pss_cons (ps_for PassesOwn.never rfl (pi_tup (pe_tup (pa_cons pe_int (pa_cons pe_int pa_nil)))) (pg_name (i := 2) sc_least_divisor.nd rfl (Or.inl rfl)) (pss_one (ps_if (pt_cmpR op_eq (pe_op op_mod (pv 0) (pv 2)) pe_int (nomark _)) (pss_one (ps_ret (pv 2))) pss_nil)))
  (pss_cons (ps_set (i := 1) sc_least_divisor.nd rfl (Or.inl rfl) (pe_callB (call_min2 rfl) rfl B.min (by decide +kernel) (pa_cons (pv 1) (pa_cons (pe_callBfun cr_isqrt rfl B.isqrt (pa_cons (pv 0) pa_nil)) pa_nil))))
  (pss_cons (ps_set (i := 2) sc_least_divisor.nd rfl (Or.inl rfl) pe_int)
  (pss_cons (ps_while PassesOwn.never (pt_cmpR op_le (pv 2) (pv 1) (nomark _)) (pss_cons (ps_if (pt_cmpR op_eq (pe_op op_mod (pv 0) (pv 2)) pe_int (nomark _)) (pss_one (ps_ret (pv 2))) pss_nil)
  (pss_cons (ps_if (pt_cmpR op_eq (pe_op op_mod (pv 0) (pe_op op_add (pv 2) pe_int)) pe_int (nomark _)) (pss_one (ps_ret (pe_op op_add (pv 2) pe_int))) pss_nil)
  (pss_one (ps_aug (i := 2) sc_least_divisor.nd rfl (Or.inl rfl) pe_int ip_add)))))
  (pss_one (ps_ret (pv 0))))))), ?_⟩
    rw [CB.rd_seq]
    walk_at "rs"
    refine ⟨by decide, fun p np => ?_⟩
    have ht : upd H p (HO.tup [V.int 2, V.int 3]) p = some (.tup [V.int 2, V.int 3]) := upd_same
    have sm := same_upd (o := HO.tup [V.int 2, V.int 3]) np
    generalize upd H p (HO.tup [V.int 2, V.int 3]) = H1 at *
    refine ⟨⟨_, SqT.of ht⟩, ForT.w (xs := [V.int 2, V.int 3]) (fun i σ H' => H' = H1 ∧ ∃ s2, σ = [some (.int n), some (.int 1000), s2] ∧ ∀ e, 2 ≤ e → e < i + 2 → ¬ e ∣ n) ⟨rfl, _, rfl, fun e e2 ei => by omega⟩ ?_ ?_ ?_⟩
    · rintro i σ H' _ ⟨rfl, _⟩
      exact SqT.of ht
    · rintro i v σ H' hv ⟨rfl, s2, rfl, hi⟩ N hN
      have hi2 : i < 2 := (List.getElem?_eq_some_iff.mp hv).1
      have pick : v = .int ((i + 2 : Nat) : Int) := by
        have c : i = 0 ∨ i = 1 := by omega
        rcases c with rfl | rfl <;> cases hv <;> rfl
      subst pick
      walk_at "rd"
      refine ⟨by omega, ite2 (fun c => ?_) (fun c => ?_)⟩
      · refine q (i + 2) _ (.inl ⟨by omega, dvdI.mp c, fun e e2 ei => hi e e2 ei⟩) sm
      · refine hN _ _ ⟨rfl, _, rfl, fun e e2 ei z => ?_⟩
        rcases Nat.lt_or_ge e (i + 2) with y | y
        · exact hi e e2 y z
        · have : e = i + 2 := by omega
          subst this
          exact c (dvdI.mpr z)
    rintro σ H' ⟨rfl, s2, rfl, hi⟩
    have hi : ∀ e, 2 ≤ e → e < 4 → ¬ e ∣ n := hi
    show tSeq _ _ _ _ _
    rw [CB.rd_seq]
    walk_at "rs"
    refine ⟨_, rfl, _, rfl, n, rfl, by omega, Int.lt_trans nb BIG_big, 1000, isq n, rfl, ?_⟩
    have i0 := isq_nn (n : Int)
    have iff1 : ∀ e : Nat, e * e ≤ n ↔ (e : Int) ≤ isq n := fun e => by
      rw [← isq_iff (by omega) (by omega)]
      rw [← Int.natCast_mul]
      omega
    obtain ⟨M, hM, hM2⟩ : ∃ M : Nat, (if isq (n : Int) < 1000 then isq (n : Int) else 1000) = (M : Int) ∧ ∀ e : Nat, e ≤ 1000 → e * e ≤ n → e ≤ M := by
      refine ⟨(if isq (n : Int) < 1000 then isq (n : Int) else 1000).toNat, ?_, fun e e1 ee => ?_⟩
      · split <;> omega
      · have := (iff1 e).mp ee
        split <;> omega
    rw [hM]
    show tSeq _ _ _ _ _
    rw [CB.rd_seq]
    walk_at "rs"
    show tSeq _ _ _ _ _
    rw [CB.rd_seq]
    refine while_w (fun σ H2 => H2 = H' ∧ ∃ d : Nat, σ = [some (.int n), some (.int M), some (.int d)] ∧ d % 6 = 5 ∧ ∀ e, 2 ≤ e → e < d → ¬ e ∣ n)
      (fun σ _ => match σ with | [_, _, some (.int d)] => (M + 1 - d : Int).toNat | _ => 0) ⟨rfl, 5, rfl, rfl, fun e e2 e5 z => ?_⟩ ?_
    · rcases Nat.lt_or_ge e 4 with y | y
      · exact hi e e2 y z
      · have : e = 4 := by omega
        subst this
        exact hi 2 (by decide) (by decide) (Nat.dvd_trans (by decide) z)
    rintro σ H2 ⟨rfl, d, rfl, d6, hd⟩ N hN
    refine ⟨decide ((d : Int) ≤ M), fun Q' q' => ?_, fun hb => ?_, fun hb => ?_⟩
    · walk_at "rd"
      exact q'
    · have hle := of_decide_eq_true hb
      walk_at "rd"
      refine ⟨by omega, ite2 (fun c => ?_) (fun c => ?_)⟩
      · exact q d _ (.inl ⟨by omega, dvdI.mp c, hd⟩) sm
      · have c' : ¬ d ∣ n := fun z => c (dvdI.mpr z)
        refine ⟨by omega, ite2 (fun c2 => ?_) (fun c2 => ?_)⟩
        · have c2' : (d + 2) ∣ n := dvdI.mp c2
          exact q (d + 2) _ (.inl ⟨by omega, c2', five d6 hd c'⟩) sm
        · have c2' : ¬ (d + 2) ∣ n := fun z => c2 (dvdI.mpr z)
          exact hN _ _ ⟨rfl, d + 6, rfl, by omega, six d6 hd c' c2'⟩ (by show (M + 1 - ((d + 6 : Nat) : Int) : Int).toNat < (M + 1 - (d : Int) : Int).toNat; omega)
    · have hgt := of_decide_eq_false hb
      walk_at "rd"
      exact q n _ (.inr ⟨rfl, fun e e2 e3 ee => hd e e2 (by have := hM2 e e3 ee; omega)⟩) sm
abbrev s_is_prime : Stmt := top 20
theorem sc_is_prime : FnScope ["n", "p", "a"] ["n"] (defScope s_is_prime) := ⟨rfl, rfl, rfl, by decide +kernel, rfl, by decide +kernel, by decide +kernel⟩

/-- asked of primes to a million alone -/
def spPrime : Sp := fun vs H Q _ => ∃ n : Nat, vs = [.int n] ∧ Prm n ∧ n ≤ 1000000 ∧ ∀ H', Same H H' → Q (.bl true) H'
theorem cal_prime (D : Dn K mg "is_prime" s_is_prime ["n"]) (B : Bl mg) (c_least_divisor : Cal P w K mg base "least_divisor" 1 ["n", "most"] spLeast) : Cal P w K mg base "is_prime" 2 ["n"] spPrime := by
  refine D.cal sc_is_prime (fun vs H Q E h => ?_) (fun f cdv A outer s H vs Q E hr h => ?_)
  · obtain ⟨n, rfl, _⟩ := h
    rfl
  · obtain ⟨n, rfl, hp, hn, q⟩ := h
    have h2 := hp.1
    have hB := BIG_pos
    refine ⟨_, (pss_cons (ps_if (pt_cmpR op_ge (pv 0) (pe_glob (v := .int 3317044064679887385961981) rfl B.c_BOUND.choose_spec ⟨_, rfl⟩) (nomark _)) pss_never pss_nil)
  (pss_cons (ps_if (pt_cmpR op_lt (pv 0) pe_int (nomark _)) (pss_one (ps_ret pe_bl)) pss_nil)
  (pss_cons (ps_if (pt_cmpR op_le (pv 0) (pe_op op_mulI (pe_glob (v := .int 1000) rfl B.c_TRIED_TO.choose_spec ⟨_, rfl⟩) (pe_glob (v := .int 1000) rfl B.c_TRIED_TO.choose_spec ⟨_, rfl⟩)) (nomark _)) (pss_one (ps_ret (pe_cmpR op_eq (pe_cal c_least_divisor (hr.mono (by decide)) rfl (pa_cons (pv 0) (pa_cons (pe_glob (v := .int 1000) rfl B.c_TRIED_TO.choose_spec ⟨_, rfl⟩) pa_nil))) (pv 0) (nomark _)))) pss_nil)
  pss_never))), ?_⟩
    walk_at "rd"
    rw [if_neg (by omega), if_neg (by omega)]
    refine ⟨mulL (by decide), ?_⟩
    rw [if_pos (by omega)]
    refine ⟨n, rfl, by omega, by omega, fun r H' hl sm => ?_⟩
    rw [hl.of_prm hp]
    refine ⟨by simp [scal], ?_⟩
    rw [decide_eq_true rfl]
    exact q H' sm
end

local macro_rules | `(tactic| walk_at "rd") => `(tactic| simp (maxSteps := 2000000) only [CB.rd_var, CB.rd_C, CB.rd_op, CB.rd_un, CB.rd_I, CB.rd_I0, CB.rd_U, CB.rd_Eq, CB.rd_Ne, CB.rd_test, CB.rd_B, CB.rd_and, CB.rd_or, CB.rd_not, CB.rd_andV, CB.rd_orV, CB.rd_notV, CB.rd_if, CB.rd_chain, CB.rd_chain3,
  CB.rd_next, CB.rd_seq, CB.rd_drop, CB.rd_ret, CB.rd_retN, CB.rd_break, CB.rd_cont, CB.rd_ifS, CB.rd_asg, CB.rd_name, CB.rd_gsub, CB.rd_gtup, CB.rd_gcons, CB.rd_gnil, CB.rd_par, CB.rd_aug, CB.rd_ipI, CB.rd_nil, CB.rd_cons, CB.rd_tup, CB.rd_lst, CB.rd_CB, CB.rd_call, CB.rd_callS, CB.rd_ixL, CB.rd_ixT, CB.rd_setL, CB.rd_putS, CB.rd_forZ, CB.rd_lcZ, CB.rd_forE, CB.rd_forEL, CB.rd_lcE, CB.rd_isqrt, CB.rd_sum, CB.rd_append, CB.rd_forL, CB.rd_forT, CB.rd_forR1, CB.rd_forR2, CB.rd_forR3, CB.rd_lcL, CB.rd_lcT, CB.rd_lcR1, CB.rd_lcR2, CB.rd_yes, CB.rd_sl, CB.rd_noPart, CB.rd_part, CB.rd_slL, CB.rd_wipe0, CB.rd_rep, CB.rd_tupOf, CB.rd_lenS, CB.rd_gcd, CB.rd_wipe1, CB.rd_sorted3, CB.rd_any, CB.rd_all, CB.rd_ext, CB.rd_glst, CB.rd_sortedM, CB.rd_minD, CB.rd_indexD, CB.rd_pop, CB.rd_dnew, CB.rd_dget, CB.rd_dget2, CB.rd_dput, CB.rd_dm, CB.rd_anyI, CB.rd_ixDC, CB.rd_inDC, CB.rd_cat, CB.rd_lcZR, CB.rd_revR1, CB.rd_max2, CB.rd_forRv, CB.rd_ins, CB.rd_revT, CB.rd_tailR, CB.rd_lc2, CB.rd_inL, CB.rd_listOf, CB.rd_inI, CB.rd_idxI,
  L2.start, List.map_cons, List.map_nil, List.length_cons, List.length_nil, Nat.reduceAdd, Nat.reduceSub, List.replicate_succ, List.replicate_zero,
  V.int.injEq, V.ref.injEq, V.bl.injEq, V.str.injEq, Option.some.injEq, List.cons.injEq, exists_and_left, exists_eq_left', exists_eq_left, reduceCtorEq, false_and, and_false, or_false, false_or, exists_false, exists_const, and_assoc, true_and, and_true,
  CB.scal_int, CB.scal_str, CB.dec_ii, CB.ite_dec, CB.ite_ndec, List.getElem?_cons_zero, List.getElem?_cons_succ, List.set_cons_zero, List.set_cons_succ, List.append_nil, List.cons_append, List.nil_append, if_true, if_false, Bool.false_eq_true, Bool.not_true, Bool.not_false, CB.K_nox, CB.K_cxOf, eq_self])
local macro_rules | `(tactic| walk_at "rs") => `(tactic| simp (maxSteps := 2000000) only [CB.rd_var, CB.rd_C, CB.rd_op, CB.rd_un, CB.rd_I, CB.rd_I0, CB.rd_U, CB.rd_Eq, CB.rd_Ne, CB.rd_test, CB.rd_B, CB.rd_and, CB.rd_or, CB.rd_not, CB.rd_andV, CB.rd_orV, CB.rd_notV, CB.rd_if, CB.rd_chain, CB.rd_chain3,
  CB.rd_next, CB.rd_drop, CB.rd_ret, CB.rd_retN, CB.rd_break, CB.rd_cont, CB.rd_ifS, CB.rd_asg, CB.rd_name, CB.rd_gsub, CB.rd_gtup, CB.rd_gcons, CB.rd_gnil, CB.rd_par, CB.rd_aug, CB.rd_ipI, CB.rd_nil, CB.rd_cons, CB.rd_tup, CB.rd_lst, CB.rd_CB, CB.rd_call, CB.rd_callS, CB.rd_ixL, CB.rd_ixT, CB.rd_setL, CB.rd_putS, CB.rd_forZ, CB.rd_lcZ, CB.rd_forE, CB.rd_forEL, CB.rd_lcE, CB.rd_isqrt, CB.rd_sum, CB.rd_append, CB.rd_forL, CB.rd_forT, CB.rd_forR1, CB.rd_forR2, CB.rd_forR3, CB.rd_lcL, CB.rd_lcT, CB.rd_lcR1, CB.rd_lcR2, CB.rd_yes, CB.rd_sl, CB.rd_noPart, CB.rd_part, CB.rd_slL, CB.rd_wipe0, CB.rd_rep, CB.rd_tupOf, CB.rd_lenS, CB.rd_gcd, CB.rd_wipe1, CB.rd_sorted3, CB.rd_any, CB.rd_all, CB.rd_ext, CB.rd_glst, CB.rd_sortedM, CB.rd_minD, CB.rd_indexD, CB.rd_pop, CB.rd_dnew, CB.rd_dget, CB.rd_dget2, CB.rd_dput, CB.rd_dm, CB.rd_anyI, CB.rd_ixDC, CB.rd_inDC, CB.rd_cat, CB.rd_lcZR, CB.rd_revR1, CB.rd_max2, CB.rd_forRv, CB.rd_ins, CB.rd_revT, CB.rd_tailR, CB.rd_lc2, CB.rd_inL, CB.rd_listOf, CB.rd_inI, CB.rd_idxI,
  L2.start, List.map_cons, List.map_nil, List.length_cons, List.length_nil, Nat.reduceAdd, Nat.reduceSub, List.replicate_succ, List.replicate_zero,
  V.int.injEq, V.ref.injEq, V.bl.injEq, V.str.injEq, Option.some.injEq, List.cons.injEq, exists_and_left, exists_eq_left', exists_eq_left, reduceCtorEq, false_and, and_false, or_false, false_or, exists_false, exists_const, and_assoc, true_and, and_true,
  CB.scal_int, CB.scal_str, CB.dec_ii, CB.ite_dec, CB.ite_ndec, List.getElem?_cons_zero, List.getElem?_cons_succ, List.set_cons_zero, List.set_cons_succ, List.append_nil, List.cons_append, List.nil_append, if_true, if_false, Bool.false_eq_true, Bool.not_true, Bool.not_false, CB.K_nox, CB.K_cxOf, eq_self])

local macro_rules | `(tactic| walk_at "nx") => `(tactic| (show tSeq _ _ _ _ _; rw [CB.rd_seq]; walk_at "rs"))


section
variable {P : Program} {w : World} {K : PySem.W.Frag} {mg : Str → Option Value} {base : Heap} {CM CR : Addr}
def vN (ps : List Nat) : List V := ps.map fun k : Nat => V.int (k : Int)
theorem vN_app (ps : List Nat) (r : Nat) : vN ps ++ [V.int (r : Int)] = vN (ps ++ [r]) := by unfold vN; rw [List.map_append]; rfl
theorem vN_len (ps : List Nat) : (vN ps).length = ps.length := List.length_map _
/-- all primes of a number, ascending -/
def PL (n : Nat) (ps : List Nat) : Prop := (∀ q ∈ ps, Prm q) ∧ ps.Pairwise (· ≤ ·) ∧ prodL ps = n
theorem PL.len {n : Nat} {ps : List Nat} (h : PL n ps) (hn : n < 10000000000000) : ps.length < 64 := by
  have a := prodL_pos (ps := ps) fun q hq => (h.1 q hq).1
  rw [h.2.2] at a
  rcases Nat.lt_or_ge ps.length 64 with c | c
  · exact c
  · have : 2 ^ 64 ≤ 2 ^ ps.length := Nat.pow_le_pow_right (by decide) c
    omega
theorem pw_snoc {α : Type} {R : α → α → Prop} {l : List α} {x : α} (h : l.Pairwise R) (hx : ∀ y ∈ l, R y x) : (l ++ [x]).Pairwise R :=
  List.pairwise_append.mpr ⟨h, List.pairwise_singleton _ _, fun a ha b hb => by
    rw [List.mem_singleton] at hb
    subst hb
    exact hx a ha⟩
abbrev s__prime_list : Stmt := top 24
theorem sc__prime_list : FnScope ["n", "found", "p", "waiting", "part", "d"] ["n"] (defScope s__prime_list) := ⟨rfl, rfl, rfl, by decide +kernel, rfl, by decide +kernel, by decide +kernel⟩

def spPList : Sp := fun vs H Q _ => ∃ n : Nat, vs = [.int n] ∧ 0 < n ∧ n < 10000000000000 ∧ Smo n ∧ ∀ ps p H', Same H H' → H p = none → H' p = some (.lst (vN ps)) → PL n ps → Q (.ref p) H'
theorem cal_plist (D : Dn K mg "_prime_list" s__prime_list ["n"]) (B : Bl mg) (c_least_divisor : Cal P w K mg base "least_divisor" 1 ["n", "most"] spLeast) (c_is_prime : Cal P w K mg base "is_prime" 2 ["n"] spPrime) : Cal P w K mg base "_prime_list" 3 ["n"] spPList := by
  refine D.cal sc__prime_list (fun vs H Q E h => ?_) (fun f cdv A outer s H vs Q E hr h => ?_)
  · obtain ⟨n, rfl, _⟩ := h
    rfl
  · obtain ⟨n, rfl, n0, nb, hsm, q⟩ := h
    have hB : (10000000000000 : Int) < BIG := by decide +kernel
    refine ⟨_, (pss_cons (ps_set (i := 1) sc__prime_list.nd rfl (Or.inl rfl) (pe_lst pa_nil))
  (pss_cons (ps_set (i := 2) sc__prime_list.nd rfl (Or.inl rfl) (pe_cal c_least_divisor (hr.mono (by decide)) rfl (pa_cons (pv 0) (pa_cons (pe_glob (v := .int 1000) rfl B.c_TRIED_TO.choose_spec ⟨_, rfl⟩) pa_nil))))
  (pss_cons (ps_while PassesOwn.never (PW.pt (pw_and (pt_cmpR op_le (pv 2) (pe_glob (v := .int 1000) rfl B.c_TRIED_TO.choose_spec ⟨_, rfl⟩) (nomark _)) (pw_and1 (pt_cmpR op_gt (pv 0) pe_int (nomark _))))) (pss_cons (ps_expr (pe_bm PySem.F.plainAttrs_list PySem.F.slot_list_append PySem.F.type_list_append mt_append (pv 1) (pa_cons (pv 2) pa_nil)))
  (pss_cons (ps_aug (i := 0) sc__prime_list.nd rfl (Or.inl rfl) (pv 2) iop_fdivW)
  (pss_one (ps_set (i := 2) sc__prime_list.nd rfl (Or.inl rfl) (pe_cal c_least_divisor (hr.mono (by decide)) rfl (pa_cons (pv 0) (pa_cons (pe_glob (v := .int 1000) rfl B.c_TRIED_TO.choose_spec ⟨_, rfl⟩) pa_nil))))))))
  (pss_cons (ps_set (i := 3) sc__prime_list.nd rfl (Or.inl rfl) (pe_ifExp (pt_cmpR op_gt (pv 0) pe_int (nomark _)) (pe_lst (pa_cons (pv 0) pa_nil)) (pe_lst pa_nil)))
  (pss_cons (ps_while PassesOwn.never (pt_truth (pv 3) (by intro _; rfl)) (pss_cons (ps_set (i := 4) sc__prime_list.nd rfl (Or.inl rfl) (pe_bm0 PySem.F.plainAttrs_list PySem.F.slot_list_pop PySem.F.type_list_pop mt_pop (pv 3)))
  (pss_one (ps_if (pt_val (pe_cal c_is_prime (hr.mono (by decide)) rfl (pa_cons (pv 4) pa_nil))) (pss_one (ps_expr (pe_bm PySem.F.plainAttrs_list PySem.F.slot_list_append PySem.F.type_list_append mt_append (pv 1) (pa_cons (pv 4) pa_nil)))) pss_never))))
  (pss_one (ps_ret (pv 1)))))))), ?_⟩
    rw [CB.rd_seq]
    walk_at "rs"
    refine ⟨by decide, fun l nl => ?_⟩
    show tSeq _ _ _ _ _
    rw [CB.rd_seq]
    walk_at "rs"
    refine ⟨n, rfl, n0, by omega, fun r0 H0 hr0 s0 => ?_⟩
    have hl0 : H0 l = some (.lst (vN [])) := s0 _ _ upd_same
    have s00 : Same H H0 := (same_upd nl).trans s0
    show tSeq _ _ _ _ _
    refine seq_cut (fun σ H1 => ∃ (m r : Nat) (ps : List Nat), σ = [some (.int m), some (.ref l), some (.int r), none, none, none] ∧ Same H H1 ∧ H1 l = some (.lst (vN ps)) ∧ 0 < m ∧ prodL ps * m = n ∧ (∀ q ∈ ps, Prm q) ∧ ps.Pairwise (· ≤ ·) ∧ (∀ q ∈ ps, ∀ e, 2 ≤ e → e ∣ m → q ≤ e) ∧ (m = 1 ∨ (Prm m ∧ m ≤ 1000000))) (fun R hR => ?_) ?_
    · refine while_w (fun σ H1 => ∃ (m r : Nat) (ps : List Nat), σ = [some (.int m), some (.ref l), some (.int r), none, none, none] ∧ Same H H1 ∧ H1 l = some (.lst (vN ps)) ∧ 0 < m ∧ prodL ps * m = n ∧ (∀ q ∈ ps, Prm q) ∧ ps.Pairwise (· ≤ ·) ∧ (∀ q ∈ ps, ∀ e, 2 ≤ e → e ∣ m → q ≤ e) ∧ LD m r)
        (fun σ _ => match σ with | [some (.int m), _, _, _, _, _] => m.toNat | _ => 0) ⟨n, r0, [], rfl, s00, hl0, n0, Nat.one_mul n, fun q hq => by simp at hq, List.Pairwise.nil, fun q hq => by simp at hq, hr0⟩ ?_
      rintro σ H1 ⟨m, r, ps, rfl, sm, hl, m0, hpr, hp, hso, hle, hld⟩ N hN
      have mn : m ≤ n := by
        rw [← hpr]
        refine Nat.le_mul_of_pos_left _ ?_
        have := prodL_pos (ps := ps) fun q hq => (hp q hq).1
        have : 0 < 2 ^ ps.length := Nat.pow_pos (by decide)
        omega
      refine ⟨decide (r ≤ 1000 ∧ 1 < m), fun Q' q' => ?_, fun hb => ?_, fun hb => ?_⟩
      · walk_at "rd"
        refine ite2 (fun c => ?_) (fun c => ?_)
        · rw [show decide (r ≤ 1000 ∧ 1 < m) = decide ((1 : Int) < (m : Int)) from decide_eq_decide.mpr (by omega)] at q'
          exact q'
        · rw [decide_eq_false (by omega)] at q'
          exact q'
      · obtain ⟨c1, c2⟩ := of_decide_eq_true hb
        obtain ⟨rp, rd, rl⟩ := hld.prm c1 c2
        have r2 := rp.1
        obtain ⟨c, hc⟩ := rd
        have hc0 : 0 < c := by
          rcases Nat.eq_zero_or_pos c with z | z
          · subst z; omega
          · exact z
        have len : ps.length < 64 := by
          have a := prodL_pos (ps := ps) fun q hq => (hp q hq).1
          rcases Nat.lt_or_ge ps.length 64 with z | z
          · exact z
          · have : 2 ^ 64 ≤ 2 ^ ps.length := Nat.pow_le_pow_right (by decide) z
            have : prodL ps ≤ n := by rw [← hpr]; exact Nat.le_mul_of_pos_right _ m0
            omega
        rw [CB.rd_seq]
        walk_at "rs"
        refine ⟨tyL hl, vN ps, hl, by rw [vN_len]; exact small_size (by omega), ?_⟩
        rw [vN_app]
        have sm1 : Same H (upd H1 l (.lst (vN (ps ++ [r])))) := same_at sm nl
        have hl1 : (upd H1 l (.lst (vN (ps ++ [r])))) l = some (.lst (vN (ps ++ [r]))) := upd_same
        generalize upd H1 l (.lst (vN (ps ++ [r]))) = H2 at *
        have hdiv : (m : Int) / (r : Int) = (c : Int) := by
          rw [hc]
          rw [Int.natCast_mul, Int.mul_ediv_cancel_left _ (by omega)]
        show tSeq _ _ _ _ _
        rw [CB.rd_seq]
        walk_at "rs"
        refine ⟨wide_div (b := 60) (by omega) (by show r < 2 ^ 60; omega) (by decide) (by decide), ?_⟩
        rw [hdiv]
        have cn : c ≤ n := by
          have : c ≤ m := by rw [hc]; exact Nat.le_mul_of_pos_left _ (by omega)
          omega
        refine ⟨c, rfl, hc0, by omega, fun r1 H3 hr1 s3 => ?_⟩
        refine hN _ _ ⟨c, r1, ps ++ [r], rfl, sm1.trans s3, s3 _ _ hl1, hc0, ?_, ?_, ?_, ?_, hr1⟩ ?_
        · rw [prodL_app, ← hpr, hc]
          show prodL ps * (r * 1) * c = prodL ps * (r * c)
          rw [Nat.mul_one, Nat.mul_assoc]
        · intro x hx
          rw [List.mem_append, List.mem_singleton] at hx
          rcases hx with hx | rfl
          · exact hp x hx
          · exact rp
        · exact pw_snoc hso fun y hy => hle y hy r r2 ⟨c, hc⟩
        · intro x hx e e2 ed
          have em : e ∣ m := by rw [hc]; exact Nat.dvd_trans ed (Nat.dvd_mul_left c r)
          rw [List.mem_append, List.mem_singleton] at hx
          rcases hx with hx | rfl
          · exact hle x hx e e2 em
          · exact rl e e2 em
        · show (c : Int).toNat < (m : Int).toNat
          have : c * 2 ≤ m := by rw [hc, Nat.mul_comm]; exact Nat.mul_le_mul_right c r2
          omega
      · have c := of_decide_eq_false hb
        refine hR _ _ ⟨m, r, ps, rfl, sm, hl, m0, hpr, hp, hso, hle, ?_⟩
        rcases Nat.lt_or_ge 1 m with z | z
        · exact .inr (hld.rest (by omega) m0 fun x hx hr => hsm x (by rw [← hpr]; exact Nat.dvd_trans hx (Nat.dvd_mul_left m _)) hr)
        · left; omega
    rintro σ H1 ⟨m, r, ps, rfl, sm, hl, m0, hpr, hp, hso, hle, hm⟩
    have len : ps.length < 64 := by
      have a := prodL_pos (ps := ps) fun q hq => (hp q hq).1
      rcases Nat.lt_or_ge ps.length 64 with z | z
      · exact z
      · have : 2 ^ 64 ≤ 2 ^ ps.length := Nat.pow_le_pow_right (by decide) z
        have : prodL ps ≤ n := by rw [← hpr]; exact Nat.le_mul_of_pos_right _ m0
        omega
    refine seq_cut (fun σ H2 => ∃ lw ws, σ = [some (.int m), some (.ref l), some (.int r), some (.ref lw), none, none] ∧ Same H1 H2 ∧ H1 lw = none ∧ H2 lw = some (.lst (vN ws)) ∧ ((ws = [m] ∧ Prm m ∧ m ≤ 1000000) ∨ (ws = [] ∧ m = 1))) (fun R hR => ?_) ?_
    · walk_at "rd"
      refine ite2 (fun c => ⟨by decide, fun lw nw => ?_⟩) (fun c => ⟨by decide, fun lw nw => ?_⟩)
      · exact hR _ _ ⟨lw, [m], rfl, same_upd nw, nw, upd_same, .inl ⟨rfl, by
          rcases hm with z | z
          · omega
          · exact z⟩⟩
      · exact hR _ _ ⟨lw, [], rfl, same_upd nw, nw, upd_same, .inr ⟨rfl, by omega⟩⟩
    rintro σ H2 ⟨lw, ws, rfl, s2, nlw, hlw, hws⟩
    have hl2 := s2 _ _ hl
    have lne : l ≠ lw := ne_of_none hl nlw
    have nlwH : H lw = none := by
      rcases hh : H lw with _ | o
      · rfl
      · have := sm _ _ hh
        rw [this] at nlw
        cases nlw
    rw [CB.rd_seq]
    refine while_w (fun σ H3 => ∃ ws ps' s4, σ = [some (.int m), some (.ref l), some (.int r), some (.ref lw), s4, none] ∧ Same H H3 ∧ H3 lw = some (.lst (vN ws)) ∧ H3 l = some (.lst (vN ps')) ∧ ((ws = [m] ∧ ps' = ps ∧ Prm m ∧ m ≤ 1000000) ∨ (ws = [] ∧ PL n ps')))
      (fun σ H3 => match H3 lw with | some (.lst zs) => zs.length | _ => 0) ⟨ws, ps, none, rfl, sm.trans s2, hlw, hl2, ?_⟩ ?_
    · rcases hws with ⟨e, h1, h2⟩ | ⟨e, h1⟩
      · exact .inl ⟨e, rfl, h1, h2⟩
      · refine .inr ⟨e, hp, hso, ?_⟩
        rw [← hpr, h1, Nat.mul_one]
    rintro σ H3 ⟨ws, ps', s4, rfl, s3, hw3, hl3, hc⟩ N hN
    refine ⟨!ws.isEmpty, fun Q' q' => ?_, fun hb => ?_, fun hb => ?_⟩
    · refine ⟨_, rfl, _, .inl ⟨_, SqL.of hw3, rfl⟩, ?_⟩
      have e : (vN ws).isEmpty = ws.isEmpty := by cases ws <;> rfl
      rw [e]
      exact q'
    · rcases hc with ⟨rfl, rfl, hpm, hm6⟩ | ⟨rfl, _⟩
      · rw [CB.rd_seq]
        walk_at "rs"
        refine ⟨tyL hw3, vN [m], hw3, .int m, rfl, ?_⟩
        have sa : Same H (upd H3 lw (.lst [])) := same_at s3 nlwH
        have hw4 : (upd H3 lw (.lst [])) lw = some (.lst []) := upd_same
        have hl4 : (upd H3 lw (.lst [])) l = some (.lst (vN ps')) := by rw [upd_ne lne]; exact hl3
        show spPrime [V.int ↑m] (upd H3 lw (.lst [])) _ _
        generalize upd H3 lw (.lst []) = H4 at *
        refine ⟨m, rfl, hpm, hm6, fun H5 s5 => ⟨true, rfl, ?_⟩⟩
        rw [if_pos rfl]
        refine ⟨tyL (s5 _ _ hl4), _, s5 _ _ hl4, by rw [vN_len]; exact small_size (by omega), ?_⟩
        rw [vN_app]
        have hw5 := s5 _ _ hw4
        refine hN _ _ ⟨[], ps' ++ [m], _, rfl, same_at (sa.trans s5) nl, ?_, upd_same, .inr ⟨rfl, ?_, ?_, ?_⟩⟩ ?_
        · rw [upd_ne lne.symm]
          exact hw5
        · intro x hx
          rw [List.mem_append, List.mem_singleton] at hx
          rcases hx with hx | rfl
          · exact hp x hx
          · exact hpm
        · exact pw_snoc hso fun y hy => hle y hy m hpm.1 (Nat.dvd_refl m)
        · rw [prodL_app, ← hpr]
          show prodL ps' * (m * 1) = _
          rw [Nat.mul_one]
        · show (match (upd H5 l (.lst (vN (ps' ++ [m])))) lw with | some (.lst zs) => zs.length | _ => 0) < (match H3 lw with | some (.lst zs) => zs.length | _ => 0)
          rw [upd_ne lne.symm, hw5, hw3]
          exact Nat.zero_lt_one
      · cases hb
    · rcases hc with ⟨rfl, _⟩ | ⟨rfl, hPL⟩
      · cases hb
      · walk_at "rd"
        exact q ps' l H3 s3 nl hl3 hPL
end
section
variable {P : Program} {w : World} {K : PySem.W.Frag} {mg : Str → Option Value} {base : Heap} {CM CR : Addr}
/-- pairs of numbers, at addresses -/
def PrN (H : Hp) : List V → List (Nat × Nat) → Prop
  | [], [] => True
  | v :: vs, q :: qs => (∃ t, v = .ref t ∧ H t = some (.tup [.int (q.1 : Int), .int (q.2 : Int)])) ∧ PrN H vs qs
  | _, _ => False
theorem PrN.same {H H' : Hp} (s : Same H H') : ∀ {vs : List V} {qs : List (Nat × Nat)}, PrN H vs qs → PrN H' vs qs
  | [], [], h => h
  | _ :: _, _ :: _, ⟨⟨t, e, h⟩, hs⟩ => ⟨⟨t, e, s _ _ h⟩, PrN.same s hs⟩
  | [], _ :: _, h => h.elim
  | _ :: _, [], h => h.elim
theorem PrN.updL {H : Hp} {D : Addr} {l : List V} {o : HO} (e : H D = some (.lst l)) : ∀ {vs : List V} {qs : List (Nat × Nat)}, PrN H vs qs → PrN (upd H D o) vs qs
  | [], [], h => h
  | _ :: _, _ :: _, ⟨⟨t, e1, h⟩, hs⟩ => ⟨⟨t, e1, by rw [upd_ne (ne_of h e (by intro z; cases z))]; exact h⟩, PrN.updL e hs⟩
  | [], _ :: _, h => h.elim
  | _ :: _, [], h => h.elim
theorem PrN.snoc {H : Hp} {v : V} {q : Nat × Nat} (h : ∃ t, v = .ref t ∧ H t = some (.tup [.int (q.1 : Int), .int (q.2 : Int)])) : ∀ {vs : List V} {qs : List (Nat × Nat)}, PrN H vs qs → PrN H (vs ++ [v]) (qs ++ [q])
  | [], [], _ => ⟨h, trivial⟩
  | _ :: _, _ :: _, ⟨g, gs⟩ => ⟨g, PrN.snoc h gs⟩
  | [], _ :: _, g => g.elim
  | _ :: _, [], g => g.elim
theorem PrN.len {H : Hp} : ∀ {vs : List V} {qs : List (Nat × Nat)}, PrN H vs qs → vs.length = qs.length
  | [], [], _ => rfl
  | _ :: _, _ :: _, ⟨_, gs⟩ => by rw [List.length_cons, List.length_cons, PrN.len gs]
  | [], _ :: _, g => g.elim
  | _ :: _, [], g => g.elim
theorem PrN.get {H : Hp} : ∀ {vs : List V} {qs : List (Nat × Nat)} {j : Nat} {v : V}, PrN H vs qs → vs[j]? = some v → ∃ q t, qs[j]? = some q ∧ v = .ref t ∧ H t = some (.tup [.int (q.1 : Int), .int (q.2 : Int)])
  | v :: vs, q :: qs, 0, u, ⟨⟨t, e, h⟩, _⟩, he => by
    cases he
    exact ⟨q, t, rfl, e, h⟩
  | v :: vs, q :: qs, j + 1, u, ⟨_, gs⟩, he => by
    rw [List.getElem?_cons_succ] at he ⊢
    exact PrN.get gs he
  | [], [], _, _, _, e => by simp at e
  | [], _ :: _, _, _, g, _ => g.elim
  | _ :: _, [], _, _, g, _ => g.elim
/-- the factors: primes ascending, their exponents -/
def FL (n : Nat) (l : List (Nat × Nat)) : Prop := (∀ q ∈ l, Prm q.1) ∧ l.Pairwise (fun x y => x.1 < y.1) ∧ prodC (fun c => c) l = n
theorem getC_none {l : List (Nat × Nat)} {p : Nat} (h : ∀ q ∈ l, q.1 < p) : getC l p = none := by
  unfold getC
  rw [List.find?_eq_none.mpr fun q hq => by
    have := h q hq
    simp
    omega]
  rfl
theorem getC_last {l : List (Nat × Nat)} {p c : Nat} (h : ∀ q ∈ l, q.1 < p) : getC (l ++ [(p, c)]) p = some c := by
  unfold getC
  rw [List.find?_append, List.find?_eq_none.mpr fun q hq => by
    have := h q hq
    simp
    omega]
  simp
theorem bump_none {l : List (Nat × Nat)} {p c : Nat} (h : ∀ q ∈ l, q.1 < p) : bumpC l p c = l ++ [(p, c)] := by
  unfold bumpC
  rw [if_neg]
  intro z
  obtain ⟨q, hq, e⟩ := List.any_eq_true.mp z
  have := h q hq
  have := of_decide_eq_true e
  omega
theorem bump_last {l : List (Nat × Nat)} {p c d : Nat} (h : ∀ q ∈ l, q.1 < p) : bumpC (l ++ [(p, c)]) p d = l ++ [(p, d)] := by
  unfold bumpC
  rw [if_pos (by simp)]
  rw [List.map_append]
  congr 1
  · have : ∀ q ∈ l, (fun q : Nat × Nat => if q.1 = p then (q.1, d) else q) q = q := fun q hq => by
      have := h q hq
      show (if q.1 = p then _ else _) = _
      rw [if_neg (by omega)]
    rw [List.map_congr_left this, List.map_id']
  · show [if p = p then (p, d) else _] = _
    rw [if_pos rfl]
/-- counting one more prime, none less than those before -/
theorem count_step {n p : Nat} {l : List (Nat × Nat)} (h : FL n l) (hp : Prm p) (hle : ∀ q ∈ l, q.1 ≤ p) (hc : ∀ q ∈ l, 0 < q.2) :
    ∃ c, (getC l p).getD 0 = c ∧ FL (n * p) (bumpC l p (c + 1)) ∧ ∀ q ∈ bumpC l p (c + 1), q.1 ≤ p ∧ 0 < q.2 := by
  obtain ⟨h1, h2, h3⟩ := h
  rcases Classical.em (∃ q ∈ l, q.1 = p) with ⟨q, hq, e⟩ | hno
  · -- p is the last
    obtain ⟨a, b, rfl⟩ := List.append_of_mem hq
    have hb : b = [] := by
      rcases b with _ | ⟨r, b⟩
      · rfl
      · obtain ⟨_, hp2, _⟩ := List.pairwise_append.mp h2
        have := (List.pairwise_cons.mp hp2).1 r List.mem_cons_self
        have := hle r (by simp)
        omega
    subst hb
    have ha : ∀ x ∈ a, x.1 < p := fun x hx => by
      have := (List.pairwise_append.mp h2).2.2 x hx q List.mem_cons_self
      omega
    obtain ⟨q1, q2⟩ := q
    have e : q1 = p := e
    subst e
    refine ⟨q2, by rw [getC_last ha]; rfl, ?_, ?_⟩
    · rw [bump_last ha]
      refine ⟨fun x hx => ?_, ?_, ?_⟩
      · rw [List.mem_append, List.mem_singleton] at hx
        rcases hx with hx | rfl
        · exact h1 x (List.mem_append_left _ hx)
        · exact hp
      · exact pw_snoc (List.pairwise_append.mp h2).1 ha
      · rw [← h3, prodC_app, prodC_app]
        show _ * (q1 ^ (q2 + 1) * 1) = _ * (q1 ^ q2 * 1) * q1
        rw [Nat.pow_succ]
        grind
    · rw [bump_last ha]
      intro x hx
      rw [List.mem_append, List.mem_singleton] at hx
      rcases hx with hx | rfl
      · exact ⟨Nat.le_of_lt (ha x hx), hc x (List.mem_append_left _ hx)⟩
      · exact ⟨Nat.le_refl _, Nat.succ_pos _⟩
  · have ha : ∀ x ∈ l, x.1 < p := fun x hx => by
      have := hle x hx
      have : x.1 ≠ p := fun e => hno ⟨x, hx, e⟩
      omega
    refine ⟨0, by rw [getC_none ha]; rfl, ?_, ?_⟩
    · rw [bump_none ha]
      refine ⟨fun x hx => ?_, pw_snoc h2 ha, ?_⟩
      · rw [List.mem_append, List.mem_singleton] at hx
        rcases hx with hx | rfl
        · exact h1 x hx
        · exact hp
      · rw [← h3, prodC_app]
        show _ * (p ^ 1 * 1) = _
        rw [Nat.pow_one, Nat.mul_one]
    · rw [bump_none ha]
      intro x hx
      rw [List.mem_append, List.mem_singleton] at hx
      rcases hx with hx | rfl
      · exact ⟨Nat.le_of_lt (ha x hx), hc x hx⟩
      · exact ⟨Nat.le_refl _, Nat.succ_pos _⟩
theorem FL.keys {n : Nat} {l : List (Nat × Nat)} (h : FL n l) {q : Nat × Nat} (hq : q ∈ l) : getC l q.1 = some q.2 := by
  obtain ⟨_, h2, _⟩ := h
  obtain ⟨a, b, rfl⟩ := List.append_of_mem hq
  have ha : ∀ x ∈ a, x.1 < q.1 := fun x hx => (List.pairwise_append.mp h2).2.2 x hx q List.mem_cons_self
  unfold getC
  rw [List.find?_append, List.find?_eq_none.mpr fun x hx => by
    have := ha x hx
    simp
    omega]
  simp
theorem sort_uniq {ns ms : List Int} (h1 : ns.Pairwise (· ≤ ·)) (h2 : ms.Pairwise (· ≤ ·)) (h : ns.Perm ms) : ns = ms :=
  List.Perm.eq_of_pairwise (fun _ _ _ _ a b => Int.le_antisymm a b) h1 h2 h
theorem FL.len {n : Nat} {l : List (Nat × Nat)} (h : FL n l) (hc : ∀ q ∈ l, 0 < q.2) (hn : n < 10000000000000) : l.length < 64 := by
  have a : ∀ {l : List (Nat × Nat)}, (∀ q ∈ l, Prm q.1) → (∀ q ∈ l, 0 < q.2) → 2 ^ l.length ≤ prodC (fun c => c) l := by
    intro l
    induction l with
    | nil => intro _ _; decide
    | cons q l ih =>
      intro h1 h2
      show 2 ^ (l.length + 1) ≤ q.1 ^ q.2 * prodC (fun c => c) l
      have i := ih (fun x hx => h1 x (List.mem_cons_of_mem _ hx)) (fun x hx => h2 x (List.mem_cons_of_mem _ hx))
      have p2 := (h1 q List.mem_cons_self).1
      have c0 := h2 q List.mem_cons_self
      have : q.1 ≤ q.1 ^ q.2 := Nat.le_self_pow (by omega) q.1
      have := Nat.mul_le_mul (show 2 ≤ q.1 ^ q.2 by omega) i
      rw [Nat.pow_succ]
      omega
  have := a h.1 hc
  rw [h.2.2] at this
  rcases Nat.lt_or_ge l.length 64 with c | c
  · exact c
  · have : 2 ^ 64 ≤ 2 ^ l.length := Nat.pow_le_pow_right (by decide) c
    omega
end

local macro_rules | `(tactic| walk_at "rd") => `(tactic| simp (maxSteps := 2000000) only [CB.rd_var, CB.rd_C, CB.rd_op, CB.rd_un, CB.rd_I, CB.rd_I0, CB.rd_U, CB.rd_Eq, CB.rd_Ne, CB.rd_test, CB.rd_B, CB.rd_and, CB.rd_or, CB.rd_not, CB.rd_andV, CB.rd_orV, CB.rd_notV, CB.rd_if, CB.rd_chain, CB.rd_chain3,
  CB.rd_next, CB.rd_seq, CB.rd_drop, CB.rd_ret, CB.rd_retN, CB.rd_break, CB.rd_cont, CB.rd_ifS, CB.rd_asg, CB.rd_name, CB.rd_gsub, CB.rd_gtup, CB.rd_gcons, CB.rd_gnil, CB.rd_par, CB.rd_aug, CB.rd_ipI, CB.rd_nil, CB.rd_cons, CB.rd_tup, CB.rd_lst, CB.rd_CB, CB.rd_call, CB.rd_callS, CB.rd_ixL, CB.rd_ixT, CB.rd_setL, CB.rd_putS, CB.rd_forZ, CB.rd_lcZ, CB.rd_forE, CB.rd_forEL, CB.rd_lcE, CB.rd_isqrt, CB.rd_sum, CB.rd_append, CB.rd_forL, CB.rd_forT, CB.rd_forR1, CB.rd_forR2, CB.rd_forR3, CB.rd_lcL, CB.rd_lcT, CB.rd_lcR1, CB.rd_lcR2, CB.rd_yes, CB.rd_sl, CB.rd_noPart, CB.rd_part, CB.rd_slL, CB.rd_wipe0, CB.rd_rep, CB.rd_tupOf, CB.rd_lenS, CB.rd_gcd, CB.rd_wipe1, CB.rd_sorted3, CB.rd_any, CB.rd_all, CB.rd_ext, CB.rd_glst, CB.rd_sortedM, CB.rd_minD, CB.rd_indexD, CB.rd_pop, CB.rd_dnew, CB.rd_dget, CB.rd_dget2, CB.rd_dput, CB.rd_dm, CB.rd_anyI, CB.rd_ixDC, CB.rd_inDC, CB.rd_cat, CB.rd_lcZR, CB.rd_revR1, CB.rd_max2, CB.rd_forRv, CB.rd_ins, CB.rd_revT, CB.rd_tailR, CB.rd_lc2, CB.rd_inL, CB.rd_listOf, CB.rd_inI, CB.rd_idxI,
  L2.start, List.map_cons, List.map_nil, List.length_cons, List.length_nil, Nat.reduceAdd, Nat.reduceSub, List.replicate_succ, List.replicate_zero,
  V.int.injEq, V.ref.injEq, V.bl.injEq, V.str.injEq, Option.some.injEq, List.cons.injEq, exists_and_left, exists_eq_left', exists_eq_left, reduceCtorEq, false_and, and_false, or_false, false_or, exists_false, exists_const, and_assoc, true_and, and_true,
  CB.scal_int, CB.scal_str, CB.dec_ii, CB.ite_dec, CB.ite_ndec, List.getElem?_cons_zero, List.getElem?_cons_succ, List.set_cons_zero, List.set_cons_succ, List.append_nil, List.cons_append, List.nil_append, if_true, if_false, Bool.false_eq_true, Bool.not_true, Bool.not_false, CB.K_nox, CB.K_cxOf, eq_self])
local macro_rules | `(tactic| walk_at "rs") => `(tactic| simp (maxSteps := 2000000) only [CB.rd_var, CB.rd_C, CB.rd_op, CB.rd_un, CB.rd_I, CB.rd_I0, CB.rd_U, CB.rd_Eq, CB.rd_Ne, CB.rd_test, CB.rd_B, CB.rd_and, CB.rd_or, CB.rd_not, CB.rd_andV, CB.rd_orV, CB.rd_notV, CB.rd_if, CB.rd_chain, CB.rd_chain3,
  CB.rd_next, CB.rd_drop, CB.rd_ret, CB.rd_retN, CB.rd_break, CB.rd_cont, CB.rd_ifS, CB.rd_asg, CB.rd_name, CB.rd_gsub, CB.rd_gtup, CB.rd_gcons, CB.rd_gnil, CB.rd_par, CB.rd_aug, CB.rd_ipI, CB.rd_nil, CB.rd_cons, CB.rd_tup, CB.rd_lst, CB.rd_CB, CB.rd_call, CB.rd_callS, CB.rd_ixL, CB.rd_ixT, CB.rd_setL, CB.rd_putS, CB.rd_forZ, CB.rd_lcZ, CB.rd_forE, CB.rd_forEL, CB.rd_lcE, CB.rd_isqrt, CB.rd_sum, CB.rd_append, CB.rd_forL, CB.rd_forT, CB.rd_forR1, CB.rd_forR2, CB.rd_forR3, CB.rd_lcL, CB.rd_lcT, CB.rd_lcR1, CB.rd_lcR2, CB.rd_yes, CB.rd_sl, CB.rd_noPart, CB.rd_part, CB.rd_slL, CB.rd_wipe0, CB.rd_rep, CB.rd_tupOf, CB.rd_lenS, CB.rd_gcd, CB.rd_wipe1, CB.rd_sorted3, CB.rd_any, CB.rd_all, CB.rd_ext, CB.rd_glst, CB.rd_sortedM, CB.rd_minD, CB.rd_indexD, CB.rd_pop, CB.rd_dnew, CB.rd_dget, CB.rd_dget2, CB.rd_dput, CB.rd_dm, CB.rd_anyI, CB.rd_ixDC, CB.rd_inDC, CB.rd_cat, CB.rd_lcZR, CB.rd_revR1, CB.rd_max2, CB.rd_forRv, CB.rd_ins, CB.rd_revT, CB.rd_tailR, CB.rd_lc2, CB.rd_inL, CB.rd_listOf, CB.rd_inI, CB.rd_idxI,
  L2.start, List.map_cons, List.map_nil, List.length_cons, List.length_nil, Nat.reduceAdd, Nat.reduceSub, List.replicate_succ, List.replicate_zero,
  V.int.injEq, V.ref.injEq, V.bl.injEq, V.str.injEq, Option.some.injEq, List.cons.injEq, exists_and_left, exists_eq_left', exists_eq_left, reduceCtorEq, false_and, and_false, or_false, false_or, exists_false, exists_const, and_assoc, true_and, and_true,
  CB.scal_int, CB.scal_str, CB.dec_ii, CB.ite_dec, CB.ite_ndec, List.getElem?_cons_zero, List.getElem?_cons_succ, List.set_cons_zero, List.set_cons_succ, List.append_nil, List.cons_append, List.nil_append, if_true, if_false, Bool.false_eq_true, Bool.not_true, Bool.not_false, CB.K_nox, CB.K_cxOf, eq_self])

local macro_rules | `(tactic| walk_at "nx") => `(tactic| (show tSeq _ _ _ _ _; rw [CB.rd_seq]; walk_at "rs"))


section
variable {P : Program} {w : World} {K : PySem.W.Frag} {mg : Str → Option Value} {base : Heap} {CM CR : Addr}
abbrev s_factors : Stmt := top 23
theorem sc_factors : FnScope ["n", "counts", "p"] ["n"] (defScope s_factors) := ⟨rfl, rfl, rfl, by decide +kernel, rfl, by decide +kernel, by decide +kernel⟩

def spFac : Sp := fun vs H Q _ => ∃ n : Nat, vs = [.int n] ∧ 0 < n ∧ n < 10000000000000 ∧ Smo n ∧ ∀ l p ts H', Same H H' → H p = none → H' p = some (.tup ts) → PrN H' ts l → FL n l → (∀ q ∈ l, 0 < q.2) → Q (.ref p) H'
theorem prodL_take {ps : List Nat} {i r : Nat} (h : ps[i]? = some r) : prodL (ps.take (i + 1)) = prodL (ps.take i) * r := by
  rw [List.take_add_one, h, prodL_app]
  show _ * (r * 1) = _
  rw [Nat.mul_one]
theorem cal_fac (D : Dn K mg "factors" s_factors ["n"]) (B : Bl mg) (c__prime_list : Cal P w K mg base "_prime_list" 3 ["n"] spPList) : Cal P w K mg base "factors" 4 ["n"] spFac := by
  refine D.cal sc_factors (fun vs H Q E h => ?_) (fun f cdv A outer s H vs Q E hr h => ?_)
  · obtain ⟨n, rfl, _⟩ := h
    rfl
  · obtain ⟨n, rfl, n0, nb, hsm, q⟩ := h
    refine ⟨_, (pss_cons (ps_if (pt_cmpR op_gt (pv 0) (pe_glob (v := .int 100000000000000000000) rfl B.c_LARGEST_primes.choose_spec ⟨_, rfl⟩) (nomark _)) pss_never pss_nil)
  (pss_cons (ps_set (i := 1) sc_factors.nd rfl (Or.inr rfl) pe_dnewK)
  (pss_cons (ps_for PassesOwn.never rfl (pi_list (pe_cal c__prime_list (hr.mono (by decide)) rfl (pa_cons (pv 0) pa_nil))) (pg_name (i := 2) sc_factors.nd rfl (Or.inl rfl)) (pss_one (ps_dput (hu_of hr) (pv 1) (pv 2) (pe_op op_add (pe_dget2 (hu_of hr) (pv 1) (pv 2) pe_int ⟨rfl, rfl, rfl, rfl⟩) pe_int) rfl)))
  (pss_one (ps_ret (pe_callTy cr_tupOf rfl B.tuple boot_tuple (pa_cons (pe_lc (own := [("p", 2)]) rfl sc_factors.nd (pi_list (pe_callB (call_sortedDI rfl) rfl B.sorted (by decide +kernel) (pa_cons (pv 1) pa_nil))) (blkOk_by (N := ["n", "counts", "p"]) (sc := defScope s_factors) (own := [("p", 2)]) (by decide +kernel)) (fun _ _ _ _ _ => (pg_name (i := 2) sc_factors.nd rfl (Or.inl rfl))) (fun _ _ _ _ _ => pts_nil) (fun _ _ _ _ _ => (pe_tup (pa_cons (pv 2) (pa_cons (pe_dget (hu_of hr) (pv 1) (pv 2) (fun _ _ => rfl)) pa_nil))))) pa_nil))))))), ?_⟩
    rw [CB.rd_seq]
    walk_at "rs"
    rw [if_neg (by omega)]
    show tSeq _ _ _ _ _
    rw [CB.rd_seq]
    walk_at "rs"
    intro d nd
    have hd0 : (upd H d (.dK [])) d = some (.dK (dI [])) := upd_same
    have s0 := same_upd (o := .dK []) nd
    generalize upd H d (.dK []) = H0 at *
    show tSeq _ _ _ _ _
    rw [CB.rd_seq]
    walk_at "rs"
    refine ⟨n, rfl, n0, nb, hsm, fun ps lp H1 s1 n1 hlp hPL => ?_⟩
    have plen := hPL.len nb
    refine ⟨lp, rfl, ⟨_, SqL.of hlp⟩, ForL.w (xs := vN ps) (fun i σ H2 => ∃ l s2, σ = [some (.int n), some (.ref d), s2] ∧ Same H H2 ∧ H2 d = some (.dK (dI l)) ∧ H2 lp = some (.lst (vN ps)) ∧ FL (prodL (ps.take i)) l ∧ (∀ q ∈ l, ∀ j r, i ≤ j → ps[j]? = some r → q.1 ≤ r) ∧ (∀ q ∈ l, 0 < q.2) ∧ l.length ≤ i)
      ⟨[], _, rfl, s0.trans s1, s1 _ _ hd0, hlp, ⟨fun q hq => by simp at hq, List.Pairwise.nil, rfl⟩, fun q hq => by simp at hq, fun q hq => by simp at hq, Nat.le_refl _⟩ ?_ ?_ ?_⟩
    · rintro i σ H2 _ ⟨l, s2, rfl, _, _, hl, _⟩
      exact SqL.of hl
    · rintro i v σ H2 hv ⟨l, s2, rfl, sm, hd, hl, hF, hle, hpos, hll⟩ N hN
      unfold vN at hv
      rw [List.getElem?_map] at hv
      obtain ⟨r, hr1, rfl⟩ := Option.map_eq_some_iff.mp hv
      have ip : i < ps.length := (List.getElem?_eq_some_iff.mp hr1).1
      have rp : Prm r := hPL.1 r (List.mem_of_getElem? hr1)
      obtain ⟨c, hc, hF2, hb⟩ := count_step hF rp (fun x hx => hle x hx i r (Nat.le_refl _) hr1) hpos
      walk_at "rd"
      refine ⟨.inl ⟨_, .inl hd⟩, _, dget_I hd, (c : Int), ?_, _, dput_I (c := c + 1) hd (small_size (by omega)), ?_⟩
      · rw [← hc]
        cases getC l r <;> rfl
      · refine hN _ _ ⟨bumpC l r (c + 1), _, rfl, same_at sm nd, upd_same, ?_, ?_, ?_, fun x hx => (hb x hx).2, ?_⟩
        · rw [upd_ne (ne_of hl hd (by intro z; cases z))]
          exact hl
        · rw [prodL_take hr1]
          exact hF2
        · intro x hx j r' hj hr'
          have := (hb x hx).1
          have so := List.pairwise_iff_getElem.mp hPL.2.1 i j ip (List.getElem?_eq_some_iff.mp hr').1 (by omega)
          rw [(List.getElem?_eq_some_iff.mp hr1).2, (List.getElem?_eq_some_iff.mp hr').2] at so
          omega
        · unfold bumpC
          split
          · rw [List.length_map]; omega
          · rw [List.length_append]; simp; omega
    rintro σ H2 ⟨l, s2, rfl, sm, hd, hl, hF, _, hpos, _⟩
    have hF : FL n l := by
      have e : prodL (ps.take (vN ps).length) = n := by rw [vN_len, List.take_length]; exact hPL.2.2
      rw [e] at hF
      exact hF
    have llen := hF.len hpos nb
    walk_at "rd"
    refine ⟨dI l, .inl hd, l.map (fun q => (q.1 : Int)), ?_, by rw [List.length_map]; exact llen, fun ys lq hp hs nq => ?_⟩
    · unfold dI
      rw [List.map_map, List.map_map]
      rfl
    have ey : ys = l.map (fun q => (q.1 : Int)) := sort_uniq hs (List.pairwise_map.mpr (List.Pairwise.imp (fun {a b} h => by omega) hF.2.1)) hp
    subst ey
    have sq := same_upd (o := .lst ((l.map (fun q => (q.1 : Int))).map V.int)) nq
    have hq : (upd H2 lq (.lst ((l.map (fun q => (q.1 : Int))).map V.int))) lq = some (.lst ((l.map (fun q => (q.1 : Int))).map V.int)) := upd_same
    have hd3 := sq _ _ hd
    generalize upd H2 lq (.lst ((l.map (fun q => (q.1 : Int))).map V.int)) = H3 at *
    refine ⟨⟨_, SqL.of hq⟩, LcL.w (xs := (l.map (fun q => (q.1 : Int))).map V.int) (fun i D zs H4 => Same H3 H4 ∧ H4 D = some (.lst zs) ∧ H3 D = none ∧ PrN H4 zs (l.take i)) (fun D nD => ⟨same_upd nD, upd_same, nD, trivial⟩) ?_ ?_ ?_⟩
    · rintro D i zs H4 _ ⟨s4, _⟩
      exact SqL.of (s4 _ _ hq)
    · rintro D i v zs H4 hv ⟨s4, hD, nD, hP⟩ N hN
      rw [List.getElem?_map, List.getElem?_map] at hv
      obtain ⟨r, hr1, rfl⟩ := Option.map_eq_some_iff.mp hv
      obtain ⟨x, hx, rfl⟩ := Option.map_eq_some_iff.mp hr1
      have il : i < l.length := (List.getElem?_eq_some_iff.mp hx).1
      have hk := hF.keys (List.mem_of_getElem? hx)
      have hz := hP.len
      walk_at "rd"
      refine ⟨.int (x.2 : Int), ?_, by decide, fun t nt => ⟨zs, ?_, ?_, hN _ _ ⟨?_, upd_same, nD, ?_⟩⟩⟩
      · have := dget_I (p := x.1) (s4 _ _ hd3)
        rw [hk] at this
        exact this
      · exact same_upd nt _ _ hD
      · rw [hz, List.length_take]
        exact small_size (by omega)
      · exact same_at (s4.trans (same_upd nt)) nD
      · rw [List.take_add_one, hx]
        exact PrN.updL (same_upd nt _ _ hD) (PrN.snoc ⟨t, rfl, upd_same⟩ (hP.same (same_upd nt)))
    · rintro D zs H4 nD ⟨s4, hD, _, hP⟩
      try walk_at "rd"
      rw [List.length_map, List.length_map, List.take_length] at hP
      have s24 := (sm.trans sq).trans s4
      exact ⟨zs, .inl ⟨SqL.of hD, fun t nt => q l t zs _ (s24.trans (same_upd nt)) (s24.free nt) upd_same (hP.same (same_upd nt)) hF hpos⟩⟩
end

/-! ### sums of powers of divisors, below 400 -/
theorem prm_prodC1 {p : Nat} (hp : Prm p) : ∀ {l : List (Nat × Nat)}, (∀ q ∈ l, Prm q.1) → p ∣ prodC (fun c => c) l → ∃ q ∈ l, q.1 = p
  | [], _, d => by
    have := Nat.le_of_dvd (by decide) (show p ∣ 1 from d)
    have := hp.1
    omega
  | q :: l, h, d => by
    rcases hp.euc (show p ∣ q.1 ^ q.2 * prodC (fun c => c) l from d) with d | d
    · have e : p ∣ q.1 := by
        clear h
        generalize q.2 = c at d
        induction c with
        | zero =>
          have := Nat.le_of_dvd (by decide) (show p ∣ 1 from d)
          have := hp.1
          omega
        | succ c ih =>
          rw [Nat.pow_succ] at d
          rcases hp.euc d with d | d
          · exact ih d
          · exact d
      exact ⟨q, List.mem_cons_self, (hp.eq_of_dvd (h q List.mem_cons_self) e).symm⟩
    · obtain ⟨x, hx, e⟩ := prm_prodC1 hp (fun x hx => h x (List.mem_cons_of_mem _ hx)) d
      exact ⟨x, List.mem_cons_of_mem _ hx, e⟩
theorem pow_eq {p : Nat} (hp : 0 < p) {m m' : Nat} (h : ¬ p ∣ m) (h' : ¬ p ∣ m') : ∀ {c c' : Nat}, p ^ c * m = p ^ c' * m' → c = c' ∧ m = m'
  | 0, 0, e => ⟨rfl, by rwa [Nat.pow_zero, Nat.one_mul, Nat.one_mul] at e⟩
  | 0, c' + 1, e => by
    rw [Nat.pow_zero, Nat.one_mul] at e
    exact absurd ⟨p ^ c' * m', by rw [e, Nat.pow_succ]; grind⟩ h
  | c + 1, 0, e => by
    rw [Nat.pow_zero, Nat.one_mul] at e
    exact absurd ⟨p ^ c * m, by rw [← e, Nat.pow_succ]; grind⟩ h'
  | c + 1, c' + 1, e => by
    have e2 : p ^ c * m = p ^ c' * m' := by
      refine Nat.eq_of_mul_eq_mul_left hp ?_
      rw [Nat.pow_succ, Nat.pow_succ] at e
      grind
    have := pow_eq hp h h' e2
    exact ⟨by omega, this.2⟩
/-! ### the divisors of a number, made of its factors -/
def dsF (ds : List Nat) (q : Nat × Nat) : List Nat := ds.flatMap fun d => (List.range (q.2 + 1)).map fun e => d * q.1 ^ e
def dsL (l : List (Nat × Nat)) : List Nat := l.foldl dsF [1]
def DvL (n : Nat) (ds : List Nat) : Prop := ds.Nodup ∧ ∀ d, d ∈ ds ↔ d ∣ n
theorem dsL_snoc (l : List (Nat × Nat)) (q : Nat × Nat) : dsL (l ++ [q]) = dsF (dsL l) q := by
  unfold dsL
  rw [List.foldl_append]
  rfl
theorem rev_rec {α : Type} {motive : List α → Prop} (nil : motive []) (snoc : ∀ l q, motive l → motive (l ++ [q])) (l : List α) : motive l := by
  rw [← List.reverse_reverse l]
  generalize l.reverse = m
  induction m with
  | nil => exact nil
  | cons q m ih => rw [List.reverse_cons]; exact snoc _ q ih
theorem perm_sumN : ∀ {l m : List Nat}, l.Perm m → l.sum = m.sum := fun h => by
  induction h with
  | nil => rfl
  | cons x _ ih => rw [List.sum_cons, List.sum_cons, ih]
  | swap x y l => rw [List.sum_cons, List.sum_cons, List.sum_cons, List.sum_cons]; omega
  | trans _ _ h1 h2 => exact h1.trans h2
theorem part_of {p : Nat} (hp : 2 ≤ p) : ∀ d : Nat, 0 < d → ∃ e m, d = m * p ^ e ∧ ¬ p ∣ m := by
  intro d
  induction d using Nat.strongRecOn with
  | _ d ih =>
    intro h
    by_cases c : p ∣ d
    · obtain ⟨k, rfl⟩ := c
      have k0 : 0 < k := Nat.pos_of_ne_zero fun z => by subst z; simp at h
      obtain ⟨e, m, h1, h2⟩ := ih k (by have := Nat.mul_le_mul_right k hp; omega) k0
      exact ⟨e + 1, m, by rw [Nat.pow_succ, ← Nat.mul_assoc, ← h1, Nat.mul_comm], h2⟩
    · exact ⟨0, d, by simp, c⟩
theorem dsF_ok {p k m : Nat} {ds : List Nat} (hp : Prm p) (hm : 0 < m) (hd : ¬ p ∣ m) (h : DvL m ds) : DvL (m * p ^ k) (dsF ds (p, k)) := by
  have p0 : 0 < p := by have := hp.1; omega
  have nd : ∀ d ∈ ds, ¬ p ∣ d := fun d hd' z => hd (Nat.dvd_trans z ((h.2 d).mp hd'))
  refine ⟨?_, fun d => ⟨fun hx => ?_, fun hx => ?_⟩⟩
  · unfold dsF
    refine List.nodup_iff_pairwise_ne.mpr ?_
    rw [List.pairwise_flatMap]
    refine ⟨fun d hd1 => ?_, ?_⟩
    · rw [List.pairwise_map]
      refine List.Pairwise.imp_of_mem (R := fun a b => a ≠ b) (fun {a b} _ _ hab e => hab ?_) List.nodup_range
      rw [Nat.mul_comm, Nat.mul_comm d] at e
      exact (pow_eq p0 (nd d hd1) (nd d hd1) e).1
    · refine List.Pairwise.imp_of_mem (R := fun a b => a ≠ b) (fun {a b} ha hb hab x hx y hy e => hab ?_) (List.nodup_iff_pairwise_ne.mp h.1)
      obtain ⟨e1, _, rfl⟩ := List.mem_map.mp hx
      obtain ⟨e2, _, rfl⟩ := List.mem_map.mp hy
      have e : a * p ^ e1 = b * p ^ e2 := e
      rw [Nat.mul_comm, Nat.mul_comm b] at e
      exact (pow_eq p0 (nd a ha) (nd b hb) e).2
  · obtain ⟨a, ha, hx⟩ := List.mem_flatMap.mp hx
    obtain ⟨e, he, rfl⟩ := List.mem_map.mp hx
    have he : e ≤ k := by have := List.mem_range.mp he; omega
    exact Nat.mul_dvd_mul ((h.2 a).mp ha) (Nat.pow_dvd_pow p he)
  · have d0 : 0 < d := Nat.pos_of_dvd_of_pos hx (Nat.mul_pos hm (Nat.pow_pos p0))
    obtain ⟨e, a, rfl, ha⟩ := part_of hp.1 d d0
    have cop : ∀ x : Nat, ¬ p ∣ x → ∀ j, Nat.Coprime (p ^ j) x := fun x hx j => Nat.Coprime.pow_left j (by
      rcases hp.gcd (a := x) with g | g
      · exact g
      · exact absurd g hx)
    have h1 : a ∣ m := (cop a ha k).symm.dvd_of_dvd_mul_right (Nat.dvd_trans (Nat.dvd_mul_right _ _) hx)
    have h2 : p ^ e ∣ p ^ k := (cop m hd e).dvd_of_dvd_mul_left (Nat.dvd_trans (Nat.dvd_mul_left _ _) hx)
    have h3 : e ≤ k := (Nat.pow_dvd_pow_iff_le_right hp.1).mp h2
    exact List.mem_flatMap.mpr ⟨a, (h.2 a).mpr h1, List.mem_map.mpr ⟨e, List.mem_range.mpr (by show e < k + 1; omega), rfl⟩⟩
theorem dsL_ok : ∀ {l : List (Nat × Nat)}, (∀ q ∈ l, Prm q.1) → l.Pairwise (fun x y => x.1 < y.1) → DvL (prodC (fun c => c) l) (dsL l) := by
  intro l
  induction l using rev_rec with
  | nil => exact fun _ _ => ⟨by decide, fun d => by rw [show dsL [] = [1] from rfl, List.mem_singleton]; exact Nat.dvd_one.symm⟩
  | snoc l q ih =>
    intro h1 h2
    have hq := h1 q (by simp)
    have h3 := List.pairwise_append.mp h2
    have pos : 0 < prodC (fun c => c) l := by
      have : ∀ l : List (Nat × Nat), (∀ q ∈ l, Prm q.1) → 0 < prodC (fun c => c) l := fun l => by
        induction l with
        | nil => exact fun _ => Nat.one_pos
        | cons q l ih => exact fun h => Nat.mul_pos (Nat.pow_pos (by have := (h q List.mem_cons_self).1; omega)) (ih fun x hx => h x (List.mem_cons_of_mem _ hx))
      exact this l fun x hx => h1 x (by simp [hx])
    rw [dsL_snoc, prodC_app, show prodC (fun c => c) [q] = q.1 ^ q.2 from Nat.mul_one _]
    refine dsF_ok hq pos (fun z => ?_) (ih (fun x hx => h1 x (by simp [hx])) h3.1)
    obtain ⟨x, hx, e⟩ := prm_prodC1 hq (fun x hx => h1 x (by simp [hx])) z
    have := h3.2.2 x hx q (by simp)
    omega
/-- how many there are -/
def nmL (l : List (Nat × Nat)) : Nat := l.foldl (fun m q => m * (q.2 + 1)) 1
theorem nmL_snoc (l : List (Nat × Nat)) (q : Nat × Nat) : nmL (l ++ [q]) = nmL l * (q.2 + 1) := by
  unfold nmL
  rw [List.foldl_append]
  rfl
theorem dsF_len (q : Nat × Nat) : ∀ ds : List Nat, (dsF ds q).length = ds.length * (q.2 + 1)
  | [] => by simp [dsF]
  | d :: ds => by
    show ((d :: ds).flatMap _).length = _
    rw [List.flatMap_cons, List.length_append, List.length_map, List.length_range, List.length_cons, Nat.succ_mul]
    have := dsF_len q ds
    unfold dsF at this
    rw [this, Nat.add_comm]
theorem dsL_len (l : List (Nat × Nat)) : (dsL l).length = nmL l := by
  induction l using rev_rec with
  | nil => rfl
  | snoc l q ih => rw [dsL_snoc, dsF_len, ih, nmL_snoc]
theorem pow_many {p : Nat} (hp : 2 ≤ p) : ∀ k : Nat, k + 1 ≤ p ^ k
  | 0 => Nat.le_refl 1
  | k + 1 => by
    have := Nat.mul_le_mul (pow_many hp k) hp
    rw [Nat.pow_succ]
    omega
theorem pow_many2 {p k : Nat} (hp : 2 ≤ p) (h0 : 0 < k) (h : ¬ (p = 2 ∧ k ≤ 2)) (h' : ¬ (p = 3 ∧ k = 1)) : 2 * (k + 1) ≤ p ^ k := by
  have c : p = 2 ∨ p = 3 ∨ 4 ≤ p := by omega
  rcases c with rfl | rfl | c
  · obtain ⟨j, rfl⟩ : ∃ j, k = j + 3 := ⟨k - 3, by omega⟩
    have := pow_many (Nat.le_refl 2) j
    rw [Nat.pow_add]
    omega
  · obtain ⟨j, rfl⟩ : ∃ j, k = j + 2 := ⟨k - 2, by omega⟩
    have := pow_many (show 2 ≤ 3 by decide) j
    rw [Nat.pow_add]
    omega
  · obtain ⟨j, rfl⟩ : ∃ j, k = j + 1 := ⟨k - 1, by omega⟩
    have := Nat.mul_le_mul (pow_many hp j) c
    rw [Nat.pow_succ]
    omega
def SmQ (q : Nat × Nat) : Prop := (q.1 = 2 ∧ q.2 ≤ 2) ∨ (q.1 = 3 ∧ q.2 = 1)
theorem nmL_cases : ∀ {l : List (Nat × Nat)}, (∀ q ∈ l, 2 ≤ q.1) → (∀ q ∈ l, 0 < q.2) → nmL l ≤ prodC (fun c => c) l ∧ (2 * nmL l ≤ prodC (fun c => c) l ∨ ∀ q ∈ l, SmQ q) := by
  intro l
  induction l using rev_rec with
  | nil => exact fun _ _ => ⟨Nat.le_refl _, .inr fun q hq => by simp at hq⟩
  | snoc l q ih =>
    intro h1 h2
    obtain ⟨i1, i2⟩ := ih (fun x hx => h1 x (by simp [hx])) (fun x hx => h2 x (by simp [hx]))
    have hq := h1 q (by simp)
    have hk := h2 q (by simp)
    have hm := pow_many hq q.2
    rw [nmL_snoc, prodC_app, show prodC (fun c => c) [q] = q.1 ^ q.2 from Nat.mul_one _]
    refine ⟨Nat.mul_le_mul i1 hm, ?_⟩
    rcases i2 with i2 | i2
    · refine .inl ?_
      have := Nat.mul_le_mul i2 hm
      rw [Nat.mul_assoc] at this
      exact this
    · by_cases c : SmQ q
      · refine .inr fun x hx => ?_
        rcases List.mem_append.mp hx with hx | hx
        · exact i2 x hx
        · rw [List.mem_singleton] at hx
          subst hx
          exact c
      · refine .inl ?_
        unfold SmQ at c
        have := Nat.mul_le_mul i1 (pow_many2 hq hk (fun z => c (.inl z)) (fun z => c (.inr z)))
        rw [Nat.mul_left_comm] at this
        exact this
theorem nmL_le {l : List (Nat × Nat)} (h1 : ∀ q ∈ l, 2 ≤ q.1) (h2 : ∀ q ∈ l, 0 < q.2) (h3 : l.Pairwise (fun x y => x.1 < y.1)) (h : prodC (fun c => c) l ≤ 20000) : nmL l ≤ 10000 := by
  obtain ⟨i1, i2⟩ := nmL_cases h1 h2
  rcases i2 with i2 | i2
  · omega
  · match l, h3, i2, i1 with
    | [], _, _, _ => decide
    | [q], _, i2, _ =>
      have := i2 q (by simp)
      unfold SmQ at this
      show 1 * (q.2 + 1) ≤ _
      omega
    | [q, r], _, i2, _ =>
      have a := i2 q (by simp)
      have b := i2 r (by simp)
      unfold SmQ at a b
      have a : q.2 + 1 ≤ 3 := by omega
      have b : r.2 + 1 ≤ 3 := by omega
      have := Nat.mul_le_mul a b
      show 1 * (q.2 + 1) * (r.2 + 1) ≤ _
      rw [Nat.one_mul]
      omega
    | q :: r :: s :: l, h3, i2, _ =>
      have a := i2 q (by simp)
      have b := i2 r (by simp)
      have c := i2 s (by simp)
      unfold SmQ at a b c
      have h4 := List.pairwise_cons.mp h3
      have h5 := List.pairwise_cons.mp h4.2
      have d1 := h4.1 r (by simp)
      have d2 := h5.1 s (by simp)
      omega
/-! ### sums over them -/
def dvA (n : Nat) : List Nat := ((List.range n).map (· + 1)).filter fun d => n % d == 0
theorem dvA_ok {n : Nat} (hn : 0 < n) : DvL n (dvA n) := by
  unfold dvA
  refine ⟨List.Pairwise.filter _ ?_, fun d => ?_⟩
  · rw [List.pairwise_map]
    exact List.Pairwise.imp (fun {a b} h => by omega) (List.nodup_iff_pairwise_ne.mp List.nodup_range)
  · rw [List.mem_filter, List.mem_map]
    constructor
    · rintro ⟨⟨i, hi, rfl⟩, h⟩
      exact Nat.dvd_of_mod_eq_zero (eq_of_beq h)
    · intro h
      have d0 := Nat.pos_of_dvd_of_pos h hn
      have := Nat.le_of_dvd hn h
      exact ⟨⟨d - 1, List.mem_range.mpr (by omega), by omega⟩, by rw [Nat.mod_eq_zero_of_dvd h]; rfl⟩
theorem DvL.perm {n : Nat} {a b : List Nat} (h : DvL n a) (h' : DvL n b) : a.Perm b := (List.perm_ext_iff_of_nodup h.1 h'.1).mpr fun d => (h.2 d).trans (h'.2 d).symm
theorem sum_dvA (f : Nat → Nat) (n : Nat) : ∀ k : Nat, ((((List.range k).map (· + 1)).filter fun d => n % d == 0).map f).sum = sg (fun c => if n % (c + 1) = 0 then f (c + 1) else 0) k
  | 0 => rfl
  | k + 1 => by
    show _ = sg _ k + _
    rw [List.range_succ, List.map_append, List.filter_append, List.map_append, List.sum_append, sum_dvA f n k]
    congr 1
    show ((List.filter _ [k + 1]).map f).sum = if n % (k + 1) = 0 then f (k + 1) else 0
    by_cases c : n % (k + 1) = 0
    · rw [List.filter_cons_of_pos (by rw [c]; rfl), if_pos c]
      simp
    · rw [List.filter_cons_of_neg (by simpa using c), if_neg c]
      simp
theorem DvL.sum {n : Nat} {ds : List Nat} (h : DvL n ds) (hn : 0 < n) (f : Nat → Nat) : (ds.map f).sum = Dv f n := by
  have hp := (h.perm (dvA_ok hn)).map f
  rw [perm_sumN hp]
  exact sum_dvA f n n
theorem prodC_in {l : List (Nat × Nat)} {q : Nat × Nat} (hq : q ∈ l) : q.1 ^ q.2 ∣ prodC (fun c => c) l := by
  obtain ⟨a, b, rfl⟩ := List.append_of_mem hq
  rw [prodC_app]
  exact ⟨prodC (fun c => c) a * prodC (fun c => c) b, by show prodC _ a * (q.1 ^ q.2 * prodC _ b) = _; grind⟩

local macro_rules | `(tactic| walk_at "rd") => `(tactic| simp (maxSteps := 2000000) only [CB.rd_var, CB.rd_C, CB.rd_op, CB.rd_un, CB.rd_I, CB.rd_I0, CB.rd_U, CB.rd_Eq, CB.rd_Ne, CB.rd_test, CB.rd_B, CB.rd_and, CB.rd_or, CB.rd_not, CB.rd_andV, CB.rd_orV, CB.rd_notV, CB.rd_if, CB.rd_chain, CB.rd_chain3,
  CB.rd_next, CB.rd_seq, CB.rd_drop, CB.rd_ret, CB.rd_retN, CB.rd_break, CB.rd_cont, CB.rd_ifS, CB.rd_asg, CB.rd_name, CB.rd_gsub, CB.rd_gtup, CB.rd_gcons, CB.rd_gnil, CB.rd_par, CB.rd_aug, CB.rd_ipI, CB.rd_nil, CB.rd_cons, CB.rd_tup, CB.rd_lst, CB.rd_CB, CB.rd_call, CB.rd_callS, CB.rd_ixL, CB.rd_ixT, CB.rd_setL, CB.rd_putS, CB.rd_forZ, CB.rd_lcZ, CB.rd_forE, CB.rd_forEL, CB.rd_lcE, CB.rd_isqrt, CB.rd_sum, CB.rd_append, CB.rd_forL, CB.rd_forT, CB.rd_forR1, CB.rd_forR2, CB.rd_forR3, CB.rd_lcL, CB.rd_lcT, CB.rd_lcR1, CB.rd_lcR2, CB.rd_yes, CB.rd_sl, CB.rd_noPart, CB.rd_part, CB.rd_slL, CB.rd_wipe0, CB.rd_rep, CB.rd_tupOf, CB.rd_lenS, CB.rd_gcd, CB.rd_wipe1, CB.rd_sorted3, CB.rd_any, CB.rd_all, CB.rd_ext, CB.rd_glst, CB.rd_sortedM, CB.rd_minD, CB.rd_indexD, CB.rd_pop, CB.rd_dnew, CB.rd_dget, CB.rd_dget2, CB.rd_dput, CB.rd_dm, CB.rd_anyI, CB.rd_ixDC, CB.rd_inDC, CB.rd_cat, CB.rd_lcZR, CB.rd_revR1, CB.rd_max2, CB.rd_forRv, CB.rd_ins, CB.rd_revT, CB.rd_tailR, CB.rd_lc2, CB.rd_inL, CB.rd_listOf, CB.rd_inI, CB.rd_idxI, CB.rd_sortedI, CB.rd_lcRv,
  L2.start, List.map_cons, List.map_nil, List.length_cons, List.length_nil, Nat.reduceAdd, Nat.reduceSub, List.replicate_succ, List.replicate_zero,
  V.int.injEq, V.ref.injEq, V.bl.injEq, V.str.injEq, Option.some.injEq, List.cons.injEq, exists_and_left, exists_eq_left', exists_eq_left, reduceCtorEq, false_and, and_false, or_false, false_or, exists_false, exists_const, and_assoc, true_and, and_true,
  CB.scal_int, CB.scal_str, CB.dec_ii, CB.ite_dec, CB.ite_ndec, List.getElem?_cons_zero, List.getElem?_cons_succ, List.set_cons_zero, List.set_cons_succ, List.append_nil, List.cons_append, List.nil_append, if_true, if_false, Bool.false_eq_true, Bool.not_true, Bool.not_false, CB.K_nox, CB.K_cxOf, eq_self])
local macro_rules | `(tactic| walk_at "rs") => `(tactic| simp (maxSteps := 2000000) only [CB.rd_var, CB.rd_C, CB.rd_op, CB.rd_un, CB.rd_I, CB.rd_I0, CB.rd_U, CB.rd_Eq, CB.rd_Ne, CB.rd_test, CB.rd_B, CB.rd_and, CB.rd_or, CB.rd_not, CB.rd_andV, CB.rd_orV, CB.rd_notV, CB.rd_if, CB.rd_chain, CB.rd_chain3,
  CB.rd_next, CB.rd_drop, CB.rd_ret, CB.rd_retN, CB.rd_break, CB.rd_cont, CB.rd_ifS, CB.rd_asg, CB.rd_name, CB.rd_gsub, CB.rd_gtup, CB.rd_gcons, CB.rd_gnil, CB.rd_par, CB.rd_aug, CB.rd_ipI, CB.rd_nil, CB.rd_cons, CB.rd_tup, CB.rd_lst, CB.rd_CB, CB.rd_call, CB.rd_callS, CB.rd_ixL, CB.rd_ixT, CB.rd_setL, CB.rd_putS, CB.rd_forZ, CB.rd_lcZ, CB.rd_forE, CB.rd_forEL, CB.rd_lcE, CB.rd_isqrt, CB.rd_sum, CB.rd_append, CB.rd_forL, CB.rd_forT, CB.rd_forR1, CB.rd_forR2, CB.rd_forR3, CB.rd_lcL, CB.rd_lcT, CB.rd_lcR1, CB.rd_lcR2, CB.rd_yes, CB.rd_sl, CB.rd_noPart, CB.rd_part, CB.rd_slL, CB.rd_wipe0, CB.rd_rep, CB.rd_tupOf, CB.rd_lenS, CB.rd_gcd, CB.rd_wipe1, CB.rd_sorted3, CB.rd_any, CB.rd_all, CB.rd_ext, CB.rd_glst, CB.rd_sortedM, CB.rd_minD, CB.rd_indexD, CB.rd_pop, CB.rd_dnew, CB.rd_dget, CB.rd_dget2, CB.rd_dput, CB.rd_dm, CB.rd_anyI, CB.rd_ixDC, CB.rd_inDC, CB.rd_cat, CB.rd_lcZR, CB.rd_revR1, CB.rd_max2, CB.rd_forRv, CB.rd_ins, CB.rd_revT, CB.rd_tailR, CB.rd_lc2, CB.rd_inL, CB.rd_listOf, CB.rd_inI, CB.rd_idxI, CB.rd_sortedI, CB.rd_lcRv,
  L2.start, List.map_cons, List.map_nil, List.length_cons, List.length_nil, Nat.reduceAdd, Nat.reduceSub, List.replicate_succ, List.replicate_zero,
  V.int.injEq, V.ref.injEq, V.bl.injEq, V.str.injEq, Option.some.injEq, List.cons.injEq, exists_and_left, exists_eq_left', exists_eq_left, reduceCtorEq, false_and, and_false, or_false, false_or, exists_false, exists_const, and_assoc, true_and, and_true,
  CB.scal_int, CB.scal_str, CB.dec_ii, CB.ite_dec, CB.ite_ndec, List.getElem?_cons_zero, List.getElem?_cons_succ, List.set_cons_zero, List.set_cons_succ, List.append_nil, List.cons_append, List.nil_append, if_true, if_false, Bool.false_eq_true, Bool.not_true, Bool.not_false, CB.K_nox, CB.K_cxOf, eq_self])

local macro_rules | `(tactic| walk_at "nx") => `(tactic| (show tSeq _ _ _ _ _; rw [CB.rd_seq]; walk_at "rs"))


section
variable {P : Program} {w : World} {K : PySem.W.Frag} {mg : Str → Option Value} {base : Heap} {CM CR : Addr}
theorem fm_some {n : Nat} (f : Nat → V) : (List.range n).filterMap (fun i => some (f i)) = (List.range n).map f := congrFun List.filterMap_eq_map' _
abbrev s_divisors_of : Stmt := top 27
theorem sc_divisors_of : FnScope ["n", "pairs", "many", "_", "k", "divisors", "p", "powers", "e", "d", "q"] ["n"] (defScope s_divisors_of) := ⟨rfl, rfl, rfl, by decide +kernel, rfl, by decide +kernel, by decide +kernel⟩

def spDvs : Sp := fun vs H Q _ => ∃ n : Nat, vs = [.int n] ∧ 0 < n ∧ n ≤ 20000 ∧ ∀ ds p H', Same H H' → H' p = some (.tup (vN ds)) → DvL n ds → Q (.ref p) H'
theorem smoS {n : Nat} (n0 : 0 < n) (h : n ≤ 1000000) : Smo n := fun m d _ => by
  have := Nat.le_of_dvd n0 d
  omega
theorem cal_dvs (D : Dn K mg "divisors_of" s_divisors_of ["n"]) (B : Bl mg) (c_factors : Cal P w K mg base "factors" 4 ["n"] spFac) (c_raised : Cal P w K mg base "raised" 1 ["b", "e"] spRaised) : Cal P w K mg base "divisors_of" 5 ["n"] spDvs := by
  refine D.cal sc_divisors_of (fun vs H Q E h => by obtain ⟨n, rfl, _⟩ := h; rfl) (fun f cdv A outer s H vs Q E hr h => ?_)
  obtain ⟨n, rfl, n0, n2, q⟩ := h
  refine ⟨_, (pss_cons (ps_set (i := 1) sc_divisors_of.nd rfl (Or.inl rfl) (pe_cal c_factors (hr.mono (by decide)) rfl (pa_cons (pv 0) pa_nil)))
  (pss_cons (ps_set (i := 2) sc_divisors_of.nd rfl (Or.inl rfl) pe_int)
  (pss_cons (ps_for PassesOwn.never rfl (pi_tup (pv 1)) (pg_tup (n := 2) rfl (pgs_cons (pg_name (i := 3) sc_divisors_of.nd rfl (Or.inl rfl)) (pgs_cons (pg_name (i := 4) sc_divisors_of.nd rfl (Or.inl rfl)) pgs_nil))) (pss_one (ps_aug (i := 2) sc_divisors_of.nd rfl (Or.inl rfl) (pe_op op_add (pv 4) pe_int) iop_mulI)))
  (pss_cons (ps_if (pt_cmpR op_gt (pv 2) (pe_glob (v := .int 10000) rfl B.c_MOST_DIVISORS.choose_spec ⟨_, rfl⟩) (nomark _)) pss_never pss_nil)
  (pss_cons (ps_set (i := 5) sc_divisors_of.nd rfl (Or.inl rfl) (pe_lst (pa_cons pe_int pa_nil)))
  (pss_cons (ps_for PassesOwn.never rfl (pi_tup (pv 1)) (pg_tup (n := 2) rfl (pgs_cons (pg_name (i := 6) sc_divisors_of.nd rfl (Or.inr rfl)) (pgs_cons (pg_name (i := 4) sc_divisors_of.nd rfl (Or.inl rfl)) pgs_nil))) (pss_cons (ps_set (i := 7) sc_divisors_of.nd rfl (Or.inr rfl) (pe_lc (own := [("e", 8)]) rfl sc_divisors_of.nd (pi_range1 rfl B.range (pa_cons (pe_op op_add (pv 4) pe_int) pa_nil)) (blkOk_by (N := ["n", "pairs", "many", "_", "k", "divisors", "p", "powers", "e", "d", "q"]) (sc := defScope s_divisors_of) (own := [("e", 8)]) (by decide +kernel)) (fun _ _ _ _ _ => (pg_name (i := 8) sc_divisors_of.nd rfl (Or.inl rfl))) (fun _ _ _ _ _ => pts_nil) (fun _ _ _ _ _ => (pe_cal c_raised (hr.mono (by decide)) rfl (pa_cons (pv 6) (pa_cons (pv 8) pa_nil))))))
  (pss_one (ps_setLc2 (i := 5) (own := [("d", 9), ("q", 10)]) (vs1 := [10]) rfl sc_divisors_of.nd rfl rfl (sw_true rfl rfl rfl (by decide +kernel)) (pi_list (pv 5)) (blkOk_by (N := ["n", "pairs", "many", "_", "k", "divisors", "p", "powers", "e", "d", "q"]) (sc := defScope s_divisors_of) (own := [("d", 9), ("q", 10)]) (by decide +kernel)) (by decide) (fun _ _ _ _ _ => (pg_name (i := 9) sc_divisors_of.nd rfl (Or.inl rfl))) (fun _ _ _ _ _ => pts_nil) (fun _ _ _ _ _ => (pi_listK (K := K) rfl (pv 7))) (fun _ _ _ _ _ => (pg_name (i := 10) sc_divisors_of.nd rfl (Or.inl rfl))) (fun _ _ _ _ _ => pts_nil) (fun _ _ _ _ _ => (pe_op op_mulI (pv 9) (pv 10)))))))
  (pss_one (ps_ret (pe_callTy cr_tupOf rfl B.tuple boot_tuple (pa_cons (pe_callB cr_sortedI rfl B.sorted (by decide +kernel) (pa_cons (pv 5) pa_nil)) pa_nil)))))))))), ?_⟩
  rw [CB.rd_seq]
  walk_at "rs"
  refine ⟨n, rfl, n0, by omega, smoS n0 (by omega), fun l p ts H1 s1 n1 hp hP hF hpos => ?_⟩
  have tl : ts.length = l.length := hP.len
  walk_at "nx"
  walk_at "nx"
  have hin : ∀ x ∈ l, x.1 ^ x.2 ≤ n ∧ x.2 + 1 ≤ n ∧ 2 ≤ x.1 := fun x hx => by
    have h1 := prodC_in hx
    rw [hF.2.2] at h1
    have h2 := Nat.le_of_dvd n0 h1
    have h3 := (hF.1 x hx).1
    exact ⟨h2, Nat.le_trans (pow_many h3 x.2) h2, h3⟩
  refine ⟨⟨_, SqT.of hp⟩, ForT.w (xs := ts) (fun i σ H2 => ∃ s3 s4, σ = [some (.int n), some (.ref p), some (.int (nmL (l.take i) : Nat)), s3, s4, none, none, none, none, none, none] ∧ H2 = H1) ⟨_, _, rfl, rfl⟩ ?_ ?_ ?_⟩
  · rintro i σ H2 _ ⟨s3, s4, rfl, rfl⟩
    exact SqT.of hp
  · rintro i v σ H2 hv ⟨s3, s4, rfl, rfl⟩ N hN
    obtain ⟨x, t, hx, rfl, ht⟩ := hP.get hv
    have sm := hin x (List.mem_of_getElem? hx)
    walk_at "rs"
    refine ⟨_, SqT.of ht, rfl, _, _, rfl, _, _, rfl, rfl, ?_⟩
    walk_at "rs"
    refine ⟨mulR (by omega), ?_⟩
    have e : ((nmL (l.take i) : Nat) : Int) * ((x.2 : Int) + 1) = (nmL (l.take (i + 1)) : Nat) := by
      rw [List.take_add_one, hx, show (some x).toList = [x] from rfl, nmL_snoc, Int.natCast_mul]
      rfl
    rw [e]
    exact hN _ _ ⟨_, _, rfl, rfl⟩
  rintro σ H2 ⟨s3, s4, rfl, rfl⟩
  rw [tl, List.take_length]
  dsimp only
  have many : nmL l ≤ 10000 := nmL_le (fun x hx => (hin x hx).2.2) hpos hF.2.1 (by rw [hF.2.2]; exact n2)
  walk_at "nx"
  rw [if_neg (by omega)]
  walk_at "nx"
  refine ⟨by decide, fun d nd => ?_⟩
  have sd := same_upd (o := HO.lst [V.int 1]) nd
  have hd : (upd H2 d (HO.lst [V.int 1])) d = some (.lst (vN (dsL []))) := upd_same
  have hp2 := sd _ _ hp
  have hP2 := hP.same sd
  have s2 := s1.trans sd
  generalize upd H2 d (HO.lst [V.int 1]) = H3 at *
  walk_at "nx"
  refine ⟨⟨_, SqT.of hp2⟩, ForT.w (xs := ts) (fun i σ H4 => ∃ dr s3 s4 s6 s7 s8 s9 s10, σ = [some (.int n), some (.ref p), some (.int (nmL l : Nat)), s3, s4, some (.ref dr), s6, s7, s8, s9, s10] ∧ Same H3 H4 ∧ H4 dr = some (.lst (vN (dsL (l.take i))))) ⟨_, _, _, _, _, _, _, _, rfl, Same.refl _, hd⟩ ?_ ?_ ?_⟩
  · rintro i σ H4 _ ⟨dr, s3, s4, s6, s7, s8, s9, s10, rfl, sm, _⟩
    exact SqT.of (sm _ _ hp2)
  · rintro i v σ H4 hv ⟨dr, s3, s4, s6, s7, s8, s9, s10, rfl, sm, hdr⟩ N hN
    obtain ⟨x, t, hx, rfl, ht⟩ := hP2.get hv
    have sz := hin x (List.mem_of_getElem? hx)
    have ht := sm _ _ ht
    walk_at "rs"
    refine ⟨_, SqT.of ht, rfl, _, _, rfl, _, _, rfl, rfl, ?_⟩
    walk_at "nx"
    refine ⟨by omega, by omega, ?_⟩
    rw [show ((x.2 : Int) + 1).toNat = x.2 + 1 by omega]
    refine LcR.p (fun e => some (V.int ((x.1 ^ e : Nat) : Int))) (by omega) (fun e he H5 s5 M S hM hS => ?_) (fun pd H5 npd s5 h5 => ?_)
    · walk_at "rs"
      refine ⟨x.1, e, by rw [Int.zero_add], by omega, ?_, hM _ _ rfl (Same.refl _)⟩
      have a1 : x.1 ^ e ≤ x.1 ^ x.2 := Nat.pow_le_pow_right (by omega) (by omega)
      exact Nat.lt_of_le_of_lt (Nat.le_trans a1 (Nat.le_trans sz.1 n2)) (by decide)
    rw [fm_some] at h5
    have hdr5 := s5 _ _ hdr
    have hj : i < l.length := by
      have := (List.getElem?_eq_some_iff.mp hv).1
      omega
    have sm5 := sm.trans s5
    have b1 : (dsL (l.take i)).length ≤ n := by
      rw [dsL_len]
      have c := nmL_cases (l := l.take i) (fun y hy => (hin y (List.mem_of_mem_take hy)).2.2) (fun y hy => hpos y (List.mem_of_mem_take hy))
      refine Nat.le_trans c.1 (Nat.le_of_dvd n0 ?_)
      have := prodC_app (fun c => c) (l.take i) (l.drop i)
      rw [List.take_append_drop, hF.2.2] at this
      exact ⟨_, this⟩
    have etk : l.take (i + 1) = l.take i ++ [x] := by rw [List.take_add_one, hx]; rfl
    rw [etk, dsL_snoc] at hN
    have hlen : (dsL (l.take i)).length * (x.2 + 1) ≤ n := by
      rw [dsL_len, ← nmL_snoc, ← etk]
      have c := nmL_cases (l := l.take (i + 1)) (fun y hy => (hin y (List.mem_of_mem_take hy)).2.2) (fun y hy => hpos y (List.mem_of_mem_take hy))
      refine Nat.le_trans c.1 (Nat.le_of_dvd n0 ?_)
      have := prodC_app (fun c => c) (l.take (i + 1)) (l.drop (i + 1))
      rw [List.take_append_drop, hF.2.2] at this
      exact ⟨_, this⟩
    have hds : ∀ d ∈ dsL (l.take i), d ≤ n := fun d hd => by
      have hk := dsL_ok (l := l.take i) (fun y hy => hF.1 y (List.mem_of_mem_take hy)) (hF.2.1.sublist (List.take_sublist _ _))
      have h1 := (hk.2 d).mp hd
      have := prodC_app (fun c => c) (l.take i) (l.drop i)
      rw [List.take_append_drop, hF.2.2] at this
      exact Nat.le_of_dvd n0 (Nat.dvd_trans h1 ⟨_, this⟩)
    generalize dsL (l.take i) = ds at *
    refine ⟨⟨_, SqL.of hdr5⟩, Lc2J.w (xs := vN ds) (fun j D H6 => Same H5 H6 ∧ H6 D = some (.lst (vN (dsF (ds.take j) x))) ∧ H5 D = none) (fun D nD => ⟨same_upd nD, upd_same, nD⟩) ?_ ?_ ?_⟩
    · rintro D j H6 _ ⟨s6, _⟩
      exact SqL.of (s6 _ _ hdr5)
    · rintro D j v H6 hv ⟨s6, h6, nD⟩ N2 hN2
      unfold vN at hv
      rw [List.getElem?_map] at hv
      obtain ⟨d, hd1, rfl⟩ := Option.map_eq_some_iff.mp hv
      have hjl := (List.getElem?_eq_some_iff.mp hd1).1
      walk_at "rs"
      have hpd6 := s6 _ _ h5
      have etd : dsF (ds.take (j + 1)) x = dsF (ds.take j) x ++ (List.range (x.2 + 1)).map fun e => d * x.1 ^ e := by
        rw [List.take_add_one, hd1]
        unfold dsF
        rw [List.flatMap_append]
        show _ ++ List.flatMap _ [d] = _
        rw [List.flatMap_singleton]
      rw [etd] at hN2
      have hd2 : d ≤ n := hds d (List.mem_of_getElem? hd1)
      refine ⟨⟨_, SqL.of hpd6⟩, LcIn.w (ys := (List.range (x.2 + 1)).map fun e => V.int ((x.1 ^ e : Nat) : Int)) (fun jj H7 => Same H5 H7 ∧ H7 D = some (.lst (vN (dsF (ds.take j) x ++ (List.range jj).map fun e => d * x.1 ^ e)))) ⟨s6, by rw [List.range_zero, List.map_nil, List.append_nil]; exact h6⟩ ?_ ?_ ?_⟩
      · rintro jj H7 _ ⟨s7, _⟩
        exact SqL.of (s7 _ _ h5)
      · rintro jj y H7 hy ⟨s7, h7⟩ N3 hN3
        rw [List.getElem?_map] at hy
        obtain ⟨e, he, rfl⟩ := Option.map_eq_some_iff.mp hy
        have hjj : jj < x.2 + 1 := by
          have := (List.getElem?_eq_some_iff.mp he).1
          rwa [List.length_range] at this
        rw [List.getElem?_range hjj] at he
        cases he
        walk_at "rs"
        refine ⟨mulL (by omega), _, h7, ?_, ?_⟩
        · rw [vN_len, List.length_append, List.length_map, List.length_range, dsF_len, List.length_take, PySem.sizeLine_eq]
          have e1 : min j ds.length + 1 ≤ ds.length := by omega
          have := Nat.mul_le_mul_right (x.2 + 1) e1
          rw [Nat.succ_mul] at this
          omega
        · refine hN3 _ ⟨same_at s7 nD, ?_⟩
          rw [upd_same, List.range_succ, List.map_append, ← List.append_assoc]
          congr 2
          rw [← Int.natCast_mul, vN_app]
          rfl
      · rintro H7 ⟨s7, h7⟩
        rw [List.length_map, List.length_range] at h7
        exact hN2 _ ⟨s7, h7, nD⟩
    · rintro D H6 nD ⟨s6, h6, _⟩
      rw [vN_len, List.take_length] at h6
      exact hN _ _ ⟨_, _, _, _, _, _, _, _, rfl, sm5.trans s6, h6⟩
  rintro σ H4 ⟨dr, s3, s4, s6, s7, s8, s9, s10, rfl, sm, h4⟩
  rw [tl, List.take_length] at h4
  walk_at "rs"
  have e0 : vN (dsL l) = ((dsL l).map fun d : Nat => (d : Int)).map V.int := by
    unfold vN
    rw [List.map_map]
    rfl
  rw [e0] at h4
  refine ⟨_, SqL.of h4, fun ns lp hperm _ nlp => ⟨_, .inl ⟨SqL.of upd_same, fun tp ntp => ?_⟩⟩⟩
  have e1 : ns.map V.int = vN (ns.map Int.toNat) := by
    unfold vN
    rw [List.map_map]
    refine List.map_congr_left fun z hz => ?_
    obtain ⟨d, _, rfl⟩ := List.mem_map.mp (hperm.mem_iff.mp hz)
    rfl
  have hDv : DvL n (dsL l) := by
    have := dsL_ok hF.1 hF.2.1
    rw [hF.2.2] at this
    exact this
  have hp3 : (ns.map Int.toNat).Perm (dsL l) := by
    have := hperm.map Int.toNat
    rw [List.map_map] at this
    rwa [show (List.map (Int.toNat ∘ fun d : Nat => (d : Int)) (dsL l)) = dsL l from (List.map_congr_left fun d _ => Int.toNat_natCast d).trans (List.map_id _)] at this
  refine q (ns.map Int.toNat) tp _ ((s2.trans sm).trans ((same_upd nlp).trans (same_upd ntp))) ?_ ⟨hp3.nodup_iff.mpr hDv.1, fun d => hp3.mem_iff.trans (hDv.2 d)⟩
  rw [upd_same, e1]
end

local macro_rules | `(tactic| walk_at "rd") => `(tactic| simp (maxSteps := 2000000) only [CB.rd_var, CB.rd_C, CB.rd_op, CB.rd_un, CB.rd_I, CB.rd_I0, CB.rd_U, CB.rd_Eq, CB.rd_Ne, CB.rd_test, CB.rd_B, CB.rd_and, CB.rd_or, CB.rd_not, CB.rd_andV, CB.rd_orV, CB.rd_notV, CB.rd_if, CB.rd_chain, CB.rd_chain3,
  CB.rd_next, CB.rd_seq, CB.rd_drop, CB.rd_ret, CB.rd_retN, CB.rd_break, CB.rd_cont, CB.rd_ifS, CB.rd_asg, CB.rd_name, CB.rd_gsub, CB.rd_gtup, CB.rd_gcons, CB.rd_gnil, CB.rd_par, CB.rd_aug, CB.rd_ipI, CB.rd_nil, CB.rd_cons, CB.rd_tup, CB.rd_lst, CB.rd_CB, CB.rd_call, CB.rd_callS, CB.rd_ixL, CB.rd_ixT, CB.rd_setL, CB.rd_putS, CB.rd_forZ, CB.rd_lcZ, CB.rd_forE, CB.rd_forEL, CB.rd_lcE, CB.rd_isqrt, CB.rd_sum, CB.rd_append, CB.rd_forL, CB.rd_forT, CB.rd_forR1, CB.rd_forR2, CB.rd_forR3, CB.rd_lcL, CB.rd_lcT, CB.rd_lcR1, CB.rd_lcR2, CB.rd_yes, CB.rd_sl, CB.rd_noPart, CB.rd_part, CB.rd_slL, CB.rd_wipe0, CB.rd_rep, CB.rd_tupOf, CB.rd_lenS, CB.rd_gcd, CB.rd_wipe1, CB.rd_sorted3, CB.rd_any, CB.rd_all, CB.rd_ext, CB.rd_glst, CB.rd_sortedM, CB.rd_minD, CB.rd_indexD, CB.rd_pop, CB.rd_dnew, CB.rd_dget, CB.rd_dget2, CB.rd_dput, CB.rd_dm, CB.rd_anyI, CB.rd_ixDC, CB.rd_inDC, CB.rd_cat, CB.rd_lcZR, CB.rd_revR1, CB.rd_max2, CB.rd_forRv, CB.rd_ins, CB.rd_revT, CB.rd_tailR, CB.rd_lc2, CB.rd_inL, CB.rd_listOf, CB.rd_inI, CB.rd_idxI, CB.rd_sortedI, CB.rd_lcRv,
  L2.start, List.map_cons, List.map_nil, List.length_cons, List.length_nil, Nat.reduceAdd, Nat.reduceSub, List.replicate_succ, List.replicate_zero,
  V.int.injEq, V.ref.injEq, V.bl.injEq, V.str.injEq, Option.some.injEq, List.cons.injEq, exists_and_left, exists_eq_left', exists_eq_left, reduceCtorEq, false_and, and_false, or_false, false_or, exists_false, exists_const, and_assoc, true_and, and_true,
  CB.scal_int, CB.scal_str, CB.dec_ii, CB.ite_dec, CB.ite_ndec, List.getElem?_cons_zero, List.getElem?_cons_succ, List.set_cons_zero, List.set_cons_succ, List.append_nil, List.cons_append, List.nil_append, if_true, if_false, Bool.false_eq_true, Bool.not_true, Bool.not_false, CB.K_nox, CB.K_cxOf, eq_self])
local macro_rules | `(tactic| walk_at "rs") => `(tactic| simp (maxSteps := 2000000) only [CB.rd_var, CB.rd_C, CB.rd_op, CB.rd_un, CB.rd_I, CB.rd_I0, CB.rd_U, CB.rd_Eq, CB.rd_Ne, CB.rd_test, CB.rd_B, CB.rd_and, CB.rd_or, CB.rd_not, CB.rd_andV, CB.rd_orV, CB.rd_notV, CB.rd_if, CB.rd_chain, CB.rd_chain3,
  CB.rd_next, CB.rd_drop, CB.rd_ret, CB.rd_retN, CB.rd_break, CB.rd_cont, CB.rd_ifS, CB.rd_asg, CB.rd_name, CB.rd_gsub, CB.rd_gtup, CB.rd_gcons, CB.rd_gnil, CB.rd_par, CB.rd_aug, CB.rd_ipI, CB.rd_nil, CB.rd_cons, CB.rd_tup, CB.rd_lst, CB.rd_CB, CB.rd_call, CB.rd_callS, CB.rd_ixL, CB.rd_ixT, CB.rd_setL, CB.rd_putS, CB.rd_forZ, CB.rd_lcZ, CB.rd_forE, CB.rd_forEL, CB.rd_lcE, CB.rd_isqrt, CB.rd_sum, CB.rd_append, CB.rd_forL, CB.rd_forT, CB.rd_forR1, CB.rd_forR2, CB.rd_forR3, CB.rd_lcL, CB.rd_lcT, CB.rd_lcR1, CB.rd_lcR2, CB.rd_yes, CB.rd_sl, CB.rd_noPart, CB.rd_part, CB.rd_slL, CB.rd_wipe0, CB.rd_rep, CB.rd_tupOf, CB.rd_lenS, CB.rd_gcd, CB.rd_wipe1, CB.rd_sorted3, CB.rd_any, CB.rd_all, CB.rd_ext, CB.rd_glst, CB.rd_sortedM, CB.rd_minD, CB.rd_indexD, CB.rd_pop, CB.rd_dnew, CB.rd_dget, CB.rd_dget2, CB.rd_dput, CB.rd_dm, CB.rd_anyI, CB.rd_ixDC, CB.rd_inDC, CB.rd_cat, CB.rd_lcZR, CB.rd_revR1, CB.rd_max2, CB.rd_forRv, CB.rd_ins, CB.rd_revT, CB.rd_tailR, CB.rd_lc2, CB.rd_inL, CB.rd_listOf, CB.rd_inI, CB.rd_idxI, CB.rd_sortedI, CB.rd_lcRv,
  L2.start, List.map_cons, List.map_nil, List.length_cons, List.length_nil, Nat.reduceAdd, Nat.reduceSub, List.replicate_succ, List.replicate_zero,
  V.int.injEq, V.ref.injEq, V.bl.injEq, V.str.injEq, Option.some.injEq, List.cons.injEq, exists_and_left, exists_eq_left', exists_eq_left, reduceCtorEq, false_and, and_false, or_false, false_or, exists_false, exists_const, and_assoc, true_and, and_true,
  CB.scal_int, CB.scal_str, CB.dec_ii, CB.ite_dec, CB.ite_ndec, List.getElem?_cons_zero, List.getElem?_cons_succ, List.set_cons_zero, List.set_cons_succ, List.append_nil, List.cons_append, List.nil_append, if_true, if_false, Bool.false_eq_true, Bool.not_true, Bool.not_false, CB.K_nox, CB.K_cxOf, eq_self])

local macro_rules | `(tactic| walk_at "nx") => `(tactic| (show tSeq _ _ _ _ _; rw [CB.rd_seq]; walk_at "rs"))


/-! ### the numbers P, the terms, the class sides -/
def pn (t n : Int) : Nat → Int
  | 0 => 1
  | 1 => t
  | i + 2 => t * pn t n (i + 1) - n * pn t n i
def pb (t n : Int) : Nat → Int
  | 0 => 0
  | i + 1 => pn t n i
theorem pn_step (t n : Int) : ∀ i, pn t n (i + 1) = t * pn t n i - n * pb t n i
  | 0 => by show t = t * 1 - n * 0; omega
  | i + 1 => rfl
theorem pn_neg (t n : Int) : ∀ i, pn (-t) n (2 * i) = pn t n (2 * i) ∧ pn (-t) n (2 * i + 1) = - pn t n (2 * i + 1)
  | 0 => ⟨rfl, rfl⟩
  | i + 1 => by
    obtain ⟨a, b⟩ := pn_neg t n i
    have e1 : pn (-t) n (2 * (i + 1)) = pn t n (2 * (i + 1)) := by
      show -t * pn (-t) n (2 * i + 1) - n * pn (-t) n (2 * i) = t * pn t n (2 * i + 1) - n * pn t n (2 * i)
      rw [a, b, Int.neg_mul_neg]
    refine ⟨e1, ?_⟩
    show -t * pn (-t) n (2 * (i + 1)) - n * pn (-t) n (2 * i + 1) = -(t * pn t n (2 * (i + 1)) - n * pn t n (2 * i + 1))
    rw [e1, b, Int.neg_mul, Int.mul_neg]
    omega
/-- sums of integers -/
def isg (f : Nat → Int) : Nat → Int
  | 0 => 0
  | n + 1 => isg f n + f n
theorem isg_cong {f g : Nat → Int} : ∀ {n : Nat}, (∀ i, i < n → f i = g i) → isg f n = isg g n
  | 0, _ => rfl
  | n + 1, h => by
    show isg f n + f n = isg g n + g n
    rw [isg_cong fun i hi => h i (by omega), h n (by omega)]
theorem isg_map (f : Nat → Int) : ∀ n : Nat, ((List.range n).map f).sum = isg f n
  | 0 => rfl
  | n + 1 => by
    rw [List.range_succ, List.map_append, List.sum_append, isg_map f n]
    simp [isg]
theorem isg_twice {f : Nat → Int} : ∀ n : Nat, isg f (n + 1) + isg (fun i => f (i + 1)) n = isg (fun i => (1 + if i = 0 then 0 else 1) * f i) (n + 1)
  | 0 => by show (0 + f 0) + 0 = 0 + (1 + 0) * f 0; omega
  | n + 1 => by
    have := isg_twice (f := f) n
    show isg f (n + 1) + f (n + 1) + (isg (fun i => f (i + 1)) n + f (n + 1)) = isg _ (n + 1) + (1 + if n + 1 = 0 then 0 else 1) * f (n + 1)
    rw [if_neg (by omega), ← this]
    omega
def tT (n : Nat) : Nat := (isq (4 * (n : Int))).toNat
theorem tT_ok (n : Nat) : tT n * tT n ≤ 4 * n ∧ 4 * n < (tT n + 1) * (tT n + 1) := by
  have a := isq_le (n := 4 * (n : Int)) (by omega)
  have b := isq_lt (n := 4 * (n : Int)) (by omega)
  have c := isq_nn (4 * (n : Int))
  unfold tT
  obtain ⟨r, hr⟩ := Int.eq_ofNat_of_zero_le c
  rw [hr] at a b ⊢
  rw [Int.toNat_natCast]
  have e1 : ((r : Int) * (r : Int)) = ((r * r : Nat) : Int) := by rw [Int.natCast_mul]
  have e2 : ((r : Int) + 1) * ((r : Int) + 1) = (((r + 1) * (r + 1) : Nat) : Int) := by rw [Int.natCast_mul, Int.natCast_add]; rfl
  rw [e1] at a
  rw [e2] at b
  omega
def tripI (k n : Nat) (t : Int) : T3 := (t, pn t n (k - 2), due (4 * (n : Int) - t * t))
def upT (k n m : Nat) : List T3 := (List.range m).map fun t => tripI k n ((t : Nat) : Int)
def ngT (x : T3) : T3 := (-x.1, x.2.1, x.2.2)
def termsL (k n : Nat) : List T3 := (upT k n (tT n + 1)).tail.reverse.map ngT ++ upT k n (tT n + 1)
theorem upT_succ {k n m : Nat} : upT k n (m + 1) = upT k n m ++ [tripI k n ((m : Nat) : Int)] := by
  unfold upT
  rw [List.range_succ, List.map_append]
  rfl
theorem upT_len {k n m : Nat} : (upT k n m).length = m := by
  unfold upT
  rw [List.length_map, List.length_range]
def pr3 (u : T3) : Int := u.2.1 * u.2.2
def itm3 (k n t : Nat) : Int := pn t n (k - 2) * due (4 * (n : Int) - (t : Int) * t)
theorem sum_rev : ∀ l : List Int, l.reverse.sum = l.sum
  | [] => rfl
  | x :: l => by
    rw [List.reverse_cons, List.sum_append, sum_rev l, List.sum_cons]
    simp
    omega
theorem upT_tail {k n m : Nat} : (upT k n (m + 1)).tail = (List.range m).map fun t => tripI k n ((t + 1 : Nat) : Int) := by
  unfold upT
  rw [List.range_succ_eq_map, List.map_cons, List.tail_cons, List.map_map]
  rfl
/-- the class side -/
def sideV (k n : Nat) : Int := isg (fun t => (1 + if t = 0 then 0 else 1) * itm3 k n t) (tT n + 1) + 12 * ((Dv (fun c => min c (n / c) ^ (k - 1)) n : Nat) : Int)
theorem terms_sum (k n : Nat) : ((termsL k n).map pr3).sum = isg (fun t => (1 + if t = 0 then 0 else 1) * itm3 k n t) (tT n + 1) := by
  unfold termsL
  rw [List.map_append, List.sum_append, List.map_map, ← isg_twice, upT_tail]
  have e1 : ((upT k n (tT n + 1)).map pr3).sum = isg (itm3 k n) (tT n + 1) := by
    unfold upT
    rw [List.map_map, ← isg_map]
    rfl
  have e2 : pr3 ∘ ngT = pr3 := rfl
  rw [e1, e2, List.map_reverse, sum_rev, List.map_map, Int.add_comm, ← isg_map (fun i => itm3 k n (i + 1))]
  rfl
theorem due_0 : due 0 = -1 := rfl
/-- the side of the weight 2 -/
theorem side_two {n : Nat} (h0 : 0 < n) (hn : n < 20001) : sideV 2 n = 24 * ((Dv (fun c => c) n : Nat) : Int) := by
  obtain ⟨a, b⟩ := tT_ok n
  have s2 := side2 h0 hn b
  unfold sideV
  have e1 : Dv (fun c => min c (n / c) ^ (2 - 1)) n = Dv (fun c => min c (n / c)) n := by
    have : (fun c => min c (n / c) ^ (2 - 1)) = fun c => min c (n / c) := funext fun c => Nat.pow_one _
    rw [this]
  rw [e1]
  generalize hT : tT n = T at *
  have g1 : ∀ t, t < T → t * t < 4 * n := fun t ht => by
    have : (t + 1) * (t + 1) ≤ T * T := sq_mono ht
    rw [Nat.mul_succ, Nat.succ_mul] at this
    omega
  have ed : ∀ t : Nat, t * t < 4 * n → due (4 * (n : Int) - (t : Int) * t) = (cl 256 (4 * n - t * t) : Int) := fun t ht => by
    rw [← due_cl (m := 4 * n - t * t) (by omega) (by omega)]
    congr 1
    have : ((t : Int) * t) = ((t * t : Nat) : Int) := by rw [Int.natCast_mul]
    rw [this]
    omega
  have i2 : ∀ t : Nat, itm3 2 n t = due (4 * (n : Int) - (t : Int) * t) := fun t => Int.one_mul _
  have c1 : ∀ m, m ≤ T → isg (fun t => (1 + if t = 0 then 0 else 1) * itm3 2 n t) m = (sg (termT n) m : Int) := by
    intro m
    induction m with
    | zero => exact fun _ => rfl
    | succ m ih =>
      intro hm
      show isg _ m + (1 + if m = 0 then 0 else 1) * itm3 2 n m = ((sg (termT n) m + termT n m : Nat) : Int)
      have et : termT n m = (if m = 0 then 1 else 2) * cl 256 (4 * n - m * m) := by
        unfold termT
        rw [if_pos (Nat.le_of_lt (g1 m hm))]
      rw [ih (by omega), i2, ed m (g1 m hm), et]
      by_cases z : m = 0
      · rw [if_pos z, if_pos z]; omega
      · rw [if_neg z, if_neg z]; omega
  have T0 : 0 < T := by
    rcases Nat.eq_zero_or_pos T with z | z
    · subst z; omega
    · exact z
  show isg _ T + (1 + if T = 0 then 0 else 1) * itm3 2 n T + _ = _
  have s3 : sg (termT n) (T + 1) = sg (termT n) T + termT n T := rfl
  rw [s3] at s2
  rw [c1 T (Nat.le_refl _), i2, if_neg (by omega)]
  by_cases z : T * T = 4 * n
  · have e4 : due (4 * (n : Int) - (T : Int) * T) = -1 := by
      have : ((T : Int) * T) = ((T * T : Nat) : Int) := by rw [Int.natCast_mul]
      rw [this, z, show 4 * (n : Int) - ((4 * n : Nat) : Int) = 0 by omega]
      exact due_0
    have e5 : termT n T = 0 := by
      unfold termT
      rw [if_pos (by omega), z, Nat.sub_self, cl_0]
      split <;> rfl
    have e6 : sq2 n = 2 := by
      have hev : T % 2 = 0 := by
        rcases Nat.mod_two_eq_zero_or_one T with c | c
        · exact c
        · obtain ⟨s, rfl⟩ : ∃ s, T = 2 * s + 1 := ⟨T / 2, by omega⟩
          rw [Nat.mul_add, Nat.add_mul, Nat.mul_mul_mul_comm] at z
          omega
      obtain ⟨s, rfl⟩ : ∃ s, T = 2 * s := ⟨T / 2, by omega⟩
      rw [Nat.mul_mul_mul_comm] at z
      have z : s * s = n := by omega
      have s0 : 0 < s := by omega
      unfold sq2
      have hs : s - 1 < n := by
        have := Nat.le_mul_self s
        omega
      rw [sg_one (p := s - 1) hs fun i _ hi => ?_, if_pos (by rw [show s - 1 + 1 = s by omega]; exact z)]
      refine if_neg fun w => hi ?_
      rw [← z] at w
      rcases Nat.lt_trichotomy (i + 1) s with c | c | c
      · have := Nat.mul_lt_mul'' c c; omega
      · omega
      · have := Nat.mul_lt_mul'' c c; omega
    rw [e4]
    omega
  · have lt : T * T < 4 * n := by omega
    rw [ed T lt]
    have e5 : termT n T = 2 * cl 256 (4 * n - T * T) := by
      unfold termT
      rw [if_pos (by omega), if_neg (by omega)]
    have e6 : sq2 n = 0 := by
      unfold sq2
      rw [sg_cong (g := fun _ => 0) fun j _ => if_neg fun w => z ?_, sg_zero]
      have e4 : 2 * (j + 1) * (2 * (j + 1)) = 4 * n := by rw [Nat.mul_mul_mul_comm, w]
      have h1 : 2 * (j + 1) ≤ T := by
        rcases Nat.lt_or_ge T (2 * (j + 1)) with c | c
        · have : (T + 1) * (T + 1) ≤ 2 * (j + 1) * (2 * (j + 1)) := sq_mono c
          omega
        · exact c
      have := sq_mono h1
      omega
    omega

section
variable {P : Program} {w : World} {K : PySem.W.Frag} {mg : Str → Option Value} {base : Heap} {CM CR : Addr}
/-- no int with the property -/
def BadI (K : PySem.W.Frag) (ok : Int → Bool) (H : Hp) (v : V) : Prop := (∃ T, TyX K H v (.type T) ∧ T ∈ kinds ∧ (T == "int") = false) ∨ ∃ n : Int, v = .int n ∧ ok n = false
def spChkI (K : PySem.W.Frag) (CM : Addr) (ok : Int → Bool) : Sp := fun vs H Q E => ∃ v : V, vs = [v] ∧ ((BadI K ok H v ∧ E (.ref CM) none H) ∨ ∃ n : Int, v = .int n ∧ ok n = true ∧ Q .non H)
abbrev s__check_weight : Stmt := top 38
theorem sc__check_weight : FnScope ["k"] ["k"] (defScope s__check_weight) := ⟨rfl, rfl, rfl, by decide +kernel, rfl, by decide +kernel, by decide +kernel⟩

def okW (k : Int) : Bool := decide (k % 2 = 0 ∧ 2 ≤ k ∧ k ≤ 100)
theorem cal_chkw (D : Dn K mg "_check_weight" s__check_weight ["k"]) (B : Bl mg) (c_is_integer : Cal P w K mg base "is_integer" 1 ["value"] (spInt K)) (e_E : ErrO K mg CM) : CalX P w K mg base "_check_weight" 2 ["k"] (spChkI K CM okW) := by
  refine D.calX sc__check_weight (fun vs H Q E h => ?_) (fun f cdv A outer s H vs Q E hr h => ?_)
  · obtain ⟨v, rfl, _⟩ := h
    rfl
  · obtain ⟨v, rfl, h⟩ := h
    refine ⟨_, (pss_one (ps_if (PW.pt (pw_or (pt_not (pt_val (pe_cal c_is_integer (hr.mono (by decide)) rfl (pa_cons (pv 0) pa_nil)))) (pw_or (pt_truth (pe_op op_mod (pv 0) pe_int) (by intro _; rfl)) (pw_or1 (pt_not (pt_chain op_le op_le (pe_glob (v := .int 2) rfl B.c_LEAST_WEIGHT.choose_spec ⟨_, rfl⟩) (pv 0) (pe_glob (v := .int 100) rfl B.c_GREATEST_WEIGHT.choose_spec ⟨_, rfl⟩))))))) (pss_one (ps_mal e_E.m rfl (takes_of rfl rfl rfl rfl) rfl)) pss_nil)), ?_⟩
    walk_at "rd"
    rcases h with ⟨⟨T, ty, hT, hi⟩ | ⟨n, rfl, ho⟩, e⟩ | ⟨n, rfl, ho, q⟩
    · exact ⟨v, T, rfl, ty, hT, _, rfl, by rw [hi]; exact e⟩
    · unfold okW at ho
      have ho := of_decide_eq_false ho
      refine ⟨_, "int", rfl, .base (.int n), by decide, true, rfl, ?_⟩
      rw [if_neg (by decide)]
      refine ⟨n, rfl, by decide, _, rfl, ite2 (fun c => e) (fun c => ⟨n, rfl, ite2 (fun c4 => ⟨n, rfl, ite2 (fun c5 => absurd ⟨?_, c4, c5⟩ ho) (fun _ => e)⟩) (fun _ => e)⟩)⟩
      simpa using c
    · unfold okW at ho
      obtain ⟨h1, h2, h3⟩ := of_decide_eq_true ho
      refine ⟨_, "int", rfl, .base (.int n), by decide, true, rfl, ?_⟩
      rw [if_neg (by decide)]
      refine ⟨n, rfl, by decide, _, rfl, ?_⟩
      rw [h1, if_neg (by decide)]
      refine ⟨n, rfl, ?_⟩
      rw [if_pos h2]
      refine ⟨n, rfl, ?_⟩
      rw [if_pos h3]
      exact q
abbrev s__check_index : Stmt := top 39
theorem sc__check_index : FnScope ["n"] ["n"] (defScope s__check_index) := ⟨rfl, rfl, rfl, by decide +kernel, rfl, by decide +kernel, by decide +kernel⟩

def okN (n : Int) : Bool := decide (1 ≤ n ∧ n ≤ 20000)
theorem cal_chkn (D : Dn K mg "_check_index" s__check_index ["n"]) (B : Bl mg) (c_is_integer : Cal P w K mg base "is_integer" 1 ["value"] (spInt K)) (e_E : ErrO K mg CM) : CalX P w K mg base "_check_index" 2 ["n"] (spChkI K CM okN) := by
  refine D.calX sc__check_index (fun vs H Q E h => ?_) (fun f cdv A outer s H vs Q E hr h => ?_)
  · obtain ⟨v, rfl, _⟩ := h
    rfl
  · obtain ⟨v, rfl, h⟩ := h
    refine ⟨_, (pss_one (ps_if (PW.pt (pw_or (pt_not (pt_val (pe_cal c_is_integer (hr.mono (by decide)) rfl (pa_cons (pv 0) pa_nil)))) (pw_or1 (pt_not (pt_chain op_le op_le pe_int (pv 0) (pe_glob (v := .int 20000) rfl B.c_LARGEST_INDEX.choose_spec ⟨_, rfl⟩)))))) (pss_one (ps_mal e_E.m rfl (takes_of rfl rfl rfl rfl) rfl)) pss_nil)), ?_⟩
    walk_at "rd"
    rcases h with ⟨⟨T, ty, hT, hi⟩ | ⟨n, rfl, ho⟩, e⟩ | ⟨n, rfl, ho, q⟩
    · exact ⟨v, T, rfl, ty, hT, _, rfl, by rw [hi]; exact e⟩
    · unfold okN at ho
      have ho := of_decide_eq_false ho
      refine ⟨_, "int", rfl, .base (.int n), by decide, true, rfl, ?_⟩
      rw [if_neg (by decide)]
      refine ⟨n, rfl, ite2 (fun c4 => ⟨n, rfl, ite2 (fun c5 => absurd ⟨c4, c5⟩ ho) (fun _ => e)⟩) (fun _ => e)⟩
    · unfold okN at ho
      obtain ⟨h2, h3⟩ := of_decide_eq_true ho
      refine ⟨_, "int", rfl, .base (.int n), by decide, true, rfl, ?_⟩
      rw [if_neg (by decide)]
      refine ⟨n, rfl, ?_⟩
      rw [if_pos h2]
      refine ⟨n, rfl, ?_⟩
      rw [if_pos h3]
      exact q
abbrev s_told_number : Stmt := top 40
theorem sc_told_number : FnScope ["k", "t", "n", "before", "now", "_"] ["k", "t", "n"] (defScope s_told_number) := ⟨rfl, rfl, rfl, by decide +kernel, rfl, by decide +kernel, by decide +kernel⟩

def spTN : Sp := fun vs H Q _ => ∃ (k : Nat) (t n : Int), vs = [.int k, .int t, .int n] ∧ 2 ≤ k ∧ k ≤ 100 ∧ -(2 ^ 60) < t ∧ t < 2 ^ 60 ∧ 0 ≤ n ∧ n < 2 ^ 60 ∧ ∀ H', Same H H' → Q (.int (pn t n (k - 2))) H'
theorem cal_tn (D : Dn K mg "told_number" s_told_number ["k", "t", "n"]) (B : Bl mg) : Cal P w K mg base "told_number" 1 ["k", "t", "n"] spTN := by
  refine D.cal sc_told_number (fun vs H Q E h => by obtain ⟨k, t, n, rfl, _⟩ := h; rfl) (fun f cdv A outer s H vs Q E hr h => ?_)
  obtain ⟨k, t, n, rfl, k2, k1, t1, t2, n0, n2, q⟩ := h
  refine ⟨_, (pss_cons (ps_asg (pe_tup (pa_cons pe_int (pa_cons pe_int pa_nil))) (pg_tup (n := 2) rfl (pgs_cons (pg_name (i := 3) sc_told_number.nd rfl (Or.inl rfl)) (pgs_cons (pg_name (i := 4) sc_told_number.nd rfl (Or.inl rfl)) pgs_nil))))
  (pss_cons (ps_for PassesOwn.never rfl (pi_range1 rfl B.range (pa_cons (pe_op op_sub (pv 0) pe_int) pa_nil)) (pg_name (i := 5) sc_told_number.nd rfl (Or.inl rfl)) (pss_one (ps_par (i := 3) (j := 4) rfl sc_told_number.nd rfl rfl (by decide) rfl rfl (pa_cons (pv 4) (pa_cons (pe_op op_sub (pe_op op_mulI (pv 1) (pv 4)) (pe_op op_mulI (pv 2) (pv 3))) pa_nil)) (by rfl))))
  (pss_one (ps_ret (pv 4))))), ?_⟩
  rw [CB.rd_seq]
  walk_at "rs"
  refine ⟨by decide, fun p np => ⟨_, SqT.of upd_same, rfl, _, _, rfl, _, _, rfl, rfl, ?_⟩⟩
  have s1 := same_upd (o := HO.tup [V.int 0, V.int 1]) np
  generalize upd H p (HO.tup [V.int 0, V.int 1]) = H1 at *
  walk_at "nx"
  refine ⟨by omega, by omega, ?_⟩
  rw [show ((k : Int) - 2).toNat = k - 2 by omega]
  refine ForR.w (fun i σ H3 => ∃ s5, σ = [some (.int k), some (.int t), some (.int n), some (.int (pb t n i)), some (.int (pn t n i)), s5] ∧ H3 = H1) ⟨_, rfl, rfl⟩ ?_ ?_
  · rintro i σ H3 hi ⟨s5, rfl, rfl⟩ N hN
    walk_at "rs"
    refine ⟨mulL (by omega), mulL (by omega), ?_⟩
    rw [← pn_step]
    exact hN _ _ ⟨_, rfl, rfl⟩
  · rintro σ H3 ⟨s5, rfl, rfl⟩
    walk_at "rs"
    exact q _ s1
abbrev s_weight_number : Stmt := top 41
theorem sc_weight_number : FnScope ["k", "t", "n"] ["k", "t", "n"] (defScope s_weight_number) := ⟨rfl, rfl, rfl, by decide +kernel, rfl, by decide +kernel, by decide +kernel⟩

def spWN (K : PySem.W.Frag) (CM : Addr) : Sp := fun vs H Q E => ∃ u v x : V, vs = [u, v, x] ∧ ((BadI K okW H u ∧ E (.ref CM) none H) ∨ ∃ k : Nat, u = .int k ∧ okW k = true ∧ ((BadI K okN H x ∧ E (.ref CM) none H) ∨ ∃ n : Nat, x = .int n ∧ okN n = true ∧
  ((BadI K (fun _ => true) H v ∧ E (.ref CM) none H) ∨ ∃ t : Int, v = .int t ∧ -(2 ^ 60) < t ∧ t < 2 ^ 60 ∧ ∀ H', Same H H' → Q (.int (pn t n (k - 2))) H')))
theorem cal_wn (D : Dn K mg "weight_number" s_weight_number ["k", "t", "n"]) (B : Bl mg) (c__check_weight : CalX P w K mg base "_check_weight" 2 ["k"] (spChkI K CM okW)) (c__check_index : CalX P w K mg base "_check_index" 2 ["n"] (spChkI K CM okN))
    (c_is_integer : Cal P w K mg base "is_integer" 1 ["value"] (spInt K)) (c_told_number : Cal P w K mg base "told_number" 1 ["k", "t", "n"] spTN) (e_E : ErrO K mg CM) : CalX P w K mg base "weight_number" 3 ["k", "t", "n"] (spWN K CM) := by
  refine D.calX sc_weight_number (fun vs H Q E h => by obtain ⟨u, v, x, rfl, _⟩ := h; rfl) (fun f cdv A outer s H vs Q E hr h => ?_)
  obtain ⟨u, v, x, rfl, h⟩ := h
  refine ⟨_, (pss_cons (ps_expr (pe_calS c__check_weight (takes_of rfl rfl rfl rfl) (hr.mono (by decide)) rfl (pa_cons (pv 0) pa_nil)))
  (pss_cons (ps_expr (pe_calS c__check_index (takes_of rfl rfl rfl rfl) (hr.mono (by decide)) rfl (pa_cons (pv 2) pa_nil)))
  (pss_cons (ps_if (pt_not (pt_val (pe_cal c_is_integer (hr.mono (by decide)) rfl (pa_cons (pv 1) pa_nil)))) (pss_one (ps_mal e_E.m rfl (takes_of rfl rfl rfl rfl) rfl)) pss_nil)
  (pss_one (ps_ret (pe_cal c_told_number (hr.mono (by decide)) rfl (pa_cons (pv 0) (pa_cons (pv 1) (pa_cons (pv 2) pa_nil))))))))), ?_⟩
  walk_at "rd"
  rcases h with ⟨hb, e⟩ | ⟨k, rfl, hk, h⟩
  · exact ⟨u, rfl, .inl ⟨hb, e⟩⟩
  refine ⟨_, rfl, .inr ⟨k, rfl, hk, ?_⟩⟩
  rcases h with ⟨hb, e⟩ | ⟨n, rfl, hn, h⟩
  · exact ⟨x, rfl, .inl ⟨hb, e⟩⟩
  refine ⟨_, rfl, .inr ⟨n, rfl, hn, ?_⟩⟩
  have hk' := of_decide_eq_true hk
  have hn' := of_decide_eq_true hn
  rcases h with ⟨⟨T, ty, hT, hi⟩ | ⟨m, rfl, z⟩, e⟩ | ⟨t, rfl, t1, t2, q⟩
  · refine ⟨v, T, rfl, ty, hT, _, rfl, ?_⟩
    rw [hi]
    exact e
  · cases z
  · refine ⟨_, "int", rfl, .base (.int t), by decide, true, rfl, ?_⟩
    rw [if_neg (by decide)]
    exact ⟨k, t, n, rfl, by omega, by omega, t1, t2, by omega, by omega, q⟩
end

local macro_rules | `(tactic| walk_at "rd") => `(tactic| simp (maxSteps := 2000000) only [CB.rd_var, CB.rd_C, CB.rd_op, CB.rd_un, CB.rd_I, CB.rd_I0, CB.rd_U, CB.rd_Eq, CB.rd_Ne, CB.rd_test, CB.rd_B, CB.rd_and, CB.rd_or, CB.rd_not, CB.rd_andV, CB.rd_orV, CB.rd_notV, CB.rd_if, CB.rd_chain, CB.rd_chain3,
  CB.rd_next, CB.rd_seq, CB.rd_drop, CB.rd_ret, CB.rd_retN, CB.rd_break, CB.rd_cont, CB.rd_ifS, CB.rd_asg, CB.rd_name, CB.rd_gsub, CB.rd_gtup, CB.rd_gcons, CB.rd_gnil, CB.rd_par, CB.rd_aug, CB.rd_ipI, CB.rd_nil, CB.rd_cons, CB.rd_tup, CB.rd_lst, CB.rd_CB, CB.rd_call, CB.rd_callS, CB.rd_ixL, CB.rd_ixT, CB.rd_setL, CB.rd_putS, CB.rd_forZ, CB.rd_lcZ, CB.rd_forE, CB.rd_forEL, CB.rd_lcE, CB.rd_isqrt, CB.rd_sum, CB.rd_append, CB.rd_forL, CB.rd_forT, CB.rd_forR1, CB.rd_forR2, CB.rd_forR3, CB.rd_lcL, CB.rd_lcT, CB.rd_lcR1, CB.rd_lcR2, CB.rd_yes, CB.rd_sl, CB.rd_noPart, CB.rd_part, CB.rd_slL, CB.rd_wipe0, CB.rd_rep, CB.rd_tupOf, CB.rd_lenS, CB.rd_gcd, CB.rd_wipe1, CB.rd_sorted3, CB.rd_any, CB.rd_all, CB.rd_ext, CB.rd_glst, CB.rd_sortedM, CB.rd_minD, CB.rd_indexD, CB.rd_pop, CB.rd_dnew, CB.rd_dget, CB.rd_dget2, CB.rd_dput, CB.rd_dm, CB.rd_anyI, CB.rd_ixDC, CB.rd_inDC, CB.rd_cat, CB.rd_lcZR, CB.rd_revR1, CB.rd_max2, CB.rd_forRv, CB.rd_ins, CB.rd_revT, CB.rd_tailR, CB.rd_lc2, CB.rd_inL, CB.rd_listOf, CB.rd_inI, CB.rd_idxI, CB.rd_sortedI, CB.rd_lcRv,
  L2.start, List.map_cons, List.map_nil, List.length_cons, List.length_nil, Nat.reduceAdd, Nat.reduceSub, List.replicate_succ, List.replicate_zero,
  V.int.injEq, V.ref.injEq, V.bl.injEq, V.str.injEq, Option.some.injEq, List.cons.injEq, exists_and_left, exists_eq_left', exists_eq_left, reduceCtorEq, false_and, and_false, or_false, false_or, exists_false, exists_const, and_assoc, true_and, and_true,
  CB.scal_int, CB.scal_str, CB.dec_ii, CB.ite_dec, CB.ite_ndec, List.getElem?_cons_zero, List.getElem?_cons_succ, List.set_cons_zero, List.set_cons_succ, List.append_nil, List.cons_append, List.nil_append, if_true, if_false, Bool.false_eq_true, Bool.not_true, Bool.not_false, CB.K_nox, CB.K_cxOf, eq_self])
local macro_rules | `(tactic| walk_at "rs") => `(tactic| simp (maxSteps := 2000000) only [CB.rd_var, CB.rd_C, CB.rd_op, CB.rd_un, CB.rd_I, CB.rd_I0, CB.rd_U, CB.rd_Eq, CB.rd_Ne, CB.rd_test, CB.rd_B, CB.rd_and, CB.rd_or, CB.rd_not, CB.rd_andV, CB.rd_orV, CB.rd_notV, CB.rd_if, CB.rd_chain, CB.rd_chain3,
  CB.rd_next, CB.rd_drop, CB.rd_ret, CB.rd_retN, CB.rd_break, CB.rd_cont, CB.rd_ifS, CB.rd_asg, CB.rd_name, CB.rd_gsub, CB.rd_gtup, CB.rd_gcons, CB.rd_gnil, CB.rd_par, CB.rd_aug, CB.rd_ipI, CB.rd_nil, CB.rd_cons, CB.rd_tup, CB.rd_lst, CB.rd_CB, CB.rd_call, CB.rd_callS, CB.rd_ixL, CB.rd_ixT, CB.rd_setL, CB.rd_putS, CB.rd_forZ, CB.rd_lcZ, CB.rd_forE, CB.rd_forEL, CB.rd_lcE, CB.rd_isqrt, CB.rd_sum, CB.rd_append, CB.rd_forL, CB.rd_forT, CB.rd_forR1, CB.rd_forR2, CB.rd_forR3, CB.rd_lcL, CB.rd_lcT, CB.rd_lcR1, CB.rd_lcR2, CB.rd_yes, CB.rd_sl, CB.rd_noPart, CB.rd_part, CB.rd_slL, CB.rd_wipe0, CB.rd_rep, CB.rd_tupOf, CB.rd_lenS, CB.rd_gcd, CB.rd_wipe1, CB.rd_sorted3, CB.rd_any, CB.rd_all, CB.rd_ext, CB.rd_glst, CB.rd_sortedM, CB.rd_minD, CB.rd_indexD, CB.rd_pop, CB.rd_dnew, CB.rd_dget, CB.rd_dget2, CB.rd_dput, CB.rd_dm, CB.rd_anyI, CB.rd_ixDC, CB.rd_inDC, CB.rd_cat, CB.rd_lcZR, CB.rd_revR1, CB.rd_max2, CB.rd_forRv, CB.rd_ins, CB.rd_revT, CB.rd_tailR, CB.rd_lc2, CB.rd_inL, CB.rd_listOf, CB.rd_inI, CB.rd_idxI, CB.rd_sortedI, CB.rd_lcRv,
  L2.start, List.map_cons, List.map_nil, List.length_cons, List.length_nil, Nat.reduceAdd, Nat.reduceSub, List.replicate_succ, List.replicate_zero,
  V.int.injEq, V.ref.injEq, V.bl.injEq, V.str.injEq, Option.some.injEq, List.cons.injEq, exists_and_left, exists_eq_left', exists_eq_left, reduceCtorEq, false_and, and_false, or_false, false_or, exists_false, exists_const, and_assoc, true_and, and_true,
  CB.scal_int, CB.scal_str, CB.dec_ii, CB.ite_dec, CB.ite_ndec, List.getElem?_cons_zero, List.getElem?_cons_succ, List.set_cons_zero, List.set_cons_succ, List.append_nil, List.cons_append, List.nil_append, if_true, if_false, Bool.false_eq_true, Bool.not_true, Bool.not_false, CB.K_nox, CB.K_cxOf, eq_self])

local macro_rules | `(tactic| walk_at "nx") => `(tactic| (show tSeq _ _ _ _ _; rw [CB.rd_seq]; walk_at "rs"))


section
variable {P : Program} {w : World} {K : PySem.W.Frag} {mg : Str → Option Value} {base : Heap} {CM CR : Addr}
theorem cut_tail {xs : List V} : cutV xs (some 1) none = xs.tail := by
  unfold cutV
  rw [HT.sIx_none, show HT.sIx xs.length 0 (some 1) = min 1 xs.length from HT.sIx_nat _ _ 1]
  cases xs with
  | nil => rfl
  | cons x xs =>
    rw [List.length_cons, show min 1 (xs.length + 1) = 1 by omega, List.drop_one, List.tail_cons, List.take_of_length_le (by omega)]
theorem trs_app {H : Hp} {xs ys : List V} {ts us : List T3} (h : Trs H xs ts) (h' : Trs H ys us) : Trs H (xs ++ ys) (ts ++ us) := by
  obtain ⟨h1, rfl⟩ := h
  obtain ⟨h2, rfl⟩ := h'
  exact ⟨fun x m => (List.mem_append.mp m).elim (h1 x) (h2 x), List.map_append.symm⟩
theorem trs_tail {H : Hp} {xs : List V} {ts : List T3} (h : Trs H xs ts) : Trs H xs.tail ts.tail := by
  obtain ⟨h1, rfl⟩ := h
  exact ⟨fun x m => h1 x (List.mem_of_mem_tail m), by rw [List.map_tail]⟩
abbrev s__terms : Stmt := top 42
theorem sc__terms : FnScope ["k", "n", "most", "terms", "t", "number", "h"] ["k", "n"] (defScope s__terms) := ⟨rfl, rfl, rfl, by decide +kernel, rfl, by decide +kernel, by decide +kernel⟩

def okKN (k n : Nat) : Prop := 2 ≤ k ∧ k ≤ 100 ∧ 1 ≤ n ∧ n ≤ 20000
theorem tT_le {n : Nat} (h : n ≤ 20000) : tT n ≤ 283 := by
  have := (tT_ok n).1
  rcases Nat.lt_or_ge 283 (tT n) with c | c
  · have := sq_mono (show 284 ≤ tT n from c)
    omega
  · exact c
def spTerms : Sp := fun vs H Q _ => ∃ k n : Nat, vs = [.int k, .int n] ∧ okKN k n ∧ ∀ (ys : List V) p H', Same H H' → H p = none → H' p = some (.lst ys) → Trs H' ys (termsL k n) → Q (.ref p) H'
theorem cal_terms (D : Dn K mg "_terms" s__terms ["k", "n"]) (B : Bl mg) (c_root : Cal P w K mg base "root" 1 ["n", "k"] spRoot) (c_hurwitz : CalX P w K mg base "hurwitz" 3 ["n"] (spHur K CM CR))
    (c_told_number : Cal P w K mg base "told_number" 1 ["k", "t", "n"] spTN) : Cal P w K mg base "_terms" 4 ["k", "n"] spTerms := by
  refine D.cal sc__terms (fun vs H Q E h => by obtain ⟨k, n, rfl, _⟩ := h; rfl) (fun f cdv A outer s H vs Q E hr h => ?_)
  obtain ⟨k, n, rfl, hk, q⟩ := h
  obtain ⟨k2, k1, n1, n2⟩ := hk
  refine ⟨_, (pss_cons (ps_set (i := 2) sc__terms.nd rfl (Or.inl rfl) (pe_cal c_root (hr.mono (by decide)) rfl (pa_cons (pe_op op_mulI pe_int (pv 1)) (pa_cons pe_int pa_nil))))
  (pss_cons (ps_setLc (i := 3) (own := [("t", 4)]) rfl sc__terms.nd rfl rfl (sw_true rfl rfl rfl (by decide +kernel)) (pi_range1 rfl B.range (pa_cons (pe_op op_add (pv 2) pe_int) pa_nil)) (blkOk_by (N := ["k", "n", "most", "terms", "t", "number", "h"]) (sc := defScope s__terms) (own := [("t", 4)]) (by decide +kernel)) (fun _ _ _ _ _ => (pg_name (i := 4) sc__terms.nd rfl (Or.inl rfl))) (fun _ _ _ _ _ => pts_nil) (fun _ _ _ _ _ => (pe_tup (pa_cons (pv 4) (pa_cons (pe_cal c_told_number (hr.mono (by decide)) rfl (pa_cons (pv 0) (pa_cons (pv 4) (pa_cons (pv 1) pa_nil)))) (pa_cons (pe_calS c_hurwitz takes0 (hr.mono (by decide)) rfl (pa_cons (pe_op op_sub (pe_op op_mulI pe_int (pv 1)) (pe_op op_mulI (pv 4) (pv 4))) pa_nil)) pa_nil))))))
  (pss_one (ps_ret (pe_op op_cat (pe_lc (own := [("t", 4), ("number", 5), ("h", 6)]) rfl sc__terms.nd (RT.pi_revA rfl B.reversed (pe_slice sl_list (pv 3) (po_some pe_int) po_none)) (blkOk_by (N := ["k", "n", "most", "terms", "t", "number", "h"]) (sc := defScope s__terms) (own := [("t", 4), ("number", 5), ("h", 6)]) (by decide +kernel)) (fun _ _ _ _ _ => (pg_tupK (K := K) (n := 3) rfl rfl (pgs_cons (pg_name (i := 4) sc__terms.nd rfl (Or.inl rfl)) (pgs_cons (pg_name (i := 5) sc__terms.nd rfl (Or.inl rfl)) (pgs_cons (pg_name (i := 6) sc__terms.nd rfl (Or.inl rfl)) pgs_nil))) rfl rfl)) (fun _ _ _ _ _ => pts_nil) (fun _ _ _ _ _ => (pe_tup (pa_cons (pe_un un_neg (pv 4)) (pa_cons (pv 5) (pa_cons (pv 6) pa_nil)))))) (pv 3)))))), ?_⟩
  rw [CB.rd_seq]
  walk_at "rs"
  refine ⟨mulL (by decide), 4 * (n : Int), rfl, by omega, big1 (by omega) (by omega), ?_⟩
  have hT := tT_le n2
  have iT : isq (4 * (n : Int)) = (tT n : Int) := by
    unfold tT
    rw [Int.toNat_of_nonneg (isq_nn _)]
  rw [iT]
  walk_at "nx"
  refine ⟨by omega, by omega, ?_⟩
  rw [show ((tT n : Int) + 1).toNat = tT n + 1 by omega]
  refine LcR.w (fun i D ys H1 => Same H H1 ∧ H1 D = some (.lst ys) ∧ H D = none ∧ Trs H1 ys (upT k n i)) (fun D nD => ⟨same_upd nD, upd_same, nD, Trs.nil⟩) ?_ ?_
  · rintro D i ys H1 hi ⟨s1, h1, nD, ht⟩ N hN
    walk_at "rs"
    have ii : i * i ≤ 4 * n := Nat.le_trans (sq_mono (show i ≤ tT n by omega)) (tT_ok n).1
    have ei : ((i : Int) * i) = ((i * i : Nat) : Int) := by rw [Int.natCast_mul]
    rw [Int.zero_add]
    refine ⟨k, i, n, rfl, k2, k1, by omega, by omega, by omega, by omega, fun H2 s2 => ⟨mulL (by omega), mulL (by omega), _, rfl, .inr (.inr ⟨_, rfl, by omega, fun H3 s3 => ⟨by decide, fun p np => ⟨ys, ?_, ?_, ?_⟩⟩⟩)⟩⟩
    · exact (s2.trans (s3.trans (same_upd np))) _ _ h1
    · rw [← ht.len, upT_len]
      exact small_size (by omega)
    · have s23 := s2.trans (s3.trans (same_upd (o := HO.tup [V.int i, V.int (pn i n (k - 2)), V.int (due (4 * (n : Int) - (i : Int) * i))]) np))
      refine hN _ _ ⟨same_at (s1.trans s23) nD, upd_same, nD, ?_⟩
      rw [upT_succ]
      exact ((ht.same s23).snoc upd_same).updL (s23 _ _ h1)
  rintro D ys H1 nD ⟨s1, h1, _, ht⟩
  refine ⟨D, rfl, ys, SqL.of h1, fun p np => ?_⟩
  have s2 := same_upd (o := HO.lst (cutV ys (some 1) none)) np
  have h2 := s2 _ _ h1
  have hp2 : (upd H1 p (HO.lst (cutV ys (some 1) none))) p = some (.lst ys.tail) := by rw [upd_same, cut_tail]
  have ht2 := ht.same s2
  generalize upd H1 p (HO.lst (cutV ys (some 1) none)) = H2 at *
  have htl : Trs H2 ys.tail (upT k n (tT n + 1)).tail := trs_tail ht2
  have tl : ys.tail.length = tT n := by
    rw [← htl.len, List.length_tail, upT_len]
    rfl
  refine ⟨_, .inl ⟨SqL.of hp2, LcRv.w (xs := ys.tail) rfl (fun i E zs H3 => Same H2 H3 ∧ H3 E = some (.lst zs) ∧ H2 E = none ∧ Trs H3 zs ((((upT k n (tT n + 1)).tail.reverse).take i).map ngT)) (fun E nE => ⟨same_upd nE, upd_same, nE, Trs.nil⟩) ?_ ?_ ?_⟩⟩
  · rintro E i zs H3 _ ⟨s3, _⟩
    exact SqL.of (s3 _ _ hp2)
  · rintro E i v zs H3 hi hv ⟨s3, h3, nE, hz⟩ N hN
    obtain ⟨r, x, y, z, rfl, hr3, hu⟩ := htl.get hv
    have hr3 := s3 _ _ hr3
    walk_at "rs"
    have hil : i < (upT k n (tT n + 1)).tail.length := by rw [htl.len]; exact hi
    refine ⟨_, SqT.of hr3, rfl, _, _, rfl, _, _, rfl, _, _, rfl, rfl, x, rfl, by decide, fun p5 np5 => ⟨zs, (same_upd np5) _ _ h3, ?_, ?_⟩⟩
    · rw [← hz.len, List.length_map, List.length_take, List.length_reverse, htl.len, tl]
      exact small_size (by omega)
    · refine hN _ _ ⟨same_at (s3.trans (same_upd np5)) nE, upd_same, nE, ?_⟩
      have eu : (upT k n (tT n + 1)).tail.reverse[i]? = some (x, y, z) := by
        rw [List.getElem?_reverse hil, htl.len]
        exact hu
      rw [List.take_add_one, eu, List.map_append]
      exact ((hz.same (same_upd np5)).snoc (a := -x) (b := y) (c := z) upd_same).updL ((same_upd np5) _ _ h3)
  · rintro E zs H3 nE ⟨s3, h3, _, hz⟩
    have hh := htl.len
    rw [List.take_of_length_le (by rw [List.length_reverse]; omega)] at hz
    have zl : zs.length = tT n := by rw [← hz.len, List.length_map, List.length_reverse, hh, tl]
    have yl : ys.length = tT n + 1 := by rw [← ht.len, upT_len]
    have s03 : Same H H3 := s1.trans (s2.trans s3)
    refine ⟨_, rfl, _, rfl, zs, h3, ys, s3 _ _ h2, Nat.le_of_lt (small_size (by omega)), fun p4 np4 => ?_⟩
    have s4 := same_upd (o := HO.lst (zs ++ ys)) np4
    exact q (zs ++ ys) p4 _ (s03.trans s4) (s03.free np4) upd_same ((trs_app hz (ht2.same s3)).same s4)
end

local macro_rules | `(tactic| walk_at "rd") => `(tactic| simp (maxSteps := 2000000) only [CB.rd_var, CB.rd_C, CB.rd_op, CB.rd_un, CB.rd_I, CB.rd_I0, CB.rd_U, CB.rd_Eq, CB.rd_Ne, CB.rd_test, CB.rd_B, CB.rd_and, CB.rd_or, CB.rd_not, CB.rd_andV, CB.rd_orV, CB.rd_notV, CB.rd_if, CB.rd_chain, CB.rd_chain3,
  CB.rd_next, CB.rd_seq, CB.rd_drop, CB.rd_ret, CB.rd_retN, CB.rd_break, CB.rd_cont, CB.rd_ifS, CB.rd_asg, CB.rd_name, CB.rd_gsub, CB.rd_gtup, CB.rd_gcons, CB.rd_gnil, CB.rd_par, CB.rd_aug, CB.rd_ipI, CB.rd_nil, CB.rd_cons, CB.rd_tup, CB.rd_lst, CB.rd_CB, CB.rd_call, CB.rd_callS, CB.rd_ixL, CB.rd_ixT, CB.rd_setL, CB.rd_putS, CB.rd_forZ, CB.rd_lcZ, CB.rd_forE, CB.rd_forEL, CB.rd_lcE, CB.rd_isqrt, CB.rd_sum, CB.rd_append, CB.rd_forL, CB.rd_forT, CB.rd_forR1, CB.rd_forR2, CB.rd_forR3, CB.rd_lcL, CB.rd_lcT, CB.rd_lcR1, CB.rd_lcR2, CB.rd_yes, CB.rd_sl, CB.rd_noPart, CB.rd_part, CB.rd_slL, CB.rd_wipe0, CB.rd_rep, CB.rd_tupOf, CB.rd_lenS, CB.rd_gcd, CB.rd_wipe1, CB.rd_sorted3, CB.rd_any, CB.rd_all, CB.rd_ext, CB.rd_glst, CB.rd_sortedM, CB.rd_minD, CB.rd_indexD, CB.rd_pop, CB.rd_dnew, CB.rd_dget, CB.rd_dget2, CB.rd_dput, CB.rd_dm, CB.rd_anyI, CB.rd_ixDC, CB.rd_inDC, CB.rd_cat, CB.rd_lcZR, CB.rd_revR1, CB.rd_max2, CB.rd_forRv, CB.rd_ins, CB.rd_revT, CB.rd_tailR, CB.rd_lc2, CB.rd_inL, CB.rd_listOf, CB.rd_inI, CB.rd_idxI, CB.rd_sortedI, CB.rd_lcRv,
  L2.start, List.map_cons, List.map_nil, List.length_cons, List.length_nil, Nat.reduceAdd, Nat.reduceSub, List.replicate_succ, List.replicate_zero,
  V.int.injEq, V.ref.injEq, V.bl.injEq, V.str.injEq, Option.some.injEq, List.cons.injEq, exists_and_left, exists_eq_left', exists_eq_left, reduceCtorEq, false_and, and_false, or_false, false_or, exists_false, exists_const, and_assoc, true_and, and_true,
  CB.scal_int, CB.scal_str, CB.dec_ii, CB.ite_dec, CB.ite_ndec, List.getElem?_cons_zero, List.getElem?_cons_succ, List.set_cons_zero, List.set_cons_succ, List.append_nil, List.cons_append, List.nil_append, if_true, if_false, Bool.false_eq_true, Bool.not_true, Bool.not_false, CB.K_nox, CB.K_cxOf, eq_self])
local macro_rules | `(tactic| walk_at "rs") => `(tactic| simp (maxSteps := 2000000) only [CB.rd_var, CB.rd_C, CB.rd_op, CB.rd_un, CB.rd_I, CB.rd_I0, CB.rd_U, CB.rd_Eq, CB.rd_Ne, CB.rd_test, CB.rd_B, CB.rd_and, CB.rd_or, CB.rd_not, CB.rd_andV, CB.rd_orV, CB.rd_notV, CB.rd_if, CB.rd_chain, CB.rd_chain3,
  CB.rd_next, CB.rd_drop, CB.rd_ret, CB.rd_retN, CB.rd_break, CB.rd_cont, CB.rd_ifS, CB.rd_asg, CB.rd_name, CB.rd_gsub, CB.rd_gtup, CB.rd_gcons, CB.rd_gnil, CB.rd_par, CB.rd_aug, CB.rd_ipI, CB.rd_nil, CB.rd_cons, CB.rd_tup, CB.rd_lst, CB.rd_CB, CB.rd_call, CB.rd_callS, CB.rd_ixL, CB.rd_ixT, CB.rd_setL, CB.rd_putS, CB.rd_forZ, CB.rd_lcZ, CB.rd_forE, CB.rd_forEL, CB.rd_lcE, CB.rd_isqrt, CB.rd_sum, CB.rd_append, CB.rd_forL, CB.rd_forT, CB.rd_forR1, CB.rd_forR2, CB.rd_forR3, CB.rd_lcL, CB.rd_lcT, CB.rd_lcR1, CB.rd_lcR2, CB.rd_yes, CB.rd_sl, CB.rd_noPart, CB.rd_part, CB.rd_slL, CB.rd_wipe0, CB.rd_rep, CB.rd_tupOf, CB.rd_lenS, CB.rd_gcd, CB.rd_wipe1, CB.rd_sorted3, CB.rd_any, CB.rd_all, CB.rd_ext, CB.rd_glst, CB.rd_sortedM, CB.rd_minD, CB.rd_indexD, CB.rd_pop, CB.rd_dnew, CB.rd_dget, CB.rd_dget2, CB.rd_dput, CB.rd_dm, CB.rd_anyI, CB.rd_ixDC, CB.rd_inDC, CB.rd_cat, CB.rd_lcZR, CB.rd_revR1, CB.rd_max2, CB.rd_forRv, CB.rd_ins, CB.rd_revT, CB.rd_tailR, CB.rd_lc2, CB.rd_inL, CB.rd_listOf, CB.rd_inI, CB.rd_idxI, CB.rd_sortedI, CB.rd_lcRv,
  L2.start, List.map_cons, List.map_nil, List.length_cons, List.length_nil, Nat.reduceAdd, Nat.reduceSub, List.replicate_succ, List.replicate_zero,
  V.int.injEq, V.ref.injEq, V.bl.injEq, V.str.injEq, Option.some.injEq, List.cons.injEq, exists_and_left, exists_eq_left', exists_eq_left, reduceCtorEq, false_and, and_false, or_false, false_or, exists_false, exists_const, and_assoc, true_and, and_true,
  CB.scal_int, CB.scal_str, CB.dec_ii, CB.ite_dec, CB.ite_ndec, List.getElem?_cons_zero, List.getElem?_cons_succ, List.set_cons_zero, List.set_cons_succ, List.append_nil, List.cons_append, List.nil_append, if_true, if_false, Bool.false_eq_true, Bool.not_true, Bool.not_false, CB.K_nox, CB.K_cxOf, eq_self])

local macro_rules | `(tactic| walk_at "nx") => `(tactic| (show tSeq _ _ _ _ _; rw [CB.rd_seq]; walk_at "rs"))


section
variable {P : Program} {w : World} {K : PySem.W.Frag} {mg : Str → Option Value} {base : Heap} {CM CR : Addr}
abbrev s_class_terms : Stmt := top 43
theorem sc_class_terms : FnScope ["k", "n"] ["k", "n"] (defScope s_class_terms) := ⟨rfl, rfl, rfl, by decide +kernel, rfl, by decide +kernel, by decide +kernel⟩

def okKN.mk {k n : Nat} (hk : okW k = true) (hn : okN n = true) : okKN k n := by
  have := of_decide_eq_true hk
  have := of_decide_eq_true hn
  exact ⟨by omega, by omega, by omega, by omega⟩
def OrKN (K : PySem.W.Frag) (CM : Addr) (H : Hp) (u x : V) (E : Value → Option Addr → Hp → Prop) (q : Nat → Nat → Prop) : Prop :=
  (BadI K okW H u ∧ E (.ref CM) none H) ∨ ∃ k : Nat, u = .int k ∧ okW k = true ∧ ((BadI K okN H x ∧ E (.ref CM) none H) ∨ ∃ n : Nat, x = .int n ∧ okN n = true ∧ q k n)
def spCT (K : PySem.W.Frag) (CM : Addr) : Sp := fun vs H Q E => ∃ u x : V, vs = [u, x] ∧ OrKN K CM H u x E fun k n => ∀ ys p H', Same H H' → H' p = some (.tup ys) → Trs H' ys (termsL k n) → Q (.ref p) H'
theorem cal_ct (D : Dn K mg "class_terms" s_class_terms ["k", "n"]) (B : Bl mg) (c__check_weight : CalX P w K mg base "_check_weight" 2 ["k"] (spChkI K CM okW)) (c__check_index : CalX P w K mg base "_check_index" 2 ["n"] (spChkI K CM okN))
    (c__terms : Cal P w K mg base "_terms" 4 ["k", "n"] spTerms) : CalX P w K mg base "class_terms" 5 ["k", "n"] (spCT K CM) := by
  refine D.calX sc_class_terms (fun vs H Q E h => by obtain ⟨u, x, rfl, _⟩ := h; rfl) (fun f cdv A outer s H vs Q E hr h => ?_)
  obtain ⟨u, x, rfl, h⟩ := h
  refine ⟨_, (pss_cons (ps_expr (pe_calS c__check_weight (takes_of rfl rfl rfl rfl) (hr.mono (by decide)) rfl (pa_cons (pv 0) pa_nil)))
  (pss_cons (ps_expr (pe_calS c__check_index (takes_of rfl rfl rfl rfl) (hr.mono (by decide)) rfl (pa_cons (pv 1) pa_nil)))
  (pss_one (ps_ret (pe_callTy cr_tupOf rfl B.tuple boot_tuple (pa_cons (pe_cal c__terms (hr.mono (by decide)) rfl (pa_cons (pv 0) (pa_cons (pv 1) pa_nil))) pa_nil)))))), ?_⟩
  walk_at "rd"
  rcases h with ⟨hb, e⟩ | ⟨k, rfl, hk, h⟩
  · exact ⟨u, rfl, .inl ⟨hb, e⟩⟩
  refine ⟨_, rfl, .inr ⟨k, rfl, hk, ?_⟩⟩
  rcases h with ⟨hb, e⟩ | ⟨n, rfl, hn, q⟩
  · exact ⟨x, rfl, .inl ⟨hb, e⟩⟩
  refine ⟨_, rfl, .inr ⟨n, rfl, hn, k, n, rfl, okKN.mk hk hn, fun ys p H1 s1 n1 h1 ht => ⟨p, rfl, _, .inl ⟨SqL.of h1, fun l nl => ?_⟩⟩⟩⟩
  exact q ys l _ (s1.trans (same_upd nl)) upd_same (ht.same (same_upd nl))
abbrev s_lesser_sum : Stmt := top 44
theorem sc_lesser_sum : FnScope ["k", "n", "c"] ["k", "n"] (defScope s_lesser_sum) := ⟨rfl, rfl, rfl, by decide +kernel, rfl, by decide +kernel, by decide +kernel⟩

def lessV (k n : Nat) : Nat := Dv (fun c => min c (n / c) ^ (k - 1)) n
def spLS : Sp := fun vs H Q _ => ∃ k n : Nat, vs = [.int k, .int n] ∧ okKN k n ∧ ∀ H', Same H H' → Q (.int (lessV k n : Nat)) H'
theorem min_small {k n c : Nat} (h : okKN k n) (hc : c ∣ n) : 0 < min c (n / c) ∧ min c (n / c) ^ (k - 1) < 2 ^ 1000 := by
  obtain ⟨k2, k1, n1, n2⟩ := h
  have c0 := Nat.pos_of_dvd_of_pos hc (show 0 < n by omega)
  have e := Nat.div_mul_cancel hc
  have d0 : 0 < n / c := Nat.pos_of_ne_zero fun z => by rw [z] at e; omega
  have b : min c (n / c) ≤ 256 := by
    rcases Nat.lt_or_ge 256 (min c (n / c)) with z | z
    · have := Nat.mul_le_mul (show 257 ≤ n / c by omega) (show 257 ≤ c by omega)
      omega
    · exact z
  refine ⟨by omega, ?_⟩
  have h1 : min c (n / c) ^ (k - 1) ≤ 256 ^ (k - 1) := Nat.pow_le_pow_left b _
  have h2 : (256 : Nat) ^ (k - 1) ≤ 256 ^ 99 := Nat.pow_le_pow_right (by decide) (by omega)
  have h3 : (256 : Nat) ^ 99 = 2 ^ (8 * 99) := by rw [Nat.pow_mul]
  rw [h3] at h2
  exact Nat.lt_of_le_of_lt (Nat.le_trans h1 h2) (Nat.pow_lt_pow_right (by decide) (by decide))
theorem sum_casts (l : List Nat) : ((l.map fun x : Nat => (x : Int)).sum) = ((l.sum : Nat) : Int) := by
  induction l with
  | nil => rfl
  | cons x l ih => rw [List.map_cons, List.sum_cons, List.sum_cons, ih]; rfl
theorem cal_ls (D : Dn K mg "lesser_sum" s_lesser_sum ["k", "n"]) (B : Bl mg) (c_divisors_of : Cal P w K mg base "divisors_of" 5 ["n"] spDvs) (c_raised : Cal P w K mg base "raised" 1 ["b", "e"] spRaised) : Cal P w K mg base "lesser_sum" 6 ["k", "n"] spLS := by
  refine D.cal sc_lesser_sum (fun vs H Q E h => by obtain ⟨k, n, rfl, _⟩ := h; rfl) (fun f cdv A outer s H vs Q E hr h => ?_)
  obtain ⟨k, n, rfl, hk, q⟩ := h
  refine ⟨_, (pss_one (ps_ret (pe_callB (cr_sum rfl) rfl B.sum (by decide +kernel) (pa_cons (pe_lc (own := [("c", 2)]) rfl sc_lesser_sum.nd (pi_tup (pe_cal c_divisors_of (hr.mono (by decide)) rfl (pa_cons (pv 1) pa_nil))) (blkOk_by (N := ["k", "n", "c"]) (sc := defScope s_lesser_sum) (own := [("c", 2)]) (by decide +kernel)) (fun _ _ _ _ _ => (pg_name (i := 2) sc_lesser_sum.nd rfl (Or.inl rfl))) (fun _ _ _ _ _ => pts_nil) (fun _ _ _ _ _ => (pe_cal c_raised (hr.mono (by decide)) rfl (pa_cons (pe_callB (call_min2 rfl) rfl B.min (by decide +kernel) (pa_cons (pv 2) (pa_cons (pe_op op_fdivW (pv 1) (pv 2)) pa_nil))) (pa_cons (pe_op op_sub (pv 0) pe_int) pa_nil))))) pa_nil)))), ?_⟩
  walk_at "rd"
  have hk' := hk
  obtain ⟨k2, k1, n1, n2⟩ := hk'
  refine ⟨n, rfl, n1, n2, fun ds p H1 s1 h1 hd => ?_⟩
  have dl : ds.length ≤ 10000000 := by
    rw [(hd.perm (dvA_ok n1)).length_eq]
    unfold dvA
    refine Nat.le_trans (List.length_filter_le _ _) ?_
    rw [List.length_map, List.length_range]
    omega
  refine ⟨p, rfl, ⟨_, SqT.of h1⟩, LcT.p (xs := vN ds) (fun i => some (V.int ((((ds.map fun c => min c (n / c) ^ (k - 1)).getD i 0 : Nat)) : Int))) (by rw [vN_len]; exact dl) (fun H2 s2 => SqT.of (s2 _ _ h1)) (fun i v hv H2 s2 M S hM hS => ?_) (fun D2 H2 nD s2 h2 => ?_)⟩
  · unfold vN at hv
    rw [List.getElem?_map] at hv
    obtain ⟨c, hc, rfl⟩ := Option.map_eq_some_iff.mp hv
    walk_at "rs"
    have hcn := (hd.2 c).mp (List.mem_of_getElem? hc)
    have ms := min_small hk hcn
    have c0 := Nat.pos_of_dvd_of_pos hcn n1
    have em : (if (n : Int) / c < c then (n : Int) / c else (c : Int)) = ((min c (n / c) : Nat) : Int) := by
      rw [← Int.natCast_ediv]
      split <;> omega
    have ek : (k : Int) - 1 = ((k - 1 : Nat) : Int) := by omega
    rw [em, ek]
    have ev : (ds.map fun c => min c (n / c) ^ (k - 1)).getD i 0 = min c (n / c) ^ (k - 1) := by
      rw [List.getD_eq_getElem?_getD, List.getElem?_map, hc]
      rfl
    have cn := Nat.le_of_dvd n1 hcn
    refine ⟨divSmall (by omega) (by omega), _, _, rfl, ms.1, ms.2, hM _ _ ?_ (Same.refl _)⟩
    rw [ev]
  · refine ⟨_, rfl, ((ds.map fun c => min c (n / c) ^ (k - 1)).map fun x : Nat => (x : Int)), SqL.of (h2.trans ?_), ?_⟩
    · congr 2
      rw [fm_some]
      refine List.ext_getElem? fun i => ?_
      rw [vN_len, List.getElem?_map, List.getElem?_map, List.getElem?_map, List.getElem?_map]
      rcases Nat.lt_or_ge i ds.length with c | c
      · rw [List.getElem?_range c, List.getElem?_eq_getElem c]
        simp [List.getElem?_eq_getElem c]
      · rw [List.getElem?_eq_none (by rw [List.length_range]; exact c), List.getElem?_eq_none c]
        rfl
    · rw [sum_casts, hd.sum n1]
      exact q _ (s1.trans s2)
abbrev s__side : Stmt := top 45
theorem sc__side : FnScope ["k", "n", "_", "number", "h"] ["k", "n"] (defScope s__side) := ⟨rfl, rfl, rfl, by decide +kernel, rfl, by decide +kernel, by decide +kernel⟩

def spSide : Sp := fun vs H Q _ => ∃ k n : Nat, vs = [.int k, .int n] ∧ okKN k n ∧ ∀ H', Same H H' → Q (.int (sideV k n)) H'
theorem termsL_len {k n : Nat} (h : n ≤ 20000) : (termsL k n).length ≤ 1000 := by
  have := tT_le h
  unfold termsL
  rw [List.length_append, List.length_map, List.length_reverse, List.length_tail, upT_len]
  omega
theorem sg_bd {f : Nat → Nat} {b : Nat} (h : ∀ i, f i ≤ b) : ∀ n : Nat, sg f n ≤ n * b
  | 0 => Nat.zero_le _
  | n + 1 => by
    show sg f n + f n ≤ (n + 1) * b
    have := sg_bd h n
    have := h n
    rw [Nat.succ_mul]
    omega
theorem cl_bd (m : Nat) : cl 256 m ≤ 256 * (257 * 24) := by
  unfold cl
  have h0 : ∀ a b, itm a b m ≤ 24 := fun a b => by
    unfold itm item
    repeat' split
    all_goals omega
  have h1 : ∀ j, j < 256 → rowC (j + 1) m ≤ 257 * 24 := fun j hj => by
    unfold rowC
    refine Nat.le_trans (sg_bd (h0 _) _) (Nat.mul_le_mul_right _ (by omega))
  have h2 : sg (fun j => rowC (j + 1) m) 256 = sg (fun j => if j < 256 then rowC (j + 1) m else 0) 256 := sg_cong fun j hj => by rw [if_pos hj]
  rw [h2]
  refine sg_bd (fun j => ?_) 256
  split
  · rename_i c
    exact h1 j c
  · omega
theorem due_bd {m : Nat} (h : m < 80007) : -1 ≤ due (m : Int) ∧ due (m : Int) ≤ 1579008 := by
  rcases Nat.eq_zero_or_pos m with z | z
  · subst z
    exact ⟨by decide, by decide⟩
  · rw [due_cl z h]
    have := cl_bd m
    omega
theorem due_small {k n : Nat} (h : n ≤ 20000) {u : T3} (hu : u ∈ termsL k n) : -(2 ^ 64) < u.2.2 ∧ u.2.2 < 2 ^ 64 := by
  have main : ∀ x ∈ upT k n (tT n + 1), -(2 ^ 64) < x.2.2 ∧ x.2.2 < 2 ^ 64 := fun x hx => by
    unfold upT at hx
    obtain ⟨t, ht, rfl⟩ := List.mem_map.mp hx
    have ht := List.mem_range.mp ht
    have ii : t * t ≤ 4 * n := Nat.le_trans (sq_mono (show t ≤ tT n by omega)) (tT_ok n).1
    have e : 4 * (n : Int) - (t : Int) * t = ((4 * n - t * t : Nat) : Int) := by
      have ei : ((t : Int) * t) = ((t * t : Nat) : Int) := by rw [Int.natCast_mul]
      rw [ei]
      omega
    show -(2 ^ 64) < due (4 * (n : Int) - (t : Int) * t) ∧ due (4 * (n : Int) - (t : Int) * t) < 2 ^ 64
    rw [e]
    have := due_bd (m := 4 * n - t * t) (by omega)
    omega
  unfold termsL at hu
  rcases List.mem_append.mp hu with hu | hu
  · obtain ⟨x, hx, rfl⟩ := List.mem_map.mp hu
    exact main x (List.mem_of_mem_tail (List.mem_reverse.mp hx))
  · exact main u hu
theorem cal_side (D : Dn K mg "_side" s__side ["k", "n"]) (B : Bl mg) (c__terms : Cal P w K mg base "_terms" 4 ["k", "n"] spTerms) (c_lesser_sum : Cal P w K mg base "lesser_sum" 6 ["k", "n"] spLS) : Cal P w K mg base "_side" 7 ["k", "n"] spSide := by
  refine D.cal sc__side (fun vs H Q E h => by obtain ⟨k, n, rfl, _⟩ := h; rfl) (fun f cdv A outer s H vs Q E hr h => ?_)
  obtain ⟨k, n, rfl, hk, q⟩ := h
  refine ⟨_, (pss_one (ps_ret (pe_op op_add (pe_callB (cr_sum rfl) rfl B.sum (by decide +kernel) (pa_cons (pe_lc (own := [("_", 2), ("number", 3), ("h", 4)]) rfl sc__side.nd (pi_list (pe_cal c__terms (hr.mono (by decide)) rfl (pa_cons (pv 0) (pa_cons (pv 1) pa_nil)))) (blkOk_by (N := ["k", "n", "_", "number", "h"]) (sc := defScope s__side) (own := [("_", 2), ("number", 3), ("h", 4)]) (by decide +kernel)) (fun _ _ _ _ _ => (pg_tupK (K := K) (n := 3) rfl rfl (pgs_cons (pg_name (i := 2) sc__side.nd rfl (Or.inl rfl)) (pgs_cons (pg_name (i := 3) sc__side.nd rfl (Or.inl rfl)) (pgs_cons (pg_name (i := 4) sc__side.nd rfl (Or.inl rfl)) pgs_nil))) rfl rfl)) (fun _ _ _ _ _ => pts_nil) (fun _ _ _ _ _ => (pe_op op_mulI (pv 3) (pv 4)))) pa_nil)) (pe_op op_mulI pe_int (pe_cal c_lesser_sum (hr.mono (by decide)) rfl (pa_cons (pv 0) (pa_cons (pv 1) pa_nil))))))), ?_⟩
  walk_at "rd"
  refine ⟨k, n, rfl, hk, fun ys p H1 s1 n1 h1 ht => ?_⟩
  have yl : ys.length ≤ 1000 := by rw [← ht.len]; exact termsL_len hk.2.2.2
  refine ⟨p, rfl, ⟨_, SqL.of h1⟩, LcL.p (xs := ys) (fun i => some (V.int (((termsL k n).map pr3).getD i 0))) (by omega) (fun H2 s2 => SqL.of (s2 _ _ h1)) (fun i v hv H2 s2 M S hM hS => ?_) (fun D2 H2 nD s2 h2 => ?_)⟩
  · obtain ⟨r, x, y, z, rfl, hr3, hu⟩ := ht.get hv
    have hr3 := s2 _ _ hr3
    walk_at "rs"
    have ds := due_small hk.2.2.2 (List.mem_of_getElem? hu)
    refine ⟨_, SqT.of hr3, rfl, _, _, rfl, _, _, rfl, _, _, rfl, rfl, y, rfl, z, rfl, mulR ds, hM _ _ ?_ (Same.refl _)⟩
    rw [List.getD_eq_getElem?_getD, List.getElem?_map, hu]
    rfl
  · refine ⟨_, rfl, (termsL k n).map pr3, SqL.of (h2.trans ?_), ?_⟩
    · congr 2
      rw [fm_some]
      refine List.ext_getElem? fun i => ?_
      rw [List.getElem?_map, List.getElem?_map, List.getElem?_map, ← ht.len]
      rcases Nat.lt_or_ge i (termsL k n).length with c | c
      · rw [List.getElem?_range c, List.getElem?_eq_getElem c]
        simp [List.getElem?_eq_getElem c]
      · rw [List.getElem?_eq_none (by rw [List.length_range]; exact c), List.getElem?_eq_none c]
        rfl
    · refine ⟨k, n, rfl, hk, fun H3 s3 => ⟨_, rfl, mulL (by decide), ?_⟩⟩
      rw [terms_sum]
      exact q _ ((s1.trans s2).trans s3)
abbrev s_class_side : Stmt := top 46
theorem sc_class_side : FnScope ["k", "n"] ["k", "n"] (defScope s_class_side) := ⟨rfl, rfl, rfl, by decide +kernel, rfl, by decide +kernel, by decide +kernel⟩

def spCSd (K : PySem.W.Frag) (CM : Addr) : Sp := fun vs H Q E => ∃ u x : V, vs = [u, x] ∧ OrKN K CM H u x E fun k n => ∀ H', Same H H' → Q (.int (sideV k n)) H'
theorem cal_csd (D : Dn K mg "class_side" s_class_side ["k", "n"]) (B : Bl mg) (c__check_weight : CalX P w K mg base "_check_weight" 2 ["k"] (spChkI K CM okW)) (c__check_index : CalX P w K mg base "_check_index" 2 ["n"] (spChkI K CM okN))
    (c__side : Cal P w K mg base "_side" 7 ["k", "n"] spSide) : CalX P w K mg base "class_side" 8 ["k", "n"] (spCSd K CM) := by
  refine D.calX sc_class_side (fun vs H Q E h => by obtain ⟨u, x, rfl, _⟩ := h; rfl) (fun f cdv A outer s H vs Q E hr h => ?_)
  obtain ⟨u, x, rfl, h⟩ := h
  refine ⟨_, (pss_cons (ps_expr (pe_calS c__check_weight (takes_of rfl rfl rfl rfl) (hr.mono (by decide)) rfl (pa_cons (pv 0) pa_nil)))
  (pss_cons (ps_expr (pe_calS c__check_index (takes_of rfl rfl rfl rfl) (hr.mono (by decide)) rfl (pa_cons (pv 1) pa_nil)))
  (pss_one (ps_ret (pe_cal c__side (hr.mono (by decide)) rfl (pa_cons (pv 0) (pa_cons (pv 1) pa_nil))))))), ?_⟩
  walk_at "rd"
  rcases h with ⟨hb, e⟩ | ⟨k, rfl, hk, h⟩
  · exact ⟨u, rfl, .inl ⟨hb, e⟩⟩
  refine ⟨_, rfl, .inr ⟨k, rfl, hk, ?_⟩⟩
  rcases h with ⟨hb, e⟩ | ⟨n, rfl, hn, q⟩
  · exact ⟨x, rfl, .inl ⟨hb, e⟩⟩
  exact ⟨_, rfl, .inr ⟨n, rfl, hn, k, n, rfl, okKN.mk hk hn, q⟩⟩
/-! ### the dimension -/
abbrev s_divisor_sum : Stmt := top 28
theorem sc_divisor_sum : FnScope ["n", "k", "total", "p", "times", "step", "part", "_"] ["n", "k"] (defScope s_divisor_sum) := ⟨rfl, rfl, rfl, by decide +kernel, rfl, by decide +kernel, by decide +kernel⟩

def spDs1 : Sp := fun vs H Q _ => vs = [.int 1, .int 1] ∧ ∀ H', Same H H' → Q (.int 1) H'
theorem cal_ds1 (D : Dn K mg "divisor_sum" s_divisor_sum ["n", "k"]) (B : Bl mg) (c_factors : Cal P w K mg base "factors" 4 ["n"] spFac) (c_raised : Cal P w K mg base "raised" 1 ["b", "e"] spRaised) : Cal P w K mg base "divisor_sum" 5 ["n", "k"] spDs1 := by
  refine D.cal sc_divisor_sum (fun vs H Q E h => by obtain ⟨rfl, _⟩ := h; rfl) (fun f cdv A outer s H vs Q E hr h => ?_)
  obtain ⟨rfl, q⟩ := h
  refine ⟨_, (pss_cons (ps_set (i := 2) sc_divisor_sum.nd rfl (Or.inl rfl) pe_int)
  (pss_cons (ps_for PassesOwn.never rfl (pi_tup (pe_cal c_factors (hr.mono (by decide)) rfl (pa_cons (pv 0) pa_nil))) (pg_tup rfl (pgs_cons (pg_name (i := 3) sc_divisor_sum.nd rfl (Or.inl rfl)) (pgs_cons (pg_name (i := 4) sc_divisor_sum.nd rfl (Or.inl rfl)) pgs_nil))) (pss_cons (ps_set (i := 5) sc_divisor_sum.nd rfl (Or.inl rfl) (pe_cal c_raised (hr.mono (by decide)) rfl (pa_cons (pv 3) (pa_cons (pv 1) pa_nil))))
  (pss_cons (ps_set (i := 6) sc_divisor_sum.nd rfl (Or.inl rfl) pe_int)
  (pss_cons (ps_for PassesOwn.never rfl (pi_range1 rfl B.range (pa_cons (pv 4) pa_nil)) (pg_name (i := 7) sc_divisor_sum.nd rfl (Or.inl rfl)) (pss_one (ps_set (i := 6) sc_divisor_sum.nd rfl (Or.inl rfl) (pe_op op_add (pe_op op_mulI (pv 6) (pv 5)) pe_int))))
  (pss_one (ps_aug (i := 2) sc_divisor_sum.nd rfl (Or.inl rfl) (pv 6) iop_mulI))))))
  (pss_one (ps_ret (pv 2))))), ?_⟩
  rw [CB.rd_seq]
  walk_at "rs"
  walk_at "nx"
  refine ⟨1, rfl, by decide, by decide, smoS (by decide) (by decide), fun l p ts H1 s1 n1 hp hP hF hpos => ?_⟩
  have ln : l = [] := by
    match l, hF, hpos with
    | [], _, _ => rfl
    | x :: l, hF, hpos =>
      have h1 := prodC_in (l := x :: l) (q := x) (by simp)
      rw [hF.2.2] at h1
      have h2 := Nat.le_of_dvd (by decide) h1
      have h3 := pow_many (hF.1 x (by simp)).1 x.2
      have h4 := hpos x (by simp)
      omega
  subst ln
  have tl : ts = [] := List.length_eq_zero_iff.mp hP.len
  subst tl
  refine ⟨p, rfl, ⟨_, SqT.of hp⟩, ForT.w (xs := []) (fun i σ H2 => (∃ s3 s4 s5 s6 s7, σ = [some (.int 1), some (.int 1), some (.int 1), s3, s4, s5, s6, s7]) ∧ H2 = H1) ⟨⟨_, _, _, _, _, rfl⟩, rfl⟩ ?_ ?_ ?_⟩
  · rintro i σ H2 _ ⟨_, rfl⟩
    exact SqT.of hp
  · rintro i v σ H2 hv _
    simp at hv
  · rintro σ H2 ⟨⟨s3, s4, s5, s6, s7, rfl⟩, rfl⟩
    walk_at "rs"
    exact q _ s1
def dimV (k : Nat) : Nat := if k = 2 then 0 else if k % 12 = 2 then k / 12 - 1 else k / 12
abbrev s__trace : Stmt := top 47
theorem sc__trace : FnScope ["k", "n"] ["k", "n"] (defScope s__trace) := ⟨rfl, rfl, rfl, by decide +kernel, rfl, by decide +kernel, by decide +kernel⟩

def spTr1 : Sp := fun vs H Q _ => ∃ k : Nat, vs = [.int k, .int 1] ∧ okW k = true ∧ ∀ H', Same H H' → Q (.int (dimV k)) H'
theorem tT_one : tT 1 = 2 := by
  have := tT_ok 1
  match h : tT 1, this with
  | 0, h => omega
  | 1, h => omega
  | 2, _ => rfl
  | n + 3, h =>
    have := sq_mono (show 3 ≤ n + 3 by omega)
    omega
theorem due_4 : due 4 = 6 := by
  have e : cl 256 4 = 6 := by decide +kernel
  have := due_cl (m := 4) (by decide) (by decide)
  rw [e] at this
  exact this
theorem due_3 : due 3 = 4 := by
  have e : cl 256 3 = 4 := by decide +kernel
  have := due_cl (m := 3) (by decide) (by decide)
  rw [e] at this
  exact this
def sideJ (j : Nat) : Int := pn 0 1 (2 * j) * 6 + 2 * (pn 1 1 (2 * j) * 4) + 2 * (pn 2 1 (2 * j) * (-1)) + 12
theorem side_J (j : Nat) : sideV (2 * j + 2) 1 = sideJ j := by
  unfold sideV
  rw [tT_one]
  show 0 + (1 + 0) * (pn 0 1 (2 * j) * due 4) + (1 + 1) * (pn 1 1 (2 * j) * due 3) + (1 + 1) * (pn 2 1 (2 * j) * due 0) + 12 * ((0 + 1 ^ (2 * j + 2 - 1) : Nat) : Int) = _
  rw [due_4, due_3, due_0, Nat.one_pow]
  unfold sideJ
  omega
theorem dims_ok : (List.range 50).all (fun j => if j = 0 then decide (sideJ j / 24 = 1) else decide (-sideJ j / 24 = (dimV (2 * j + 2) : Int))) = true := by decide +kernel
theorem side_one {k : Nat} (h : okW k = true) : (k = 2 → sideV k 1 / 24 = 1) ∧ (k ≠ 2 → -sideV k 1 / 24 = (dimV k : Int)) := by
  have h' := of_decide_eq_true h
  obtain ⟨j, rfl⟩ : ∃ j, k = 2 * j + 2 := ⟨k / 2 - 1, by omega⟩
  have := List.all_eq_true.mp dims_ok j (List.mem_range.mpr (by omega))
  rw [side_J]
  split at this
  · rename_i c
    exact ⟨fun _ => of_decide_eq_true this, fun z => absurd (by omega) z⟩
  · rename_i c
    exact ⟨fun z => absurd (by omega) c, fun _ => of_decide_eq_true this⟩
theorem cal_tr1 (D : Dn K mg "_trace" s__trace ["k", "n"]) (B : Bl mg) (c_divisor_sum : Cal P w K mg base "divisor_sum" 5 ["n", "k"] spDs1) (c__side : Cal P w K mg base "_side" 7 ["k", "n"] spSide) : Cal P w K mg base "_trace" 8 ["k", "n"] spTr1 := by
  refine D.cal sc__trace (fun vs H Q E h => by obtain ⟨k, rfl, _⟩ := h; rfl) (fun f cdv A outer s H vs Q E hr h => ?_)
  obtain ⟨k, rfl, hk, q⟩ := h
  obtain ⟨a1, a2⟩ := side_one hk
  have kk := okKN.mk hk (show okN (1 : Nat) = true by decide)
  refine ⟨_, (pss_cons (ps_if (pt_cmpR op_eq (pv 0) pe_int (nomark _)) (pss_one (ps_ret (pe_op op_sub (pe_cal c_divisor_sum (hr.mono (by decide)) rfl (pa_cons (pv 1) (pa_cons pe_int pa_nil))) (pe_op op_fdivW (pe_cal c__side (hr.mono (by decide)) rfl (pa_cons (pv 0) (pa_cons (pv 1) pa_nil))) pe_int)))) pss_nil)
  (pss_one (ps_ret (pe_op op_fdivW (pe_un un_neg (pe_cal c__side (hr.mono (by decide)) rfl (pa_cons (pv 0) (pa_cons (pv 1) pa_nil)))) pe_int)))), ?_⟩
  walk_at "rd"
  by_cases c : k = 2
  · rw [if_pos (by omega)]
    refine ⟨rfl, fun H1 s1 => ⟨k, 1, rfl, kk, fun H2 s2 => ⟨_, rfl, divSmall (by decide) (by decide), _, rfl, ?_⟩⟩⟩
    have q' := q H2 (s1.trans s2)
    rw [a1 c]
    unfold dimV at q'
    rw [if_pos c] at q'
    exact q'
  · rw [if_neg (by omega)]
    refine ⟨k, 1, rfl, kk, fun H1 s1 => ⟨_, rfl, divSmall (by decide) (by decide), ?_⟩⟩
    rw [a2 c]
    exact q _ s1
abbrev s_dimension_by_classes : Stmt := top 48
theorem sc_dimension_by_classes : FnScope ["k"] ["k"] (defScope s_dimension_by_classes) := ⟨rfl, rfl, rfl, by decide +kernel, rfl, by decide +kernel, by decide +kernel⟩

def spDim (K : PySem.W.Frag) (CM : Addr) : Sp := fun vs H Q E => ∃ u : V, vs = [u] ∧ ((BadI K okW H u ∧ E (.ref CM) none H) ∨ ∃ k : Nat, u = .int k ∧ okW k = true ∧ ∀ H', Same H H' → Q (.int (dimV k)) H')
theorem cal_dim (D : Dn K mg "dimension_by_classes" s_dimension_by_classes ["k"]) (B : Bl mg) (c__check_weight : CalX P w K mg base "_check_weight" 2 ["k"] (spChkI K CM okW)) (c__trace : Cal P w K mg base "_trace" 8 ["k", "n"] spTr1) : CalX P w K mg base "dimension_by_classes" 9 ["k"] (spDim K CM) := by
  refine D.calX sc_dimension_by_classes (fun vs H Q E h => by obtain ⟨u, rfl, _⟩ := h; rfl) (fun f cdv A outer s H vs Q E hr h => ?_)
  obtain ⟨u, rfl, h⟩ := h
  refine ⟨_, (pss_cons (ps_expr (pe_calS c__check_weight (takes_of rfl rfl rfl rfl) (hr.mono (by decide)) rfl (pa_cons (pv 0) pa_nil)))
  (pss_one (ps_ret (pe_cal c__trace (hr.mono (by decide)) rfl (pa_cons (pv 0) (pa_cons pe_int pa_nil)))))), ?_⟩
  walk_at "rd"
  rcases h with ⟨hb, e⟩ | ⟨k, rfl, hk, q⟩
  · exact ⟨u, rfl, .inl ⟨hb, e⟩⟩
  · exact ⟨_, rfl, .inr ⟨k, rfl, hk, k, rfl, hk, q⟩⟩
end

local macro_rules | `(tactic| walk_at "rd") => `(tactic| simp (maxSteps := 2000000) only [CB.rd_var, CB.rd_C, CB.rd_op, CB.rd_un, CB.rd_I, CB.rd_I0, CB.rd_U, CB.rd_Eq, CB.rd_Ne, CB.rd_test, CB.rd_B, CB.rd_and, CB.rd_or, CB.rd_not, CB.rd_andV, CB.rd_orV, CB.rd_notV, CB.rd_if, CB.rd_chain, CB.rd_chain3,
  CB.rd_next, CB.rd_seq, CB.rd_drop, CB.rd_ret, CB.rd_retN, CB.rd_break, CB.rd_cont, CB.rd_ifS, CB.rd_asg, CB.rd_name, CB.rd_gsub, CB.rd_gtup, CB.rd_gcons, CB.rd_gnil, CB.rd_par, CB.rd_aug, CB.rd_ipI, CB.rd_nil, CB.rd_cons, CB.rd_tup, CB.rd_lst, CB.rd_CB, CB.rd_call, CB.rd_callS, CB.rd_ixL, CB.rd_ixT, CB.rd_setL, CB.rd_putS, CB.rd_forZ, CB.rd_lcZ, CB.rd_forE, CB.rd_forEL, CB.rd_lcE, CB.rd_isqrt, CB.rd_sum, CB.rd_append, CB.rd_forL, CB.rd_forT, CB.rd_forR1, CB.rd_forR2, CB.rd_forR3, CB.rd_lcL, CB.rd_lcT, CB.rd_lcR1, CB.rd_lcR2, CB.rd_yes, CB.rd_sl, CB.rd_noPart, CB.rd_part, CB.rd_slL, CB.rd_wipe0, CB.rd_rep, CB.rd_tupOf, CB.rd_lenS, CB.rd_gcd, CB.rd_wipe1, CB.rd_sorted3, CB.rd_any, CB.rd_all, CB.rd_ext, CB.rd_glst, CB.rd_sortedM, CB.rd_minD, CB.rd_indexD, CB.rd_pop, CB.rd_dnew, CB.rd_dget, CB.rd_dget2, CB.rd_dput, CB.rd_dm, CB.rd_anyI, CB.rd_ixDC, CB.rd_inDC, CB.rd_cat, CB.rd_lcZR, CB.rd_revR1, CB.rd_max2, CB.rd_forRv, CB.rd_ins, CB.rd_revT, CB.rd_tailR, CB.rd_lc2, CB.rd_inL, CB.rd_listOf, CB.rd_inI, CB.rd_idxI, CB.rd_sortedI, CB.rd_lcRv,
  L2.start, List.map_cons, List.map_nil, List.length_cons, List.length_nil, Nat.reduceAdd, Nat.reduceSub, List.replicate_succ, List.replicate_zero,
  V.int.injEq, V.ref.injEq, V.bl.injEq, V.str.injEq, Option.some.injEq, List.cons.injEq, exists_and_left, exists_eq_left', exists_eq_left, reduceCtorEq, false_and, and_false, or_false, false_or, exists_false, exists_const, and_assoc, true_and, and_true,
  CB.scal_int, CB.scal_str, CB.dec_ii, CB.ite_dec, CB.ite_ndec, List.getElem?_cons_zero, List.getElem?_cons_succ, List.set_cons_zero, List.set_cons_succ, List.append_nil, List.cons_append, List.nil_append, if_true, if_false, Bool.false_eq_true, Bool.not_true, Bool.not_false, CB.K_nox, CB.K_cxOf, eq_self])
local macro_rules | `(tactic| walk_at "rs") => `(tactic| simp (maxSteps := 2000000) only [CB.rd_var, CB.rd_C, CB.rd_op, CB.rd_un, CB.rd_I, CB.rd_I0, CB.rd_U, CB.rd_Eq, CB.rd_Ne, CB.rd_test, CB.rd_B, CB.rd_and, CB.rd_or, CB.rd_not, CB.rd_andV, CB.rd_orV, CB.rd_notV, CB.rd_if, CB.rd_chain, CB.rd_chain3,
  CB.rd_next, CB.rd_drop, CB.rd_ret, CB.rd_retN, CB.rd_break, CB.rd_cont, CB.rd_ifS, CB.rd_asg, CB.rd_name, CB.rd_gsub, CB.rd_gtup, CB.rd_gcons, CB.rd_gnil, CB.rd_par, CB.rd_aug, CB.rd_ipI, CB.rd_nil, CB.rd_cons, CB.rd_tup, CB.rd_lst, CB.rd_CB, CB.rd_call, CB.rd_callS, CB.rd_ixL, CB.rd_ixT, CB.rd_setL, CB.rd_putS, CB.rd_forZ, CB.rd_lcZ, CB.rd_forE, CB.rd_forEL, CB.rd_lcE, CB.rd_isqrt, CB.rd_sum, CB.rd_append, CB.rd_forL, CB.rd_forT, CB.rd_forR1, CB.rd_forR2, CB.rd_forR3, CB.rd_lcL, CB.rd_lcT, CB.rd_lcR1, CB.rd_lcR2, CB.rd_yes, CB.rd_sl, CB.rd_noPart, CB.rd_part, CB.rd_slL, CB.rd_wipe0, CB.rd_rep, CB.rd_tupOf, CB.rd_lenS, CB.rd_gcd, CB.rd_wipe1, CB.rd_sorted3, CB.rd_any, CB.rd_all, CB.rd_ext, CB.rd_glst, CB.rd_sortedM, CB.rd_minD, CB.rd_indexD, CB.rd_pop, CB.rd_dnew, CB.rd_dget, CB.rd_dget2, CB.rd_dput, CB.rd_dm, CB.rd_anyI, CB.rd_ixDC, CB.rd_inDC, CB.rd_cat, CB.rd_lcZR, CB.rd_revR1, CB.rd_max2, CB.rd_forRv, CB.rd_ins, CB.rd_revT, CB.rd_tailR, CB.rd_lc2, CB.rd_inL, CB.rd_listOf, CB.rd_inI, CB.rd_idxI, CB.rd_sortedI, CB.rd_lcRv,
  L2.start, List.map_cons, List.map_nil, List.length_cons, List.length_nil, Nat.reduceAdd, Nat.reduceSub, List.replicate_succ, List.replicate_zero,
  V.int.injEq, V.ref.injEq, V.bl.injEq, V.str.injEq, Option.some.injEq, List.cons.injEq, exists_and_left, exists_eq_left', exists_eq_left, reduceCtorEq, false_and, and_false, or_false, false_or, exists_false, exists_const, and_assoc, true_and, and_true,
  CB.scal_int, CB.scal_str, CB.dec_ii, CB.ite_dec, CB.ite_ndec, List.getElem?_cons_zero, List.getElem?_cons_succ, List.set_cons_zero, List.set_cons_succ, List.append_nil, List.cons_append, List.nil_append, if_true, if_false, Bool.false_eq_true, Bool.not_true, Bool.not_false, CB.K_nox, CB.K_cxOf, eq_self])

local macro_rules | `(tactic| walk_at "nx") => `(tactic| (show tSeq _ _ _ _ _; rw [CB.rd_seq]; walk_at "rs"))


section
variable {P : Program} {w : World} {K : PySem.W.Frag} {mg : Str → Option Value} {base : Heap} {CM CR : Addr}
abbrev s__law_odd : Stmt := top 51
theorem sc__law_odd : FnScope ["value", "item"] ["value"] (defScope s__law_odd) := ⟨rfl, rfl, rfl, by decide +kernel, rfl, by decide +kernel, by decide +kernel⟩

theorem kit_tl {T : String} (hT : T ∈ kinds) : kitB T "tuple" = some (T == "tuple") ∧ kitB T "list" = some (T == "list") := by
  unfold kinds at hT
  simp only [List.mem_cons, List.not_mem_nil, or_false] at hT
  rcases hT with rfl | rfl | rfl | rfl | rfl | rfl <;> decide +kernel
theorem cal_oddN (D : Dn K mg "_law_odd" s__law_odd ["value"]) : Cal P w K mg base "_law_odd" 1 ["value"] spNev := by
  exact D.never sc__law_odd
def spOdd0 : Sp := fun vs H Q _ => ∃ n : Int, vs = [.int n] ∧ ∀ H', Same H H' → Q (.bl false) H'
theorem cal_odd0 (D : Dn K mg "_law_odd" s__law_odd ["value"]) (B : Bl mg) (c__law_odd : Cal P w K mg base "_law_odd" 1 ["value"] spNev) : Cal P w K mg base "_law_odd" 2 ["value"] spOdd0 := by
  refine D.cal sc__law_odd (fun vs H Q E h => ?_) (fun f cdv A outer s H vs Q E hr h => ?_)
  · obtain ⟨n, rfl, _⟩ := h
    rfl
  · obtain ⟨n, rfl, q⟩ := h
    refine ⟨_, (pss_cons (ps_if (pt_cmpR (op_eqD hr.units) (pv 0) pe_str (nomark _)) (pss_one (ps_ret pe_bl)) pss_nil)
  (pss_one (ps_ret (pe_and (pe_callB call_isiT rfl B.isinstance (by decide +kernel) (pa_cons (pv 0) (pa_cons (pe_tup (pa_cons (pe_bltn (v := .ty "tuple") rfl B.tuple boot_tuple rfl) (pa_cons (pe_bltn (v := .ty "list") rfl B.list boot_list rfl) pa_nil))) pa_nil))) (pe_one (pe_cmpR op_gt (pe_callB cr_lenS rfl B.len (by decide +kernel) (pa_cons (pe_lc (own := [("item", 1)]) rfl sc__law_odd.nd (pi_tup (pv 0)) (blkOk_by (N := ["value", "item"]) (sc := defScope s__law_odd) (own := [("item", 1)]) (by decide +kernel)) (fun _ _ _ _ _ => (pg_name (i := 1) sc__law_odd.nd rfl (Or.inl rfl))) (fun _ _ _ _ _ => (pts_one (pt_val (pe_cal c__law_odd (hr.mono (by decide)) rfl (pa_cons (pv 1) pa_nil))))) (fun _ _ _ _ _ => (pv 1))) pa_nil)) pe_int (nomark _))))))), ?_⟩
    walk_at "nx"
    refine ⟨.int n, .str _, .int n, .str _, rfl, by decide +kernel, ?_⟩
    rw [show PyData.eqv (.int n) (.str _) = false from rfl]
    refine ⟨_, rfl, ?_⟩
    rw [if_neg (by decide)]
    refine ⟨by decide, fun p np => isiT_mk upd_same (.base (.int n)) (b1 := false) (b2 := false) (by decide +kernel) (by decide +kernel) ⟨_, rfl, ?_⟩⟩
    exact q _ (same_upd np)
def spOdd1 : Sp := fun vs H Q _ => ∃ (p : Addr) (ns : List Int), vs = [.ref p] ∧ H p = some (.tup (ns.map V.int)) ∧ ns.length ≤ 10000000 ∧ ∀ H', Same H H' → Q (.bl false) H'
theorem cal_odd1 (D : Dn K mg "_law_odd" s__law_odd ["value"]) (B : Bl mg) (c__law_odd : Cal P w K mg base "_law_odd" 2 ["value"] spOdd0) : Cal P w K mg base "_law_odd" 3 ["value"] spOdd1 := by
  refine D.cal sc__law_odd (fun vs H Q E h => ?_) (fun f cdv A outer s H vs Q E hr h => ?_)
  · obtain ⟨p, ns, rfl, _⟩ := h
    rfl
  · obtain ⟨p, ns, rfl, hp, hl, q⟩ := h
    refine ⟨_, (pss_cons (ps_if (pt_cmpR (op_eqD hr.units) (pv 0) pe_str (nomark _)) (pss_one (ps_ret pe_bl)) pss_nil)
  (pss_one (ps_ret (pe_and (pe_callB call_isiT rfl B.isinstance (by decide +kernel) (pa_cons (pv 0) (pa_cons (pe_tup (pa_cons (pe_bltn (v := .ty "tuple") rfl B.tuple boot_tuple rfl) (pa_cons (pe_bltn (v := .ty "list") rfl B.list boot_list rfl) pa_nil))) pa_nil))) (pe_one (pe_cmpR op_gt (pe_callB cr_lenS rfl B.len (by decide +kernel) (pa_cons (pe_lc (own := [("item", 1)]) rfl sc__law_odd.nd (pi_tup (pv 0)) (blkOk_by (N := ["value", "item"]) (sc := defScope s__law_odd) (own := [("item", 1)]) (by decide +kernel)) (fun _ _ _ _ _ => (pg_name (i := 1) sc__law_odd.nd rfl (Or.inl rfl))) (fun _ _ _ _ _ => (pts_one (pt_val (pe_cal c__law_odd (hr.mono (by decide)) rfl (pa_cons (pv 1) pa_nil))))) (fun _ _ _ _ _ => (pv 1))) pa_nil)) pe_int (nomark _))))))), ?_⟩
    walk_at "nx"
    refine ⟨_, .str _, dp_I hp, .str _, shaped_ints _, by decide +kernel, ?_⟩
    rw [show PyData.eqv (dIs ns) (.str _) = false from rfl]
    refine ⟨_, rfl, ?_⟩
    rw [if_neg (by decide)]
    refine ⟨by decide, fun tp ntp => isiT_mk upd_same (.base (.tup (same_upd ntp _ _ hp))) (b1 := true) (b2 := false) (by decide +kernel) (by decide +kernel) ⟨_, rfl, ?_⟩⟩
    have s1 := same_upd (o := HO.tup [.ty "tuple", .ty "list"]) ntp
    have hp1 := s1 _ _ hp
    rw [if_pos (by decide)]
    refine ⟨⟨_, SqT.of hp1⟩, LcT.p (xs := ns.map V.int) (fun _ => none) (by rw [List.length_map]; exact hl) (fun H2 s2 => SqT.of (s2 _ _ hp1)) (fun i x hx H2 s2 M S hM hS => ?_) (fun D2 H2 nD s2 h2 => ?_)⟩
    · rw [List.getElem?_map] at hx
      obtain ⟨n, _, rfl⟩ := Option.map_eq_some_iff.mp hx
      walk_at "rs"
      exact ⟨n, rfl, fun H3 s3 => ⟨false, rfl, hS _ rfl s3⟩⟩
    · rw [show (List.range (ns.map V.int).length).filterMap (fun _ => (none : Option V)) = [] from List.filterMap_eq_nil_iff.mpr fun _ _ => rfl] at h2
      exact ⟨0, .inl ⟨_, SqL.of h2, rfl⟩, q _ (s1.trans s2)⟩
def PlainT (H : Hp) (v : V) : Prop := (∃ n : Int, v = .int n) ∨ ∃ (p : Addr) (ys : List V) (us : List T3), v = .ref p ∧ H p = some (.tup ys) ∧ Trs H ys us ∧ ys.length ≤ 10000
def spOddC : Sp := fun vs H Q _ => ∃ v : V, vs = [v] ∧ PlainT H v ∧ ∀ H', Same H H' → Q (.bl false) H'
theorem cal_oddC (D : Dn K mg "_law_odd" s__law_odd ["value"]) (B : Bl mg) (c__law_odd : Cal P w K mg base "_law_odd" 3 ["value"] spOdd1) : Cal P w K mg base "_law_odd" 4 ["value"] spOddC := by
  refine D.cal sc__law_odd (fun vs H Q E h => ?_) (fun f cdv A outer s H vs Q E hr h => ?_)
  · obtain ⟨v, rfl, _⟩ := h
    rfl
  · obtain ⟨v, rfl, ⟨n, rfl⟩ | ⟨p, ys, us, rfl, hp, ht, hl⟩, q⟩ := h
    · refine ⟨_, (pss_cons (ps_if (pt_cmpR (op_eqD hr.units) (pv 0) pe_str (nomark _)) (pss_one (ps_ret pe_bl)) pss_nil)
  (pss_one (ps_ret (pe_and (pe_callB call_isiT rfl B.isinstance (by decide +kernel) (pa_cons (pv 0) (pa_cons (pe_tup (pa_cons (pe_bltn (v := .ty "tuple") rfl B.tuple boot_tuple rfl) (pa_cons (pe_bltn (v := .ty "list") rfl B.list boot_list rfl) pa_nil))) pa_nil))) (pe_one (pe_cmpR op_gt (pe_callB cr_lenS rfl B.len (by decide +kernel) (pa_cons (pe_lc (own := [("item", 1)]) rfl sc__law_odd.nd (pi_tup (pv 0)) (blkOk_by (N := ["value", "item"]) (sc := defScope s__law_odd) (own := [("item", 1)]) (by decide +kernel)) (fun _ _ _ _ _ => (pg_name (i := 1) sc__law_odd.nd rfl (Or.inl rfl))) (fun _ _ _ _ _ => (pts_one (pt_val (pe_cal c__law_odd (hr.mono (by decide)) rfl (pa_cons (pv 1) pa_nil))))) (fun _ _ _ _ _ => (pv 1))) pa_nil)) pe_int (nomark _))))))), ?_⟩
      walk_at "nx"
      refine ⟨.int n, .str _, .int n, .str _, rfl, by decide +kernel, ?_⟩
      rw [show PyData.eqv (.int n) (.str _) = false from rfl]
      refine ⟨_, rfl, ?_⟩
      rw [if_neg (by decide)]
      refine ⟨by decide, fun p np => isiT_mk upd_same (.base (.int n)) (b1 := false) (b2 := false) (by decide +kernel) (by decide +kernel) ⟨_, rfl, ?_⟩⟩
      exact q _ (same_upd np)
    · refine ⟨_, (pss_cons (ps_if (pt_cmpR (op_eqD hr.units) (pv 0) pe_str (nomark _)) (pss_one (ps_ret pe_bl)) pss_nil)
  (pss_one (ps_ret (pe_and (pe_callB call_isiT rfl B.isinstance (by decide +kernel) (pa_cons (pv 0) (pa_cons (pe_tup (pa_cons (pe_bltn (v := .ty "tuple") rfl B.tuple boot_tuple rfl) (pa_cons (pe_bltn (v := .ty "list") rfl B.list boot_list rfl) pa_nil))) pa_nil))) (pe_one (pe_cmpR op_gt (pe_callB cr_lenS rfl B.len (by decide +kernel) (pa_cons (pe_lc (own := [("item", 1)]) rfl sc__law_odd.nd (pi_tup (pv 0)) (blkOk_by (N := ["value", "item"]) (sc := defScope s__law_odd) (own := [("item", 1)]) (by decide +kernel)) (fun _ _ _ _ _ => (pg_name (i := 1) sc__law_odd.nd rfl (Or.inl rfl))) (fun _ _ _ _ _ => (pts_one (pt_val (pe_cal c__law_odd (hr.mono (by decide)) rfl (pa_cons (pv 1) pa_nil))))) (fun _ _ _ _ _ => (pv 1))) pa_nil)) pe_int (nomark _))))))), ?_⟩
      walk_at "nx"
      refine ⟨_, .str _, .tup (SqT.of hp) (dp_trs ht), .str _, shaped_t3 _, by decide +kernel, ?_⟩
      rw [show PyData.eqv (.tuple (us.map dT3)) (.str _) = false from rfl]
      refine ⟨_, rfl, ?_⟩
      rw [if_neg (by decide)]
      refine ⟨by decide, fun tp ntp => isiT_mk upd_same (.base (.tup (same_upd ntp _ _ hp))) (b1 := true) (b2 := false) (by decide +kernel) (by decide +kernel) ⟨_, rfl, ?_⟩⟩
      have s1 := same_upd (o := HO.tup [.ty "tuple", .ty "list"]) ntp
      have hp1 := s1 _ _ hp
      have ht1 := ht.same s1
      rw [if_pos (by decide)]
      refine ⟨⟨_, SqT.of hp1⟩, LcT.p (xs := ys) (fun _ => none) (by omega) (fun H2 s2 => SqT.of (s2 _ _ hp1)) (fun i x hx H2 s2 M S hM hS => ?_) (fun D2 H2 nD s2 h2 => ?_)⟩
      · obtain ⟨r, a, b, c, rfl, hr3, _⟩ := ht1.get hx
        walk_at "rs"
        exact ⟨r, [a, b, c], rfl, s2 _ _ hr3, by show 3 ≤ 10000000; decide, fun H3 s3 => ⟨false, rfl, hS _ rfl s3⟩⟩
      · rw [show (List.range ys.length).filterMap (fun _ => (none : Option V)) = [] from List.filterMap_eq_nil_iff.mpr fun _ _ => rfl] at h2
        exact ⟨0, .inl ⟨_, SqL.of h2, rfl⟩, q _ (s1.trans s2)⟩
abbrev s__law_plain : Stmt := top 52
theorem sc__law_plain : FnScope ["value"] ["value"] (defScope s__law_plain) := ⟨rfl, rfl, rfl, by decide +kernel, rfl, by decide +kernel, by decide +kernel⟩

def spPlC : Sp := fun vs H Q _ => ∃ v : V, vs = [v] ∧ PlainT H v ∧ ∀ H', Same H H' → Q v H'
theorem cal_plC (D : Dn K mg "_law_plain" s__law_plain ["value"]) (B : Bl mg) (c__law_odd : Cal P w K mg base "_law_odd" 4 ["value"] spOddC) : Cal P w K mg base "_law_plain" 5 ["value"] spPlC := by
  refine D.cal sc__law_plain (fun vs H Q E h => by obtain ⟨v, rfl, _⟩ := h; rfl) (fun f cdv A outer s H vs Q E hr h => ?_)
  obtain ⟨v, rfl, hv, q⟩ := h
  refine ⟨_, (pss_one (ps_ret (pe_ifExp (pt_val (pe_cal c__law_odd (hr.mono (by decide)) rfl (pa_cons (pv 0) pa_nil))) pe_str (pv 0)))), ?_⟩
  walk_at "rs"
  refine ⟨v, rfl, hv, fun H1 s1 => ⟨false, rfl, ?_⟩⟩
  rw [if_neg (by decide)]
  exact q _ s1
end

section
variable {P : Program} {w : World} {K : PySem.W.Frag} {mg : Str → Option Value} {base : Heap} {CM CR : Addr}
abbrev s__law_no_word : Stmt := top 50
theorem sc__law_no_word : FnScope ["value"] ["value"] (defScope s__law_no_word) := ⟨rfl, rfl, rfl, by decide +kernel, rfl, by decide +kernel, by decide +kernel⟩

def spNoWord (K : PySem.W.Frag) : Sp := fun vs H Q _ => ∃ (v : V) (T : String), vs = [v] ∧ TyX K H v (.type T) ∧ T ∈ kinds ∧ (T == "str") = false ∧ Q v H
theorem cal_no_word (D : Dn K mg "_law_no_word" s__law_no_word ["value"]) (B : Bl mg) : Cal P w K mg base "_law_no_word" 1 ["value"] (spNoWord K) := by
  refine D.cal sc__law_no_word (fun vs H Q E h => ?_) (fun f cdv A outer s H vs Q E hr h => ?_)
  · obtain ⟨v, T, rfl, _⟩ := h
    rfl
  · obtain ⟨v, T, rfl, ty, hT, hs, q⟩ := h
    refine ⟨_, (pss_one (ps_ret (pe_ifExp (pt_val (pe_callB call_isi rfl B.isinstance (by decide +kernel) (pa_cons (pv 0) (pa_cons (pe_bltn (v := .ty "str") rfl B.str boot_str rfl) pa_nil)))) pe_str (pv 0)))), ?_⟩
    walk_at "rd"
    refine isi_mk ty (kit_k hT (by simp)) ⟨false, ?_, ?_⟩
    · rw [hs, show ("str" == "int") = false by decide, Bool.and_false, Bool.or_false]
    rw [if_neg Bool.false_ne_true]
    exact q
end
section
variable {P : Program} {w : World} {K : PySem.W.Frag} {mg : Str → Option Value} {base : Heap} {CM CR : Addr}
/-! ### the law's divisors, contents, discriminants -/
end
section
variable {P : Program} {w : World} {K : PySem.W.Frag} {mg : Str → Option Value} {base : Heap} {CM CR : Addr}
end

local macro_rules | `(tactic| walk_at "rd") => `(tactic| simp (maxSteps := 2000000) only [CB.rd_var, CB.rd_C, CB.rd_op, CB.rd_un, CB.rd_I, CB.rd_I0, CB.rd_U, CB.rd_Eq, CB.rd_Ne, CB.rd_test, CB.rd_B, CB.rd_and, CB.rd_or, CB.rd_not, CB.rd_andV, CB.rd_orV, CB.rd_notV, CB.rd_if, CB.rd_chain, CB.rd_chain3,
  CB.rd_next, CB.rd_seq, CB.rd_drop, CB.rd_ret, CB.rd_retN, CB.rd_break, CB.rd_cont, CB.rd_ifS, CB.rd_asg, CB.rd_name, CB.rd_gsub, CB.rd_gtup, CB.rd_gcons, CB.rd_gnil, CB.rd_par, CB.rd_aug, CB.rd_ipI, CB.rd_nil, CB.rd_cons, CB.rd_tup, CB.rd_lst, CB.rd_CB, CB.rd_call, CB.rd_callS, CB.rd_ixL, CB.rd_ixT, CB.rd_setL, CB.rd_putS, CB.rd_forZ, CB.rd_lcZ, CB.rd_forE, CB.rd_forEL, CB.rd_lcE, CB.rd_isqrt, CB.rd_sum, CB.rd_append, CB.rd_forL, CB.rd_forT, CB.rd_forR1, CB.rd_forR2, CB.rd_forR3, CB.rd_lcL, CB.rd_lcT, CB.rd_lcR1, CB.rd_lcR2, CB.rd_yes, CB.rd_sl, CB.rd_noPart, CB.rd_part, CB.rd_slL, CB.rd_wipe0, CB.rd_rep, CB.rd_tupOf, CB.rd_lenS, CB.rd_gcd, CB.rd_wipe1, CB.rd_sorted3, CB.rd_any, CB.rd_all, CB.rd_ext, CB.rd_glst, CB.rd_sortedM, CB.rd_minD, CB.rd_indexD, CB.rd_pop, CB.rd_dnew, CB.rd_dget, CB.rd_dget2, CB.rd_dput, CB.rd_dm, CB.rd_anyI, CB.rd_ixDC, CB.rd_inDC, CB.rd_cat, CB.rd_lcZR, CB.rd_revR1, CB.rd_max2, CB.rd_forRv, CB.rd_ins, CB.rd_revT, CB.rd_tailR, CB.rd_lc2, CB.rd_inL, CB.rd_listOf, CB.rd_inI, CB.rd_idxI, CB.rd_sortedI, CB.rd_lcRv,
  L2.start, List.map_cons, List.map_nil, List.length_cons, List.length_nil, Nat.reduceAdd, Nat.reduceSub, List.replicate_succ, List.replicate_zero,
  V.int.injEq, V.ref.injEq, V.bl.injEq, V.str.injEq, Option.some.injEq, List.cons.injEq, exists_and_left, exists_eq_left', exists_eq_left, reduceCtorEq, false_and, and_false, or_false, false_or, exists_false, exists_const, and_assoc, true_and, and_true,
  CB.scal_int, CB.scal_str, CB.dec_ii, CB.ite_dec, CB.ite_ndec, List.getElem?_cons_zero, List.getElem?_cons_succ, List.set_cons_zero, List.set_cons_succ, List.append_nil, List.cons_append, List.nil_append, if_true, if_false, Bool.false_eq_true, Bool.not_true, Bool.not_false, CB.K_nox, CB.K_cxOf, eq_self])
local macro_rules | `(tactic| walk_at "rs") => `(tactic| simp (maxSteps := 2000000) only [CB.rd_var, CB.rd_C, CB.rd_op, CB.rd_un, CB.rd_I, CB.rd_I0, CB.rd_U, CB.rd_Eq, CB.rd_Ne, CB.rd_test, CB.rd_B, CB.rd_and, CB.rd_or, CB.rd_not, CB.rd_andV, CB.rd_orV, CB.rd_notV, CB.rd_if, CB.rd_chain, CB.rd_chain3,
  CB.rd_next, CB.rd_drop, CB.rd_ret, CB.rd_retN, CB.rd_break, CB.rd_cont, CB.rd_ifS, CB.rd_asg, CB.rd_name, CB.rd_gsub, CB.rd_gtup, CB.rd_gcons, CB.rd_gnil, CB.rd_par, CB.rd_aug, CB.rd_ipI, CB.rd_nil, CB.rd_cons, CB.rd_tup, CB.rd_lst, CB.rd_CB, CB.rd_call, CB.rd_callS, CB.rd_ixL, CB.rd_ixT, CB.rd_setL, CB.rd_putS, CB.rd_forZ, CB.rd_lcZ, CB.rd_forE, CB.rd_forEL, CB.rd_lcE, CB.rd_isqrt, CB.rd_sum, CB.rd_append, CB.rd_forL, CB.rd_forT, CB.rd_forR1, CB.rd_forR2, CB.rd_forR3, CB.rd_lcL, CB.rd_lcT, CB.rd_lcR1, CB.rd_lcR2, CB.rd_yes, CB.rd_sl, CB.rd_noPart, CB.rd_part, CB.rd_slL, CB.rd_wipe0, CB.rd_rep, CB.rd_tupOf, CB.rd_lenS, CB.rd_gcd, CB.rd_wipe1, CB.rd_sorted3, CB.rd_any, CB.rd_all, CB.rd_ext, CB.rd_glst, CB.rd_sortedM, CB.rd_minD, CB.rd_indexD, CB.rd_pop, CB.rd_dnew, CB.rd_dget, CB.rd_dget2, CB.rd_dput, CB.rd_dm, CB.rd_anyI, CB.rd_ixDC, CB.rd_inDC, CB.rd_cat, CB.rd_lcZR, CB.rd_revR1, CB.rd_max2, CB.rd_forRv, CB.rd_ins, CB.rd_revT, CB.rd_tailR, CB.rd_lc2, CB.rd_inL, CB.rd_listOf, CB.rd_inI, CB.rd_idxI, CB.rd_sortedI, CB.rd_lcRv,
  L2.start, List.map_cons, List.map_nil, List.length_cons, List.length_nil, Nat.reduceAdd, Nat.reduceSub, List.replicate_succ, List.replicate_zero,
  V.int.injEq, V.ref.injEq, V.bl.injEq, V.str.injEq, Option.some.injEq, List.cons.injEq, exists_and_left, exists_eq_left', exists_eq_left, reduceCtorEq, false_and, and_false, or_false, false_or, exists_false, exists_const, and_assoc, true_and, and_true,
  CB.scal_int, CB.scal_str, CB.dec_ii, CB.ite_dec, CB.ite_ndec, List.getElem?_cons_zero, List.getElem?_cons_succ, List.set_cons_zero, List.set_cons_succ, List.append_nil, List.cons_append, List.nil_append, if_true, if_false, Bool.false_eq_true, Bool.not_true, Bool.not_false, CB.K_nox, CB.K_cxOf, eq_self])

local macro_rules | `(tactic| walk_at "nx") => `(tactic| (show tSeq _ _ _ _ _; rw [CB.rd_seq]; walk_at "rs"))


section
variable {P : Program} {w : World} {K : PySem.W.Frag} {mg : Str → Option Value} {base : Heap}
abbrev s__law_is_number : Stmt := top 56
theorem sc__law_is_number : FnScope ["value"] ["value"] (defScope s__law_is_number) := ⟨rfl, rfl, rfl, by decide +kernel, rfl, by decide +kernel, by decide +kernel⟩

theorem cal_num (D : Dn K mg "_law_is_number" s__law_is_number ["value"]) (B : Bl mg) : Cal P w K mg base "_law_is_number" 1 ["value"] (spInt K) := by
  refine D.cal sc__law_is_number (fun vs H Q E h => ?_) (fun f cdv A outer s H vs Q E hr h => ?_)
  · obtain ⟨v, T, rfl, _⟩ := h
    rfl
  · obtain ⟨v, T, rfl, ty, hT, q⟩ := h
    refine ⟨_, (pss_one (ps_ret (pe_and (pe_callB call_isi rfl B.isinstance (by decide +kernel) (pa_cons (pv 0) (pa_cons (pe_bltn (v := .ty "int") rfl B.int boot_int rfl) pa_nil))) (pe_one (pe_not (pe_callB call_isi rfl B.isinstance (by decide +kernel) (pa_cons (pv 0) (pa_cons (pe_bltn (v := .ty "bool") rfl B.bool boot_bool rfl) pa_nil)))))))), ?_⟩
    walk_at "rd"
    refine isi_mk ty (kit_k hT (by simp)) ⟨_, rfl, ite2 (fun h => ?_) (fun h => ?_)⟩
    · refine isi_mk ty (kit_k hT (by simp)) ⟨_, rfl, ?_⟩
      rw [show (!(T == "bool" || (T == "bool" && "bool" == "int"))) = (T == "int") from ?_]
      · exact q
      · unfold kinds at hT
        simp only [List.mem_cons, List.not_mem_nil, or_false] at hT
        rcases hT with rfl | rfl | rfl | rfl | rfl | rfl <;> revert h <;> decide +kernel
    · rw [show false = (T == "int") from ?_]
      · exact q
      · unfold kinds at hT
        simp only [List.mem_cons, List.not_mem_nil, or_false] at hT
        rcases hT with rfl | rfl | rfl | rfl | rfl | rfl <;> revert h <;> decide +kernel
end

section
variable {P : Program} {w : World} {K : PySem.W.Frag} {mg : Str → Option Value} {base : Heap} {CM : Addr}
abbrev s__law_is_equal : Stmt := top 57
theorem sc__law_is_equal : FnScope ["value", "due", "k"] ["value", "due"] (defScope s__law_is_equal) := ⟨rfl, rfl, rfl, by decide +kernel, rfl, by decide +kernel, by decide +kernel⟩

theorem cal_eqN (D : Dn K mg "_law_is_equal" s__law_is_equal ["value", "due"]) : Cal P w K mg base "_law_is_equal" 1 ["value", "due"] spNev := by
  exact D.never sc__law_is_equal
def spEq0 : Sp := fun vs H Q _ => ∃ x y : Int, vs = [.int x, .int y] ∧ Q (.bl (decide (x = y))) H
theorem cal_eq0 (D : Dn K mg "_law_is_equal" s__law_is_equal ["value", "due"]) (B : Bl mg) (c__law_is_equal : Cal P w K mg base "_law_is_equal" 1 ["value", "due"] spNev) (c__law_is_number : Cal P w K mg base "_law_is_number" 1 ["value"] (spInt K)) : Cal P w K mg base "_law_is_equal" 2 ["value", "due"] spEq0 := by
  refine D.cal sc__law_is_equal (fun vs H Q E h => ?_) (fun f cdv A outer s H vs Q E hr h => ?_)
  · obtain ⟨x, y, rfl, _⟩ := h
    rfl
  · obtain ⟨x, y, rfl, q⟩ := h
    refine ⟨_, (pss_cons (ps_if (pt_val (pe_callB call_isi rfl B.isinstance (by decide +kernel) (pa_cons (pv 1) (pa_cons (pe_bltn (v := .ty "tuple") rfl B.tuple boot_tuple rfl) pa_nil)))) (pss_cons (ps_if (PW.pt (pw_or (pt_not (pt_val (pe_callB call_isi rfl B.isinstance (by decide +kernel) (pa_cons (pv 0) (pa_cons (pe_bltn (v := .ty "tuple") rfl B.tuple boot_tuple rfl) pa_nil))))) (pw_or1 (pt_cmpR op_ne (pe_callB cr_lenS rfl B.len (by decide +kernel) (pa_cons (pv 0) pa_nil)) (pe_callB cr_lenS rfl B.len (by decide +kernel) (pa_cons (pv 1) pa_nil)) (nomark _))))) (pss_one (ps_ret pe_bl)) pss_nil)
  (pss_one (ps_ret (pe_cmpR op_eq (pe_callB cr_lenS rfl B.len (by decide +kernel) (pa_cons (pe_lc (own := [("k", 2)]) rfl sc__law_is_equal.nd (pi_range1 rfl B.range (pa_cons (pe_callB cr_lenS rfl B.len (by decide +kernel) (pa_cons (pv 1) pa_nil)) pa_nil)) (blkOk_by (N := ["value", "due", "k"]) (sc := defScope s__law_is_equal) (own := [("k", 2)]) (by decide +kernel)) (fun _ _ _ _ _ => (pg_name (i := 2) sc__law_is_equal.nd rfl (Or.inl rfl))) (fun _ _ _ _ _ => (pts_one (pt_not (pt_val (pe_cal c__law_is_equal (hr.mono (by decide)) rfl (pa_cons (pe_ix (ix_tupK (K := K) rfl) (pv 0) (pv 2) (fun _ _ => rfl)) (pa_cons (pe_ix (ix_tupK (K := K) rfl) (pv 1) (pv 2) (fun _ _ => rfl)) pa_nil))))))) (fun _ _ _ _ _ => (pv 2))) pa_nil)) pe_int (nomark _))))) pss_nil)
  (pss_one (ps_ret (pe_and (pe_cal c__law_is_number (hr.mono (by decide)) rfl (pa_cons (pv 0) pa_nil)) (pe_one (pe_cmpR op_eq (pv 0) (pv 1) (nomark _))))))), ?_⟩
    walk_at "nx"
    refine isi_mk (.base (.int y)) (b := false) (by decide +kernel) ⟨_, rfl, ?_⟩
    rw [if_neg (by decide)]
    try walk_at "rs"
    exact ⟨_, "int", rfl, .base (.int x), by decide, _, rfl, by rw [if_pos (by decide)]; exact q⟩
theorem fm_nil {α β : Type} {l : List α} {y : α → Option β} : (l.filterMap y).length = 0 ↔ ∀ a ∈ l, y a = none := by
  rw [List.length_eq_zero_iff, List.filterMap_eq_nil_iff]
def spEq1 : Sp := fun vs H Q _ => ∃ (p d : Addr) (xs ys : List Int), vs = [.ref p, .ref d] ∧ H p = some (.tup (xs.map V.int)) ∧ H d = some (.tup (ys.map V.int)) ∧ ys.length ≤ 10000000 ∧ ∀ H', Same H H' → Q (.bl (decide (xs = ys))) H'
theorem cal_eq1 (D : Dn K mg "_law_is_equal" s__law_is_equal ["value", "due"]) (B : Bl mg) (c__law_is_equal : Cal P w K mg base "_law_is_equal" 2 ["value", "due"] spEq0) (c__law_is_number : Cal P w K mg base "_law_is_number" 1 ["value"] (spInt K)) : Cal P w K mg base "_law_is_equal" 3 ["value", "due"] spEq1 := by
  refine D.cal sc__law_is_equal (fun vs H Q E h => ?_) (fun f cdv A outer s H vs Q E hr h => ?_)
  · obtain ⟨p, d, xs, ys, rfl, _⟩ := h
    rfl
  · obtain ⟨p, d, xs, ys, rfl, hp, hd, hl, q⟩ := h
    refine ⟨_, (pss_cons (ps_if (pt_val (pe_callB call_isi rfl B.isinstance (by decide +kernel) (pa_cons (pv 1) (pa_cons (pe_bltn (v := .ty "tuple") rfl B.tuple boot_tuple rfl) pa_nil)))) (pss_cons (ps_if (PW.pt (pw_or (pt_not (pt_val (pe_callB call_isi rfl B.isinstance (by decide +kernel) (pa_cons (pv 0) (pa_cons (pe_bltn (v := .ty "tuple") rfl B.tuple boot_tuple rfl) pa_nil))))) (pw_or1 (pt_cmpR op_ne (pe_callB cr_lenS rfl B.len (by decide +kernel) (pa_cons (pv 0) pa_nil)) (pe_callB cr_lenS rfl B.len (by decide +kernel) (pa_cons (pv 1) pa_nil)) (nomark _))))) (pss_one (ps_ret pe_bl)) pss_nil)
  (pss_one (ps_ret (pe_cmpR op_eq (pe_callB cr_lenS rfl B.len (by decide +kernel) (pa_cons (pe_lc (own := [("k", 2)]) rfl sc__law_is_equal.nd (pi_range1 rfl B.range (pa_cons (pe_callB cr_lenS rfl B.len (by decide +kernel) (pa_cons (pv 1) pa_nil)) pa_nil)) (blkOk_by (N := ["value", "due", "k"]) (sc := defScope s__law_is_equal) (own := [("k", 2)]) (by decide +kernel)) (fun _ _ _ _ _ => (pg_name (i := 2) sc__law_is_equal.nd rfl (Or.inl rfl))) (fun _ _ _ _ _ => (pts_one (pt_not (pt_val (pe_cal c__law_is_equal (hr.mono (by decide)) rfl (pa_cons (pe_ix (ix_tupK (K := K) rfl) (pv 0) (pv 2) (fun _ _ => rfl)) (pa_cons (pe_ix (ix_tupK (K := K) rfl) (pv 1) (pv 2) (fun _ _ => rfl)) pa_nil))))))) (fun _ _ _ _ _ => (pv 2))) pa_nil)) pe_int (nomark _))))) pss_nil)
  (pss_one (ps_ret (pe_and (pe_cal c__law_is_number (hr.mono (by decide)) rfl (pa_cons (pv 0) pa_nil)) (pe_one (pe_cmpR op_eq (pv 0) (pv 1) (nomark _))))))), ?_⟩
    walk_at "nx"
    refine isi_mk (.base (.tup hd)) (b := true) (by decide +kernel) ⟨_, rfl, ?_⟩
    rw [if_pos rfl]
    walk_at "nx"
    refine isi_mk (.base (.tup hp)) (b := true) (by decide +kernel) ⟨_, rfl, ?_⟩
    rw [if_neg (by decide)]
    refine ⟨xs.length, .inr ⟨_, SqT.of hp, by rw [List.length_map]⟩, ys.length, .inr ⟨_, SqT.of hd, by rw [List.length_map]⟩, ite2 (fun c => ?_) (fun c => ?_)⟩
    · have : xs.length = ys.length := by omega
      refine ⟨ys.length, .inr ⟨_, SqT.of hd, by rw [List.length_map]⟩, by omega, by omega, ?_⟩
      rw [Int.toNat_natCast]
      refine LcR.p (fun k => if decide (xs.getD k 0 = ys.getD k 0) = true then none else some (V.int (0 + (k : Int)))) hl (fun k hk H1 s1 M S hM hS => ?_) (fun D2 H1 nD s1 h1 => ?_)
      · walk_at "rs"
        have e1 : (0 + (k : Int)) = (k : Int) := by omega
        rw [e1] at *
        refine ⟨_, SqT.of (s1 _ _ hp), .int (xs.getD k 0), ?_, _, SqT.of (s1 _ _ hd), .int (ys.getD k 0), ?_, _, _, rfl, _, rfl, ?_⟩
        · refine atI_nat ?_
          rw [List.getElem?_map, List.getElem?_eq_getElem (by omega), List.getD_eq_getElem?_getD, List.getElem?_eq_getElem (by omega)]
          rfl
        · refine atI_nat ?_
          rw [List.getElem?_map, List.getElem?_eq_getElem (by omega), List.getD_eq_getElem?_getD, List.getElem?_eq_getElem (by omega)]
          rfl
        · by_cases e : xs.getD k 0 = ys.getD k 0
          · rw [decide_eq_true e, if_neg (by decide)]
            exact hS _ (by rw [if_pos (decide_eq_true e)]) (Same.refl _)
          · rw [decide_eq_false e, if_pos (by decide)]
            exact hM _ _ (by rw [if_neg (by simpa using e), Int.zero_add]) (Same.refl _)
      · refine ⟨_, .inl ⟨_, SqL.of h1, rfl⟩, ?_⟩
        have e : decide ((((List.range ys.length).filterMap (fun k => if decide (xs.getD k 0 = ys.getD k 0) = true then none else some (V.int (0 + (k : Int))))).length : Int) = 0) = decide (xs = ys) := by
          refine decide_eq_decide.mpr ?_
          rw [show ∀ n : Nat, ((n : Int) = 0) = (n = 0) from fun n => propext (by omega), fm_nil]
          constructor
          · intro h
            refine List.ext_getElem this fun i h1 h2 => ?_
            have := h i (List.mem_range.mpr h2)
            by_cases c : xs.getD i 0 = ys.getD i 0
            · rw [List.getD_eq_getElem?_getD, List.getD_eq_getElem?_getD, List.getElem?_eq_getElem h1, List.getElem?_eq_getElem h2] at c
              exact c
            · rw [if_neg (by simpa using c)] at this
              cases this
          · rintro rfl
            intro a _
            rw [if_pos (by simp)]
        rw [e]
        exact q _ s1
    · have : xs ≠ ys := fun z => c (by rw [z])
      have q' := q H (Same.refl H)
      rw [decide_eq_false this] at q'
      exact q'
/-! ### tuples of triples -/
def spEqT : Sp := fun vs H Q _ => ∃ (p d : Addr) (xs ys : List V) (us : List T3), vs = [.ref p, .ref d] ∧ H p = some (.tup xs) ∧ H d = some (.tup ys) ∧ Trs H xs us ∧ Trs H ys us ∧ us.length ≤ 10000 ∧ ∀ H', Same H H' → Q (.bl true) H'
theorem cal_eqT (D : Dn K mg "_law_is_equal" s__law_is_equal ["value", "due"]) (B : Bl mg) (c__law_is_equal : Cal P w K mg base "_law_is_equal" 3 ["value", "due"] spEq1) (c__law_is_number : Cal P w K mg base "_law_is_number" 1 ["value"] (spInt K)) : Cal P w K mg base "_law_is_equal" 4 ["value", "due"] spEqT := by
  refine D.cal sc__law_is_equal (fun vs H Q E h => ?_) (fun f cdv A outer s H vs Q E hr h => ?_)
  · obtain ⟨p, d, xs, ys, us, rfl, _⟩ := h
    rfl
  · obtain ⟨p, d, xs, ys, us, rfl, hp, hd, hx, hy, hl, q⟩ := h
    have lx := hx.len
    have ly := hy.len
    refine ⟨_, (pss_cons (ps_if (pt_val (pe_callB call_isi rfl B.isinstance (by decide +kernel) (pa_cons (pv 1) (pa_cons (pe_bltn (v := .ty "tuple") rfl B.tuple boot_tuple rfl) pa_nil)))) (pss_cons (ps_if (PW.pt (pw_or (pt_not (pt_val (pe_callB call_isi rfl B.isinstance (by decide +kernel) (pa_cons (pv 0) (pa_cons (pe_bltn (v := .ty "tuple") rfl B.tuple boot_tuple rfl) pa_nil))))) (pw_or1 (pt_cmpR op_ne (pe_callB cr_lenS rfl B.len (by decide +kernel) (pa_cons (pv 0) pa_nil)) (pe_callB cr_lenS rfl B.len (by decide +kernel) (pa_cons (pv 1) pa_nil)) (nomark _))))) (pss_one (ps_ret pe_bl)) pss_nil)
  (pss_one (ps_ret (pe_cmpR op_eq (pe_callB cr_lenS rfl B.len (by decide +kernel) (pa_cons (pe_lc (own := [("k", 2)]) rfl sc__law_is_equal.nd (pi_range1 rfl B.range (pa_cons (pe_callB cr_lenS rfl B.len (by decide +kernel) (pa_cons (pv 1) pa_nil)) pa_nil)) (blkOk_by (N := ["value", "due", "k"]) (sc := defScope s__law_is_equal) (own := [("k", 2)]) (by decide +kernel)) (fun _ _ _ _ _ => (pg_name (i := 2) sc__law_is_equal.nd rfl (Or.inl rfl))) (fun _ _ _ _ _ => (pts_one (pt_not (pt_val (pe_cal c__law_is_equal (hr.mono (by decide)) rfl (pa_cons (pe_ix (ix_tupK (K := K) rfl) (pv 0) (pv 2) (fun _ _ => rfl)) (pa_cons (pe_ix (ix_tupK (K := K) rfl) (pv 1) (pv 2) (fun _ _ => rfl)) pa_nil))))))) (fun _ _ _ _ _ => (pv 2))) pa_nil)) pe_int (nomark _))))) pss_nil)
  (pss_one (ps_ret (pe_and (pe_cal c__law_is_number (hr.mono (by decide)) rfl (pa_cons (pv 0) pa_nil)) (pe_one (pe_cmpR op_eq (pv 0) (pv 1) (nomark _))))))), ?_⟩
    walk_at "nx"
    refine isi_mk (.base (.tup hd)) (b := true) (by decide +kernel) ⟨_, rfl, ?_⟩
    rw [if_pos rfl]
    walk_at "nx"
    refine isi_mk (.base (.tup hp)) (b := true) (by decide +kernel) ⟨_, rfl, ?_⟩
    rw [if_neg (by decide)]
    refine ⟨xs.length, .inr ⟨_, SqT.of hp, rfl⟩, ys.length, .inr ⟨_, SqT.of hd, rfl⟩, ?_⟩
    rw [if_pos (by omega)]
    refine ⟨ys.length, .inr ⟨_, SqT.of hd, rfl⟩, by omega, by omega, ?_⟩
    rw [Int.toNat_natCast]
    refine LcR.p (fun k => none) (by omega) (fun k hk H1 s1 M S hM hS => ?_) (fun D2 H1 nD s1 h1 => ?_)
    · walk_at "rs"
      have e1 : (0 + (k : Int)) = (k : Int) := by omega
      rw [e1] at *
      have kx : k < xs.length := by omega
      obtain ⟨r, a, b, c, er, hr3, hu⟩ := hx.get (List.getElem?_eq_getElem kx)
      obtain ⟨r', a', b', c', er', hr3', hu'⟩ := hy.get (List.getElem?_eq_getElem hk)
      rw [hu] at hu'
      cases hu'
      refine ⟨_, SqT.of (s1 _ _ hp), .ref r, ?_, _, SqT.of (s1 _ _ hd), .ref r', ?_, r, r', [a, b, c], [a, b, c], rfl, s1 _ _ hr3, s1 _ _ hr3', by show 3 ≤ 10000000; decide, fun H2 s2 => ⟨_, rfl, ?_⟩⟩
      · refine atI_nat ?_
        rw [List.getElem?_eq_getElem kx, er]
      · refine atI_nat ?_
        rw [List.getElem?_eq_getElem hk, er']
      · rw [decide_eq_true rfl, if_neg (by decide)]
        exact hS _ rfl s2
    · rw [show (List.range ys.length).filterMap (fun _ => (none : Option V)) = [] from List.filterMap_eq_nil_iff.mpr fun _ _ => rfl] at h1
      exact ⟨0, .inl ⟨_, SqL.of h1, rfl⟩, q _ s1⟩
end

local macro_rules | `(tactic| walk_at "rd") => `(tactic| simp (maxSteps := 2000000) only [CB.rd_var, CB.rd_C, CB.rd_op, CB.rd_un, CB.rd_I, CB.rd_I0, CB.rd_U, CB.rd_Eq, CB.rd_Ne, CB.rd_test, CB.rd_B, CB.rd_and, CB.rd_or, CB.rd_not, CB.rd_andV, CB.rd_orV, CB.rd_notV, CB.rd_if, CB.rd_chain, CB.rd_chain3,
  CB.rd_next, CB.rd_seq, CB.rd_drop, CB.rd_ret, CB.rd_retN, CB.rd_break, CB.rd_cont, CB.rd_ifS, CB.rd_asg, CB.rd_name, CB.rd_gsub, CB.rd_gtup, CB.rd_gcons, CB.rd_gnil, CB.rd_par, CB.rd_aug, CB.rd_ipI, CB.rd_nil, CB.rd_cons, CB.rd_tup, CB.rd_lst, CB.rd_CB, CB.rd_call, CB.rd_callS, CB.rd_ixL, CB.rd_ixT, CB.rd_setL, CB.rd_putS, CB.rd_forZ, CB.rd_lcZ, CB.rd_forE, CB.rd_forEL, CB.rd_lcE, CB.rd_isqrt, CB.rd_sum, CB.rd_append, CB.rd_forL, CB.rd_forT, CB.rd_forR1, CB.rd_forR2, CB.rd_forR3, CB.rd_lcL, CB.rd_lcT, CB.rd_lcR1, CB.rd_lcR2, CB.rd_yes, CB.rd_sl, CB.rd_noPart, CB.rd_part, CB.rd_slL, CB.rd_wipe0, CB.rd_rep, CB.rd_tupOf, CB.rd_lenS, CB.rd_gcd, CB.rd_wipe1, CB.rd_sorted3, CB.rd_any, CB.rd_all, CB.rd_ext, CB.rd_glst, CB.rd_sortedM, CB.rd_minD, CB.rd_indexD, CB.rd_pop, CB.rd_dnew, CB.rd_dget, CB.rd_dget2, CB.rd_dput, CB.rd_dm, CB.rd_anyI, CB.rd_ixDC, CB.rd_inDC, CB.rd_cat, CB.rd_lcZR, CB.rd_revR1, CB.rd_max2, CB.rd_forRv, CB.rd_ins, CB.rd_revT, CB.rd_tailR, CB.rd_lc2, CB.rd_inL, CB.rd_listOf, CB.rd_inI, CB.rd_idxI, CB.rd_sortedI, CB.rd_lcRv,
  L2.start, List.map_cons, List.map_nil, List.length_cons, List.length_nil, Nat.reduceAdd, Nat.reduceSub, List.replicate_succ, List.replicate_zero,
  V.int.injEq, V.ref.injEq, V.bl.injEq, V.str.injEq, Option.some.injEq, List.cons.injEq, exists_and_left, exists_eq_left', exists_eq_left, reduceCtorEq, false_and, and_false, or_false, false_or, exists_false, exists_const, and_assoc, true_and, and_true,
  CB.scal_int, CB.scal_str, CB.dec_ii, CB.ite_dec, CB.ite_ndec, List.getElem?_cons_zero, List.getElem?_cons_succ, List.set_cons_zero, List.set_cons_succ, List.append_nil, List.cons_append, List.nil_append, if_true, if_false, Bool.false_eq_true, Bool.not_true, Bool.not_false, CB.K_nox, CB.K_cxOf, eq_self])
local macro_rules | `(tactic| walk_at "rs") => `(tactic| simp (maxSteps := 2000000) only [CB.rd_var, CB.rd_C, CB.rd_op, CB.rd_un, CB.rd_I, CB.rd_I0, CB.rd_U, CB.rd_Eq, CB.rd_Ne, CB.rd_test, CB.rd_B, CB.rd_and, CB.rd_or, CB.rd_not, CB.rd_andV, CB.rd_orV, CB.rd_notV, CB.rd_if, CB.rd_chain, CB.rd_chain3,
  CB.rd_next, CB.rd_drop, CB.rd_ret, CB.rd_retN, CB.rd_break, CB.rd_cont, CB.rd_ifS, CB.rd_asg, CB.rd_name, CB.rd_gsub, CB.rd_gtup, CB.rd_gcons, CB.rd_gnil, CB.rd_par, CB.rd_aug, CB.rd_ipI, CB.rd_nil, CB.rd_cons, CB.rd_tup, CB.rd_lst, CB.rd_CB, CB.rd_call, CB.rd_callS, CB.rd_ixL, CB.rd_ixT, CB.rd_setL, CB.rd_putS, CB.rd_forZ, CB.rd_lcZ, CB.rd_forE, CB.rd_forEL, CB.rd_lcE, CB.rd_isqrt, CB.rd_sum, CB.rd_append, CB.rd_forL, CB.rd_forT, CB.rd_forR1, CB.rd_forR2, CB.rd_forR3, CB.rd_lcL, CB.rd_lcT, CB.rd_lcR1, CB.rd_lcR2, CB.rd_yes, CB.rd_sl, CB.rd_noPart, CB.rd_part, CB.rd_slL, CB.rd_wipe0, CB.rd_rep, CB.rd_tupOf, CB.rd_lenS, CB.rd_gcd, CB.rd_wipe1, CB.rd_sorted3, CB.rd_any, CB.rd_all, CB.rd_ext, CB.rd_glst, CB.rd_sortedM, CB.rd_minD, CB.rd_indexD, CB.rd_pop, CB.rd_dnew, CB.rd_dget, CB.rd_dget2, CB.rd_dput, CB.rd_dm, CB.rd_anyI, CB.rd_ixDC, CB.rd_inDC, CB.rd_cat, CB.rd_lcZR, CB.rd_revR1, CB.rd_max2, CB.rd_forRv, CB.rd_ins, CB.rd_revT, CB.rd_tailR, CB.rd_lc2, CB.rd_inL, CB.rd_listOf, CB.rd_inI, CB.rd_idxI, CB.rd_sortedI, CB.rd_lcRv,
  L2.start, List.map_cons, List.map_nil, List.length_cons, List.length_nil, Nat.reduceAdd, Nat.reduceSub, List.replicate_succ, List.replicate_zero,
  V.int.injEq, V.ref.injEq, V.bl.injEq, V.str.injEq, Option.some.injEq, List.cons.injEq, exists_and_left, exists_eq_left', exists_eq_left, reduceCtorEq, false_and, and_false, or_false, false_or, exists_false, exists_const, and_assoc, true_and, and_true,
  CB.scal_int, CB.scal_str, CB.dec_ii, CB.ite_dec, CB.ite_ndec, List.getElem?_cons_zero, List.getElem?_cons_succ, List.set_cons_zero, List.set_cons_succ, List.append_nil, List.cons_append, List.nil_append, if_true, if_false, Bool.false_eq_true, Bool.not_true, Bool.not_false, CB.K_nox, CB.K_cxOf, eq_self])

local macro_rules | `(tactic| walk_at "nx") => `(tactic| (show tSeq _ _ _ _ _; rw [CB.rd_seq]; walk_at "rs"))


section
variable {P : Program} {w : World} {K : PySem.W.Frag} {mg : Str → Option Value} {base : Heap} {CM CR : Addr}
abbrev s__law_told : Stmt := top 61
theorem sc__law_told : FnScope ["which", "k", "n", "t"] ["which", "k", "n", "t"] (defScope s__law_told) := ⟨rfl, rfl, rfl, by decide +kernel, rfl, by decide +kernel, by decide +kernel⟩

def bdQ (H : Hp) (Q : VK) : Prop := ∀ H', Same H H' → Q (.str "raised malformed") H'
def OrT (K : PySem.W.Frag) (H : Hp) (u x : V) (Q : VK) (q : Nat → Nat → Prop) : Prop := (BadI K okW H u ∧ bdQ H Q) ∨ ∃ k : Nat, u = .int k ∧ okW k = true ∧ ((BadI K okN H x ∧ bdQ H Q) ∨ ∃ n : Nat, x = .int n ∧ okN n = true ∧ q k n)
def spTold (K : PySem.W.Frag) : Sp := fun vs H Q _ => ∃ (wh : Int) (u x y : V), vs = [.int wh, u, x, y] ∧
  ((wh = 0 ∧ OrT K H u x Q fun k n => ∀ H', Same H H' → Q (.int (sideV k n)) H') ∨
   (wh = 1 ∧ OrT K H u x Q fun k n => ∀ ys p H', Same H H' → H' p = some (.tup ys) → Trs H' ys (termsL k n) → Q (.ref p) H') ∨
   (wh = 2 ∧ OrT K H u x Q fun k n => (BadI K (fun _ => true) H y ∧ bdQ H Q) ∨ ∃ t : Int, y = .int t ∧ -(2 ^ 60) < t ∧ t < 2 ^ 60 ∧ ∀ H', Same H H' → Q (.int (pn t n (k - 2))) H') ∨
   (wh = 3 ∧ ((BadI K okW H u ∧ bdQ H Q) ∨ ∃ k : Nat, u = .int k ∧ okW k = true ∧ ∀ H', Same H H' → Q (.int (dimV k)) H')))
theorem cal_told (D : Dn K mg "_law_told" s__law_told ["which", "k", "n", "t"]) (B : Bl mg) (c_class_side : CalX P w K mg base "class_side" 8 ["k", "n"] (spCSd K CM)) (c_class_terms : CalX P w K mg base "class_terms" 5 ["k", "n"] (spCT K CM))
    (c_weight_number : CalX P w K mg base "weight_number" 3 ["k", "t", "n"] (spWN K CM)) (c_dimension_by_classes : CalX P w K mg base "dimension_by_classes" 9 ["k"] (spDim K CM))
    (c__law_plain : Cal P w K mg base "_law_plain" 5 ["value"] spPlC) (c__law_no_word : Cal P w K mg base "_law_no_word" 1 ["value"] (spNoWord K)) (e_E : ErrO K mg CM) : Cal P w K mg base "_law_told" 10 ["which", "k", "n", "t"] (spTold K) := by
  refine D.cal sc__law_told (fun vs H Q E h => by obtain ⟨wh, u, x, y, rfl, _⟩ := h; rfl) (fun f cdv A outer s H vs Q E hr h => ?_)
  obtain ⟨wh, u, x, y, rfl, h⟩ := h
  refine ⟨_, (pss_one (ps_tryA rfl rfl sc__law_told.nd takes0 (fun W pn xe tk _ => (pss_cons (ps_if (pt_cmpR op_eq (pv 0) pe_int (nomark _)) (pss_one (ps_ret (pe_cal c__law_no_word (hr.mono (by decide)) rfl (pa_cons (pe_cal c__law_plain (hr.mono (by decide)) rfl (pa_cons (pe_calS c_class_side tk (hr.mono (by decide)) rfl (pa_cons (pv 1) (pa_cons (pv 2) pa_nil))) pa_nil)) pa_nil)))) pss_nil)
  (pss_cons (ps_if (pt_cmpR op_eq (pv 0) pe_int (nomark _)) (pss_one (ps_ret (pe_cal c__law_no_word (hr.mono (by decide)) rfl (pa_cons (pe_cal c__law_plain (hr.mono (by decide)) rfl (pa_cons (pe_calS c_class_terms tk (hr.mono (by decide)) rfl (pa_cons (pv 1) (pa_cons (pv 2) pa_nil))) pa_nil)) pa_nil)))) pss_nil)
  (pss_one (ps_ret (pe_cal c__law_no_word (hr.mono (by decide)) rfl (pa_cons (pe_ifExp (pt_cmpR op_eq (pv 0) pe_int (nomark _)) (pe_cal c__law_plain (hr.mono (by decide)) rfl (pa_cons (pe_calS c_weight_number tk (hr.mono (by decide)) rfl (pa_cons (pv 1) (pa_cons (pv 3) (pa_cons (pv 2) pa_nil)))) pa_nil)) (pe_cal c__law_plain (hr.mono (by decide)) rfl (pa_cons (pe_calS c_dimension_by_classes tk (hr.mono (by decide)) rfl (pa_cons (pv 1) pa_nil)) pa_nil))) pa_nil))))))) (HdA.bare ⟨rfl, by decide, .inl e_E.m.g⟩ (fun a oe cls d pn _ _ => (pss_one (ps_ret pe_str))) HdA.nil))), ?_⟩
  walk_at "rd"
  have bad : ∀ {R : Prop}, BadI K okW H u → True := fun _ => trivial
  rcases h with ⟨rfl, h⟩ | ⟨rfl, h⟩ | ⟨rfl, h⟩ | ⟨rfl, h⟩
  · rw [if_pos rfl]
    refine ⟨u, x, rfl, ?_⟩
    rcases h with ⟨hb, q⟩ | ⟨k, rfl, hk, h⟩
    · exact .inl ⟨hb, true, e_E.m.mm, fun _ a na => q H (Same.refl H), fun z => by cases z⟩
    refine .inr ⟨k, rfl, hk, ?_⟩
    rcases h with ⟨hb, q⟩ | ⟨n, rfl, hn, q⟩
    · exact .inl ⟨hb, true, e_E.m.mm, fun _ a na => q H (Same.refl H), fun z => by cases z⟩
    exact .inr ⟨n, rfl, hn, fun H1 s1 => ⟨_, rfl, .inl ⟨_, rfl⟩, fun H2 s2 => ⟨_, "int", rfl, .base (.int _), by decide, by decide, q H2 (s1.trans s2)⟩⟩⟩
  · rw [if_neg (by decide), if_pos rfl]
    refine ⟨u, x, rfl, ?_⟩
    rcases h with ⟨hb, q⟩ | ⟨k, rfl, hk, h⟩
    · exact .inl ⟨hb, true, e_E.m.mm, fun _ a na => q H (Same.refl H), fun z => by cases z⟩
    refine .inr ⟨k, rfl, hk, ?_⟩
    rcases h with ⟨hb, q⟩ | ⟨n, rfl, hn, q⟩
    · exact .inl ⟨hb, true, e_E.m.mm, fun _ a na => q H (Same.refl H), fun z => by cases z⟩
    have hn' := of_decide_eq_true hn
    refine .inr ⟨n, rfl, hn, fun ys p H1 s1 h1 ht => ⟨_, rfl, .inr ⟨p, ys, _, rfl, h1, ht, ?_⟩, fun H2 s2 => ⟨_, "tuple", rfl, .base (.tup (s2 _ _ h1)), by decide, by decide, q ys p H2 (s1.trans s2) (s2 _ _ h1) (ht.same s2)⟩⟩⟩
    rw [← ht.len]
    have := termsL_len (k := k) (n := n) (by omega)
    omega
  · rw [if_neg (by decide), if_neg (by decide), if_pos rfl]
    refine ⟨u, y, x, rfl, ?_⟩
    rcases h with ⟨hb, q⟩ | ⟨k, rfl, hk, h⟩
    · exact .inl ⟨hb, true, e_E.m.mm, fun _ a na => q H (Same.refl H), fun z => by cases z⟩
    refine .inr ⟨k, rfl, hk, ?_⟩
    rcases h with ⟨hb, q⟩ | ⟨n, rfl, hn, h⟩
    · exact .inl ⟨hb, true, e_E.m.mm, fun _ a na => q H (Same.refl H), fun z => by cases z⟩
    refine .inr ⟨n, rfl, hn, ?_⟩
    rcases h with ⟨hb, q⟩ | ⟨t, rfl, t1, t2, q⟩
    · exact .inl ⟨hb, true, e_E.m.mm, fun _ a na => q H (Same.refl H), fun z => by cases z⟩
    exact .inr ⟨t, rfl, t1, t2, fun H1 s1 => ⟨_, rfl, .inl ⟨_, rfl⟩, fun H2 s2 => ⟨_, "int", rfl, .base (.int _), by decide, by decide, q H2 (s1.trans s2)⟩⟩⟩
  · rw [if_neg (by decide), if_neg (by decide), if_neg (by decide)]
    refine ⟨u, rfl, ?_⟩
    rcases h with ⟨hb, q⟩ | ⟨k, rfl, hk, q⟩
    · exact .inl ⟨hb, true, e_E.m.mm, fun _ a na => q H (Same.refl H), fun z => by cases z⟩
    exact .inr ⟨k, rfl, hk, fun H1 s1 => ⟨_, rfl, .inl ⟨_, rfl⟩, fun H2 s2 => ⟨_, "int", rfl, .base (.int _), by decide, by decide, q H2 (s1.trans s2)⟩⟩⟩
end

local macro_rules | `(tactic| walk_at "rd") => `(tactic| simp (maxSteps := 2000000) only [CB.rd_var, CB.rd_C, CB.rd_op, CB.rd_un, CB.rd_I, CB.rd_I0, CB.rd_U, CB.rd_Eq, CB.rd_Ne, CB.rd_test, CB.rd_B, CB.rd_and, CB.rd_or, CB.rd_not, CB.rd_andV, CB.rd_orV, CB.rd_notV, CB.rd_if, CB.rd_chain, CB.rd_chain3,
  CB.rd_next, CB.rd_seq, CB.rd_drop, CB.rd_ret, CB.rd_retN, CB.rd_break, CB.rd_cont, CB.rd_ifS, CB.rd_asg, CB.rd_name, CB.rd_gsub, CB.rd_gtup, CB.rd_gcons, CB.rd_gnil, CB.rd_par, CB.rd_aug, CB.rd_ipI, CB.rd_nil, CB.rd_cons, CB.rd_tup, CB.rd_lst, CB.rd_CB, CB.rd_call, CB.rd_callS, CB.rd_ixL, CB.rd_ixT, CB.rd_setL, CB.rd_putS, CB.rd_forZ, CB.rd_lcZ, CB.rd_forE, CB.rd_forEL, CB.rd_lcE, CB.rd_isqrt, CB.rd_sum, CB.rd_append, CB.rd_forL, CB.rd_forT, CB.rd_forR1, CB.rd_forR2, CB.rd_forR3, CB.rd_lcL, CB.rd_lcT, CB.rd_lcR1, CB.rd_lcR2, CB.rd_yes, CB.rd_sl, CB.rd_noPart, CB.rd_part, CB.rd_slL, CB.rd_wipe0, CB.rd_rep, CB.rd_tupOf, CB.rd_lenS, CB.rd_gcd, CB.rd_wipe1, CB.rd_sorted3, CB.rd_any, CB.rd_all, CB.rd_ext, CB.rd_glst, CB.rd_sortedM, CB.rd_minD, CB.rd_indexD, CB.rd_pop, CB.rd_dnew, CB.rd_dget, CB.rd_dget2, CB.rd_dput, CB.rd_dm, CB.rd_anyI, CB.rd_ixDC, CB.rd_inDC, CB.rd_cat, CB.rd_lcZR, CB.rd_revR1, CB.rd_max2, CB.rd_forRv, CB.rd_ins, CB.rd_revT, CB.rd_tailR, CB.rd_lc2, CB.rd_inL, CB.rd_listOf, CB.rd_inI, CB.rd_idxI, CB.rd_sortedI, CB.rd_lcRv,
  L2.start, List.map_cons, List.map_nil, List.length_cons, List.length_nil, Nat.reduceAdd, Nat.reduceSub, List.replicate_succ, List.replicate_zero,
  V.int.injEq, V.ref.injEq, V.bl.injEq, V.str.injEq, Option.some.injEq, List.cons.injEq, exists_and_left, exists_eq_left', exists_eq_left, reduceCtorEq, false_and, and_false, or_false, false_or, exists_false, exists_const, and_assoc, true_and, and_true,
  CB.scal_int, CB.scal_str, CB.dec_ii, CB.ite_dec, CB.ite_ndec, List.getElem?_cons_zero, List.getElem?_cons_succ, List.set_cons_zero, List.set_cons_succ, List.append_nil, List.cons_append, List.nil_append, if_true, if_false, Bool.false_eq_true, Bool.not_true, Bool.not_false, CB.K_nox, CB.K_cxOf, eq_self])
local macro_rules | `(tactic| walk_at "rs") => `(tactic| simp (maxSteps := 2000000) only [CB.rd_var, CB.rd_C, CB.rd_op, CB.rd_un, CB.rd_I, CB.rd_I0, CB.rd_U, CB.rd_Eq, CB.rd_Ne, CB.rd_test, CB.rd_B, CB.rd_and, CB.rd_or, CB.rd_not, CB.rd_andV, CB.rd_orV, CB.rd_notV, CB.rd_if, CB.rd_chain, CB.rd_chain3,
  CB.rd_next, CB.rd_drop, CB.rd_ret, CB.rd_retN, CB.rd_break, CB.rd_cont, CB.rd_ifS, CB.rd_asg, CB.rd_name, CB.rd_gsub, CB.rd_gtup, CB.rd_gcons, CB.rd_gnil, CB.rd_par, CB.rd_aug, CB.rd_ipI, CB.rd_nil, CB.rd_cons, CB.rd_tup, CB.rd_lst, CB.rd_CB, CB.rd_call, CB.rd_callS, CB.rd_ixL, CB.rd_ixT, CB.rd_setL, CB.rd_putS, CB.rd_forZ, CB.rd_lcZ, CB.rd_forE, CB.rd_forEL, CB.rd_lcE, CB.rd_isqrt, CB.rd_sum, CB.rd_append, CB.rd_forL, CB.rd_forT, CB.rd_forR1, CB.rd_forR2, CB.rd_forR3, CB.rd_lcL, CB.rd_lcT, CB.rd_lcR1, CB.rd_lcR2, CB.rd_yes, CB.rd_sl, CB.rd_noPart, CB.rd_part, CB.rd_slL, CB.rd_wipe0, CB.rd_rep, CB.rd_tupOf, CB.rd_lenS, CB.rd_gcd, CB.rd_wipe1, CB.rd_sorted3, CB.rd_any, CB.rd_all, CB.rd_ext, CB.rd_glst, CB.rd_sortedM, CB.rd_minD, CB.rd_indexD, CB.rd_pop, CB.rd_dnew, CB.rd_dget, CB.rd_dget2, CB.rd_dput, CB.rd_dm, CB.rd_anyI, CB.rd_ixDC, CB.rd_inDC, CB.rd_cat, CB.rd_lcZR, CB.rd_revR1, CB.rd_max2, CB.rd_forRv, CB.rd_ins, CB.rd_revT, CB.rd_tailR, CB.rd_lc2, CB.rd_inL, CB.rd_listOf, CB.rd_inI, CB.rd_idxI, CB.rd_sortedI, CB.rd_lcRv,
  L2.start, List.map_cons, List.map_nil, List.length_cons, List.length_nil, Nat.reduceAdd, Nat.reduceSub, List.replicate_succ, List.replicate_zero,
  V.int.injEq, V.ref.injEq, V.bl.injEq, V.str.injEq, Option.some.injEq, List.cons.injEq, exists_and_left, exists_eq_left', exists_eq_left, reduceCtorEq, false_and, and_false, or_false, false_or, exists_false, exists_const, and_assoc, true_and, and_true,
  CB.scal_int, CB.scal_str, CB.dec_ii, CB.ite_dec, CB.ite_ndec, List.getElem?_cons_zero, List.getElem?_cons_succ, List.set_cons_zero, List.set_cons_succ, List.append_nil, List.cons_append, List.nil_append, if_true, if_false, Bool.false_eq_true, Bool.not_true, Bool.not_false, CB.K_nox, CB.K_cxOf, eq_self])

local macro_rules | `(tactic| walk_at "nx") => `(tactic| (show tSeq _ _ _ _ _; rw [CB.rd_seq]; walk_at "rs"))


section
variable {P : Program} {w : World} {K : PySem.W.Frag} {mg : Str → Option Value} {base : Heap} {CM CR : Addr}
/-! ### the law's table, form by form -/
def zI (i : Nat) : Int := if i = 0 then -1 else 0
/-- the forms (a, b, *) with the third below c -/
def itc (a b c m : Nat) : Nat := if m + b * b < 4 * (a * c) then itm a b m else 0
theorem itc_0 {a b m : Nat} (ha : 0 < a) : itc a b a m = 0 := by
  unfold itc
  split
  · rename_i c
    unfold itm
    rw [if_neg]
    rintro ⟨h1, h2⟩
    have h3 := (Nat.le_div_iff_mul_le (show 0 < 4 * a by omega)).mp h2
    have h4 : a * (4 * a) = 4 * (a * a) := Nat.mul_left_comm _ _ _
    omega
  · rfl
theorem itc_step {a b c m : Nat} (ha : 0 < a) (hc : a ≤ c) : itc a b (c + 1) m = itc a b c m + if m + b * b = 4 * (a * c) then item a b c else 0 := by
  unfold itc
  have e : a * (c + 1) = a * c + a := Nat.mul_succ a c
  rcases Nat.lt_trichotomy (m + b * b) (4 * (a * c)) with h | h | h
  · rw [if_pos (by omega), if_pos h, if_neg (by omega), Nat.add_zero]
  · rw [if_pos (by omega), if_neg (by omega), if_pos h, Nat.zero_add]
    unfold itm
    rw [h, show 4 * (a * c) = 4 * a * c by rw [Nat.mul_assoc], Nat.mul_mod_right, Nat.mul_div_cancel_left _ (show 0 < 4 * a by omega), if_pos ⟨rfl, hc⟩]
  · rw [if_neg (show ¬ m + b * b < 4 * (a * c) by omega), if_neg (show ¬ m + b * b = 4 * (a * c) by omega)]
    split
    · rename_i h2
      unfold itm
      rw [if_neg]
      rintro ⟨z, _⟩
      obtain ⟨q, hq⟩ := Nat.dvd_of_mod_eq_zero z
      rw [Nat.mul_assoc] at hq
      have q1 : c < q := Nat.lt_of_mul_lt_mul_left (a := a) (by omega)
      have q2 : q < c + 1 := Nat.lt_of_mul_lt_mul_left (a := a) (by omega)
      omega
    · rfl
theorem itc_end {a b c m M : Nat} (hm : m ≤ M) (h : M + b * b < 4 * (a * c)) : itc a b c m = itm a b m := by
  unfold itc
  rw [if_pos (by omega)]
def tg (m : Nat) (f : Nat → Int) : List V := (List.range (m + 1)).map fun i => V.int (f i)
theorem tg_len {m : Nat} {f : Nat → Int} : (tg m f).length = m + 1 := by
  unfold tg
  rw [List.length_map, List.length_range]
theorem tg_at {m i : Nat} {f : Nat → Int} (h : i ≤ m) : (tg m f)[i]? = some (V.int (f i)) := by
  unfold tg
  rw [List.getElem?_map, List.getElem?_range (by omega)]
  rfl
theorem tg_ext {m : Nat} {f g : Nat → Int} (h : ∀ i, i ≤ m → f i = g i) : tg m f = tg m g := by
  unfold tg
  refine List.map_congr_left fun i hi => ?_
  rw [h i (by have := List.mem_range.mp hi; omega)]
theorem tg_set {m i : Nat} {f : Nat → Int} {x : Int} : (tg m f).set i (V.int x) = tg m fun j => if j = i then x else f j := by
  refine List.ext_getElem? fun k => ?_
  rcases Nat.lt_or_ge m k with h | h
  · rw [List.getElem?_eq_none (by rw [List.length_set, tg_len]; omega), List.getElem?_eq_none (by rw [tg_len]; omega)]
  · rw [tg_at h, List.getElem?_set]
    by_cases c : i = k
    · subst c
      rw [if_pos rfl, tg_len, if_pos (by omega), if_pos rfl]
    · rw [if_neg c, tg_at h, if_neg (fun z => c z.symm)]
def tabL (m : Nat) : List V := tg m fun i => zI i + (cl 256 i : Nat)
def fB (A b i : Nat) : Int := zI i + (cl A i : Nat) + (sg (fun b => itm (A + 1) b i) b : Nat)
theorem fB_0 {A i : Nat} : fB A 0 i = zI i + (cl A i : Nat) := by
  unfold fB
  show _ + ((0 : Nat) : Int) = _
  omega
theorem fB_end {A i : Nat} : fB A (A + 2) i = fB (A + 1) 0 i := by
  rw [fB_0]
  show zI i + (cl A i : Nat) + (rowC (A + 1) i : Nat) = zI i + ((cl A i + rowC (A + 1) i : Nat) : Int)
  omega
theorem fB_all {A i m : Nat} (h : m < 3 * ((A + 1) * (A + 1))) (hi : i ≤ m) (hm : m ≤ 80000) : fB A 0 i = zI i + (cl 256 i : Nat) := by
  rw [fB_0, cl_any (R := A) (S := 256) (by omega) (by omega)]
abbrev s__law_classes : Stmt := top 58
theorem sc__law_classes : FnScope ["most", "found", "a", "b", "n", "c", "item"] ["most"] (defScope s__law_classes) := ⟨rfl, rfl, rfl, by decide +kernel, rfl, by decide +kernel, by decide +kernel⟩

def spLC : Sp := fun vs H Q _ => ∃ m : Nat, vs = [.int m] ∧ m ≤ 80000 ∧ ∀ l H', Same H H' → H l = none → H' l = some (.lst (tabL m)) → Q (.ref l) H'
theorem cal_lc (D : Dn K mg "_law_classes" s__law_classes ["most"]) (B : Bl mg) : Cal P w K mg base "_law_classes" 1 ["most"] spLC := by
  refine D.cal sc__law_classes (fun vs H Q E h => by obtain ⟨m, rfl, _⟩ := h; rfl) (fun f cdv A outer s H vs Q E hr h => ?_)
  obtain ⟨m, rfl, hm, q⟩ := h
  refine ⟨_, (pss_cons (ps_setLc (i := 1) (own := [("n", 4)]) rfl sc__law_classes.nd rfl rfl (sw_true rfl rfl rfl (by decide +kernel)) (pi_range1 rfl B.range (pa_cons (pe_op op_add (pv 0) pe_int) pa_nil)) (blkOk_by (N := ["most", "found", "a", "b", "n", "c", "item"]) (sc := defScope s__law_classes) (own := [("n", 4)]) (by decide +kernel)) (fun _ _ _ _ _ => (pg_name (i := 4) sc__law_classes.nd rfl (Or.inl rfl))) (fun _ _ _ _ _ => pts_nil) (fun _ _ _ _ _ => pe_int))
  (pss_cons (ps_asg (pe_un un_neg pe_int) (pg_sub (pv 1) pe_int set_list))
  (pss_cons (ps_set (i := 2) sc__law_classes.nd rfl (Or.inl rfl) pe_int)
  (pss_cons (ps_while PassesOwn.never (pt_cmpR op_le (pe_op op_mulI (pe_op op_mulI pe_int (pv 2)) (pv 2)) (pv 0) (nomark _)) (pss_cons (ps_for PassesOwn.never rfl (pi_range1 rfl B.range (pa_cons (pe_op op_add (pv 2) pe_int) pa_nil)) (pg_name (i := 3) sc__law_classes.nd rfl (Or.inl rfl)) (pss_cons (ps_set (i := 5) sc__law_classes.nd rfl (Or.inl rfl) (pv 2))
  (pss_one (ps_while PassesOwn.never (pt_cmpR op_le (pe_op op_sub (pe_op op_mulI (pe_op op_mulI pe_int (pv 2)) (pv 5)) (pe_op op_mulI (pv 3) (pv 3))) (pv 0) (nomark _)) (pss_cons (ps_set (i := 6) sc__law_classes.nd rfl (Or.inl rfl) (pe_ifExp (pt_chain3 op_lt op_lt op_lt pe_int (pv 3) (pv 2) (pv 5)) pe_int pe_int))
  (pss_cons (ps_if (PW.pt (pw_and (pt_cmpR op_eq (pv 3) pe_int (nomark _)) (pw_and1 (pt_cmpR op_eq (pv 2) (pv 5) (nomark _))))) (pss_one (ps_set (i := 6) sc__law_classes.nd rfl (Or.inl rfl) pe_int)) pss_nil)
  (pss_cons (ps_if (pt_chain op_eq op_eq (pv 2) (pv 3) (pv 5)) (pss_one (ps_set (i := 6) sc__law_classes.nd rfl (Or.inl rfl) pe_int)) pss_nil)
  (pss_cons (ps_set (i := 4) sc__law_classes.nd rfl (Or.inl rfl) (pe_op op_sub (pe_op op_mulI (pe_op op_mulI pe_int (pv 2)) (pv 5)) (pe_op op_mulI (pv 3) (pv 3))))
  (pss_cons (ps_asg (pe_op op_add (pe_ix ix_list (pv 1) (pv 4) (fun _ _ => rfl)) (pv 6)) (pg_sub (pv 1) (pv 4) set_list))
  (pss_one (ps_set (i := 5) sc__law_classes.nd rfl (Or.inl rfl) (pe_op op_add (pv 5) pe_int))))))))))))
  (pss_one (ps_set (i := 2) sc__law_classes.nd rfl (Or.inl rfl) (pe_op op_add (pv 2) pe_int)))))
  (pss_one (ps_ret (pv 1))))))), ?_⟩
  rw [CB.rd_seq]
  walk_at "rs"
  refine ⟨by omega, by omega, ?_⟩
  rw [show ((m : Int) + 1).toNat = m + 1 by omega]
  refine LcR.p (fun _ => some (V.int 0)) (by omega) ?_ ?_
  · intro i hi H1 s1 M S hM hS
    walk_at "rd"
    exact hM _ _ rfl (Same.refl _)
  intro D1 H1 nD s1 hD
  have d1 : H1 D1 = some (.lst (tg m fun _ => 0)) := by
    rw [hD, fm_some (fun _ => V.int 0)]
    rfl
  refine seq_cut (fun σ H2 => σ = [some (.int m), some (.ref D1), none, none, none, none, none] ∧ Same H H2 ∧ H2 D1 = some (.lst (tg m (fB 0 0)))) (fun R hR => ?_) ?_
  · walk_at "rs"
    refine ⟨_, d1, 0, ixNk (j := 0) (by rw [tg_len]; omega), hR _ _ ⟨rfl, same_at s1 nD, ?_⟩⟩
    rw [upd_same, tg_set]
    congr 2
    refine tg_ext fun i hi => ?_
    rw [fB_0]
    unfold zI
    show _ = _ + ((0 : Nat) : Int)
    split <;> rfl
  rintro σ H2 ⟨rfl, s2, d2⟩
  refine seq_cut (fun σ H3 => σ = [some (.int m), some (.ref D1), some (.int 1), none, none, none, none] ∧ H3 = H2) (fun R hR => ?_) ?_
  · walk_at "rs"
    exact hR _ _ ⟨rfl, rfl⟩
  rintro σ H3 ⟨rfl, rfl⟩
  refine seq_cut (fun σ H3 => ∃ a x3 x4 x5 x6, σ = [some (.int m), some (.ref D1), a, x3, x4, x5, x6] ∧ Same H H3 ∧ H3 D1 = some (.lst (tabL m))) (fun R hR => ?_) ?_
  · refine while_w (fun σ H3 => ∃ (A : Nat) (x3 x4 x5 x6 : Option V), σ = [some (.int m), some (.ref D1), some (.int (A + 1 : Nat)), x3, x4, x5, x6] ∧ Same H H3 ∧ H3 D1 = some (.lst (tg m (fB A 0))) ∧ A ≤ 200)
      (fun σ _ => match σ with | [_, _, some (.int a), _, _, _, _] => (m + 1 - a : Int).toNat | _ => 0) ⟨0, _, _, _, _, rfl, s2, d2, by decide⟩ ?_
    rintro σ H3 ⟨A, x3, x4, x5, x6, rfl, s3, d3, hA⟩ N hN
    refine ⟨decide (3 * ((A + 1) * (A + 1)) ≤ m), fun Q' q' => ?_, fun hb => ?_, fun hb => ?_⟩
    · walk_at "rd"
      refine ⟨mulL (by decide), mulR (by omega), ?_⟩
      rw [show decide (3 * ((A + 1 : Nat) : Int) * ((A + 1 : Nat) : Int) ≤ (m : Int)) = decide (3 * ((A + 1) * (A + 1)) ≤ m) from decide_eq_decide.mpr (by rw [Int.mul_assoc, ← Int.natCast_mul]; omega)]
      exact q'
    · have hle := of_decide_eq_true hb
      have aa : A + 1 ≤ (A + 1) * (A + 1) := Nat.le_mul_self _
      have hA' : A + 1 ≤ 200 := by
        rcases Nat.lt_or_ge 200 (A + 1) with z | z
        · have := sq_mono (show 201 ≤ A + 1 from z)
          omega
        · exact z
      rw [CB.rd_seq]
      walk_at "rs"
      refine ⟨by omega, by omega, ?_⟩
      rw [show (((A + 1 : Nat) : Int) + 1).toNat = A + 2 by omega]
      refine ForR.w (fun b σ H4 => ∃ (x3 x4 x5 x6 : Option V), σ = [some (.int m), some (.ref D1), some (.int (A + 1 : Nat)), x3, x4, x5, x6] ∧ Same H H4 ∧ H4 D1 = some (.lst (tg m (fB A b)))) ⟨_, _, _, _, rfl, s3, d3⟩ ?_ ?_
      · rintro b σ H4 hb ⟨y3, y4, y5, y6, rfl, s4, d4⟩ N4 hN4
        rw [show (0 : Int) + (b : Int) = (b : Int) by omega]
        walk_at "rs"
        rw [CB.rd_seq]
        walk_at "rs"
        have bb : b * b ≤ (A + 1) * (A + 1) := sq_mono (by omega)
        refine while_w (fun σ H5 => ∃ (c : Nat) (x4 x6 : Option V), σ = [some (.int m), some (.ref D1), some (.int (A + 1 : Nat)), some (.int b), x4, some (.int c), x6] ∧ A + 1 ≤ c ∧ Same H H5 ∧ H5 D1 = some (.lst (tg m fun i => fB A b i + (itc (A + 1) b c i : Nat))))
          (fun σ _ => match σ with | [_, _, _, _, _, some (.int c), _] => (2 * m + 1 - c : Int).toNat | _ => 0) ⟨A + 1, _, _, rfl, Nat.le_refl _, s4, by rw [d4]; congr 2; exact tg_ext fun i _ => by rw [itc_0 (Nat.succ_pos A)]; omega⟩ ?_
        rintro σ H5 ⟨c, x4, x6, rfl, hc, s5, d5⟩ N5 hN5
        refine ⟨decide (4 * ((A + 1) * c) ≤ m + b * b), fun Q' q' => ?_, fun hb => ?_, fun hb => ?_⟩
        · walk_at "rd"
          refine ⟨mulL (by decide), mulL (by omega), mulL (by omega), ?_⟩
          rw [show decide (4 * ((A + 1 : Nat) : Int) * (c : Int) - (b : Int) * b ≤ (m : Int)) = decide (4 * ((A + 1) * c) ≤ m + b * b) from decide_eq_decide.mpr (by rw [Int.mul_assoc, ← Int.natCast_mul, ← Int.natCast_mul]; omega)]
          exact q'
        · have hle2 := of_decide_eq_true hb
          have cc : c ≤ (A + 1) * c := Nat.le_mul_of_pos_left _ (Nat.succ_pos A)
          have ac : (A + 1) * (A + 1) ≤ (A + 1) * c := Nat.mul_le_mul_left _ hc
          refine seq_cut (fun σ H6 => σ = [some (.int m), some (.ref D1), some (.int (A + 1 : Nat)), some (.int b), x4, some (.int c), some (.int (if 0 < b ∧ b < A + 1 ∧ A + 1 < c then 24 else 12))] ∧ H6 = H5) (fun R6 hR6 => ?_) ?_
          · walk_at "rs"
            have n1 : ¬(0 < b ∧ b < A + 1 ∧ A + 1 < c) → R6 [some (.int m), some (.ref D1), some (.int (A + 1 : Nat)), some (.int b), x4, some (.int c), some (.int 12)] H5 := fun z => hR6 _ _ ⟨by rw [if_neg z], rfl⟩
            exact ite2 (fun c1 => ite2 (fun c2 => ite2 (fun c3 => hR6 _ _ ⟨by rw [if_pos (by omega)], rfl⟩) fun c3 => n1 (by omega)) fun c2 => n1 (by omega)) fun c1 => n1 (by omega)
          rintro σ H6 ⟨rfl, rfl⟩
          refine seq_cut (fun σ H7 => σ = [some (.int m), some (.ref D1), some (.int (A + 1 : Nat)), some (.int b), x4, some (.int c), some (.int (if b = 0 ∧ A + 1 = c then 6 else if 0 < b ∧ b < A + 1 ∧ A + 1 < c then 24 else 12))] ∧ H7 = H6) (fun R6 hR6 => ?_) ?_
          · walk_at "rs"
            exact ite2 (fun c1 => ite2 (fun c2 => hR6 _ _ ⟨by rw [if_pos (show b = 0 ∧ A + 1 = c by omega)], rfl⟩) fun c2 => hR6 _ _ ⟨by rw [if_neg (show ¬(b = 0 ∧ A + 1 = c) by omega)], rfl⟩) fun c1 => hR6 _ _ ⟨by rw [if_neg (show ¬(b = 0 ∧ A + 1 = c) by omega)], rfl⟩
          rintro σ H7 ⟨rfl, rfl⟩
          refine seq_cut (fun σ H8 => σ = [some (.int m), some (.ref D1), some (.int (A + 1 : Nat)), some (.int b), x4, some (.int c), some (.int (item (A + 1) b c : Nat))] ∧ H8 = H7) (fun R6 hR6 => ?_) ?_
          · walk_at "rs"
            have n3 : ¬(A + 1 = b ∧ b = c) → ((if b = 0 ∧ A + 1 = c then 6 else if 0 < b ∧ b < A + 1 ∧ A + 1 < c then 24 else 12 : Int)) = (item (A + 1) b c : Nat) := fun z => by
              unfold item
              rw [if_neg z]
              split
              · rfl
              · split <;> rfl
            exact ite2 (fun c1 => ite2 (fun c2 => hR6 _ _ ⟨by unfold item; rw [if_pos (show A + 1 = b ∧ b = c by omega)]; rfl, rfl⟩) fun c2 => hR6 _ _ ⟨by rw [n3 (by omega)], rfl⟩) fun c1 => hR6 _ _ ⟨by rw [n3 (by omega)], rfl⟩
          rintro σ H8 ⟨rfl, rfl⟩
          refine seq_cut (fun σ H9 => σ = [some (.int m), some (.ref D1), some (.int (A + 1 : Nat)), some (.int b), some (.int (4 * ((A + 1) * c) - b * b : Nat)), some (.int c), some (.int (item (A + 1) b c : Nat))] ∧ H9 = H8) (fun R6 hR6 => ?_) ?_
          · walk_at "rs"
            refine ⟨mulL (by decide), mulL (by omega), mulL (by omega), hR6 _ _ ⟨?_, rfl⟩⟩
            rw [show 4 * ((A + 1 : Nat) : Int) * (c : Int) - (b : Int) * b = ((4 * ((A + 1) * c) - b * b : Nat) : Int) by rw [Int.mul_assoc, ← Int.natCast_mul, ← Int.natCast_mul]; omega]
          rintro σ H9 ⟨rfl, rfl⟩
          rw [CB.rd_seq]
          walk_at "rs"
          have jm : 4 * ((A + 1) * c) - b * b ≤ m := by omega
          refine ⟨_, SqL.of d5, _, atI_nat (tg_at jm), _, rfl, _, d5, 4 * ((A + 1) * c) - b * b, ixNk (by rw [tg_len]; omega), ?_⟩
          refine hN5 _ _ ⟨c + 1, _, _, rfl, by omega, same_at s5 nD, ?_⟩ ?_
          · rw [upd_same, tg_set]
            congr 2
            refine tg_ext fun i hi => ?_
            rw [itc_step (show 0 < A + 1 by omega) hc]
            by_cases e : i = 4 * ((A + 1) * c) - b * b
            · rw [if_pos e, if_pos (show i + b * b = 4 * ((A + 1) * c) by omega), ← e]
              omega
            · rw [if_neg e, if_neg (show ¬ i + b * b = 4 * ((A + 1) * c) by omega)]
              omega
          · show (2 * m + 1 - ((c + 1 : Nat) : Int) : Int).toNat < (2 * m + 1 - (c : Int) : Int).toNat
            omega
        · have hgt := of_decide_eq_false hb
          refine hN4 _ _ ⟨_, _, _, _, rfl, s5, ?_⟩
          rw [d5]
          congr 2
          refine tg_ext fun i hi => ?_
          rw [itc_end hi (by omega)]
          show _ = zI i + (cl A i : Nat) + ((sg (fun b => itm (A + 1) b i) b + itm (A + 1) b i : Nat) : Int)
          unfold fB
          omega
      · rintro σ H4 ⟨y3, y4, y5, y6, rfl, s4, d4⟩
        walk_at "rs"
        refine hN _ _ ⟨A + 1, _, _, _, _, rfl, s4, ?_, hA'⟩ ?_
        · rw [d4]
          congr 2
          exact tg_ext fun i _ => fB_end
        · show (m + 1 - ((A + 1 + 1 : Nat) : Int) : Int).toNat < (m + 1 - ((A + 1 : Nat) : Int) : Int).toNat
          omega
    · have hgt := of_decide_eq_false hb
      refine hR _ _ ⟨_, _, _, _, _, rfl, s3, ?_⟩
      rw [d3]
      unfold tabL
      rw [tg_ext fun i hi => fB_all (m := m) (by omega) hi hm]
  rintro σ H4 ⟨a, x3, x4, x5, x6, rfl, s4, d4⟩
  walk_at "rs"
  exact q D1 H4 s4 nD d4
end

local macro_rules | `(tactic| walk_at "rd") => `(tactic| simp (maxSteps := 2000000) only [CB.rd_var, CB.rd_C, CB.rd_op, CB.rd_un, CB.rd_I, CB.rd_I0, CB.rd_U, CB.rd_Eq, CB.rd_Ne, CB.rd_test, CB.rd_B, CB.rd_and, CB.rd_or, CB.rd_not, CB.rd_andV, CB.rd_orV, CB.rd_notV, CB.rd_if, CB.rd_chain, CB.rd_chain3,
  CB.rd_next, CB.rd_seq, CB.rd_drop, CB.rd_ret, CB.rd_retN, CB.rd_break, CB.rd_cont, CB.rd_ifS, CB.rd_asg, CB.rd_name, CB.rd_gsub, CB.rd_gtup, CB.rd_gcons, CB.rd_gnil, CB.rd_par, CB.rd_aug, CB.rd_ipI, CB.rd_nil, CB.rd_cons, CB.rd_tup, CB.rd_lst, CB.rd_CB, CB.rd_call, CB.rd_callS, CB.rd_ixL, CB.rd_ixT, CB.rd_setL, CB.rd_putS, CB.rd_forZ, CB.rd_lcZ, CB.rd_forE, CB.rd_forEL, CB.rd_lcE, CB.rd_isqrt, CB.rd_sum, CB.rd_append, CB.rd_forL, CB.rd_forT, CB.rd_forR1, CB.rd_forR2, CB.rd_forR3, CB.rd_lcL, CB.rd_lcT, CB.rd_lcR1, CB.rd_lcR2, CB.rd_yes, CB.rd_sl, CB.rd_noPart, CB.rd_part, CB.rd_slL, CB.rd_wipe0, CB.rd_rep, CB.rd_tupOf, CB.rd_lenS, CB.rd_gcd, CB.rd_wipe1, CB.rd_sorted3, CB.rd_any, CB.rd_all, CB.rd_ext, CB.rd_glst, CB.rd_sortedM, CB.rd_minD, CB.rd_indexD, CB.rd_pop, CB.rd_dnew, CB.rd_dget, CB.rd_dget2, CB.rd_dput, CB.rd_dm, CB.rd_anyI, CB.rd_ixDC, CB.rd_inDC, CB.rd_cat, CB.rd_lcZR, CB.rd_revR1, CB.rd_max2, CB.rd_forRv, CB.rd_ins, CB.rd_revT, CB.rd_tailR, CB.rd_lc2, CB.rd_inL, CB.rd_listOf, CB.rd_inI, CB.rd_idxI, CB.rd_sortedI, CB.rd_lcRv,
  L2.start, List.map_cons, List.map_nil, List.length_cons, List.length_nil, Nat.reduceAdd, Nat.reduceSub, List.replicate_succ, List.replicate_zero,
  V.int.injEq, V.ref.injEq, V.bl.injEq, V.str.injEq, Option.some.injEq, List.cons.injEq, exists_and_left, exists_eq_left', exists_eq_left, reduceCtorEq, false_and, and_false, or_false, false_or, exists_false, exists_const, and_assoc, true_and, and_true,
  CB.scal_int, CB.scal_str, CB.dec_ii, CB.ite_dec, CB.ite_ndec, List.getElem?_cons_zero, List.getElem?_cons_succ, List.set_cons_zero, List.set_cons_succ, List.append_nil, List.cons_append, List.nil_append, if_true, if_false, Bool.false_eq_true, Bool.not_true, Bool.not_false, CB.K_nox, CB.K_cxOf, eq_self])
local macro_rules | `(tactic| walk_at "rs") => `(tactic| simp (maxSteps := 2000000) only [CB.rd_var, CB.rd_C, CB.rd_op, CB.rd_un, CB.rd_I, CB.rd_I0, CB.rd_U, CB.rd_Eq, CB.rd_Ne, CB.rd_test, CB.rd_B, CB.rd_and, CB.rd_or, CB.rd_not, CB.rd_andV, CB.rd_orV, CB.rd_notV, CB.rd_if, CB.rd_chain, CB.rd_chain3,
  CB.rd_next, CB.rd_drop, CB.rd_ret, CB.rd_retN, CB.rd_break, CB.rd_cont, CB.rd_ifS, CB.rd_asg, CB.rd_name, CB.rd_gsub, CB.rd_gtup, CB.rd_gcons, CB.rd_gnil, CB.rd_par, CB.rd_aug, CB.rd_ipI, CB.rd_nil, CB.rd_cons, CB.rd_tup, CB.rd_lst, CB.rd_CB, CB.rd_call, CB.rd_callS, CB.rd_ixL, CB.rd_ixT, CB.rd_setL, CB.rd_putS, CB.rd_forZ, CB.rd_lcZ, CB.rd_forE, CB.rd_forEL, CB.rd_lcE, CB.rd_isqrt, CB.rd_sum, CB.rd_append, CB.rd_forL, CB.rd_forT, CB.rd_forR1, CB.rd_forR2, CB.rd_forR3, CB.rd_lcL, CB.rd_lcT, CB.rd_lcR1, CB.rd_lcR2, CB.rd_yes, CB.rd_sl, CB.rd_noPart, CB.rd_part, CB.rd_slL, CB.rd_wipe0, CB.rd_rep, CB.rd_tupOf, CB.rd_lenS, CB.rd_gcd, CB.rd_wipe1, CB.rd_sorted3, CB.rd_any, CB.rd_all, CB.rd_ext, CB.rd_glst, CB.rd_sortedM, CB.rd_minD, CB.rd_indexD, CB.rd_pop, CB.rd_dnew, CB.rd_dget, CB.rd_dget2, CB.rd_dput, CB.rd_dm, CB.rd_anyI, CB.rd_ixDC, CB.rd_inDC, CB.rd_cat, CB.rd_lcZR, CB.rd_revR1, CB.rd_max2, CB.rd_forRv, CB.rd_ins, CB.rd_revT, CB.rd_tailR, CB.rd_lc2, CB.rd_inL, CB.rd_listOf, CB.rd_inI, CB.rd_idxI, CB.rd_sortedI, CB.rd_lcRv,
  L2.start, List.map_cons, List.map_nil, List.length_cons, List.length_nil, Nat.reduceAdd, Nat.reduceSub, List.replicate_succ, List.replicate_zero,
  V.int.injEq, V.ref.injEq, V.bl.injEq, V.str.injEq, Option.some.injEq, List.cons.injEq, exists_and_left, exists_eq_left', exists_eq_left, reduceCtorEq, false_and, and_false, or_false, false_or, exists_false, exists_const, and_assoc, true_and, and_true,
  CB.scal_int, CB.scal_str, CB.dec_ii, CB.ite_dec, CB.ite_ndec, List.getElem?_cons_zero, List.getElem?_cons_succ, List.set_cons_zero, List.set_cons_succ, List.append_nil, List.cons_append, List.nil_append, if_true, if_false, Bool.false_eq_true, Bool.not_true, Bool.not_false, CB.K_nox, CB.K_cxOf, eq_self])

local macro_rules | `(tactic| walk_at "nx") => `(tactic| (show tSeq _ _ _ _ _; rw [CB.rd_seq]; walk_at "rs"))


section
variable {P : Program} {w : World} {K : PySem.W.Frag} {mg : Str → Option Value} {base : Heap} {CM CR : Addr}
abbrev s__law_pow : Stmt := top 55
theorem sc__law_pow : FnScope ["x", "n", "total", "turn"] ["x", "n"] (defScope s__law_pow) := ⟨rfl, rfl, rfl, by decide +kernel, rfl, by decide +kernel, by decide +kernel⟩

theorem pow400 {b e : Nat} (hb : b ≤ 400) (he : e ≤ 99) : b ^ e < 2 ^ 999 := by
  have h1 : b ^ e ≤ 512 ^ e := Nat.pow_le_pow_left (by omega) e
  have h2 : 512 ^ e ≤ 512 ^ 99 := Nat.pow_le_pow_right (by decide) he
  have h3 : (512 : Nat) ^ 99 = 2 ^ (9 * 99) := by rw [Nat.pow_mul]
  rw [h3] at h2
  exact Nat.lt_of_le_of_lt (Nat.le_trans h1 h2) (Nat.pow_lt_pow_right (by decide) (by decide))
def spPow : Sp := fun vs H Q _ => ∃ b e : Nat, vs = [.int b, .int e] ∧ b ≤ 400 ∧ e ≤ 99 ∧ Q (.int (b ^ e : Nat)) H
theorem cal_pow (D : Dn K mg "_law_pow" s__law_pow ["x", "n"]) (B : Bl mg) : Cal P w K mg base "_law_pow" 1 ["x", "n"] spPow := by
  refine D.cal sc__law_pow (fun vs H Q E h => by obtain ⟨b, e, rfl, _⟩ := h; rfl) (fun f cdv A outer s H vs Q E hr h => ?_)
  obtain ⟨b, e, rfl, hb, he, q⟩ := h
  refine ⟨_, (pss_cons (ps_set (i := 2) sc__law_pow.nd rfl (Or.inl rfl) pe_int)
  (pss_cons (ps_for PassesOwn.never rfl (pi_range1 rfl B.range (pa_cons (pv 1) pa_nil)) (pg_name (i := 3) sc__law_pow.nd rfl (Or.inl rfl)) (pss_one (ps_set (i := 2) sc__law_pow.nd rfl (Or.inl rfl) (pe_op op_mulI (pv 2) (pv 0)))))
  (pss_one (ps_ret (pv 2))))), ?_⟩
  walk_at "nx"
  walk_at "nx"
  refine ⟨by omega, by omega, ?_⟩
  rw [Int.toNat_natCast]
  refine ForR.w (fun i σ H3 => ∃ s3, σ = [some (.int b), some (.int e), some (.int (b ^ i : Nat)), s3] ∧ H3 = H ∧ i ≤ e) ⟨_, rfl, rfl, Nat.zero_le _⟩ ?_ ?_
  · rintro i σ H3 hi ⟨s3, rfl, rfl, _⟩ N hN
    walk_at "rs"
    have z1 := pow400 hb (show i ≤ 99 by omega)
    refine ⟨mulR (by omega), ?_⟩
    rw [← Int.natCast_mul, ← Nat.pow_succ]
    exact hN _ _ ⟨_, rfl, rfl, by omega⟩
  · rintro σ H3 ⟨s3, rfl, rfl, _⟩
    walk_at "rs"
    exact q
end

section
variable {P : Program} {w : World} {K : PySem.W.Frag} {mg : Str → Option Value} {base : Heap} {CM CR : Addr}
abbrev s__law_weight_number : Stmt := top 59
theorem sc__law_weight_number : FnScope ["k", "t", "n", "low", "high", "turn"] ["k", "t", "n"] (defScope s__law_weight_number) := ⟨rfl, rfl, rfl, by decide +kernel, rfl, by decide +kernel, by decide +kernel⟩

theorem cal_lwn (D : Dn K mg "_law_weight_number" s__law_weight_number ["k", "t", "n"]) (B : Bl mg) : Cal P w K mg base "_law_weight_number" 1 ["k", "t", "n"] spTN := by
  refine D.cal sc__law_weight_number (fun vs H Q E h => by obtain ⟨k, t, n, rfl, _⟩ := h; rfl) (fun f cdv A outer s H vs Q E hr h => ?_)
  obtain ⟨k, t, n, rfl, k2, k1, t1, t2, n0, n2, q⟩ := h
  refine ⟨_, (pss_cons (ps_par (i := 3) (j := 4) rfl sc__law_weight_number.nd rfl rfl (by decide) rfl rfl (pa_cons pe_int (pa_cons (pv 1) pa_nil)) (by rfl))
  (pss_cons (ps_for PassesOwn.never rfl (pi_range1 rfl B.range (pa_cons (pe_op op_sub (pv 0) pe_int) pa_nil)) (pg_name (i := 5) sc__law_weight_number.nd rfl (Or.inl rfl)) (pss_one (ps_par (i := 3) (j := 4) rfl sc__law_weight_number.nd rfl rfl (by decide) rfl rfl (pa_cons (pv 4) (pa_cons (pe_op op_sub (pe_op op_mulI (pv 1) (pv 4)) (pe_op op_mulI (pv 2) (pv 3))) pa_nil)) (by rfl))))
  (pss_one (ps_ret (pe_ifExp (pt_cmpR op_eq (pv 0) pe_int (nomark _)) (pv 3) (pv 4)))))), ?_⟩
  rw [CB.rd_seq]
  walk_at "rs"
  walk_at "nx"
  refine ⟨by omega, by omega, ?_⟩
  rw [show ((k : Int) - 3).toNat = k - 3 by omega]
  refine ForR.w (fun i σ H3 => ∃ s5, σ = [some (.int k), some (.int t), some (.int n), some (.int (pn t n i)), some (.int (pn t n (i + 1))), s5] ∧ H3 = H) ⟨_, rfl, rfl⟩ ?_ ?_
  · rintro i σ H3 hi ⟨s5, rfl, rfl⟩ N hN
    walk_at "rs"
    refine ⟨mulL (by omega), mulL (by omega), ?_⟩
    exact hN _ _ ⟨_, rfl, rfl⟩
  · rintro σ H3 ⟨s5, rfl, rfl⟩
    walk_at "rs"
    refine ite2 (fun c => ?_) (fun c => ?_)
    · have q' := q H3 (Same.refl _)
      rw [show k - 3 = k - 2 by omega]
      exact q'
    · have q' := q H3 (Same.refl _)
      rw [show k - 3 + 1 = k - 2 by omega]
      exact q'
theorem tab_due {i : Nat} (h : i ≤ 80000) : zI i + (cl 256 i : Nat) = due (i : Int) := by
  unfold zI
  rcases Nat.eq_zero_or_pos i with z | z
  · subst z
    rw [cl_0]
    rfl
  · rw [due_cl z (by omega), if_neg (by omega)]
    omega
theorem tT_max {t n : Nat} (h : t ≤ tT n + 1) (h2 : 4 * n < t * t) : t = tT n + 1 := by
  have h1 := (tT_ok n).1
  rcases Nat.lt_or_ge (tT n) t with c | c
  · omega
  · have := sq_mono c
    omega
theorem tT_lt {t n : Nat} (h2 : t * t ≤ 4 * n) : t < tT n + 1 := by
  have h1 := (tT_ok n).2
  rcases Nat.lt_or_ge t (tT n + 1) with c | c
  · exact c
  · have := sq_mono c
    omega
theorem tab_at {n t : Nat} (h : t * t ≤ 4 * n) (hn : n ≤ 20000) : atI (tabL (4 * n)) (4 * (n : Int) - (t : Int) * t) = some (V.int (due (4 * (n : Int) - (t : Int) * t))) := by
  have e : 4 * (n : Int) - (t : Int) * t = ((4 * n - t * t : Nat) : Int) := by
    have ei : ((t : Int) * t) = ((t * t : Nat) : Int) := by rw [Int.natCast_mul]
    rw [ei]
    omega
  rw [e]
  refine atI_nat ?_
  unfold tabL
  rw [tg_at (by omega), tab_due (by omega)]
theorem due_64 {n t : Nat} (h : t * t ≤ 4 * n) (hn : n ≤ 20000) : -(2 ^ 64) < due (4 * (n : Int) - (t : Int) * t) ∧ due (4 * (n : Int) - (t : Int) * t) < 2 ^ 64 := by
  have e : 4 * (n : Int) - (t : Int) * t = ((4 * n - t * t : Nat) : Int) := by
    have ei : ((t : Int) * t) = ((t * t : Nat) : Int) := by rw [Int.natCast_mul]
    rw [ei]
    omega
  rw [e]
  have := due_bd (m := 4 * n - t * t) (by omega)
  omega
abbrev s__law_side : Stmt := top 60
theorem sc__law_side : FnScope ["k", "n", "table", "total", "t", "c"] ["k", "n", "table"] (defScope s__law_side) := ⟨rfl, rfl, rfl, by decide +kernel, rfl, by decide +kernel, by decide +kernel⟩

def spLSd : Sp := fun vs H Q _ => ∃ (k n : Nat) (p : Addr), vs = [.int k, .int n, .ref p] ∧ okKN k n ∧ H p = some (.lst (tabL (4 * n))) ∧ ∀ H', Same H H' → Q (.int (sideV k n)) H'
theorem min_256 {n c : Nat} (n1 : 1 ≤ n) (n2 : n ≤ 20000) (hc : c ∣ n) : min c (n / c) ≤ 256 := by
  have e := Nat.div_mul_cancel hc
  rcases Nat.lt_or_ge 256 (min c (n / c)) with z | z
  · have := Nat.mul_le_mul (show 257 ≤ n / c by omega) (show 257 ≤ c by omega)
    omega
  · exact z
theorem cal_lsd (D : Dn K mg "_law_side" s__law_side ["k", "n", "table"]) (B : Bl mg) (c__law_weight_number : Cal P w K mg base "_law_weight_number" 1 ["k", "t", "n"] spTN) (c__law_pow : Cal P w K mg base "_law_pow" 1 ["x", "n"] spPow) : Cal P w K mg base "_law_side" 2 ["k", "n", "table"] spLSd := by
  refine D.cal sc__law_side (fun vs H Q E h => by obtain ⟨k, n, p, rfl, _⟩ := h; rfl) (fun f cdv A outer s H vs Q E hr h => ?_)
  obtain ⟨k, n, p, rfl, hk, hp, q⟩ := h
  obtain ⟨k2, k1, n1, n2⟩ := hk
  refine ⟨_, (pss_cons (ps_set (i := 3) sc__law_side.nd rfl (Or.inl rfl) pe_int)
  (pss_cons (ps_set (i := 4) sc__law_side.nd rfl (Or.inl rfl) pe_int)
  (pss_cons (ps_while PassesOwn.never (pt_cmpR op_le (pe_op op_mulI (pv 4) (pv 4)) (pe_op op_mulI pe_int (pv 1)) (nomark _)) (pss_cons (ps_set (i := 3) sc__law_side.nd rfl (Or.inl rfl) (pe_op op_add (pv 3) (pe_op op_mulI (pe_op op_mulI (pe_op op_add pe_int (pe_callTy call_int1 rfl B.int boot_int (pa_cons (pe_cmpR op_gt (pv 4) pe_int (nomark _)) pa_nil))) (pe_cal c__law_weight_number (hr.mono (by decide)) rfl (pa_cons (pv 0) (pa_cons (pv 4) (pa_cons (pv 1) pa_nil))))) (pe_ix ix_list (pv 2) (pe_op op_sub (pe_op op_mulI pe_int (pv 1)) (pe_op op_mulI (pv 4) (pv 4))) (fun _ _ => rfl)))))
  (pss_one (ps_set (i := 4) sc__law_side.nd rfl (Or.inl rfl) (pe_op op_add (pv 4) pe_int)))))
  (pss_cons (ps_for PassesOwn.never rfl (pi_range2 rfl B.range (pa_cons pe_int (pa_cons (pe_op op_add (pv 1) pe_int) pa_nil))) (pg_name (i := 5) sc__law_side.nd rfl (Or.inl rfl)) (pss_one (ps_if (pt_cmpR op_eq (pe_op op_mod (pe_callTy call_int1 rfl B.int boot_int (pa_cons (pv 1) pa_nil)) (pv 5)) pe_int (nomark _)) (pss_one (ps_set (i := 3) sc__law_side.nd rfl (Or.inl rfl) (pe_op op_add (pv 3) (pe_op op_mulI pe_int (pe_cal c__law_pow (hr.mono (by decide)) rfl (pa_cons (pe_callB (call_min2 rfl) rfl B.min (by decide +kernel) (pa_cons (pv 5) (pa_cons (pe_op op_fdivW (pv 1) (pv 5)) pa_nil))) (pa_cons (pe_op op_sub (pv 0) pe_int) pa_nil))))))) pss_nil)))
  (pss_one (ps_ret (pv 3))))))), ?_⟩
  have hT := tT_le n2
  refine seq_cut (fun σ H1 => σ = [some (.int k), some (.int n), some (.ref p), some (.int 0), none, none] ∧ H1 = H) (fun R hR => ?_) ?_
  · walk_at "rs"
    exact hR _ _ ⟨rfl, rfl⟩
  rintro σ H1 ⟨rfl, rfl⟩
  refine seq_cut (fun σ H2 => σ = [some (.int k), some (.int n), some (.ref p), some (.int 0), some (.int 0), none] ∧ H2 = H1) (fun R hR => ?_) ?_
  · walk_at "rs"
    exact hR _ _ ⟨rfl, rfl⟩
  rintro σ H2 ⟨rfl, rfl⟩
  refine seq_cut (fun σ H3 => σ = [some (.int k), some (.int n), some (.ref p), some (.int (isg (fun t => (1 + if t = 0 then 0 else 1) * itm3 k n t) (tT n + 1))), some (.int (tT n + 1 : Nat)), none] ∧ Same H2 H3) (fun R hR => ?_) ?_
  · refine while_w (fun σ H3 => ∃ t : Nat, σ = [some (.int k), some (.int n), some (.ref p), some (.int (isg (fun t => (1 + if t = 0 then 0 else 1) * itm3 k n t) t)), some (.int t), none] ∧ t ≤ tT n + 1 ∧ Same H2 H3)
      (fun σ _ => match σ with | [_, _, _, _, some (.int t), _] => (tT n + 1 - t : Int).toNat | _ => 0) ⟨0, rfl, by omega, Same.refl _⟩ ?_
    rintro σ H3 ⟨t, rfl, ht, s3⟩ N hN
    refine ⟨decide (t * t ≤ 4 * n), fun Q' q' => ?_, fun hb => ?_, fun hb => ?_⟩
    · walk_at "rd"
      refine ⟨mulL (by omega), mulL (by decide), ?_⟩
      rw [show decide ((t : Int) * (t : Int) ≤ 4 * (n : Int)) = decide (t * t ≤ 4 * n) from decide_eq_decide.mpr (by rw [← Int.natCast_mul]; omega)]
      exact q'
    · have hle := of_decide_eq_true hb
      have lt := tT_lt hle
      walk_at "rd"
      refine ⟨k, t, n, rfl, k2, k1, by omega, by omega, by omega, by omega, fun H4 s4 => ?_⟩
      have d64 := due_64 hle n2
      have ip : (1 + if decide ((0 : Int) < t) = true then 1 else 0 : Int) = 1 + if t = 0 then 0 else 1 := by
        by_cases z : t = 0
        · rw [if_pos z, if_neg (by simp; omega)]
        · rw [if_neg z, if_pos (by simp; omega)]
      have i64 : -(2 ^ 64) < (1 + if t = 0 then 0 else 1 : Int) ∧ (1 + if t = 0 then 0 else 1 : Int) < 2 ^ 64 := by split <;> omega
      rw [ip]
      refine ⟨_, rfl, mulL i64, mulL (by decide), mulL (by omega), _, SqL.of (s4 _ _ (s3 _ _ hp)), _, tab_at hle n2, _, rfl, mulR d64, ?_⟩
      refine hN _ _ ⟨t + 1, ?_, by omega, s3.trans s4⟩ ?_
      · show _ = [_, _, _, some (V.int (isg _ t + (1 + if t = 0 then 0 else 1) * itm3 k n t)), _, _]
        unfold itm3
        rw [Int.mul_assoc]
        rfl
      · show (tT n + 1 - ((t + 1 : Nat) : Int) : Int).toNat < (tT n + 1 - (t : Int) : Int).toNat
        omega
    · have hgt := of_decide_eq_false hb
      have e := tT_max ht (by omega)
      subst e
      exact hR _ _ ⟨rfl, s3⟩
  rintro σ H3 ⟨rfl, s3⟩
  rw [CB.rd_seq]
  walk_at "rs"
  refine ⟨by decide, by decide, by omega, by omega, ?_⟩
  rw [show ((n : Int) + 1 - 1).toNat = n by omega]
  generalize hS : isg (fun t => (1 + if t = 0 then 0 else 1) * itm3 k n t) (tT n + 1) = S
  refine ForR.w (fun i σ H4 => ∃ s5, σ = [some (.int k), some (.int n), some (.ref p), some (.int (S + 12 * (sg (fun c => if n % (c + 1) = 0 then min (c + 1) (n / (c + 1)) ^ (k - 1) else 0) i : Nat))), some (.int (tT n + 1 : Nat)), s5] ∧ Same H2 H4)
    ⟨_, by rw [show ∀ f : Nat → Nat, sg f 0 = 0 from fun _ => rfl, Int.natCast_zero, Int.mul_zero, Int.add_zero], s3⟩ ?_ ?_
  · rintro i σ H4 hi ⟨s5, rfl, s4⟩ N4 hN4
    rw [show (1 : Int) + (i : Int) = ((i + 1 : Nat) : Int) by omega]
    walk_at "rs"
    have em : ((n : Int) % ((i + 1 : Nat) : Int) = 0) ↔ n % (i + 1) = 0 := by rw [← Int.natCast_emod]; omega
    have st : ∀ f : Nat → Nat, sg f (i + 1) = sg f i + f i := fun _ => rfl
    refine ⟨by omega, ite2 (fun c => ?_) (fun c => ?_)⟩
    · have c' := em.mp c
      have dv := Nat.dvd_of_mod_eq_zero c'
      have e1 : (if (n : Int) / ((i + 1 : Nat) : Int) < ((i + 1 : Nat) : Int) then (n : Int) / ((i + 1 : Nat) : Int) else ((i + 1 : Nat) : Int)) = ((min (i + 1) (n / (i + 1)) : Nat) : Int) := by
        rw [← Int.natCast_ediv]
        split <;> omega
      have e2 : (k : Int) - 1 = ((k - 1 : Nat) : Int) := by omega
      have m256 := min_256 n1 n2 dv
      refine ⟨divSmall (by omega) (by omega), min (i + 1) (n / (i + 1)), k - 1, by rw [e1, e2], by omega, by omega, _, rfl, mulL (by decide), hN4 _ _ ⟨some (.int (i + 1 : Nat)), ?_, s4⟩⟩
      rw [st, if_pos c', show ∀ a b : Nat, S + 12 * (a : Int) + 12 * (b : Int) = S + 12 * ((a + b : Nat) : Int) from fun a b => by omega]
    · refine hN4 _ _ ⟨some (.int (i + 1 : Nat)), ?_, s4⟩
      rw [st, if_neg (fun z => c (em.mpr z))]
      rfl
  · rintro σ H4 ⟨s5, rfl, s4⟩
    walk_at "rs"
    have q' := q H4 s4
    unfold sideV Dv at q'
    rw [hS] at q'
    exact q'
end

local macro_rules | `(tactic| walk_at "rd") => `(tactic| simp (maxSteps := 2000000) only [CB.rd_var, CB.rd_C, CB.rd_op, CB.rd_un, CB.rd_I, CB.rd_I0, CB.rd_U, CB.rd_Eq, CB.rd_Ne, CB.rd_test, CB.rd_B, CB.rd_and, CB.rd_or, CB.rd_not, CB.rd_andV, CB.rd_orV, CB.rd_notV, CB.rd_if, CB.rd_chain, CB.rd_chain3,
  CB.rd_next, CB.rd_seq, CB.rd_drop, CB.rd_ret, CB.rd_retN, CB.rd_break, CB.rd_cont, CB.rd_ifS, CB.rd_asg, CB.rd_name, CB.rd_gsub, CB.rd_gtup, CB.rd_gcons, CB.rd_gnil, CB.rd_par, CB.rd_aug, CB.rd_ipI, CB.rd_nil, CB.rd_cons, CB.rd_tup, CB.rd_lst, CB.rd_CB, CB.rd_call, CB.rd_callS, CB.rd_ixL, CB.rd_ixT, CB.rd_setL, CB.rd_putS, CB.rd_forZ, CB.rd_lcZ, CB.rd_forE, CB.rd_forEL, CB.rd_lcE, CB.rd_isqrt, CB.rd_sum, CB.rd_append, CB.rd_forL, CB.rd_forT, CB.rd_forR1, CB.rd_forR2, CB.rd_forR3, CB.rd_lcL, CB.rd_lcT, CB.rd_lcR1, CB.rd_lcR2, CB.rd_yes, CB.rd_sl, CB.rd_noPart, CB.rd_part, CB.rd_slL, CB.rd_wipe0, CB.rd_rep, CB.rd_tupOf, CB.rd_lenS, CB.rd_gcd, CB.rd_wipe1, CB.rd_sorted3, CB.rd_any, CB.rd_all, CB.rd_ext, CB.rd_glst, CB.rd_sortedM, CB.rd_minD, CB.rd_indexD, CB.rd_pop, CB.rd_dnew, CB.rd_dget, CB.rd_dget2, CB.rd_dput, CB.rd_dm, CB.rd_anyI, CB.rd_ixDC, CB.rd_inDC, CB.rd_cat, CB.rd_lcZR, CB.rd_revR1, CB.rd_max2, CB.rd_forRv, CB.rd_ins, CB.rd_revT, CB.rd_tailR, CB.rd_lc2, CB.rd_inL, CB.rd_listOf, CB.rd_inI, CB.rd_idxI, CB.rd_sortedI, CB.rd_lcRv,
  L2.start, List.map_cons, List.map_nil, List.length_cons, List.length_nil, Nat.reduceAdd, Nat.reduceSub, List.replicate_succ, List.replicate_zero,
  V.int.injEq, V.ref.injEq, V.bl.injEq, V.str.injEq, Option.some.injEq, List.cons.injEq, exists_and_left, exists_eq_left', exists_eq_left, reduceCtorEq, false_and, and_false, or_false, false_or, exists_false, exists_const, and_assoc, true_and, and_true,
  CB.scal_int, CB.scal_str, CB.dec_ii, CB.ite_dec, CB.ite_ndec, List.getElem?_cons_zero, List.getElem?_cons_succ, List.set_cons_zero, List.set_cons_succ, List.append_nil, List.cons_append, List.nil_append, if_true, if_false, Bool.false_eq_true, Bool.not_true, Bool.not_false, CB.K_nox, CB.K_cxOf, eq_self])
local macro_rules | `(tactic| walk_at "rs") => `(tactic| simp (maxSteps := 2000000) only [CB.rd_var, CB.rd_C, CB.rd_op, CB.rd_un, CB.rd_I, CB.rd_I0, CB.rd_U, CB.rd_Eq, CB.rd_Ne, CB.rd_test, CB.rd_B, CB.rd_and, CB.rd_or, CB.rd_not, CB.rd_andV, CB.rd_orV, CB.rd_notV, CB.rd_if, CB.rd_chain, CB.rd_chain3,
  CB.rd_next, CB.rd_drop, CB.rd_ret, CB.rd_retN, CB.rd_break, CB.rd_cont, CB.rd_ifS, CB.rd_asg, CB.rd_name, CB.rd_gsub, CB.rd_gtup, CB.rd_gcons, CB.rd_gnil, CB.rd_par, CB.rd_aug, CB.rd_ipI, CB.rd_nil, CB.rd_cons, CB.rd_tup, CB.rd_lst, CB.rd_CB, CB.rd_call, CB.rd_callS, CB.rd_ixL, CB.rd_ixT, CB.rd_setL, CB.rd_putS, CB.rd_forZ, CB.rd_lcZ, CB.rd_forE, CB.rd_forEL, CB.rd_lcE, CB.rd_isqrt, CB.rd_sum, CB.rd_append, CB.rd_forL, CB.rd_forT, CB.rd_forR1, CB.rd_forR2, CB.rd_forR3, CB.rd_lcL, CB.rd_lcT, CB.rd_lcR1, CB.rd_lcR2, CB.rd_yes, CB.rd_sl, CB.rd_noPart, CB.rd_part, CB.rd_slL, CB.rd_wipe0, CB.rd_rep, CB.rd_tupOf, CB.rd_lenS, CB.rd_gcd, CB.rd_wipe1, CB.rd_sorted3, CB.rd_any, CB.rd_all, CB.rd_ext, CB.rd_glst, CB.rd_sortedM, CB.rd_minD, CB.rd_indexD, CB.rd_pop, CB.rd_dnew, CB.rd_dget, CB.rd_dget2, CB.rd_dput, CB.rd_dm, CB.rd_anyI, CB.rd_ixDC, CB.rd_inDC, CB.rd_cat, CB.rd_lcZR, CB.rd_revR1, CB.rd_max2, CB.rd_forRv, CB.rd_ins, CB.rd_revT, CB.rd_tailR, CB.rd_lc2, CB.rd_inL, CB.rd_listOf, CB.rd_inI, CB.rd_idxI, CB.rd_sortedI, CB.rd_lcRv,
  L2.start, List.map_cons, List.map_nil, List.length_cons, List.length_nil, Nat.reduceAdd, Nat.reduceSub, List.replicate_succ, List.replicate_zero,
  V.int.injEq, V.ref.injEq, V.bl.injEq, V.str.injEq, Option.some.injEq, List.cons.injEq, exists_and_left, exists_eq_left', exists_eq_left, reduceCtorEq, false_and, and_false, or_false, false_or, exists_false, exists_const, and_assoc, true_and, and_true,
  CB.scal_int, CB.scal_str, CB.dec_ii, CB.ite_dec, CB.ite_ndec, List.getElem?_cons_zero, List.getElem?_cons_succ, List.set_cons_zero, List.set_cons_succ, List.append_nil, List.cons_append, List.nil_append, if_true, if_false, Bool.false_eq_true, Bool.not_true, Bool.not_false, CB.K_nox, CB.K_cxOf, eq_self])

local macro_rules | `(tactic| walk_at "nx") => `(tactic| (show tSeq _ _ _ _ _; rw [CB.rd_seq]; walk_at "rs"))


section
variable {P : Program} {w : World} {K : PySem.W.Frag} {mg : Str → Option Value} {base : Heap} {CM CR : Addr}
def spLaw (K : PySem.W.Frag) : Sp := fun vs H Q _ => ∃ (a : Addr) (ns : List Int), vs = [.ref a] ∧ SqL K H a (ns.map V.int) ∧ ns.length ≤ 63 ∧ ∀ H', Q (.bl true) H'
theorem pick3 {v : Int} (h0 : 0 ≤ v) (h1 : v < 3) (a b c : V) : ∃ x, atI [a, b, c] v = some x ∧ (x = a ∨ x = b ∨ x = c) := by
  have c : v = 0 ∨ v = 1 ∨ v = 2 := by omega
  rcases c with rfl | rfl | rfl
  · exact ⟨_, rfl, .inl rfl⟩
  · exact ⟨_, rfl, .inr (.inl rfl)⟩
  · exact ⟨_, rfl, .inr (.inr rfl)⟩
def Tp (H : Hp) (p : Addr) (ns : List Int) : Prop := H p = some (.tup (ns.map V.int))
def St (H : Hp) (st : Addr) : Prop := ∃ x y : Int, H st = some (.lst [.int x, .int y])
theorem St.same {H H' : Hp} {st : Addr} (h : St H st) (s : Same H H') : St H' st := by
  obtain ⟨x, y, h⟩ := h
  exact ⟨x, y, s _ _ h⟩
theorem take_st {H : Hp} {st : Addr} {m : Int} {Q : VK} {E : Value → Option Addr → Hp → Prop} (h : St H st) (m0 : 0 < m) (m1 : m.natAbs ≤ 1000000000000000000000000) (q : ∀ v H', But st H H' → St H' st → 0 ≤ v → v < m → Q (.int v) H') : spTake [.ref st, .int m] H Q E := by
  obtain ⟨x, y, h⟩ := h
  exact ⟨st, x, y, m, rfl, h, m0, lg_int m1, fun v x' y' v0 v1 => q v _ (But.refl.upd) ⟨x', y', upd_same⟩ v0 v1⟩
theorem Tp.same {H H' : Hp} {p : Addr} {ns : List Int} (h : Tp H p ns) (s : Same H H') : Tp H' p ns := s _ _ h
theorem Tp.but {H H' : Hp} {p st : Addr} {ns : List Int} (h : Tp H p ns) (b : But st H H') (s : St H st) : Tp H' p ns := by
  obtain ⟨x, y, hs⟩ := s
  exact b _ _ (ne_of h hs (by intro z; cases z)) h
theorem St.ne {H : Hp} {st l : Addr} (h : St H st) (n : H l = none) : l ≠ st := fun e => by
  obtain ⟨x, y, h⟩ := h
  rw [e, h] at n
  cases n
theorem pick4 {v : Int} (h0 : 0 ≤ v) (h1 : v < 4) (a b c d : V) : ∃ x, atI [a, b, c, d] v = some x ∧ (x = a ∨ x = b ∨ x = c ∨ x = d) := by
  have e : v = 0 ∨ v = 1 ∨ v = 2 ∨ v = 3 := by omega
  rcases e with rfl | rfl | rfl | rfl
  · exact ⟨_, rfl, .inl rfl⟩
  · exact ⟨_, rfl, .inr (.inl rfl)⟩
  · exact ⟨_, rfl, .inr (.inr (.inl rfl))⟩
  · exact ⟨_, rfl, .inr (.inr (.inr rfl))⟩
theorem pickN {l : List V} {v : Int} (h0 : 0 ≤ v) (h1 : v < l.length) : ∃ x, atI l v = some x ∧ x ∈ l := by
  obtain ⟨n, rfl⟩ := Int.eq_ofNat_of_zero_le h0
  have hn : n < l.length := by omega
  exact ⟨l[n], atI_nat (List.getElem?_eq_getElem hn), List.getElem_mem hn⟩
end

section
variable {P : Program} {w : World} {K : PySem.W.Frag} {mg : Str → Option Value} {base : Heap} {CM CR : Addr}
def rmS : Str := Str.ofString "raised malformed"
theorem sum_fm {f : Nat → Option Int} {g : Nat → Nat} (h : ∀ i, f i = if g i = 0 then none else some ((g i : Nat) : Int)) : ∀ n : Nat, ((List.range n).filterMap f).sum = ((sg g n : Nat) : Int)
  | 0 => rfl
  | n + 1 => by
    rw [List.range_succ, List.filterMap_append, List.sum_append, sum_fm h n]
    have e : ([n].filterMap f).sum = ((g n : Nat) : Int) := by
      rw [List.filterMap_cons, h n]
      by_cases z : g n = 0
      · rw [if_pos z, z]; rfl
      · rw [if_neg z]; show ((g n : Nat) : Int) + 0 = _; omega
    rw [e]
    show _ = ((sg g n + g n : Nat) : Int)
    omega
theorem toldU {G : Hp} {v x y : V} {Q : VK} {E : Value → Option Addr → Hp → Prop} {i : Nat} (h : BadI K okW G v) (hi : i < 4) (q : bdQ G Q) : spTold K [.int (0 + (i : Int)), v, x, y] G Q E := by
  refine ⟨_, v, x, y, rfl, ?_⟩
  match i, hi with
  | 0, _ => exact .inl ⟨rfl, .inl ⟨h, q⟩⟩
  | 1, _ => exact .inr (.inl ⟨rfl, .inl ⟨h, q⟩⟩)
  | 2, _ => exact .inr (.inr (.inl ⟨rfl, .inl ⟨h, q⟩⟩))
  | 3, _ => exact .inr (.inr (.inr ⟨rfl, .inl ⟨h, q⟩⟩))
theorem toldN {G : Hp} {k : Nat} {x y : V} {Q : VK} {E : Value → Option Addr → Hp → Prop} {i : Nat} (hk : okW k = true) (h : BadI K okN G x) (hi : i < 3) (q : bdQ G Q) : spTold K [.int (0 + (i : Int)), .int k, x, y] G Q E := by
  refine ⟨_, _, x, y, rfl, ?_⟩
  match i, hi with
  | 0, _ => exact .inl ⟨rfl, .inr ⟨k, rfl, hk, .inl ⟨h, q⟩⟩⟩
  | 1, _ => exact .inr (.inl ⟨rfl, .inr ⟨k, rfl, hk, .inl ⟨h, q⟩⟩⟩)
  | 2, _ => exact .inr (.inr (.inl ⟨rfl, .inr ⟨k, rfl, hk, .inl ⟨h, q⟩⟩⟩))
theorem told0 {G : Hp} {k n : Nat} {y : V} {Q : VK} {E : Value → Option Addr → Hp → Prop} (hk : okW k = true) (hn : okN n = true) (q : ∀ H', Same G H' → Q (.int (sideV k n)) H') : spTold K [.int 0, .int k, .int n, y] G Q E :=
  ⟨_, _, _, y, rfl, .inl ⟨rfl, .inr ⟨k, rfl, hk, .inr ⟨n, rfl, hn, q⟩⟩⟩⟩
theorem told1 {G : Hp} {k n : Nat} {y : V} {Q : VK} {E : Value → Option Addr → Hp → Prop} (hk : okW k = true) (hn : okN n = true) (q : ∀ ys p H', Same G H' → H' p = some (.tup ys) → Trs H' ys (termsL k n) → Q (.ref p) H') : spTold K [.int 1, .int k, .int n, y] G Q E :=
  ⟨_, _, _, y, rfl, .inr (.inl ⟨rfl, .inr ⟨k, rfl, hk, .inr ⟨n, rfl, hn, q⟩⟩⟩)⟩
theorem told2 {G : Hp} {k n : Nat} {t : Int} {Q : VK} {E : Value → Option Addr → Hp → Prop} (hk : okW k = true) (hn : okN n = true) (t1 : -(2 ^ 60) < t) (t2 : t < 2 ^ 60) (q : ∀ H', Same G H' → Q (.int (pn t n (k - 2))) H') : spTold K [.int 2, .int k, .int n, .int t] G Q E :=
  ⟨_, _, _, _, rfl, .inr (.inr (.inl ⟨rfl, .inr ⟨k, rfl, hk, .inr ⟨n, rfl, hn, .inr ⟨t, rfl, t1, t2, q⟩⟩⟩⟩))⟩
theorem told2b {G : Hp} {k n : Nat} {y : V} {Q : VK} {E : Value → Option Addr → Hp → Prop} (hk : okW k = true) (hn : okN n = true) (h : BadI K (fun _ => true) G y) (q : bdQ G Q) : spTold K [.int 2, .int k, .int n, y] G Q E :=
  ⟨_, _, _, _, rfl, .inr (.inr (.inl ⟨rfl, .inr ⟨k, rfl, hk, .inr ⟨n, rfl, hn, .inl ⟨h, q⟩⟩⟩⟩))⟩
theorem told3 {G : Hp} {k : Nat} {x y : V} {Q : VK} {E : Value → Option Addr → Hp → Prop} (hk : okW k = true) (q : ∀ H', Same G H' → Q (.int (dimV k)) H') : spTold K [.int 3, .int k, x, y] G Q E :=
  ⟨_, _, _, _, rfl, .inr (.inr (.inr ⟨rfl, .inr ⟨k, rfl, hk, q⟩⟩))⟩
theorem trs_rev {H : Hp} {xs : List V} {ts : List T3} (h : Trs H xs ts) : Trs H xs.reverse ts.reverse := by
  obtain ⟨h1, rfl⟩ := h
  exact ⟨fun x m => h1 x (List.mem_reverse.mp m), by rw [List.map_reverse]⟩
theorem sum_dv {n : Nat} : ((List.range n).filterMap fun i => if n % (i + 1) = 0 then some (((i + 1 : Nat) : Int)) else none).sum = ((Dv (fun c => c) n : Nat) : Int) := by
  unfold Dv
  refine sum_fm (fun i => ?_) n
  by_cases c : n % (i + 1) = 0
  · rw [if_pos c, if_pos c, if_neg (Nat.succ_ne_zero i)]
  · rw [if_neg c, if_neg c, if_pos rfl]
theorem dim_eq {k : Nat} (h : okW k = true) (h2 : (k : Int) ≠ 2) : (k : Int) / 12 - (if decide ((k : Int) % 12 = 2) = true then 1 else 0) = ((dimV k : Nat) : Int) := by
  have h' := of_decide_eq_true h
  have h2' : k ≠ 2 := by omega
  unfold dimV
  by_cases c : k % 12 = 2
  · rw [decide_eq_true (show (k : Int) % 12 = 2 by omega), if_pos rfl, if_neg h2', if_pos c]
    omega
  · rw [decide_eq_false (show ¬ (k : Int) % 12 = 2 by omega), if_neg (by decide), if_neg h2', if_neg c]
    omega
theorem num_k {H : Hp} {x : Int} {Q : VK} {E : Value → Option Addr → Hp → Prop} (q : Q (.bl true) H) : spInt K [.int x] H Q E := ⟨_, "int", rfl, .base (.int _), by decide, q⟩
def rmL (m : Nat) : List V := (List.replicate m rmS).map V.str
abbrev s_law : Stmt := top 62
theorem sc_law : FnScope ["script", "state", "k", "n", "table", "rows", "t", "due", "count", "bad", "row", "which", "c"] ["script"] (defScope s_law) := ⟨rfl, rfl, rfl, by decide +kernel, rfl, by decide +kernel, by decide +kernel⟩

theorem ok_law {f : Addr} {fd : FuncData} (F : Fun K "law" "law" s_law f fd) (B : Bl mg)
    (c__law_state : Cal P w K mg base "_law_state" 1 ["script"] (spState K)) (c__law_take : Cal P w K mg base "_law_take" 1 ["state", "m"] spTake)
    (c__law_told : Cal P w K mg base "_law_told" 10 ["which", "k", "n", "t"] (spTold K)) (c__law_classes : Cal P w K mg base "_law_classes" 1 ["most"] spLC) (c__law_weight_number : Cal P w K mg base "_law_weight_number" 1 ["k", "t", "n"] spTN)
    (c__law_side : Cal P w K mg base "_law_side" 2 ["k", "n", "table"] spLSd) (c__law_is_equal : Cal P w K mg base "_law_is_equal" 4 ["value", "due"] spEqT) (c__law_is_number : Cal P w K mg base "_law_is_number" 1 ["value"] (spInt K)) :
    FnOk P w K mg base CX0 11 f fd ["script"] (spLaw K) := by
  refine F.ok sc_law (fun vs H Q E h => by obtain ⟨a, ns, rfl, _⟩ := h; rfl) (fun cdv A outer s H vs Q E hr h => ?_)
  obtain ⟨a, ns, rfl, ha, hl, q⟩ := h
  refine ⟨_, (pss_cons (ps_set (i := 1) sc_law.nd rfl (Or.inl rfl) (pe_cal c__law_state (hr.mono (by decide)) rfl (pa_cons (pv 0) pa_nil)))
  (pss_cons (ps_set (i := 2) sc_law.nd rfl (Or.inr rfl) (pe_op op_add pe_int (pe_op op_mulI pe_int (pe_cal c__law_take (hr.mono (by decide)) rfl (pa_cons (pv 1) (pa_cons (pe_ix ix_list (pe_lst (pa_cons pe_int (pa_cons pe_int pa_nil))) (pe_cal c__law_take (hr.mono (by decide)) rfl (pa_cons (pv 1) (pa_cons pe_int pa_nil))) (fun _ _ => rfl)) pa_nil))))))
  (pss_cons (ps_set (i := 3) sc_law.nd rfl (Or.inr rfl) (pe_ix ix_list (pe_lst (pa_cons (pe_op op_add pe_int (pe_cal c__law_take (hr.mono (by decide)) rfl (pa_cons (pv 1) (pa_cons pe_int pa_nil)))) (pa_cons (pe_op op_add pe_int (pe_cal c__law_take (hr.mono (by decide)) rfl (pa_cons (pv 1) (pa_cons pe_int pa_nil)))) (pa_cons (pe_op op_add pe_int (pe_cal c__law_take (hr.mono (by decide)) rfl (pa_cons (pv 1) (pa_cons (pe_ix ix_list (pe_lst (pa_cons pe_int (pa_cons pe_int (pa_cons pe_int (pa_cons pe_int (pa_cons pe_int (pa_cons pe_int (pa_cons pe_int (pa_cons pe_int pa_nil))))))))) (pe_cal c__law_take (hr.mono (by decide)) rfl (pa_cons (pv 1) (pa_cons pe_int pa_nil))) (fun _ _ => rfl)) pa_nil)))) (pa_cons pe_int pa_nil))))) (pe_cal c__law_take (hr.mono (by decide)) rfl (pa_cons (pv 1) (pa_cons pe_int pa_nil))) (fun _ _ => rfl)))
  (pss_cons (ps_set (i := 4) sc_law.nd rfl (Or.inl rfl) (pe_cal c__law_classes (hr.mono (by decide)) rfl (pa_cons (pe_op op_mulI pe_int (pv 3)) pa_nil)))
  (pss_cons (ps_asg (pe_tup (pa_cons (pe_lst pa_nil) (pa_cons pe_int pa_nil))) (pg_tup (n := 2) rfl (pgs_cons (pg_name (i := 5) sc_law.nd rfl (Or.inl rfl)) (pgs_cons (pg_name (i := 6) sc_law.nd rfl (Or.inr rfl)) pgs_nil))))
  (pss_cons (ps_while PassesOwn.never (pt_cmpR op_le (pe_op op_mulI (pv 6) (pv 6)) (pe_op op_mulI pe_int (pv 3)) (nomark _)) (pss_cons (ps_expr (pe_bm PySem.F.plainAttrs_list PySem.F.slot_list_append PySem.F.type_list_append mt_append (pv 5) (pa_cons (pe_tup (pa_cons (pv 6) (pa_cons (pe_cal c__law_weight_number (hr.mono (by decide)) rfl (pa_cons (pv 2) (pa_cons (pv 6) (pa_cons (pv 3) pa_nil)))) (pa_cons (pe_ix ix_list (pv 4) (pe_op op_sub (pe_op op_mulI pe_int (pv 3)) (pe_op op_mulI (pv 6) (pv 6))) (fun _ _ => rfl)) pa_nil)))) pa_nil)))
  (pss_one (ps_set (i := 6) sc_law.nd rfl (Or.inr rfl) (pe_op op_add (pv 6) pe_int)))))
  (pss_cons (ps_set (i := 7) sc_law.nd rfl (Or.inl rfl) (pe_op op_cat (pe_lc (own := [("row", 10)]) rfl sc_law.nd (pi_list (pe_tailR (pv 5))) (blkOk_by (N := ["script", "state", "k", "n", "table", "rows", "t", "due", "count", "bad", "row", "which", "c"]) (sc := defScope s_law) (own := [("row", 10)]) (by decide +kernel)) (fun _ _ _ _ _ => (pg_name (i := 10) sc_law.nd rfl (Or.inl rfl))) (fun _ _ _ _ _ => pts_nil) (fun _ _ _ _ _ => (pe_tup (pa_cons (pe_un un_neg (pe_ix (ix_tupK (K := K) rfl) (pv 10) pe_int (fun _ _ => rfl))) (pa_cons (pe_ix (ix_tupK (K := K) rfl) (pv 10) pe_int (fun _ _ => rfl)) (pa_cons (pe_ix (ix_tupK (K := K) rfl) (pv 10) pe_int (fun _ _ => rfl)) pa_nil)))))) (pv 5)))
  (pss_cons (ps_if (PW.pt (pw_or (pt_not (pt_val (pe_cal c__law_is_equal (hr.mono (by decide)) rfl (pa_cons (pe_cal c__law_told (hr.mono (by decide)) rfl (pa_cons pe_int (pa_cons (pv 2) (pa_cons (pv 3) (pa_cons pe_int pa_nil))))) (pa_cons (pe_callTy cr_tupOf rfl B.tuple boot_tuple (pa_cons (pv 7) pa_nil)) pa_nil))))) (pw_or1 (pt_cmpR op_ne (pe_cal c__law_told (hr.mono (by decide)) rfl (pa_cons pe_int (pa_cons (pv 2) (pa_cons (pv 3) (pa_cons pe_int pa_nil))))) (pe_cal c__law_side (hr.mono (by decide)) rfl (pa_cons (pv 2) (pa_cons (pv 3) (pa_cons (pv 4) pa_nil)))) (nomark _))))) (pss_one (ps_ret pe_bl)) pss_nil)
  (pss_cons (ps_if (PW.pt (pw_or (pt_not (pt_val (pe_cal c__law_is_number (hr.mono (by decide)) rfl (pa_cons (pe_cal c__law_told (hr.mono (by decide)) rfl (pa_cons pe_int (pa_cons (pv 2) (pa_cons (pv 3) (pa_cons pe_int pa_nil))))) pa_nil)))) (pw_or1 (pt_cmpR op_ne (pe_cal c__law_told (hr.mono (by decide)) rfl (pa_cons pe_int (pa_cons pe_int (pa_cons (pv 3) (pa_cons pe_int pa_nil))))) (pe_op op_mulI pe_int (pe_callB (cr_sum rfl) rfl B.sum (by decide +kernel) (pa_cons (pe_lc (own := [("c", 12)]) rfl sc_law.nd (pi_range2 rfl B.range (pa_cons pe_int (pa_cons (pe_op op_add (pv 3) pe_int) pa_nil))) (blkOk_by (N := ["script", "state", "k", "n", "table", "rows", "t", "due", "count", "bad", "row", "which", "c"]) (sc := defScope s_law) (own := [("c", 12)]) (by decide +kernel)) (fun _ _ _ _ _ => (pg_name (i := 12) sc_law.nd rfl (Or.inl rfl))) (fun _ _ _ _ _ => (pts_one (pt_cmpR op_eq (pe_op op_mod (pe_callTy call_int1 rfl B.int boot_int (pa_cons (pv 3) pa_nil)) (pv 12)) pe_int (nomark _)))) (fun _ _ _ _ _ => (pv 12))) pa_nil))) (nomark _))))) (pss_one (ps_ret pe_bl)) pss_nil)
  (pss_cons (ps_set (i := 6) sc_law.nd rfl (Or.inr rfl) (pe_op op_sub (pe_cal c__law_take (hr.mono (by decide)) rfl (pa_cons (pv 1) (pa_cons pe_int pa_nil))) pe_int))
  (pss_cons (ps_if (PW.pt (pw_or (pt_not (pt_val (pe_cal c__law_is_number (hr.mono (by decide)) rfl (pa_cons (pe_cal c__law_told (hr.mono (by decide)) rfl (pa_cons pe_int (pa_cons (pv 2) (pa_cons (pv 3) (pa_cons (pv 6) pa_nil))))) pa_nil)))) (pw_or1 (pt_cmpR op_ne (pe_cal c__law_told (hr.mono (by decide)) rfl (pa_cons pe_int (pa_cons (pv 2) (pa_cons (pv 3) (pa_cons (pv 6) pa_nil))))) (pe_cal c__law_weight_number (hr.mono (by decide)) rfl (pa_cons (pv 2) (pa_cons (pv 6) (pa_cons (pv 3) pa_nil)))) (nomark _))))) (pss_one (ps_ret pe_bl)) pss_nil)
  (pss_cons (ps_set (i := 8) sc_law.nd rfl (Or.inl rfl) (pe_ifExp (pt_cmpR op_eq (pv 2) pe_int (nomark _)) pe_int (pe_op op_sub (pe_op op_fdivW (pv 2) pe_int) (pe_callTy call_int1 rfl B.int boot_int (pa_cons (pe_cmpR op_eq (pe_op op_mod (pv 2) pe_int) pe_int (nomark _)) pa_nil)))))
  (pss_cons (ps_if (PW.pt (pw_or (pt_not (pt_val (pe_cal c__law_is_number (hr.mono (by decide)) rfl (pa_cons (pe_cal c__law_told (hr.mono (by decide)) rfl (pa_cons pe_int (pa_cons (pv 2) (pa_cons (pv 3) (pa_cons pe_int pa_nil))))) pa_nil)))) (pw_or1 (pt_cmpR op_ne (pe_cal c__law_told (hr.mono (by decide)) rfl (pa_cons pe_int (pa_cons (pv 2) (pa_cons (pv 3) (pa_cons pe_int pa_nil))))) (pv 8) (nomark _))))) (pss_one (ps_ret pe_bl)) pss_nil)
  (pss_cons (ps_for PassesOwn.never rfl (pi_list (pe_lst (pa_cons pe_int (pa_cons pe_int (pa_cons pe_int (pa_cons pe_int (pa_cons pe_int (pa_cons (pe_un un_neg pe_int) (pa_cons pe_bl (pa_cons pe_non (pa_cons pe_str pa_nil))))))))))) (pg_name (i := 9) sc_law.nd rfl (Or.inr rfl)) (pss_one (ps_if (pt_cmpR (op_neD hr.units) (pe_lc (own := [("which", 11)]) rfl sc_law.nd (pi_range1 rfl B.range (pa_cons pe_int pa_nil)) (blkOk_by (N := ["script", "state", "k", "n", "table", "rows", "t", "due", "count", "bad", "row", "which", "c"]) (sc := defScope s_law) (own := [("which", 11)]) (by decide +kernel)) (fun _ _ _ _ _ => (pg_name (i := 11) sc_law.nd rfl (Or.inl rfl))) (fun _ _ _ _ _ => pts_nil) (fun _ _ _ _ _ => (pe_cal c__law_told (hr.mono (by decide)) rfl (pa_cons (pv 11) (pa_cons (pv 9) (pa_cons (pv 3) (pa_cons (pv 6) pa_nil))))))) (pe_op op_rep (pe_lst (pa_cons pe_str pa_nil)) pe_int) (nomark _)) (pss_one (ps_ret pe_bl)) pss_nil)))
  (pss_cons (ps_for PassesOwn.never rfl (pi_list (pe_lst (pa_cons pe_int (pa_cons (pe_un un_neg pe_int) (pa_cons pe_int (pa_cons pe_bl (pa_cons pe_non (pa_cons pe_str pa_nil)))))))) (pg_name (i := 9) sc_law.nd rfl (Or.inr rfl)) (pss_one (ps_if (pt_cmpR (op_neD hr.units) (pe_lc (own := [("which", 11)]) rfl sc_law.nd (pi_range1 rfl B.range (pa_cons pe_int pa_nil)) (blkOk_by (N := ["script", "state", "k", "n", "table", "rows", "t", "due", "count", "bad", "row", "which", "c"]) (sc := defScope s_law) (own := [("which", 11)]) (by decide +kernel)) (fun _ _ _ _ _ => (pg_name (i := 11) sc_law.nd rfl (Or.inl rfl))) (fun _ _ _ _ _ => pts_nil) (fun _ _ _ _ _ => (pe_cal c__law_told (hr.mono (by decide)) rfl (pa_cons (pv 11) (pa_cons (pv 2) (pa_cons (pv 9) (pa_cons (pv 6) pa_nil))))))) (pe_op op_rep (pe_lst (pa_cons pe_str pa_nil)) pe_int) (nomark _)) (pss_one (ps_ret pe_bl)) pss_nil)))
  (pss_one (ps_ret (pe_cmpR (op_eqD hr.units) (pe_lc (own := [("bad", 9)]) rfl sc_law.nd (pi_list (pe_lst (pa_cons pe_bl (pa_cons pe_non (pa_cons pe_str (pa_cons (pe_tup (pa_cons pe_int pa_nil)) pa_nil)))))) (blkOk_by (N := ["script", "state", "k", "n", "table", "rows", "t", "due", "count", "bad", "row", "which", "c"]) (sc := defScope s_law) (own := [("bad", 9)]) (by decide +kernel)) (fun _ _ _ _ _ => (pg_name (i := 9) sc_law.nd rfl (Or.inl rfl))) (fun _ _ _ _ _ => pts_nil) (fun _ _ _ _ _ => (pe_cal c__law_told (hr.mono (by decide)) rfl (pa_cons pe_int (pa_cons (pv 2) (pa_cons (pv 3) (pa_cons (pv 9) pa_nil))))))) (pe_op op_rep (pe_lst (pa_cons pe_str pa_nil)) pe_int) (nomark _))))))))))))))))))), ?_⟩
  refine seq_cut (fun σ H1 => ∃ st, σ = [some (.ref a), some (.ref st), none, none, none, none, none, none, none, none, none, none, none] ∧ St H1 st) (fun R hR => ?_) ?_
  · walk_at "rs"
    exact ⟨a, ns, rfl, ha, hl, fun st x y H1 s1 n1 h1 => hR _ _ ⟨st, rfl, x, y, h1⟩⟩
  rintro σ H1 ⟨st, rfl, hs1⟩
  clear ha
  refine seq_cut (fun σ H2 => ∃ k : Nat, σ = [some (.ref a), some (.ref st), some (.int k), none, none, none, none, none, none, none, none, none, none] ∧ St H2 st ∧ okW k = true) (fun R hR => ?_) ?_
  · walk_at "rs"
    refine ⟨by decide, fun l1 nl1 => take_st (hs1.same (same_upd nl1)) (by decide) (by decide) fun v1 G1 b1 t1 v10 v11 => ?_⟩
    have h1 := b1 _ _ (hs1.ne nl1) upd_same
    obtain ⟨z, az, hz⟩ := pickN (l := [V.int 6, V.int 50]) v10 v11
    have : ∃ m : Int, z = .int m ∧ 0 < m ∧ m ≤ 50 := by
      simp only [List.mem_cons, List.not_mem_nil, or_false] at hz
      rcases hz with rfl | rfl
      · exact ⟨6, rfl, by decide, by decide⟩
      · exact ⟨50, rfl, by decide, by decide⟩
    obtain ⟨m, rfl, m0, m1⟩ := this
    refine ⟨_, v1, rfl, SqL.of h1, _, az, take_st t1 m0 (by omega) fun v2 G2 b2 t2 v20 v21 => ⟨v2, rfl, mulL (by decide), hR _ _ ⟨(2 + 2 * v2).toNat, by rw [Int.toNat_of_nonneg (by omega)], t2, ?_⟩⟩⟩
    rw [Int.toNat_of_nonneg (by omega)]
    exact decide_eq_true ⟨by omega, by omega, by omega⟩
  rintro σ H2 ⟨k, rfl, hs2, hk⟩
  clear hs1
  refine seq_cut (fun σ H3 => ∃ n : Nat, σ = [some (.ref a), some (.ref st), some (.int k), some (.int n), none, none, none, none, none, none, none, none, none] ∧ St H3 st ∧ okN n = true) (fun R hR => ?_) ?_
  · walk_at "rs"
    refine take_st hs2 (by decide) (by decide) fun v1 G1 b1 t1 v10 v11 => ⟨v1, rfl, take_st t1 (by decide) (by decide) fun v2 G2 b2 t2 v20 v21 => ⟨v2, rfl, by decide, fun l1 nl1 => take_st (t2.same (same_upd nl1)) (by decide) (by decide) fun v3 G3 b3 t3 v30 v31 => ?_⟩⟩
    have h3 := b3 _ _ (t2.ne nl1) upd_same
    obtain ⟨z, az, hz⟩ := pickN (l := [V.int 300, V.int 300, V.int 300, V.int 300, V.int 5000, V.int 5000, V.int 5000, V.int 20000]) v30 v31
    have : ∃ m : Int, z = .int m ∧ 0 < m ∧ m ≤ 20000 := by
      simp only [List.mem_cons, List.not_mem_nil, or_false] at hz
      rcases hz with rfl | rfl | rfl | rfl | rfl | rfl | rfl | rfl
      all_goals exact ⟨_, rfl, by decide, by decide⟩
    obtain ⟨m, rfl, m0, m1⟩ := this
    refine ⟨_, v3, rfl, SqL.of h3, _, az, take_st t3 m0 (by omega) fun v4 G4 b4 t4 v40 v41 => ⟨v4, rfl, by decide, fun l2 nl2 => take_st (t4.same (same_upd nl2)) (by decide) (by decide) fun v5 G5 b5 t5 v50 v51 => ?_⟩⟩
    have h5 := b5 _ _ (t4.ne nl2) upd_same
    obtain ⟨y, ay, hy⟩ := pickN (l := [V.int (1 + v1), V.int (1 + v2), V.int (1 + v4), V.int 1]) v50 v51
    have : ∃ j : Int, y = .int j ∧ 1 ≤ j ∧ j ≤ 20000 := by
      simp only [List.mem_cons, List.not_mem_nil, or_false] at hy
      rcases hy with rfl | rfl | rfl | rfl
      all_goals exact ⟨_, rfl, by omega, by omega⟩
    obtain ⟨j, rfl, j0, j1⟩ := this
    refine ⟨_, v5, rfl, SqL.of h5, _, ay, hR _ _ ⟨j.toNat, by rw [Int.toNat_of_nonneg (by omega)], t5, ?_⟩⟩
    rw [Int.toNat_of_nonneg (by omega)]
    exact decide_eq_true ⟨by omega, by omega⟩
  rintro σ H3 ⟨n, rfl, hs3, hn⟩
  clear hs2
  have hkn := okKN.mk hk hn
  obtain ⟨k2, k1, n1, n2⟩ := hkn
  refine seq_cut (fun σ H4 => ∃ p : Addr, σ = [some (.ref a), some (.ref st), some (.int k), some (.int n), some (.ref p), none, none, none, none, none, none, none, none] ∧ St H4 st ∧ H4 p = some (.lst (tabL (4 * n)))) (fun R hR => ?_) ?_
  · walk_at "rs"
    refine ⟨mulL (by decide), 4 * n, by rw [Int.natCast_mul]; rfl, by omega, fun l G1 s1 _ h1 => hR _ _ ⟨l, rfl, hs3.same s1, h1⟩⟩
  rintro σ H4 ⟨p, rfl, hs4, hp⟩
  clear hs3
  refine seq_cut (fun σ H5 => ∃ l : Addr, σ = [some (.ref a), some (.ref st), some (.int k), some (.int n), some (.ref p), some (.ref l), some (.int 0), none, none, none, none, none, none] ∧ Same H4 H5 ∧ H4 l = none ∧ H5 l = some (.lst [])) (fun R hR => ?_) ?_
  · walk_at "rs"
    refine ⟨by decide, fun l nl => ⟨by decide, fun p2 np2 => ⟨_, SqT.of upd_same, rfl, _, _, rfl, _, _, rfl, rfl, hR _ _ ⟨l, rfl, (same_upd nl).trans (same_upd np2), nl, (same_upd np2) _ _ upd_same⟩⟩⟩⟩
  rintro σ H5 ⟨l, rfl, s5, nl, hl5⟩
  have hT := tT_le n2
  refine seq_cut (fun σ H6 => ∃ ys : List V, σ = [some (.ref a), some (.ref st), some (.int k), some (.int n), some (.ref p), some (.ref l), some (.int (tT n + 1 : Nat)), none, none, none, none, none, none] ∧ Same H4 H6 ∧ H6 l = some (.lst ys) ∧ Trs H6 ys (upT k n (tT n + 1))) (fun R hR => ?_) ?_
  · refine while_w (fun σ H6 => ∃ (t : Nat) (ys : List V), σ = [some (.ref a), some (.ref st), some (.int k), some (.int n), some (.ref p), some (.ref l), some (.int t), none, none, none, none, none, none] ∧ t ≤ tT n + 1 ∧ Same H4 H6 ∧ H6 l = some (.lst ys) ∧ Trs H6 ys (upT k n t))
      (fun σ _ => match σ with | [_, _, _, _, _, _, some (.int t), _, _, _, _, _, _] => (tT n + 1 - t : Int).toNat | _ => 0) ⟨0, [], rfl, by omega, s5, hl5, Trs.nil⟩ ?_
    rintro σ H6 ⟨t, ys, rfl, ht, s6, h6, hy⟩ N hN
    refine ⟨decide (t * t ≤ 4 * n), fun Q' q' => ?_, fun hb => ?_, fun hb => ?_⟩
    · walk_at "rd"
      refine ⟨mulL (by omega), mulL (by decide), ?_⟩
      rw [show decide ((t : Int) * (t : Int) ≤ 4 * (n : Int)) = decide (t * t ≤ 4 * n) from decide_eq_decide.mpr (by rw [← Int.natCast_mul]; omega)]
      exact q'
    · have hle := of_decide_eq_true hb
      have lt := tT_lt hle
      walk_at "rd"
      refine ⟨tyL h6, k, t, n, rfl, k2, k1, by omega, by omega, by omega, by omega, fun H7 s7 => ⟨mulL (by decide), mulL (by omega), _, SqL.of (s7 _ _ (s6 _ _ hp)), _, tab_at hle n2, by decide, fun p3 np3 => ⟨ys, ?_, ?_, ?_⟩⟩⟩
      · exact (same_upd np3) _ _ (s7 _ _ h6)
      · rw [← hy.len, upT_len]
        exact small_size (by omega)
      · have s23 := s7.trans (same_upd (o := HO.tup [V.int t, V.int (pn t n (k - 2)), V.int (due (4 * (n : Int) - (t : Int) * t))]) np3)
        refine hN _ _ ⟨t + 1, _, rfl, by omega, same_at (s6.trans s23) nl, upd_same, ?_⟩ ?_
        · rw [upT_succ]
          exact ((hy.same s23).snoc upd_same).updL (s23 _ _ h6)
        · show (tT n + 1 - ((t + 1 : Nat) : Int) : Int).toNat < (tT n + 1 - (t : Int) : Int).toNat
          omega
    · have hgt := of_decide_eq_false hb
      have e := tT_max ht (by omega)
      subst e
      exact hR _ _ ⟨ys, rfl, s6, h6, hy⟩
  rintro σ H6 ⟨ys, rfl, s6, h6, hy⟩
  refine seq_cut (fun σ H7 => ∃ (d : Addr) (zs : List V), σ = [some (.ref a), some (.ref st), some (.int k), some (.int n), some (.ref p), some (.ref l), some (.int (tT n + 1 : Nat)), some (.ref d), none, none, none, none, none] ∧ Same H4 H7 ∧ H7 d = some (.lst zs) ∧ Trs H7 zs (termsL k n)) (fun R hR => ?_) ?_
  · walk_at "rs"
    refine ⟨ys, SqL.of h6, fun p1 np1 => ?_⟩
    have h1 : (upd H6 p1 (HO.lst ys.tail.reverse)) p1 = some (.lst ys.tail.reverse) := upd_same
    have s1 := same_upd (o := HO.lst ys.tail.reverse) np1
    generalize upd H6 p1 (HO.lst ys.tail.reverse) = G1 at *
    have htr : Trs G1 ys.tail.reverse (upT k n (tT n + 1)).tail.reverse := trs_rev (trs_tail (hy.same s1))
    have hh := htr.len
    have hl2 : (upT k n (tT n + 1)).tail.reverse.length = tT n := by rw [List.length_reverse, List.length_tail, upT_len]; rfl
    refine ⟨⟨_, SqL.of h1⟩, LcL.w (xs := ys.tail.reverse) (fun i E zs H3 => Same G1 H3 ∧ H3 E = some (.lst zs) ∧ G1 E = none ∧ Trs H3 zs ((((upT k n (tT n + 1)).tail.reverse).take i).map ngT)) (fun E nE => ⟨same_upd nE, upd_same, nE, Trs.nil⟩) ?_ ?_ ?_⟩
    · rintro E i zs H3 _ ⟨s3, _⟩
      exact SqL.of (s3 _ _ h1)
    · rintro E i v zs H3 hv ⟨s3, h3, nE, hz⟩ N hN
      obtain ⟨r, x, y, z, rfl, hr3, hu⟩ := htr.get hv
      have hr3 := s3 _ _ hr3
      walk_at "rs"
      have hi := (List.getElem?_eq_some_iff.mp hu).1
      refine ⟨_, SqT.of hr3, _, rfl, x, rfl, _, SqT.of hr3, _, rfl, _, SqT.of hr3, _, rfl, by decide, fun p5 np5 => ⟨zs, (same_upd np5) _ _ h3, ?_, ?_⟩⟩
      · rw [← hz.len, List.length_map, List.length_take, hl2]
        exact small_size (by omega)
      · refine hN _ _ ⟨same_at (s3.trans (same_upd np5)) nE, upd_same, nE, ?_⟩
        rw [List.take_add_one, hu, List.map_append]
        exact ((hz.same (same_upd np5)).snoc (a := -x) (b := y) (c := z) upd_same).updL ((same_upd np5) _ _ h3)
    · rintro E zs H3 nE ⟨s3, h3, _, hz⟩
      rw [List.take_of_length_le (by omega)] at hz
      have zl : zs.length = tT n := by rw [← hz.len, List.length_map, hl2]
      have yl : ys.length = tT n + 1 := by rw [← hy.len, upT_len]
      refine ⟨_, rfl, zs, h3, ys, s3 _ _ (s1 _ _ h6), Nat.le_of_lt (small_size (by omega)), fun p4 np4 => ?_⟩
      have s4 := same_upd (o := HO.lst (zs ++ ys)) np4
      exact hR _ _ ⟨p4, zs ++ ys, rfl, ((s6.trans s1).trans s3).trans s4, upd_same, (trs_app hz (hy.same (s1.trans s3))).same s4⟩
  rintro σ H7 ⟨d, zs, rfl, s7, h7, hz⟩
  refine seq_cut (fun σ H8 => σ = [some (.ref a), some (.ref st), some (.int k), some (.int n), some (.ref p), some (.ref l), some (.int (tT n + 1 : Nat)), some (.ref d), none, none, none, none, none] ∧ Same H4 H8) (fun R hR => ?_) ?_
  · walk_at "rs"
    refine told1 hk hn fun us pu G1 s1 hu htu => ⟨zs, .inl ⟨SqL.of (s1 _ _ h7), fun l1 nl1 => ⟨pu, l1, us, zs, termsL k n, rfl, (same_upd nl1) _ _ hu, upd_same, htu.same (same_upd nl1), hz.same (s1.trans (same_upd nl1)), Nat.le_trans (termsL_len n2) (by decide), fun G3 s3 => ⟨true, rfl, ?_⟩⟩⟩⟩
    rw [if_neg (by decide)]
    have s03 := s7.trans ((s1.trans (same_upd nl1)).trans s3)
    refine told0 hk hn fun G4 s4 => ⟨k, n, p, rfl, okKN.mk hk hn, s4 _ _ (s03 _ _ hp), fun G5 s5 => ⟨rfl, ?_⟩⟩
    rw [if_pos rfl]
    exact hR _ _ ⟨rfl, s03.trans (s4.trans s5)⟩
  rintro σ H8 ⟨rfl, s8⟩
  refine seq_cut (fun σ H9 => σ = [some (.ref a), some (.ref st), some (.int k), some (.int n), some (.ref p), some (.ref l), some (.int (tT n + 1 : Nat)), some (.ref d), none, none, none, none, none] ∧ Same H4 H9) (fun R hR => ?_) ?_
  · walk_at "rs"
    refine told0 hk hn fun G1 s1 => num_k ⟨true, rfl, ?_⟩
    rw [if_neg (by decide)]
    refine told0 (k := 2) (by decide) hn fun G2 s2 => ⟨by decide, by decide, by omega, by omega, ?_⟩
    rw [show ((n : Int) + 1 - 1).toNat = n by omega]
    refine LcR.p (fun i => if n % (i + 1) = 0 then some (V.int ((i + 1 : Nat) : Int)) else none) (by omega) (fun i hi G3 s3 M S hM hS => ?_) (fun D5 G5 nD5 s5 hD5 => ?_)
    · rw [show (1 : Int) + (i : Int) = ((i + 1 : Nat) : Int) by omega]
      walk_at "rs"
      have em : ((n : Int) % ((i + 1 : Nat) : Int) = 0) ↔ n % (i + 1) = 0 := by rw [← Int.natCast_emod]; omega
      refine ⟨by omega, ite2 (fun c => ?_) (fun c => ?_)⟩
      · exact hM _ _ (if_pos (em.mp c)) (Same.refl _)
      · exact hS _ (if_neg (fun z => c (em.mpr z))) (Same.refl _)
    · refine ⟨_, rfl, ((List.range n).filterMap fun i => if n % (i + 1) = 0 then some (((i + 1 : Nat) : Int)) else none), SqL.of (hD5.trans ?_), mulL (by decide), rfl, ?_⟩
      · congr 2
        rw [List.map_filterMap]
        congr 1
        funext i
        split <;> rfl
      · rw [sum_dv, side_two n1 (by omega), if_pos rfl]
        exact hR _ _ ⟨rfl, s8.trans ((s1.trans s2).trans s5)⟩
  rintro σ H9 ⟨rfl, s9⟩
  refine seq_cut (fun σ HA => ∃ t : Int, σ = [some (.ref a), some (.ref st), some (.int k), some (.int n), some (.ref p), some (.ref l), some (.int t), some (.ref d), none, none, none, none, none] ∧ -(2 ^ 60) < t ∧ t < 2 ^ 60) (fun R hR => ?_) ?_
  · walk_at "rs"
    exact take_st (hs4.same s9) (by decide) (by decide) fun v1 G1 b1 t1 v10 v11 => ⟨v1, rfl, hR _ _ ⟨v1 - 1000, rfl, by omega, by omega⟩⟩
  rintro σ HA ⟨t, rfl, tl, tu⟩
  refine seq_cut (fun σ HB => σ = [some (.ref a), some (.ref st), some (.int k), some (.int n), some (.ref p), some (.ref l), some (.int t), some (.ref d), none, none, none, none, none]) (fun R hR => ?_) ?_
  · walk_at "rs"
    refine told2 hk hn tl tu fun G1 s1 => num_k ⟨true, rfl, ?_⟩
    rw [if_neg (by decide)]
    refine told2 hk hn tl tu fun G2 s2 => ⟨k, t, n, rfl, k2, k1, tl, tu, by omega, by omega, fun G3 s3 => ⟨rfl, ?_⟩⟩
    rw [if_pos rfl]
    exact hR _ _ rfl
  rintro σ HB rfl
  refine seq_cut (fun σ HC => σ = [some (.ref a), some (.ref st), some (.int k), some (.int n), some (.ref p), some (.ref l), some (.int t), some (.ref d), some (.int (dimV k)), none, none, none, none]) (fun R hR => ?_) ?_
  · walk_at "rs"
    refine ite2 (fun c => ?_) (fun c => ?_)
    · have e : dimV k = 0 := if_pos (by omega)
      exact hR _ _ (by rw [e]; rfl)
    · refine ⟨divSmall (by omega) (by decide), by decide, hR _ _ ?_⟩
      rw [dim_eq hk c]
  rintro σ HC rfl
  refine seq_cut (fun σ HD => σ = [some (.ref a), some (.ref st), some (.int k), some (.int n), some (.ref p), some (.ref l), some (.int t), some (.ref d), some (.int (dimV k)), none, none, none, none]) (fun R hR => ?_) ?_
  · walk_at "rs"
    refine told3 hk fun G1 s1 => num_k ⟨true, rfl, ?_⟩
    rw [if_neg (by decide)]
    refine told3 hk fun G2 s2 => ⟨rfl, ?_⟩
    rw [if_pos rfl]
    exact hR _ _ rfl
  rintro σ HD rfl
  refine seq_cut (fun σ HE => ∃ x : Option V, σ = [some (.ref a), some (.ref st), some (.int k), some (.int n), some (.ref p), some (.ref l), some (.int t), some (.ref d), some (.int (dimV k)), x, none, none, none]) (fun R hR => ?_) ?_
  · walk_at "rs"
    refine ⟨by decide, fun l1 nl1 => ?_⟩
    have hl1 : (upd HD l1 (HO.lst [V.int 0, V.int 1, V.int 3, V.int 101, V.int 102, V.int (-2), V.bl true, V.non, V.str (Str.ofString "12")])) l1 = some (.lst [V.int 0, V.int 1, V.int 3, V.int 101, V.int 102, V.int (-2), V.bl true, V.non, V.str (Str.ofString "12")]) := upd_same
    generalize upd HD l1 (HO.lst [V.int 0, V.int 1, V.int 3, V.int 101, V.int 102, V.int (-2), V.bl true, V.non, V.str (Str.ofString "12")]) = G0 at *
    refine ⟨⟨_, SqL.of hl1⟩, ForL.w (xs := [V.int 0, V.int 1, V.int 3, V.int 101, V.int 102, V.int (-2), V.bl true, V.non, V.str (Str.ofString "12")]) (fun i σ H2 => (∃ x : Option V, σ = [some (.ref a), some (.ref st), some (.int k), some (.int n), some (.ref p), some (.ref l), some (.int t), some (.ref d), some (.int (dimV k)), x, none, none, none]) ∧ Same G0 H2) ⟨⟨_, rfl⟩, Same.refl _⟩ (fun i σ H2 _ h => SqL.of (h.2 _ _ hl1)) ?_ ?_⟩
    · rintro i v σ H2 hv ⟨⟨x, rfl⟩, s2⟩ N hN
      have hb : ∀ G, BadI K okW G v := fun G => by
        have hv := List.mem_of_getElem? hv
        simp only [List.mem_cons, List.not_mem_nil, or_false] at hv
        rcases hv with rfl | rfl | rfl | rfl | rfl | rfl | rfl | rfl | rfl
        · exact .inr ⟨_, rfl, by decide⟩
        · exact .inr ⟨_, rfl, by decide⟩
        · exact .inr ⟨_, rfl, by decide⟩
        · exact .inr ⟨_, rfl, by decide⟩
        · exact .inr ⟨_, rfl, by decide⟩
        · exact .inr ⟨_, rfl, by decide⟩
        · exact .inl ⟨"bool", .base (.bl true), by decide, by decide⟩
        · exact .inl ⟨"NoneType", .base .non, by decide, by decide⟩
        · exact .inl ⟨"str", .base (.str _), by decide, by decide⟩
      walk_at "rs"
      refine ⟨by decide, by decide, ?_⟩
      refine LcR.p (fun _ => some (V.str (Str.ofString "raised malformed"))) (by decide) (fun j hj G sG M S hM hS => ?_) (fun D5 G5 nD5 s5 hD5 => ?_)
      · walk_at "rd"
        exact toldU (hb G) hj fun G2 s2 => hM _ _ rfl s2
      · have hD5 : G5 D5 = some (.lst ((List.replicate 4 (Str.ofString "raised malformed")).map V.str)) := hD5
        refine ⟨by decide, fun q3 nq3 => ⟨_, upd_same, by decide, by decide, by show 1 * 4 ≤ _; rw [PySem.sizeLine_eq]; decide, fun q4 nq4 => ?_⟩⟩
        have s6 := (same_upd (o := HO.lst [V.str (Str.ofString "raised malformed")]) nq3).trans (same_upd (o := HO.lst (List.replicate (Int.toNat 4) [V.str (Str.ofString "raised malformed")]).flatten) nq4)
        have h1 := s6 _ _ hD5
        have h2 : (upd (upd G5 q3 (.lst [V.str (Str.ofString "raised malformed")])) q4 (.lst (List.replicate (Int.toNat 4) [V.str (Str.ofString "raised malformed")]).flatten)) q4 = some (.lst ((List.replicate 4 (Str.ofString "raised malformed")).map V.str)) := upd_same
        generalize upd (upd G5 q3 (.lst [V.str (Str.ofString "raised malformed")])) q4 (.lst (List.replicate (Int.toNat 4) [V.str (Str.ofString "raised malformed")]).flatten) = H6 at *
        rw [CB.rd_neD]
        refine ⟨_, _, .lst (SqL.of h1) (dp_strs _), .lst (SqL.of h2) (dp_strs _), by decide +kernel, by decide +kernel, ?_⟩
        rw [show PyData.eqv (.list ((List.replicate 4 (Str.ofString "raised malformed")).map PyData.str)) (.list ((List.replicate 4 (Str.ofString "raised malformed")).map PyData.str)) = true by decide +kernel]
        exact ⟨_, rfl, by rw [if_neg (by decide)]; exact hN _ _ ⟨⟨_, rfl⟩, s2.trans (s5.trans s6)⟩⟩
    · rintro σ H2 ⟨⟨x, rfl⟩, s2⟩
      walk_at "rs"
      exact hR _ _ ⟨_, rfl⟩
  rintro σ HE ⟨x, rfl⟩
  refine seq_cut (fun σ HF => ∃ x : Option V, σ = [some (.ref a), some (.ref st), some (.int k), some (.int n), some (.ref p), some (.ref l), some (.int t), some (.ref d), some (.int (dimV k)), x, none, none, none]) (fun R hR => ?_) ?_
  · walk_at "rs"
    refine ⟨by decide, fun l1 nl1 => ?_⟩
    have hl1 : (upd HE l1 (HO.lst [V.int 0, V.int (-1), V.int 20001, V.bl true, V.non, V.str (Str.ofString "1")])) l1 = some (.lst [V.int 0, V.int (-1), V.int 20001, V.bl true, V.non, V.str (Str.ofString "1")]) := upd_same
    generalize upd HE l1 (HO.lst [V.int 0, V.int (-1), V.int 20001, V.bl true, V.non, V.str (Str.ofString "1")]) = G0 at *
    refine ⟨⟨_, SqL.of hl1⟩, ForL.w (xs := [V.int 0, V.int (-1), V.int 20001, V.bl true, V.non, V.str (Str.ofString "1")]) (fun i σ H2 => (∃ x : Option V, σ = [some (.ref a), some (.ref st), some (.int k), some (.int n), some (.ref p), some (.ref l), some (.int t), some (.ref d), some (.int (dimV k)), x, none, none, none]) ∧ Same G0 H2) ⟨⟨_, rfl⟩, Same.refl _⟩ (fun i σ H2 _ h => SqL.of (h.2 _ _ hl1)) ?_ ?_⟩
    · rintro i v σ H2 hv ⟨⟨x, rfl⟩, s2⟩ N hN
      have hb : ∀ G, BadI K okN G v := fun G => by
        have hv := List.mem_of_getElem? hv
        simp only [List.mem_cons, List.not_mem_nil, or_false] at hv
        rcases hv with rfl | rfl | rfl | rfl | rfl | rfl
        · exact .inr ⟨_, rfl, by decide⟩
        · exact .inr ⟨_, rfl, by decide⟩
        · exact .inr ⟨_, rfl, by decide⟩
        · exact .inl ⟨"bool", .base (.bl true), by decide, by decide⟩
        · exact .inl ⟨"NoneType", .base .non, by decide, by decide⟩
        · exact .inl ⟨"str", .base (.str _), by decide, by decide⟩
      walk_at "rs"
      refine ⟨by decide, by decide, ?_⟩
      refine LcR.p (fun _ => some (V.str (Str.ofString "raised malformed"))) (by decide) (fun j hj G sG M S hM hS => ?_) (fun D5 G5 nD5 s5 hD5 => ?_)
      · walk_at "rd"
        exact toldN hk (hb G) hj fun G2 s2 => hM _ _ rfl s2
      · have hD5 : G5 D5 = some (.lst ((List.replicate 3 (Str.ofString "raised malformed")).map V.str)) := hD5
        refine ⟨by decide, fun q3 nq3 => ⟨_, upd_same, by decide, by decide, by show 1 * 3 ≤ _; rw [PySem.sizeLine_eq]; decide, fun q4 nq4 => ?_⟩⟩
        have s6 := (same_upd (o := HO.lst [V.str (Str.ofString "raised malformed")]) nq3).trans (same_upd (o := HO.lst (List.replicate (Int.toNat 3) [V.str (Str.ofString "raised malformed")]).flatten) nq4)
        have h1 := s6 _ _ hD5
        have h2 : (upd (upd G5 q3 (.lst [V.str (Str.ofString "raised malformed")])) q4 (.lst (List.replicate (Int.toNat 3) [V.str (Str.ofString "raised malformed")]).flatten)) q4 = some (.lst ((List.replicate 3 (Str.ofString "raised malformed")).map V.str)) := upd_same
        generalize upd (upd G5 q3 (.lst [V.str (Str.ofString "raised malformed")])) q4 (.lst (List.replicate (Int.toNat 3) [V.str (Str.ofString "raised malformed")]).flatten) = H6 at *
        rw [CB.rd_neD]
        refine ⟨_, _, .lst (SqL.of h1) (dp_strs _), .lst (SqL.of h2) (dp_strs _), by decide +kernel, by decide +kernel, ?_⟩
        rw [show PyData.eqv (.list ((List.replicate 3 (Str.ofString "raised malformed")).map PyData.str)) (.list ((List.replicate 3 (Str.ofString "raised malformed")).map PyData.str)) = true by decide +kernel]
        exact ⟨_, rfl, by rw [if_neg (by decide)]; exact hN _ _ ⟨⟨_, rfl⟩, s2.trans (s5.trans s6)⟩⟩
    · rintro σ H2 ⟨⟨x, rfl⟩, s2⟩
      walk_at "rs"
      exact hR _ _ ⟨_, rfl⟩
  rintro σ HF ⟨x, rfl⟩
  walk_at "rs"
  refine ⟨by decide, fun q1 nq1 => ⟨by decide, fun q2 nq2 => ?_⟩⟩
  have hq1 := same_upd (o := HO.lst [V.bl true, V.non, V.str (Str.ofString "1"), V.ref q1]) nq2 _ _ (upd_same (H := HF) (a := q1) (o := HO.tup [V.int 1]))
  have hq2 : (upd (upd HF q1 (.tup [V.int 1])) q2 (.lst [V.bl true, V.non, V.str (Str.ofString "1"), V.ref q1])) q2 = some (.lst [V.bl true, V.non, V.str (Str.ofString "1"), V.ref q1]) := upd_same
  generalize upd (upd HF q1 (.tup [V.int 1])) q2 (.lst [V.bl true, V.non, V.str (Str.ofString "1"), V.ref q1]) = H8 at *
  have hB : ∀ v ∈ [V.bl true, V.non, V.str (Str.ofString "1"), V.ref q1], ∀ G, Same H8 G → BadI K (fun _ => true) G v := fun v hv G s => by
    simp only [List.mem_cons, List.not_mem_nil, or_false] at hv
    rcases hv with rfl | rfl | rfl | rfl
    · exact .inl ⟨"bool", .base (.bl true), by decide, by decide⟩
    · exact .inl ⟨"NoneType", .base .non, by decide, by decide⟩
    · exact .inl ⟨"str", .base (.str _), by decide, by decide⟩
    · exact .inl ⟨"tuple", .base (.tup (s _ _ hq1)), by decide, by decide⟩
  refine ⟨⟨_, SqL.of hq2⟩, LcL.p (xs := [V.bl true, V.non, V.str (Str.ofString "1"), V.ref q1]) (fun _ => some (V.str (Str.ofString "raised malformed"))) (by show 4 ≤ 10000000; decide) (fun G s => SqL.of (s _ _ hq2)) ?_ ?_⟩
  · intro i v hv G sG M S hM hS
    walk_at "rd"
    exact told2b hk hn (hB v (List.mem_of_getElem? hv) G sG) fun G2 s2 => hM _ _ rfl s2
  · intro D5 G5 nD5 s5 hD5
    have hD5 : G5 D5 = some (.lst ((List.replicate 4 (Str.ofString "raised malformed")).map V.str)) := hD5
    refine ⟨by decide, fun q3 nq3 => ⟨_, upd_same, by decide, by decide, by show 1 * 4 ≤ _; rw [PySem.sizeLine_eq]; decide, fun q4 nq4 => ?_⟩⟩
    have s6 := (same_upd (o := HO.lst [V.str (Str.ofString "raised malformed")]) nq3).trans (same_upd (o := HO.lst (List.replicate (Int.toNat 4) [V.str (Str.ofString "raised malformed")]).flatten) nq4)
    have h1 := s6 _ _ hD5
    have h2 : (upd (upd G5 q3 (.lst [V.str (Str.ofString "raised malformed")])) q4 (.lst (List.replicate (Int.toNat 4) [V.str (Str.ofString "raised malformed")]).flatten)) q4 = some (.lst ((List.replicate 4 (Str.ofString "raised malformed")).map V.str)) := upd_same
    generalize upd (upd G5 q3 (.lst [V.str (Str.ofString "raised malformed")])) q4 (.lst (List.replicate (Int.toNat 4) [V.str (Str.ofString "raised malformed")]).flatten) = H6 at *
    rw [CB.rd_eqD]
    refine ⟨_, _, .lst (SqL.of h1) (dp_strs _), .lst (SqL.of h2) (dp_strs _), by decide +kernel, by decide +kernel, ?_⟩
    rw [show PyData.eqv (.list ((List.replicate 4 (Str.ofString "raised malformed")).map PyData.str)) (.list ((List.replicate 4 (Str.ofString "raised malformed")).map PyData.str)) = true by decide +kernel]
    exact q _
end

abbrev s_RI : Stmt := inClass (top 4) 0
theorem sc_RI : FnScope ["self", "reason"] ["self", "reason"] (defScope s_RI) := ⟨rfl, rfl, rfl, by decide +kernel, rfl, by decide +kernel, by decide +kernel⟩
theorem ri_fn {P : Program} {w : World} {K : PySem.W.Frag} {mg : Str → Option Value} {base : Heap} {f : Addr} {fd : FuncData} (F : Fun K "__init__" "Refused.__init__" s_RI f fd) : FnOk P w K mg base CX0 1 f fd ["self", "reason"] (spRI K) := by
  refine F.ok sc_RI (fun vs H Q E h => by obtain ⟨a, C, v, rfl, _⟩ := h; rfl) (fun cdv A outer s H vs Q E hr h => ?_)
  obtain ⟨a, C, v, rfl, ox, n, ha, q⟩ := h
  refine ⟨_, pss_one (ps_ost (pv 0) (pv 1)), ?_⟩
  exact ⟨_, rfl, _, rfl, a, C, rfl, ox, n, .inl ⟨ha, fun dx hd ne => q dx hd ne⟩⟩
theorem all_mk {l : PySem.W.OpenLaw} {w : World} {K : PySem.W.Frag} {h : Heap} {mg : Str → Option Value} {fa f__law_take f__law_state f_is_integer f_root f__counted_forms f__weight f_hurwitz f_raised f_least_divisor f_is_prime f__prime_list f_factors f_divisors_of f__check_weight f__check_index f_told_number f_weight_number f__terms f_class_terms f_lesser_sum f__side f_class_side f_divisor_sum f__trace f_dimension_by_classes f__law_odd f__law_plain f__law_no_word f__law_is_number f__law_is_equal f__law_told f__law_classes f__law_pow f__law_weight_number f__law_side f_law CM CR fI NR : Addr} (X : K.In h) (G : h.Ns mainGlobals mg) (hfa : mg "law" = some (.ref fa))
    {od__law_take an__law_take od__law_state an__law_state od_is_integer an_is_integer od_root an_root od__counted_forms an__counted_forms od__weight an__weight od_hurwitz an_hurwitz od_raised an_raised od_least_divisor an_least_divisor od_is_prime an_is_prime od__prime_list an__prime_list od_factors an_factors od_divisors_of an_divisors_of od__check_weight an__check_weight od__check_index an__check_index od_told_number an_told_number od_weight_number an_weight_number od__terms an__terms od_class_terms an_class_terms od_lesser_sum an_lesser_sum od__side an__side od_class_side an_class_side od_divisor_sum an_divisor_sum od__trace an__trace od_dimension_by_classes an_dimension_by_classes od__law_odd an__law_odd od__law_plain an__law_plain od__law_no_word an__law_no_word od__law_is_number an__law_is_number od__law_is_equal an__law_is_equal od__law_told an__law_told od__law_classes an__law_classes od__law_pow an__law_pow od__law_weight_number an__law_weight_number od__law_side an__law_side od_law an_law od_I an_I dd_R : Option Addr} {sl__law_take sl__law_state sl_is_integer sl_root sl__counted_forms sl__weight sl_hurwitz sl_raised sl_least_divisor sl_is_prime sl__prime_list sl_factors sl_divisors_of sl__check_weight sl__check_index sl_told_number sl_weight_number sl__terms sl_class_terms sl_lesser_sum sl__side sl_class_side sl_divisor_sum sl__trace sl_dimension_by_classes sl__law_odd sl__law_plain sl__law_no_word sl__law_is_number sl__law_is_equal sl__law_told sl__law_classes sl__law_pow sl__law_weight_number sl__law_side sl_law sl_I : Array (Option Value)} {oc__law_take kV__law_take dc__law_take pm__law_take cd__law_take ct__law_take oc__law_state kV__law_state dc__law_state pm__law_state cd__law_state ct__law_state oc_is_integer kV_is_integer dc_is_integer pm_is_integer cd_is_integer ct_is_integer oc_root kV_root dc_root pm_root cd_root ct_root oc__counted_forms kV__counted_forms dc__counted_forms pm__counted_forms cd__counted_forms ct__counted_forms oc__weight kV__weight dc__weight pm__weight cd__weight ct__weight oc_hurwitz kV_hurwitz dc_hurwitz pm_hurwitz cd_hurwitz ct_hurwitz oc_raised kV_raised dc_raised pm_raised cd_raised ct_raised oc_least_divisor kV_least_divisor dc_least_divisor pm_least_divisor cd_least_divisor ct_least_divisor oc_is_prime kV_is_prime dc_is_prime pm_is_prime cd_is_prime ct_is_prime oc__prime_list kV__prime_list dc__prime_list pm__prime_list cd__prime_list ct__prime_list oc_factors kV_factors dc_factors pm_factors cd_factors ct_factors oc_divisors_of kV_divisors_of dc_divisors_of pm_divisors_of cd_divisors_of ct_divisors_of oc__check_weight kV__check_weight dc__check_weight pm__check_weight cd__check_weight ct__check_weight oc__check_index kV__check_index dc__check_index pm__check_index cd__check_index ct__check_index oc_told_number kV_told_number dc_told_number pm_told_number cd_told_number ct_told_number oc_weight_number kV_weight_number dc_weight_number pm_weight_number cd_weight_number ct_weight_number oc__terms kV__terms dc__terms pm__terms cd__terms ct__terms oc_class_terms kV_class_terms dc_class_terms pm_class_terms cd_class_terms ct_class_terms oc_lesser_sum kV_lesser_sum dc_lesser_sum pm_lesser_sum cd_lesser_sum ct_lesser_sum oc__side kV__side dc__side pm__side cd__side ct__side oc_class_side kV_class_side dc_class_side pm_class_side cd_class_side ct_class_side oc_divisor_sum kV_divisor_sum dc_divisor_sum pm_divisor_sum cd_divisor_sum ct_divisor_sum oc__trace kV__trace dc__trace pm__trace cd__trace ct__trace oc_dimension_by_classes kV_dimension_by_classes dc_dimension_by_classes pm_dimension_by_classes cd_dimension_by_classes ct_dimension_by_classes oc__law_odd kV__law_odd dc__law_odd pm__law_odd cd__law_odd ct__law_odd oc__law_plain kV__law_plain dc__law_plain pm__law_plain cd__law_plain ct__law_plain oc__law_no_word kV__law_no_word dc__law_no_word pm__law_no_word cd__law_no_word ct__law_no_word oc__law_is_number kV__law_is_number dc__law_is_number pm__law_is_number cd__law_is_number ct__law_is_number oc__law_is_equal kV__law_is_equal dc__law_is_equal pm__law_is_equal cd__law_is_equal ct__law_is_equal oc__law_told kV__law_told dc__law_told pm__law_told cd__law_told ct__law_told oc__law_classes kV__law_classes dc__law_classes pm__law_classes cd__law_classes ct__law_classes oc__law_pow kV__law_pow dc__law_pow pm__law_pow cd__law_pow ct__law_pow oc__law_weight_number kV__law_weight_number dc__law_weight_number pm__law_weight_number cd__law_weight_number ct__law_weight_number oc__law_side kV__law_side dc__law_side pm__law_side cd__law_side ct__law_side oc_law kV_law dc_law pm_law cd_law ct_law oc_I kV_I dc_I pm_I cd_I ct_I : Value} {t_BATCH t_BOUND t_GREATEST_WEIGHT t_HALVED_BITS t_LARGEST_INDEX t_LARGEST_definite t_LARGEST_primes t_LEAST_WEIGHT t_MOST_DIVISORS t_TRIED_TO : Tok} {nm_R q_R : Str} {bs_R bm_R sub_R : List Value} {sn_R : List Str} {ab_R : Bool} {col_R : Option Bool} {m0_R m1_R m2_R m3_R m5_R : Option Value}
    (a__law_take : PySem.W.nsIn K mainGlobals "_law_take" = some (some (.ref f__law_take)))
    (l__law_take : K.lookup f__law_take = some ⟨oc__law_take, od__law_take, .func (PySem.W.fnOf "_law_take" "_law_take" (defArgs s__law_take) (defBody s__law_take) (defScope s__law_take) .none kV__law_take dc__law_take pm__law_take an__law_take cd__law_take ct__law_take), sl__law_take⟩)
    (c__law_take : PySem.W.codeIn K cd__law_take "_law_take" = true)
    (k__law_take : PySem.W.keepIn K (.ref f__law_take) = true)
    (a__law_state : PySem.W.nsIn K mainGlobals "_law_state" = some (some (.ref f__law_state)))
    (l__law_state : K.lookup f__law_state = some ⟨oc__law_state, od__law_state, .func (PySem.W.fnOf "_law_state" "_law_state" (defArgs s__law_state) (defBody s__law_state) (defScope s__law_state) .none kV__law_state dc__law_state pm__law_state an__law_state cd__law_state ct__law_state), sl__law_state⟩)
    (c__law_state : PySem.W.codeIn K cd__law_state "_law_state" = true)
    (k__law_state : PySem.W.keepIn K (.ref f__law_state) = true)
    (a_is_integer : PySem.W.nsIn K mainGlobals "is_integer" = some (some (.ref f_is_integer)))
    (l_is_integer : K.lookup f_is_integer = some ⟨oc_is_integer, od_is_integer, .func (PySem.W.fnOf "is_integer" "is_integer" (defArgs s_is_integer) (defBody s_is_integer) (defScope s_is_integer) .none kV_is_integer dc_is_integer pm_is_integer an_is_integer cd_is_integer ct_is_integer), sl_is_integer⟩)
    (c_is_integer : PySem.W.codeIn K cd_is_integer "is_integer" = true)
    (k_is_integer : PySem.W.keepIn K (.ref f_is_integer) = true)
    (a_root : PySem.W.nsIn K mainGlobals "root" = some (some (.ref f_root)))
    (l_root : K.lookup f_root = some ⟨oc_root, od_root, .func (PySem.W.fnOf "root" "root" (defArgs s_root) (defBody s_root) (defScope s_root) .none kV_root dc_root pm_root an_root cd_root ct_root), sl_root⟩)
    (c_root : PySem.W.codeIn K cd_root "root" = true)
    (k_root : PySem.W.keepIn K (.ref f_root) = true)
    (a__counted_forms : PySem.W.nsIn K mainGlobals "_counted_forms" = some (some (.ref f__counted_forms)))
    (l__counted_forms : K.lookup f__counted_forms = some ⟨oc__counted_forms, od__counted_forms, .func (PySem.W.fnOf "_counted_forms" "_counted_forms" (defArgs s__counted_forms) (defBody s__counted_forms) (defScope s__counted_forms) .none kV__counted_forms dc__counted_forms pm__counted_forms an__counted_forms cd__counted_forms ct__counted_forms), sl__counted_forms⟩)
    (c__counted_forms : PySem.W.codeIn K cd__counted_forms "_counted_forms" = true)
    (k__counted_forms : PySem.W.keepIn K (.ref f__counted_forms) = true)
    (a__weight : PySem.W.nsIn K mainGlobals "_weight" = some (some (.ref f__weight)))
    (l__weight : K.lookup f__weight = some ⟨oc__weight, od__weight, .func (PySem.W.fnOf "_weight" "_weight" (defArgs s__weight) (defBody s__weight) (defScope s__weight) .none kV__weight dc__weight pm__weight an__weight cd__weight ct__weight), sl__weight⟩)
    (c__weight : PySem.W.codeIn K cd__weight "_weight" = true)
    (k__weight : PySem.W.keepIn K (.ref f__weight) = true)
    (a_hurwitz : PySem.W.nsIn K mainGlobals "hurwitz" = some (some (.ref f_hurwitz)))
    (l_hurwitz : K.lookup f_hurwitz = some ⟨oc_hurwitz, od_hurwitz, .func (PySem.W.fnOf "hurwitz" "hurwitz" (defArgs s_hurwitz) (defBody s_hurwitz) (defScope s_hurwitz) .none kV_hurwitz dc_hurwitz pm_hurwitz an_hurwitz cd_hurwitz ct_hurwitz), sl_hurwitz⟩)
    (c_hurwitz : PySem.W.codeIn K cd_hurwitz "hurwitz" = true)
    (k_hurwitz : PySem.W.keepIn K (.ref f_hurwitz) = true)
    (a_raised : PySem.W.nsIn K mainGlobals "raised" = some (some (.ref f_raised)))
    (l_raised : K.lookup f_raised = some ⟨oc_raised, od_raised, .func (PySem.W.fnOf "raised" "raised" (defArgs s_raised) (defBody s_raised) (defScope s_raised) .none kV_raised dc_raised pm_raised an_raised cd_raised ct_raised), sl_raised⟩)
    (c_raised : PySem.W.codeIn K cd_raised "raised" = true)
    (k_raised : PySem.W.keepIn K (.ref f_raised) = true)
    (a_least_divisor : PySem.W.nsIn K mainGlobals "least_divisor" = some (some (.ref f_least_divisor)))
    (l_least_divisor : K.lookup f_least_divisor = some ⟨oc_least_divisor, od_least_divisor, .func (PySem.W.fnOf "least_divisor" "least_divisor" (defArgs s_least_divisor) (defBody s_least_divisor) (defScope s_least_divisor) .none kV_least_divisor dc_least_divisor pm_least_divisor an_least_divisor cd_least_divisor ct_least_divisor), sl_least_divisor⟩)
    (c_least_divisor : PySem.W.codeIn K cd_least_divisor "least_divisor" = true)
    (k_least_divisor : PySem.W.keepIn K (.ref f_least_divisor) = true)
    (a_is_prime : PySem.W.nsIn K mainGlobals "is_prime" = some (some (.ref f_is_prime)))
    (l_is_prime : K.lookup f_is_prime = some ⟨oc_is_prime, od_is_prime, .func (PySem.W.fnOf "is_prime" "is_prime" (defArgs s_is_prime) (defBody s_is_prime) (defScope s_is_prime) .none kV_is_prime dc_is_prime pm_is_prime an_is_prime cd_is_prime ct_is_prime), sl_is_prime⟩)
    (c_is_prime : PySem.W.codeIn K cd_is_prime "is_prime" = true)
    (k_is_prime : PySem.W.keepIn K (.ref f_is_prime) = true)
    (a__prime_list : PySem.W.nsIn K mainGlobals "_prime_list" = some (some (.ref f__prime_list)))
    (l__prime_list : K.lookup f__prime_list = some ⟨oc__prime_list, od__prime_list, .func (PySem.W.fnOf "_prime_list" "_prime_list" (defArgs s__prime_list) (defBody s__prime_list) (defScope s__prime_list) .none kV__prime_list dc__prime_list pm__prime_list an__prime_list cd__prime_list ct__prime_list), sl__prime_list⟩)
    (c__prime_list : PySem.W.codeIn K cd__prime_list "_prime_list" = true)
    (k__prime_list : PySem.W.keepIn K (.ref f__prime_list) = true)
    (a_factors : PySem.W.nsIn K mainGlobals "factors" = some (some (.ref f_factors)))
    (l_factors : K.lookup f_factors = some ⟨oc_factors, od_factors, .func (PySem.W.fnOf "factors" "factors" (defArgs s_factors) (defBody s_factors) (defScope s_factors) .none kV_factors dc_factors pm_factors an_factors cd_factors ct_factors), sl_factors⟩)
    (c_factors : PySem.W.codeIn K cd_factors "factors" = true)
    (k_factors : PySem.W.keepIn K (.ref f_factors) = true)
    (a_divisors_of : PySem.W.nsIn K mainGlobals "divisors_of" = some (some (.ref f_divisors_of)))
    (l_divisors_of : K.lookup f_divisors_of = some ⟨oc_divisors_of, od_divisors_of, .func (PySem.W.fnOf "divisors_of" "divisors_of" (defArgs s_divisors_of) (defBody s_divisors_of) (defScope s_divisors_of) .none kV_divisors_of dc_divisors_of pm_divisors_of an_divisors_of cd_divisors_of ct_divisors_of), sl_divisors_of⟩)
    (c_divisors_of : PySem.W.codeIn K cd_divisors_of "divisors_of" = true)
    (k_divisors_of : PySem.W.keepIn K (.ref f_divisors_of) = true)
    (a__check_weight : PySem.W.nsIn K mainGlobals "_check_weight" = some (some (.ref f__check_weight)))
    (l__check_weight : K.lookup f__check_weight = some ⟨oc__check_weight, od__check_weight, .func (PySem.W.fnOf "_check_weight" "_check_weight" (defArgs s__check_weight) (defBody s__check_weight) (defScope s__check_weight) .none kV__check_weight dc__check_weight pm__check_weight an__check_weight cd__check_weight ct__check_weight), sl__check_weight⟩)
    (c__check_weight : PySem.W.codeIn K cd__check_weight "_check_weight" = true)
    (k__check_weight : PySem.W.keepIn K (.ref f__check_weight) = true)
    (a__check_index : PySem.W.nsIn K mainGlobals "_check_index" = some (some (.ref f__check_index)))
    (l__check_index : K.lookup f__check_index = some ⟨oc__check_index, od__check_index, .func (PySem.W.fnOf "_check_index" "_check_index" (defArgs s__check_index) (defBody s__check_index) (defScope s__check_index) .none kV__check_index dc__check_index pm__check_index an__check_index cd__check_index ct__check_index), sl__check_index⟩)
    (c__check_index : PySem.W.codeIn K cd__check_index "_check_index" = true)
    (k__check_index : PySem.W.keepIn K (.ref f__check_index) = true)
    (a_told_number : PySem.W.nsIn K mainGlobals "told_number" = some (some (.ref f_told_number)))
    (l_told_number : K.lookup f_told_number = some ⟨oc_told_number, od_told_number, .func (PySem.W.fnOf "told_number" "told_number" (defArgs s_told_number) (defBody s_told_number) (defScope s_told_number) .none kV_told_number dc_told_number pm_told_number an_told_number cd_told_number ct_told_number), sl_told_number⟩)
    (c_told_number : PySem.W.codeIn K cd_told_number "told_number" = true)
    (k_told_number : PySem.W.keepIn K (.ref f_told_number) = true)
    (a_weight_number : PySem.W.nsIn K mainGlobals "weight_number" = some (some (.ref f_weight_number)))
    (l_weight_number : K.lookup f_weight_number = some ⟨oc_weight_number, od_weight_number, .func (PySem.W.fnOf "weight_number" "weight_number" (defArgs s_weight_number) (defBody s_weight_number) (defScope s_weight_number) .none kV_weight_number dc_weight_number pm_weight_number an_weight_number cd_weight_number ct_weight_number), sl_weight_number⟩)
    (c_weight_number : PySem.W.codeIn K cd_weight_number "weight_number" = true)
    (k_weight_number : PySem.W.keepIn K (.ref f_weight_number) = true)
    (a__terms : PySem.W.nsIn K mainGlobals "_terms" = some (some (.ref f__terms)))
    (l__terms : K.lookup f__terms = some ⟨oc__terms, od__terms, .func (PySem.W.fnOf "_terms" "_terms" (defArgs s__terms) (defBody s__terms) (defScope s__terms) .none kV__terms dc__terms pm__terms an__terms cd__terms ct__terms), sl__terms⟩)
    (c__terms : PySem.W.codeIn K cd__terms "_terms" = true)
    (k__terms : PySem.W.keepIn K (.ref f__terms) = true)
    (a_class_terms : PySem.W.nsIn K mainGlobals "class_terms" = some (some (.ref f_class_terms)))
    (l_class_terms : K.lookup f_class_terms = some ⟨oc_class_terms, od_class_terms, .func (PySem.W.fnOf "class_terms" "class_terms" (defArgs s_class_terms) (defBody s_class_terms) (defScope s_class_terms) .none kV_class_terms dc_class_terms pm_class_terms an_class_terms cd_class_terms ct_class_terms), sl_class_terms⟩)
    (c_class_terms : PySem.W.codeIn K cd_class_terms "class_terms" = true)
    (k_class_terms : PySem.W.keepIn K (.ref f_class_terms) = true)
    (a_lesser_sum : PySem.W.nsIn K mainGlobals "lesser_sum" = some (some (.ref f_lesser_sum)))
    (l_lesser_sum : K.lookup f_lesser_sum = some ⟨oc_lesser_sum, od_lesser_sum, .func (PySem.W.fnOf "lesser_sum" "lesser_sum" (defArgs s_lesser_sum) (defBody s_lesser_sum) (defScope s_lesser_sum) .none kV_lesser_sum dc_lesser_sum pm_lesser_sum an_lesser_sum cd_lesser_sum ct_lesser_sum), sl_lesser_sum⟩)
    (c_lesser_sum : PySem.W.codeIn K cd_lesser_sum "lesser_sum" = true)
    (k_lesser_sum : PySem.W.keepIn K (.ref f_lesser_sum) = true)
    (a__side : PySem.W.nsIn K mainGlobals "_side" = some (some (.ref f__side)))
    (l__side : K.lookup f__side = some ⟨oc__side, od__side, .func (PySem.W.fnOf "_side" "_side" (defArgs s__side) (defBody s__side) (defScope s__side) .none kV__side dc__side pm__side an__side cd__side ct__side), sl__side⟩)
    (c__side : PySem.W.codeIn K cd__side "_side" = true)
    (k__side : PySem.W.keepIn K (.ref f__side) = true)
    (a_class_side : PySem.W.nsIn K mainGlobals "class_side" = some (some (.ref f_class_side)))
    (l_class_side : K.lookup f_class_side = some ⟨oc_class_side, od_class_side, .func (PySem.W.fnOf "class_side" "class_side" (defArgs s_class_side) (defBody s_class_side) (defScope s_class_side) .none kV_class_side dc_class_side pm_class_side an_class_side cd_class_side ct_class_side), sl_class_side⟩)
    (c_class_side : PySem.W.codeIn K cd_class_side "class_side" = true)
    (k_class_side : PySem.W.keepIn K (.ref f_class_side) = true)
    (a_divisor_sum : PySem.W.nsIn K mainGlobals "divisor_sum" = some (some (.ref f_divisor_sum)))
    (l_divisor_sum : K.lookup f_divisor_sum = some ⟨oc_divisor_sum, od_divisor_sum, .func (PySem.W.fnOf "divisor_sum" "divisor_sum" (defArgs s_divisor_sum) (defBody s_divisor_sum) (defScope s_divisor_sum) .none kV_divisor_sum dc_divisor_sum pm_divisor_sum an_divisor_sum cd_divisor_sum ct_divisor_sum), sl_divisor_sum⟩)
    (c_divisor_sum : PySem.W.codeIn K cd_divisor_sum "divisor_sum" = true)
    (k_divisor_sum : PySem.W.keepIn K (.ref f_divisor_sum) = true)
    (a__trace : PySem.W.nsIn K mainGlobals "_trace" = some (some (.ref f__trace)))
    (l__trace : K.lookup f__trace = some ⟨oc__trace, od__trace, .func (PySem.W.fnOf "_trace" "_trace" (defArgs s__trace) (defBody s__trace) (defScope s__trace) .none kV__trace dc__trace pm__trace an__trace cd__trace ct__trace), sl__trace⟩)
    (c__trace : PySem.W.codeIn K cd__trace "_trace" = true)
    (k__trace : PySem.W.keepIn K (.ref f__trace) = true)
    (a_dimension_by_classes : PySem.W.nsIn K mainGlobals "dimension_by_classes" = some (some (.ref f_dimension_by_classes)))
    (l_dimension_by_classes : K.lookup f_dimension_by_classes = some ⟨oc_dimension_by_classes, od_dimension_by_classes, .func (PySem.W.fnOf "dimension_by_classes" "dimension_by_classes" (defArgs s_dimension_by_classes) (defBody s_dimension_by_classes) (defScope s_dimension_by_classes) .none kV_dimension_by_classes dc_dimension_by_classes pm_dimension_by_classes an_dimension_by_classes cd_dimension_by_classes ct_dimension_by_classes), sl_dimension_by_classes⟩)
    (c_dimension_by_classes : PySem.W.codeIn K cd_dimension_by_classes "dimension_by_classes" = true)
    (k_dimension_by_classes : PySem.W.keepIn K (.ref f_dimension_by_classes) = true)
    (a__law_odd : PySem.W.nsIn K mainGlobals "_law_odd" = some (some (.ref f__law_odd)))
    (l__law_odd : K.lookup f__law_odd = some ⟨oc__law_odd, od__law_odd, .func (PySem.W.fnOf "_law_odd" "_law_odd" (defArgs s__law_odd) (defBody s__law_odd) (defScope s__law_odd) .none kV__law_odd dc__law_odd pm__law_odd an__law_odd cd__law_odd ct__law_odd), sl__law_odd⟩)
    (c__law_odd : PySem.W.codeIn K cd__law_odd "_law_odd" = true)
    (k__law_odd : PySem.W.keepIn K (.ref f__law_odd) = true)
    (a__law_plain : PySem.W.nsIn K mainGlobals "_law_plain" = some (some (.ref f__law_plain)))
    (l__law_plain : K.lookup f__law_plain = some ⟨oc__law_plain, od__law_plain, .func (PySem.W.fnOf "_law_plain" "_law_plain" (defArgs s__law_plain) (defBody s__law_plain) (defScope s__law_plain) .none kV__law_plain dc__law_plain pm__law_plain an__law_plain cd__law_plain ct__law_plain), sl__law_plain⟩)
    (c__law_plain : PySem.W.codeIn K cd__law_plain "_law_plain" = true)
    (k__law_plain : PySem.W.keepIn K (.ref f__law_plain) = true)
    (a__law_no_word : PySem.W.nsIn K mainGlobals "_law_no_word" = some (some (.ref f__law_no_word)))
    (l__law_no_word : K.lookup f__law_no_word = some ⟨oc__law_no_word, od__law_no_word, .func (PySem.W.fnOf "_law_no_word" "_law_no_word" (defArgs s__law_no_word) (defBody s__law_no_word) (defScope s__law_no_word) .none kV__law_no_word dc__law_no_word pm__law_no_word an__law_no_word cd__law_no_word ct__law_no_word), sl__law_no_word⟩)
    (c__law_no_word : PySem.W.codeIn K cd__law_no_word "_law_no_word" = true)
    (k__law_no_word : PySem.W.keepIn K (.ref f__law_no_word) = true)
    (a__law_is_number : PySem.W.nsIn K mainGlobals "_law_is_number" = some (some (.ref f__law_is_number)))
    (l__law_is_number : K.lookup f__law_is_number = some ⟨oc__law_is_number, od__law_is_number, .func (PySem.W.fnOf "_law_is_number" "_law_is_number" (defArgs s__law_is_number) (defBody s__law_is_number) (defScope s__law_is_number) .none kV__law_is_number dc__law_is_number pm__law_is_number an__law_is_number cd__law_is_number ct__law_is_number), sl__law_is_number⟩)
    (c__law_is_number : PySem.W.codeIn K cd__law_is_number "_law_is_number" = true)
    (k__law_is_number : PySem.W.keepIn K (.ref f__law_is_number) = true)
    (a__law_is_equal : PySem.W.nsIn K mainGlobals "_law_is_equal" = some (some (.ref f__law_is_equal)))
    (l__law_is_equal : K.lookup f__law_is_equal = some ⟨oc__law_is_equal, od__law_is_equal, .func (PySem.W.fnOf "_law_is_equal" "_law_is_equal" (defArgs s__law_is_equal) (defBody s__law_is_equal) (defScope s__law_is_equal) .none kV__law_is_equal dc__law_is_equal pm__law_is_equal an__law_is_equal cd__law_is_equal ct__law_is_equal), sl__law_is_equal⟩)
    (c__law_is_equal : PySem.W.codeIn K cd__law_is_equal "_law_is_equal" = true)
    (k__law_is_equal : PySem.W.keepIn K (.ref f__law_is_equal) = true)
    (a__law_told : PySem.W.nsIn K mainGlobals "_law_told" = some (some (.ref f__law_told)))
    (l__law_told : K.lookup f__law_told = some ⟨oc__law_told, od__law_told, .func (PySem.W.fnOf "_law_told" "_law_told" (defArgs s__law_told) (defBody s__law_told) (defScope s__law_told) .none kV__law_told dc__law_told pm__law_told an__law_told cd__law_told ct__law_told), sl__law_told⟩)
    (c__law_told : PySem.W.codeIn K cd__law_told "_law_told" = true)
    (k__law_told : PySem.W.keepIn K (.ref f__law_told) = true)
    (a__law_classes : PySem.W.nsIn K mainGlobals "_law_classes" = some (some (.ref f__law_classes)))
    (l__law_classes : K.lookup f__law_classes = some ⟨oc__law_classes, od__law_classes, .func (PySem.W.fnOf "_law_classes" "_law_classes" (defArgs s__law_classes) (defBody s__law_classes) (defScope s__law_classes) .none kV__law_classes dc__law_classes pm__law_classes an__law_classes cd__law_classes ct__law_classes), sl__law_classes⟩)
    (c__law_classes : PySem.W.codeIn K cd__law_classes "_law_classes" = true)
    (k__law_classes : PySem.W.keepIn K (.ref f__law_classes) = true)
    (a__law_pow : PySem.W.nsIn K mainGlobals "_law_pow" = some (some (.ref f__law_pow)))
    (l__law_pow : K.lookup f__law_pow = some ⟨oc__law_pow, od__law_pow, .func (PySem.W.fnOf "_law_pow" "_law_pow" (defArgs s__law_pow) (defBody s__law_pow) (defScope s__law_pow) .none kV__law_pow dc__law_pow pm__law_pow an__law_pow cd__law_pow ct__law_pow), sl__law_pow⟩)
    (c__law_pow : PySem.W.codeIn K cd__law_pow "_law_pow" = true)
    (k__law_pow : PySem.W.keepIn K (.ref f__law_pow) = true)
    (a__law_weight_number : PySem.W.nsIn K mainGlobals "_law_weight_number" = some (some (.ref f__law_weight_number)))
    (l__law_weight_number : K.lookup f__law_weight_number = some ⟨oc__law_weight_number, od__law_weight_number, .func (PySem.W.fnOf "_law_weight_number" "_law_weight_number" (defArgs s__law_weight_number) (defBody s__law_weight_number) (defScope s__law_weight_number) .none kV__law_weight_number dc__law_weight_number pm__law_weight_number an__law_weight_number cd__law_weight_number ct__law_weight_number), sl__law_weight_number⟩)
    (c__law_weight_number : PySem.W.codeIn K cd__law_weight_number "_law_weight_number" = true)
    (k__law_weight_number : PySem.W.keepIn K (.ref f__law_weight_number) = true)
    (a__law_side : PySem.W.nsIn K mainGlobals "_law_side" = some (some (.ref f__law_side)))
    (l__law_side : K.lookup f__law_side = some ⟨oc__law_side, od__law_side, .func (PySem.W.fnOf "_law_side" "_law_side" (defArgs s__law_side) (defBody s__law_side) (defScope s__law_side) .none kV__law_side dc__law_side pm__law_side an__law_side cd__law_side ct__law_side), sl__law_side⟩)
    (c__law_side : PySem.W.codeIn K cd__law_side "_law_side" = true)
    (k__law_side : PySem.W.keepIn K (.ref f__law_side) = true)
    (a_law : PySem.W.nsIn K mainGlobals "law" = some (some (.ref f_law)))
    (l_law : K.lookup f_law = some ⟨oc_law, od_law, .func (PySem.W.fnOf "law" "law" (defArgs s_law) (defBody s_law) (defScope s_law) .none kV_law dc_law pm_law an_law cd_law ct_law), sl_law⟩)
    (c_law : PySem.W.codeIn K cd_law "law" = true)
    (k_law : PySem.W.keepIn K (.ref f_law) = true)
    (z_abs : PySem.W.nsIn K mainGlobals "abs" = some none)
    (z_int : PySem.W.nsIn K mainGlobals "int" = some none)
    (z_bool : PySem.W.nsIn K mainGlobals "bool" = some none)
    (z_str : PySem.W.nsIn K mainGlobals "str" = some none)
    (z_tuple : PySem.W.nsIn K mainGlobals "tuple" = some none)
    (z_list : PySem.W.nsIn K mainGlobals "list" = some none)
    (z_max : PySem.W.nsIn K mainGlobals "max" = some none)
    (z_min : PySem.W.nsIn K mainGlobals "min" = some none)
    (z_sum : PySem.W.nsIn K mainGlobals "sum" = some none)
    (z_range : PySem.W.nsIn K mainGlobals "range" = some none)
    (z_sorted : PySem.W.nsIn K mainGlobals "sorted" = some none)
    (z_isinstance : PySem.W.nsIn K mainGlobals "isinstance" = some none)
    (z_len : PySem.W.nsIn K mainGlobals "len" = some none)
    (z_reversed : PySem.W.nsIn K mainGlobals "reversed" = some none)
    (z_gcd : PySem.W.nsIn K mainGlobals "gcd" = some (some (.builtin "math.gcd")))
    (z_isqrt : PySem.W.nsIn K mainGlobals "isqrt" = some (some (.builtin "math.isqrt")))
    (v_BATCH : PySem.W.nsIn K mainGlobals "BATCH" = some (some (.int 128 t_BATCH)))
    (v_BOUND : PySem.W.nsIn K mainGlobals "BOUND" = some (some (.int 3317044064679887385961981 t_BOUND)))
    (v_GREATEST_WEIGHT : PySem.W.nsIn K mainGlobals "GREATEST_WEIGHT" = some (some (.int 100 t_GREATEST_WEIGHT)))
    (v_HALVED_BITS : PySem.W.nsIn K mainGlobals "HALVED_BITS" = some (some (.int 32 t_HALVED_BITS)))
    (v_LARGEST_INDEX : PySem.W.nsIn K mainGlobals "LARGEST_INDEX" = some (some (.int 20000 t_LARGEST_INDEX)))
    (v_LARGEST_definite : PySem.W.nsIn K mainGlobals "LARGEST_definite" = some (some (.int 1000000 t_LARGEST_definite)))
    (v_LARGEST_primes : PySem.W.nsIn K mainGlobals "LARGEST_primes" = some (some (.int 100000000000000000000 t_LARGEST_primes)))
    (v_LEAST_WEIGHT : PySem.W.nsIn K mainGlobals "LEAST_WEIGHT" = some (some (.int 2 t_LEAST_WEIGHT)))
    (v_MOST_DIVISORS : PySem.W.nsIn K mainGlobals "MOST_DIVISORS" = some (some (.int 10000 t_MOST_DIVISORS)))
    (v_TRIED_TO : PySem.W.nsIn K mainGlobals "TRIED_TO" = some (some (.int 1000 t_TRIED_TO)))
    (aM : PySem.W.nsIn K mainGlobals "Malformed" = some (some (.ref CM)))
    (xM : PySem.W.excIn K CM veB "ValueError.__new__" = true)
    (kM : PySem.W.keepIn K (.ref CM) = true)
    (bM : PySem.W.subIn K (.ref CM) (.type "BaseException") = some true)
    (tM : PySem.W.typeIn K (.ref CM) = some (.type "type"))
    (iM : PySem.W.isClsIn K CM = true)
    (mM : PySem.W.subIn K (.ref CM) (.ref CM) = some true)
    (aR : PySem.W.nsIn K mainGlobals "Refused" = some (some (.ref CR)))
    (xR : K.lookup CR = some (excClassObj nm_R q_R CR NR bs_R bm_R true sn_R sub_R ab_R col_R dd_R m0_R m1_R m2_R m3_R m5_R "ValueError.__new__"))
    (vR : PySem.HandSPX.refsVE bm_R = true)
    (sR : PySem.W.findIn K (.ref CR) "__setattr__" = some (some (.builtin "object.__setattr__")))
    (gR : PySem.W.findIn K (.ref CR) "__getattribute__" = some (some (.builtin "BaseException.__getattribute__")))
    (hR : PySem.W.findIn K (.ref CR) "__getattr__" = some none)
    (nR : PySem.W.findIn K (.ref CR) "reason" = some none)
    (iR : PySem.W.findIn K (.ref CR) "__init__" = some (some (.ref fI)))
    (tI : PySem.W.typeIn K (.ref fI) = some (.type "function"))
    (lI : K.lookup fI = some ⟨oc_I, od_I, .func (PySem.W.fnOf "__init__" "Refused.__init__" (defArgs s_RI) (defBody s_RI) (defScope s_RI) .none kV_I dc_I pm_I an_I cd_I ct_I), sl_I⟩)
    (cI : PySem.W.codeIn K cd_I "Refused.__init__" = true)
    (kI : PySem.W.keepIn K (.ref fI) = true)
    (kR : PySem.W.keepIn K (.ref CR) = true)
    (bR : PySem.W.subIn K (.ref CR) (.type "BaseException") = some true)
    (tR : PySem.W.typeIn K (.ref CR) = some (.type "type"))
    (dR : PySem.W.hasDictIn K CR = true)
    (cR : PySem.W.isClsIn K CR = true)
    (rm : PySem.W.subIn K (.ref CR) (.ref CM) = some false)
    (rr : PySem.W.subIn K (.ref CR) (.ref CR) = some true) :
    ∃ fd : FuncData, (∀ (s : Shared) (v : Value), BindsTo s fd ⟨[v], []⟩ [("script", v)]) ∧ ∀ base : Heap, K.In base → base.Ns mainGlobals mg → FnOk l.prog w K mg base CX0 11 fa fd ["script"] (spLaw K) := by
  have e := hfa.symm.trans (PySem.W.mg_of X G a_law)
  cases e
  have B : Bl mg := { abs := PySem.W.mg_none_of X G z_abs, int := PySem.W.mg_none_of X G z_int, bool := PySem.W.mg_none_of X G z_bool, str := PySem.W.mg_none_of X G z_str, tuple := PySem.W.mg_none_of X G z_tuple, list := PySem.W.mg_none_of X G z_list, max := PySem.W.mg_none_of X G z_max, min := PySem.W.mg_none_of X G z_min, sum := PySem.W.mg_none_of X G z_sum, range := PySem.W.mg_none_of X G z_range, sorted := PySem.W.mg_none_of X G z_sorted, isinstance := PySem.W.mg_none_of X G z_isinstance, len := PySem.W.mg_none_of X G z_len, reversed := PySem.W.mg_none_of X G z_reversed, gcd := PySem.W.mg_of X G z_gcd, isqrt := PySem.W.mg_of X G z_isqrt, c_BATCH := ⟨_, PySem.W.mg_of X G v_BATCH⟩, c_BOUND := ⟨_, PySem.W.mg_of X G v_BOUND⟩, c_GREATEST_WEIGHT := ⟨_, PySem.W.mg_of X G v_GREATEST_WEIGHT⟩, c_HALVED_BITS := ⟨_, PySem.W.mg_of X G v_HALVED_BITS⟩, c_LARGEST_INDEX := ⟨_, PySem.W.mg_of X G v_LARGEST_INDEX⟩, c_LARGEST_definite := ⟨_, PySem.W.mg_of X G v_LARGEST_definite⟩, c_LARGEST_primes := ⟨_, PySem.W.mg_of X G v_LARGEST_primes⟩, c_LEAST_WEIGHT := ⟨_, PySem.W.mg_of X G v_LEAST_WEIGHT⟩, c_MOST_DIVISORS := ⟨_, PySem.W.mg_of X G v_MOST_DIVISORS⟩, c_TRIED_TO := ⟨_, PySem.W.mg_of X G v_TRIED_TO⟩ }
  have d__law_take : Dn K mg "_law_take" s__law_take ["state", "m"] := dn_mk X G a__law_take l__law_take c__law_take k__law_take fun _ _ _ _ _ _ us hl => match us, hl with | [_, _], _ => rfl
  have d__law_state : Dn K mg "_law_state" s__law_state ["script"] := dn_mk X G a__law_state l__law_state c__law_state k__law_state fun _ _ _ _ _ _ us hl => match us, hl with | [_], _ => rfl
  have d_is_integer : Dn K mg "is_integer" s_is_integer ["value"] := dn_mk X G a_is_integer l_is_integer c_is_integer k_is_integer fun _ _ _ _ _ _ us hl => match us, hl with | [_], _ => rfl
  have d_root : Dn K mg "root" s_root ["n", "k"] := dn_mk X G a_root l_root c_root k_root fun _ _ _ _ _ _ us hl => match us, hl with | [_, _], _ => rfl
  have d__counted_forms : Dn K mg "_counted_forms" s__counted_forms ["D"] := dn_mk X G a__counted_forms l__counted_forms c__counted_forms k__counted_forms fun _ _ _ _ _ _ us hl => match us, hl with | [_], _ => rfl
  have d__weight : Dn K mg "_weight" s__weight ["f"] := dn_mk X G a__weight l__weight c__weight k__weight fun _ _ _ _ _ _ us hl => match us, hl with | [_], _ => rfl
  have d_hurwitz : Dn K mg "hurwitz" s_hurwitz ["n"] := dn_mk X G a_hurwitz l_hurwitz c_hurwitz k_hurwitz fun _ _ _ _ _ _ us hl => match us, hl with | [_], _ => rfl
  have d_raised : Dn K mg "raised" s_raised ["b", "e"] := dn_mk X G a_raised l_raised c_raised k_raised fun _ _ _ _ _ _ us hl => match us, hl with | [_, _], _ => rfl
  have d_least_divisor : Dn K mg "least_divisor" s_least_divisor ["n", "most"] := dn_mk X G a_least_divisor l_least_divisor c_least_divisor k_least_divisor fun _ _ _ _ _ _ us hl => match us, hl with | [_, _], _ => rfl
  have d_is_prime : Dn K mg "is_prime" s_is_prime ["n"] := dn_mk X G a_is_prime l_is_prime c_is_prime k_is_prime fun _ _ _ _ _ _ us hl => match us, hl with | [_], _ => rfl
  have d__prime_list : Dn K mg "_prime_list" s__prime_list ["n"] := dn_mk X G a__prime_list l__prime_list c__prime_list k__prime_list fun _ _ _ _ _ _ us hl => match us, hl with | [_], _ => rfl
  have d_factors : Dn K mg "factors" s_factors ["n"] := dn_mk X G a_factors l_factors c_factors k_factors fun _ _ _ _ _ _ us hl => match us, hl with | [_], _ => rfl
  have d_divisors_of : Dn K mg "divisors_of" s_divisors_of ["n"] := dn_mk X G a_divisors_of l_divisors_of c_divisors_of k_divisors_of fun _ _ _ _ _ _ us hl => match us, hl with | [_], _ => rfl
  have d__check_weight : Dn K mg "_check_weight" s__check_weight ["k"] := dn_mk X G a__check_weight l__check_weight c__check_weight k__check_weight fun _ _ _ _ _ _ us hl => match us, hl with | [_], _ => rfl
  have d__check_index : Dn K mg "_check_index" s__check_index ["n"] := dn_mk X G a__check_index l__check_index c__check_index k__check_index fun _ _ _ _ _ _ us hl => match us, hl with | [_], _ => rfl
  have d_told_number : Dn K mg "told_number" s_told_number ["k", "t", "n"] := dn_mk X G a_told_number l_told_number c_told_number k_told_number fun _ _ _ _ _ _ us hl => match us, hl with | [_, _, _], _ => rfl
  have d_weight_number : Dn K mg "weight_number" s_weight_number ["k", "t", "n"] := dn_mk X G a_weight_number l_weight_number c_weight_number k_weight_number fun _ _ _ _ _ _ us hl => match us, hl with | [_, _, _], _ => rfl
  have d__terms : Dn K mg "_terms" s__terms ["k", "n"] := dn_mk X G a__terms l__terms c__terms k__terms fun _ _ _ _ _ _ us hl => match us, hl with | [_, _], _ => rfl
  have d_class_terms : Dn K mg "class_terms" s_class_terms ["k", "n"] := dn_mk X G a_class_terms l_class_terms c_class_terms k_class_terms fun _ _ _ _ _ _ us hl => match us, hl with | [_, _], _ => rfl
  have d_lesser_sum : Dn K mg "lesser_sum" s_lesser_sum ["k", "n"] := dn_mk X G a_lesser_sum l_lesser_sum c_lesser_sum k_lesser_sum fun _ _ _ _ _ _ us hl => match us, hl with | [_, _], _ => rfl
  have d__side : Dn K mg "_side" s__side ["k", "n"] := dn_mk X G a__side l__side c__side k__side fun _ _ _ _ _ _ us hl => match us, hl with | [_, _], _ => rfl
  have d_class_side : Dn K mg "class_side" s_class_side ["k", "n"] := dn_mk X G a_class_side l_class_side c_class_side k_class_side fun _ _ _ _ _ _ us hl => match us, hl with | [_, _], _ => rfl
  have d_divisor_sum : Dn K mg "divisor_sum" s_divisor_sum ["n", "k"] := dn_mk X G a_divisor_sum l_divisor_sum c_divisor_sum k_divisor_sum fun _ _ _ _ _ _ us hl => match us, hl with | [_, _], _ => rfl
  have d__trace : Dn K mg "_trace" s__trace ["k", "n"] := dn_mk X G a__trace l__trace c__trace k__trace fun _ _ _ _ _ _ us hl => match us, hl with | [_, _], _ => rfl
  have d_dimension_by_classes : Dn K mg "dimension_by_classes" s_dimension_by_classes ["k"] := dn_mk X G a_dimension_by_classes l_dimension_by_classes c_dimension_by_classes k_dimension_by_classes fun _ _ _ _ _ _ us hl => match us, hl with | [_], _ => rfl
  have d__law_odd : Dn K mg "_law_odd" s__law_odd ["value"] := dn_mk X G a__law_odd l__law_odd c__law_odd k__law_odd fun _ _ _ _ _ _ us hl => match us, hl with | [_], _ => rfl
  have d__law_plain : Dn K mg "_law_plain" s__law_plain ["value"] := dn_mk X G a__law_plain l__law_plain c__law_plain k__law_plain fun _ _ _ _ _ _ us hl => match us, hl with | [_], _ => rfl
  have d__law_no_word : Dn K mg "_law_no_word" s__law_no_word ["value"] := dn_mk X G a__law_no_word l__law_no_word c__law_no_word k__law_no_word fun _ _ _ _ _ _ us hl => match us, hl with | [_], _ => rfl
  have d__law_is_number : Dn K mg "_law_is_number" s__law_is_number ["value"] := dn_mk X G a__law_is_number l__law_is_number c__law_is_number k__law_is_number fun _ _ _ _ _ _ us hl => match us, hl with | [_], _ => rfl
  have d__law_is_equal : Dn K mg "_law_is_equal" s__law_is_equal ["value", "due"] := dn_mk X G a__law_is_equal l__law_is_equal c__law_is_equal k__law_is_equal fun _ _ _ _ _ _ us hl => match us, hl with | [_, _], _ => rfl
  have d__law_told : Dn K mg "_law_told" s__law_told ["which", "k", "n", "t"] := dn_mk X G a__law_told l__law_told c__law_told k__law_told fun _ _ _ _ _ _ us hl => match us, hl with | [_, _, _, _], _ => rfl
  have d__law_classes : Dn K mg "_law_classes" s__law_classes ["most"] := dn_mk X G a__law_classes l__law_classes c__law_classes k__law_classes fun _ _ _ _ _ _ us hl => match us, hl with | [_], _ => rfl
  have d__law_pow : Dn K mg "_law_pow" s__law_pow ["x", "n"] := dn_mk X G a__law_pow l__law_pow c__law_pow k__law_pow fun _ _ _ _ _ _ us hl => match us, hl with | [_, _], _ => rfl
  have d__law_weight_number : Dn K mg "_law_weight_number" s__law_weight_number ["k", "t", "n"] := dn_mk X G a__law_weight_number l__law_weight_number c__law_weight_number k__law_weight_number fun _ _ _ _ _ _ us hl => match us, hl with | [_, _, _], _ => rfl
  have d__law_side : Dn K mg "_law_side" s__law_side ["k", "n", "table"] := dn_mk X G a__law_side l__law_side c__law_side k__law_side fun _ _ _ _ _ _ us hl => match us, hl with | [_, _, _], _ => rfl
  have d_law : Dn K mg "law" s_law ["script"] := dn_mk X G a_law l_law c_law k_law fun _ _ _ _ _ _ us hl => match us, hl with | [_], _ => rfl
  have hM : PySem.W.exmOne K (.ref CM) (.ref CM) = some true := exm_b bM iM tM mM
  have mr : PySem.W.exmOne K (.ref CR) (.ref CM) = some false := exm_b bM iM tM rm
  have hR2 : PySem.W.exmOne K (.ref CR) (.ref CR) = some true := exm_b bR cR tR rr
  refine ⟨PySem.W.fnOf "law" "law" (defArgs s_law) (defBody s_law) (defScope s_law) .none kV_law dc_law pm_law an_law cd_law ct_law, fun s v => .of_eq rfl, fun base _ _ => ?_⟩
  have FI := fun_mk (st := s_RI) lI cI kI
  have bI := FI.binds (ps := ["self", "reason"]) fun _ _ _ _ _ _ us hl => match us, hl with | [_, _], _ => rfl
  have e_E : ErrI l.prog w K mg base CM CR := ⟨⟨PySem.W.mg_of X G aM, xM, kM, bM, tM, hM⟩, fI, _, ⟨PySem.W.mg_of X G aR, ⟨⟨nm_R, q_R, NR, bs_R, bm_R, sn_R, sub_R, ab_R, col_R, dd_R, m0_R, m1_R, m2_R, m3_R, m5_R, xR, vR⟩, sR, bR, tR, kR⟩, iR, tI, nR, ⟨gR, hR, bR, dR⟩, mr, hR2⟩,
    ri_fn FI, bI⟩
  have e_O : ErrO K mg CM := ⟨e_E.m⟩
  have r_take := cal_take (P := l.prog) (w := w) (base := base) d__law_take B
  have r_state := cal_state (P := l.prog) (w := w) (base := base) d__law_state B
  have r_is_integer := cal_is_integer (P := l.prog) (w := w) (base := base) d_is_integer B
  have r_root := cal_root (P := l.prog) (w := w) (base := base) d_root B
  have r_counted := cal_counted (P := l.prog) (w := w) (base := base) d__counted_forms B r_root
  have r_weight := cal_weight (P := l.prog) (w := w) (base := base) d__weight B
  have r_hurwitz := cal_hurwitz (P := l.prog) (w := w) (base := base) d_hurwitz B r_is_integer r_counted r_weight e_E
  have r_raised := cal_raised (P := l.prog) (w := w) (base := base) d_raised B
  have r_least := cal_least (P := l.prog) (w := w) (base := base) d_least_divisor B
  have r_prime := cal_prime (P := l.prog) (w := w) (base := base) d_is_prime B r_least
  have r_plist := cal_plist (P := l.prog) (w := w) (base := base) d__prime_list B r_least r_prime
  have r_fac := cal_fac (P := l.prog) (w := w) (base := base) d_factors B r_plist
  have r_dvs := cal_dvs (P := l.prog) (w := w) (base := base) d_divisors_of B r_fac r_raised
  have r_chkw := cal_chkw (P := l.prog) (w := w) (base := base) d__check_weight B r_is_integer e_O
  have r_chkn := cal_chkn (P := l.prog) (w := w) (base := base) d__check_index B r_is_integer e_O
  have r_tn := cal_tn (P := l.prog) (w := w) (base := base) d_told_number B
  have r_wn := cal_wn (P := l.prog) (w := w) (base := base) d_weight_number B r_chkw r_chkn r_is_integer r_tn e_O
  have r_terms := cal_terms (P := l.prog) (w := w) (base := base) d__terms B r_root r_hurwitz r_tn
  have r_ct := cal_ct (P := l.prog) (w := w) (base := base) d_class_terms B r_chkw r_chkn r_terms
  have r_ls := cal_ls (P := l.prog) (w := w) (base := base) d_lesser_sum B r_dvs r_raised
  have r_side := cal_side (P := l.prog) (w := w) (base := base) d__side B r_terms r_ls
  have r_csd := cal_csd (P := l.prog) (w := w) (base := base) d_class_side B r_chkw r_chkn r_side
  have r_ds1 := cal_ds1 (P := l.prog) (w := w) (base := base) d_divisor_sum B r_fac r_raised
  have r_tr1 := cal_tr1 (P := l.prog) (w := w) (base := base) d__trace B r_ds1 r_side
  have r_dim := cal_dim (P := l.prog) (w := w) (base := base) d_dimension_by_classes B r_chkw r_tr1
  have r_oddN := cal_oddN (P := l.prog) (w := w) (base := base) d__law_odd
  have r_odd0 := cal_odd0 (P := l.prog) (w := w) (base := base) d__law_odd B r_oddN
  have r_odd1 := cal_odd1 (P := l.prog) (w := w) (base := base) d__law_odd B r_odd0
  have r_oddC := cal_oddC (P := l.prog) (w := w) (base := base) d__law_odd B r_odd1
  have r_plC := cal_plC (P := l.prog) (w := w) (base := base) d__law_plain B r_oddC
  have r_no_word := cal_no_word (P := l.prog) (w := w) (base := base) d__law_no_word B
  have r_num := cal_num (P := l.prog) (w := w) (base := base) d__law_is_number B
  have r_eqN := cal_eqN (P := l.prog) (w := w) (base := base) d__law_is_equal
  have r_eq0 := cal_eq0 (P := l.prog) (w := w) (base := base) d__law_is_equal B r_eqN r_num
  have r_eq1 := cal_eq1 (P := l.prog) (w := w) (base := base) d__law_is_equal B r_eq0 r_num
  have r_eqT := cal_eqT (P := l.prog) (w := w) (base := base) d__law_is_equal B r_eq1 r_num
  have r_told := cal_told (P := l.prog) (w := w) (base := base) d__law_told B r_csd r_ct r_wn r_dim r_plC r_no_word e_O
  have r_lc := cal_lc (P := l.prog) (w := w) (base := base) d__law_classes B
  have r_pow := cal_pow (P := l.prog) (w := w) (base := base) d__law_pow B
  have r_lwn := cal_lwn (P := l.prog) (w := w) (base := base) d__law_weight_number B
  have r_lsd := cal_lsd (P := l.prog) (w := w) (base := base) d__law_side B r_lwn r_pow
  exact ok_law (P := l.prog) (w := w) (base := base) (fun_mk (st := s_law) l_law c_law k_law) B r_state r_take r_told r_lc r_lwn r_lsd r_eqT r_num
theorem walk {l : PySem.W.OpenLaw} {q : Program} {loose : List Str} {XP : (Str → Option Value) → Heap → Prop} {YP : World → Heap → Prop} {d : DefRec} {K : Params → PySem.W.Frag} (hn : l.most = some 63) (hdf : d.params.defaults = []) (hY : ∀ (w : World) (h : Heap), YP w h → (K w.params).In h)
    (F : ∀ (w : World) (mg : Str → Option Value) (fa : Addr) (h : Heap), (K w.params).In h → h.Ns mainGlobals mg → mg d.name = some (.ref fa) → ∃ fd : FuncData, (∀ (s : Shared) (u : Value), BindsTo s fd ⟨[u], []⟩ [("script", u)]) ∧ ∀ base : Heap, (K w.params).In base → base.Ns mainGlobals mg → FnOk l.prog w (K w.params) mg base CX0 11 fa fd ["script"] (spLaw (K w.params))) :
    PySem.W.WalkO q loose XP YP l.row.toRowW d [] (fun f vs => PySem.call f vs) :=
  L2.walk_of (n := 63) (k := 11) (x := "script") (CX := fun _ => CX0) (sp := fun w => spLaw (K w.params)) hn (by decide) hdf ⟨rfl, by decide, by decide⟩ hY F (fun _ _ a ns hl _ hS => ⟨a, ns, rfl, hS, hl, fun _ => rfl⟩) fun _ _ _ _ _ z => z

end L68
open PySem PySem.W PyProof.Rows
set_option maxRecDepth 100000 in
set_option maxHeartbeats 0 in
theorem PySem.Challenge.cw_classledger_k68_whole_class_sides_holds : PySem.Challenge.rw_classledger_k68_whole_class_sides.Holds := by
  w_on; o_law; k_head; (case hw => w_witness2)
  k_fill
  refine L68.walk (l := PySem.Challenge.rw_classledger_k68_whole_class_sides) rfl rfl (fun w h Y => PySem.W.kIn_of Y) ?F
  case F =>
    intro w mg fa h KX G hmg
    refine' L68.all_mk KX G hmg ?a__law_take ?l__law_take ?c__law_take ?k__law_take ?a__law_state ?l__law_state ?c__law_state ?k__law_state ?a_is_integer ?l_is_integer ?c_is_integer ?k_is_integer ?a_root ?l_root ?c_root ?k_root ?a__counted_forms ?l__counted_forms ?c__counted_forms ?k__counted_forms ?a__weight ?l__weight ?c__weight ?k__weight ?a_hurwitz ?l_hurwitz ?c_hurwitz ?k_hurwitz ?a_raised ?l_raised ?c_raised ?k_raised ?a_least_divisor ?l_least_divisor ?c_least_divisor ?k_least_divisor ?a_is_prime ?l_is_prime ?c_is_prime ?k_is_prime ?a__prime_list ?l__prime_list ?c__prime_list ?k__prime_list ?a_factors ?l_factors ?c_factors ?k_factors ?a_divisors_of ?l_divisors_of ?c_divisors_of ?k_divisors_of ?a__check_weight ?l__check_weight ?c__check_weight ?k__check_weight ?a__check_index ?l__check_index ?c__check_index ?k__check_index ?a_told_number ?l_told_number ?c_told_number ?k_told_number ?a_weight_number ?l_weight_number ?c_weight_number ?k_weight_number ?a__terms ?l__terms ?c__terms ?k__terms ?a_class_terms ?l_class_terms ?c_class_terms ?k_class_terms ?a_lesser_sum ?l_lesser_sum ?c_lesser_sum ?k_lesser_sum ?a__side ?l__side ?c__side ?k__side ?a_class_side ?l_class_side ?c_class_side ?k_class_side ?a_divisor_sum ?l_divisor_sum ?c_divisor_sum ?k_divisor_sum ?a__trace ?l__trace ?c__trace ?k__trace ?a_dimension_by_classes ?l_dimension_by_classes ?c_dimension_by_classes ?k_dimension_by_classes ?a__law_odd ?l__law_odd ?c__law_odd ?k__law_odd ?a__law_plain ?l__law_plain ?c__law_plain ?k__law_plain ?a__law_no_word ?l__law_no_word ?c__law_no_word ?k__law_no_word ?a__law_is_number ?l__law_is_number ?c__law_is_number ?k__law_is_number ?a__law_is_equal ?l__law_is_equal ?c__law_is_equal ?k__law_is_equal ?a__law_told ?l__law_told ?c__law_told ?k__law_told ?a__law_classes ?l__law_classes ?c__law_classes ?k__law_classes ?a__law_pow ?l__law_pow ?c__law_pow ?k__law_pow ?a__law_weight_number ?l__law_weight_number ?c__law_weight_number ?k__law_weight_number ?a__law_side ?l__law_side ?c__law_side ?k__law_side ?a_law ?l_law ?c_law ?k_law ?z_abs ?z_int ?z_bool ?z_str ?z_tuple ?z_list ?z_max ?z_min ?z_sum ?z_range ?z_sorted ?z_isinstance ?z_len ?z_reversed ?z_gcd ?z_isqrt ?v_BATCH ?v_BOUND ?v_GREATEST_WEIGHT ?v_HALVED_BITS ?v_LARGEST_INDEX ?v_LARGEST_definite ?v_LARGEST_primes ?v_LEAST_WEIGHT ?v_MOST_DIVISORS ?v_TRIED_TO ?aM ?xM ?kM ?bM ?tM ?iM ?mM ?aR ?xR ?vR ?sR ?gR ?hR ?nR ?iR ?tI ?lI ?cI ?kI ?kR ?bR ?tR ?dR ?cR ?rm ?rr
    (case a__law_take => k_is); (case l__law_take => k_is); (case c__law_take => k_is); (case k__law_take => k_is)
    (case a__law_state => k_is); (case l__law_state => k_is); (case c__law_state => k_is); (case k__law_state => k_is)
    (case a_is_integer => k_is); (case l_is_integer => k_is); (case c_is_integer => k_is); (case k_is_integer => k_is)
    (case a_root => k_is); (case l_root => k_is); (case c_root => k_is); (case k_root => k_is)
    (case a__counted_forms => k_is); (case l__counted_forms => k_is); (case c__counted_forms => k_is); (case k__counted_forms => k_is)
    (case a__weight => k_is); (case l__weight => k_is); (case c__weight => k_is); (case k__weight => k_is)
    (case a_hurwitz => k_is); (case l_hurwitz => k_is); (case c_hurwitz => k_is); (case k_hurwitz => k_is)
    (case a_raised => k_is); (case l_raised => k_is); (case c_raised => k_is); (case k_raised => k_is)
    (case a_least_divisor => k_is); (case l_least_divisor => k_is); (case c_least_divisor => k_is); (case k_least_divisor => k_is)
    (case a_is_prime => k_is); (case l_is_prime => k_is); (case c_is_prime => k_is); (case k_is_prime => k_is)
    (case a__prime_list => k_is); (case l__prime_list => k_is); (case c__prime_list => k_is); (case k__prime_list => k_is)
    (case a_factors => k_is); (case l_factors => k_is); (case c_factors => k_is); (case k_factors => k_is)
    (case a_divisors_of => k_is); (case l_divisors_of => k_is); (case c_divisors_of => k_is); (case k_divisors_of => k_is)
    (case a__check_weight => k_is); (case l__check_weight => k_is); (case c__check_weight => k_is); (case k__check_weight => k_is)
    (case a__check_index => k_is); (case l__check_index => k_is); (case c__check_index => k_is); (case k__check_index => k_is)
    (case a_told_number => k_is); (case l_told_number => k_is); (case c_told_number => k_is); (case k_told_number => k_is)
    (case a_weight_number => k_is); (case l_weight_number => k_is); (case c_weight_number => k_is); (case k_weight_number => k_is)
    (case a__terms => k_is); (case l__terms => k_is); (case c__terms => k_is); (case k__terms => k_is)
    (case a_class_terms => k_is); (case l_class_terms => k_is); (case c_class_terms => k_is); (case k_class_terms => k_is)
    (case a_lesser_sum => k_is); (case l_lesser_sum => k_is); (case c_lesser_sum => k_is); (case k_lesser_sum => k_is)
    (case a__side => k_is); (case l__side => k_is); (case c__side => k_is); (case k__side => k_is)
    (case a_class_side => k_is); (case l_class_side => k_is); (case c_class_side => k_is); (case k_class_side => k_is)
    (case a_divisor_sum => k_is); (case l_divisor_sum => k_is); (case c_divisor_sum => k_is); (case k_divisor_sum => k_is)
    (case a__trace => k_is); (case l__trace => k_is); (case c__trace => k_is); (case k__trace => k_is)
    (case a_dimension_by_classes => k_is); (case l_dimension_by_classes => k_is); (case c_dimension_by_classes => k_is); (case k_dimension_by_classes => k_is)
    (case a__law_odd => k_is); (case l__law_odd => k_is); (case c__law_odd => k_is); (case k__law_odd => k_is)
    (case a__law_plain => k_is); (case l__law_plain => k_is); (case c__law_plain => k_is); (case k__law_plain => k_is)
    (case a__law_no_word => k_is); (case l__law_no_word => k_is); (case c__law_no_word => k_is); (case k__law_no_word => k_is)
    (case a__law_is_number => k_is); (case l__law_is_number => k_is); (case c__law_is_number => k_is); (case k__law_is_number => k_is)
    (case a__law_is_equal => k_is); (case l__law_is_equal => k_is); (case c__law_is_equal => k_is); (case k__law_is_equal => k_is)
    (case a__law_told => k_is); (case l__law_told => k_is); (case c__law_told => k_is); (case k__law_told => k_is)
    (case a__law_classes => k_is); (case l__law_classes => k_is); (case c__law_classes => k_is); (case k__law_classes => k_is)
    (case a__law_pow => k_is); (case l__law_pow => k_is); (case c__law_pow => k_is); (case k__law_pow => k_is)
    (case a__law_weight_number => k_is); (case l__law_weight_number => k_is); (case c__law_weight_number => k_is); (case k__law_weight_number => k_is)
    (case a__law_side => k_is); (case l__law_side => k_is); (case c__law_side => k_is); (case k__law_side => k_is)
    (case a_law => k_is); (case l_law => k_is); (case c_law => k_is); (case k_law => k_is)
    (case z_abs => k_is); (case z_int => k_is); (case z_bool => k_is); (case z_str => k_is)
    (case z_tuple => k_is); (case z_list => k_is); (case z_max => k_is); (case z_min => k_is)
    (case z_sum => k_is); (case z_range => k_is); (case z_sorted => k_is); (case z_isinstance => k_is)
    (case z_len => k_is); (case z_reversed => k_is); (case z_gcd => k_is); (case z_isqrt => k_is)
    (case v_BATCH => k_is); (case v_BOUND => k_is); (case v_GREATEST_WEIGHT => k_is); (case v_HALVED_BITS => k_is)
    (case v_LARGEST_INDEX => k_is); (case v_LARGEST_definite => k_is); (case v_LARGEST_primes => k_is); (case v_LEAST_WEIGHT => k_is)
    (case v_MOST_DIVISORS => k_is); (case v_TRIED_TO => k_is); (case aM => k_is); (case xM => k_exc)
    (case kM => k_is); (case bM => k_is); (case tM => k_is); (case iM => k_is)
    (case mM => k_is); (case aR => k_is); (case xR => k_is); (case vR => first | rfl | decide +kernel)
    (case sR => k_is); (case gR => k_is); (case hR => k_is); (case nR => k_is)
    (case iR => k_is); (case tI => k_is); (case lI => k_is); (case cI => k_is)
    (case kI => k_is); (case kR => k_is); (case bR => k_is); (case tR => k_is)
    (case dR => k_is); (case cR => k_is); (case rm => k_is); (case rr => k_is)
